import PyProof.Rows.All
import Wide.All
import OpenK.AllK
import Wide.FinOn
import Lean
import PyProof.EqAt
import PyProof.EqKinds
import PyProof.TupleCall
import KE.KNestM
import KE.KRevIter
import PyProof.ListNew
import PyProof.Draws
import PyProof.EnumMake
import PyProof.Rows.EnumRows
import PyProof.ZipIter
import PyProof.ConsumeWalk
import KE.LcSums
import PyProof.AttrMissHeap
import KE.KDictOf
import PyProof.DictWalks
import PyProof.ListMulRoad
import PyProof.FactsAll.tuple
import PyProof.NeKinds
import KE.RegKTryMore
import KE.RegKIsAll
import PyProof.StrWalks
import PyProof.Rows.SetFrom
import PyProof.FString5
import Wide.Txt
import PyProof.Rows.SeqMore
import PyProof.StrOps2
import KE.KEqDict
import PyProof.CollectIter
import PyProof.JoinWalk
import PyProof.CallStr
import PyProof.DictRoadsH
import PyProof.MeetsDictList
import PyProof.DictTruth
import PyProof.StrLawsChain
import PyProof.StrCalls6
import PyProof.ToksMono
import PyProof.StrCalls2
import KE.KWords
import PyProof.MeetsStr2
import KE.KLam
import KE.KDictLaws
import PyProof.DictItems
import PyProof.DictValues
import PyProof.DictItemsLoops
import KE.BitLaws
import KE.KMinKey
import PyProof.ListRange
import PySem.Challenge.RW_boughbook_k49_whole_whence_by_notes
set_option maxHeartbeats 0
set_option Elab.async false
set_option linter.all false
set_option maxRecDepth 100000
set_option genInjectivity false
set_option genSizeOf false
open List renaming length_map->V2,getElem?_eq_getElem->V4,mem_of_getElem?->V5,getElem?_map->V7,mem_singleton->We,mem_iff_getElem?->Wg,mem_cons_self->Wj,length_append->Wk,mem_append->Wm,size_toArray->Wn,mem_cons_of_mem->Wo,length_cons->Wq,mem_cons->Wr,mem_append_left->Wt,getD_eq_getElem?_getD->Wu,mem_map->Wv,map_append->WB,map_cons->WH,mem_append_right->WK,length_singleton->WM,map_map->WR,getElem?_append_left->WS,getElem?_append_right->W4,replicate->W7,length_take->W9,nodup_cons->Xf,length_drop->Xm,getElem_mem->Xn,getElem?_eq_none->Xo,take_of_length_le->Xv,reverse_cons->Xx,getElem?_set_self->XC,getElem?_set_ne->XD,length->XG,nodup_append->XI,getElem?_eq_some_iff->XN,range->XS,take_length->XU,lookup_cons->XW,getElem?_zip_eq_some->X0,replicate_succ->X3,take_add_one->X4,mem_filter->X7,take_zero->Yj,map_nil->Ym,length_eq_zero_iff->Yo,ext_getElem?->Yp,length_set->Yq,dropLast_concat_getLast->Yr,reverse_append->Yw,nodup_nil->YE,reverse_reverse->YM,append_assoc->YN,length_reverse->YS,filterMap_cons->YT,mem_flatMap->YX,reverse_singleton->Y5,mem_zipIdx_iff_getElem?->Y9,length_nil->Za,singleton_append->Zf,flatten_cons->Zi,range'->Zo,pairwise_append->Zp,all_eq_true->Zs,of_mem_zip->ZC,length_zip->ZD,forIn_cons->ZE,find?_cons->ZF,append_nil->ZG,zip_cons_cons->ZI,lookup->ZK,getElem?_cons_succ->ZL,mem_range->ZP,map->ZQ,drop_zero->ZR,filter_cons->ZW,any_eq_true->ZX
open PySem renaming wpAny_bind->V3,Addr->V6,Value->V8,wpAny_pure->Wa,Shared->Wd,wpAny->Ww,sizeLine->WD,Str->WE,Program->WJ,Paired->WL,model->WN,boot_len->WW,World->W0,Around->W5,starEach->W6,Expr->Xb,wpAny_newObj_type->Xc,wpAny_field->Xe,wpAny_callSpecial?_slot->Xi,wpAny_call_entry->Xl,Heap->Xp,wpAny_holding->Xq,wpAny_Call_Name_kw->Xz,wpAny_seqItems->XM,mainGlobals->XO,wpAny_mono->XX,sysModules->XY,wpAny_updateSeq->X1,mem_of_lookup->X2,Obj->X6,eval->Yd,compareOp->Yk,wpAny_setField_rec->Yn,rawInt->Yv,wpAny_truthy_bool->Yy,wpAny_dictEntries->Yz,NameKind->YD,FuncData->YO,IsPair->YQ,wpAny_letGo->YU,binaryOp->YV,plainId_quiet->Y0,backTo->Y1,Scope->Y2,Builtin->Y6,wpAny_typeNameOfWhole_itemiter->Y7,pyNext->Y8,Pos->Zb,wpAny_typeNameOfWhole_keyiter->Zh,wpAny_pyIter_tuple->Zk,wpAny_passesOwn->Zm,codeAny_builtin->Zn,codeAny->Zt,sizeLine_eq->Zw,cLine->Zx,wpAny_typeNameOf_itemiter->ZJ,wpAny_typeNameOf_keyiter->ZM,attributeBase->ZN,wpAny_dictEpoch->ZU,tupleKind_room_in1->ZV,wpAny_typeOf->Z0,wpAny_tryCatch->Z1,wpAny_pyIter_slot->Z2,getItem->Z3,firstArgMember->Z4,Stmt->Z5
open PySem.Heap renaming get?_push_of_some->V9,get?_push_size->Wh,lt_size->WC,get?_update_self->Xr,size_push->Xw,SameBut->XA,get?_update_other->XE
open PySem.Str renaming ofString->Wb
open Nat renaming le_refl->Wc,ne_of_lt->WT,zero_le->WY,lt_of_lt_of_le->W8,le_trans->Xa,lt_irrefl->Xy,pow_le_pow_right->Yb,le_of_lt->Yi,mul_le_mul_right->YL,sub_self->Y3,ne_of_gt->Y4,lt_trans->Zr,not_lt_zero->ZA
open PySem.W renaming Frag->Wf,findIn->X5,emptyDict->Yg,kla_obj->YH,instObj->YI,boot_heap->YK,keepIn->YW
open Option.some renaming inj->Wi
open Int renaming toNat_natCast->Wl,emod_lt_of_pos->WZ,emod_nonneg->W2,eq_ofNat_of_zero_le->YY
open PySem.Paired renaming length->Wx
open Bool renaming false_ne_true->Wz,and_eq_true->Yl,false_eq_true->YF
open Option renaming map_eq_some_iff->WA
open PySem.F renaming plainAttrs_list->WG,type_list_append->WU,slot_list_append->WV,slot_dict_itemiterator_next->XQ,plain_extend_loop->X8,plain_min_loop->Yh,slot_dict_keyiterator_next->YB,type_list_pop->Zc,slot_list_pop->Zd,slot_dict_itemiterator_iter->Zj,slot_tuple_iterator_next->Zy,slot_dict_setdefault->Z9
open Array renaming length_toList->WO,getElem?_eq_getElem->YG,getElem?_toList->Zg,getElem?_eq_some_iff->Zq,getElem?_eq_none->ZT
open Sum renaming inl->WQ
open PySem.PassesOwn renaming never->WX,leaving->Z6
open PySem.Value renaming ref->W3,none->XH,type->Zl
open PySem.Builtin.SmallTypes renaming nextOf->Xd,ownedTupleIsFree->Xj
open PyProof.Rows renaming slot_tuple_getitem->Xg,boot_tuple->Xh,callWith_type1->Xu,envOfC->YZ,boot_sum->Ze
open PySem.Builtin renaming bitAnd->Xk,bitNot->XF,bitOr->Ys
open PySem.Obj renaming mapSeq->Xs
open PySem.NameKind renaming free->XB
open PySem.Heap.SameBut renaming update->XJ
open PySem.Builtin.Slice renaming slicePlaces->XR,sliceAdjust->YR,sliceApplied->Zz
open PySem.Builtin.Tuple renaming tupleExact->XT
open PySem.Value.type renaming inj->XZ
open False renaming elim->X9
open Ne renaming symm->Yc
open PySem.Calls renaming spliced_cons->Ye,spliced_nil->YA,callWith_builtin->Z7
open PySem.Builtin.List renaming listTooLong->Yt,listExtendWith->Zv,listSameRef->ZS,listItems->Z8
open PySem.AutoSeq1 renaming wpAny_loadPart'->Yu
open PySem.Around renaming under_plainId->Yx
open PySem.Builtin.Dict_items renaming ownsTuple->YC
open ForInStep renaming yield->YJ
open Classical renaming byContradiction->Zu
open True renaming intro->ZH
open Prod renaming fst->ZO
open List.cons renaming inj->ZY
open Option renaming some->A?,none->B?
open Bool renaming true->Bq,false->C?
theorem D?.{u}{α:Sort u}{a:α}:a=a:=rfl
variable{w:W0}{m i t' j n ep:Nat}{h base h':Xp}{α β κ:Type}{a f b c l it pl C sl d z tp l1 l2 i1 i2 nl al wl CT CW:V6}{loose N ps:List WE}{as ch fp S:List V6}{K:Wf}{e tg iter elt:Xb}{P prog:WJ}{x qual name nm p1 p2:WE}{us its:List V8}{u vl vu:V8}{M:Model}{A:W5}{E Q:V8->Wd->Prop}{s' s:Wd}{pos pos':Zb}{pins:List (V6×X6)}{op:CmpOp}{st:Z5}{body:List Z5}{lo hi:Option Int}{ns Z:List Int}{kw:List (WE×V8)}{env:Env}{mg:WE->Option V8}{outer:List Env}{fd:YO}{kindOf:WE->Option YD}{sc scope:Y2}{params:Arguments}{items ys:Array V8}{XP:(WE->Option V8)->Xp->Prop}{YP:W0->Xp->Prop}{B:Prop}{js:List (Option Nat)}{cl:List (WE×V6)}{ifs elts:List Xb}{W:List (Int×Int×V6)}{cell:Int}{ins outs:List (WE×Int)}{ids:List Nat}{ar:WE->Nat}{vs:List (κ×V8)}
def a!:=@if_neg
def b!:=@if_pos
def c!:=@decide_eq_false
def d!:=@decide_eq_true
def e!:=@of_decide_eq_true
def g!:=@absurd
def h!:=@congrArg
namespace HD
open PySem PySem.W PySem.Calls PyProof.Rows
def kj(tb:String->Option Y6)(p:WJ)(w:W0)(m:Nat)(ann:Option V8):Nat->SharedT->Thread->Option SharedT
 |0,_,_=>B?
 | n+1,s,t=>match through t with
   |true=>A? s
   | false=>match stepOk m ann t with
     |false=>B?
     | true=>match stepT (denote tb) p w s t with
       |some (s',t')=>kj tb p w m ann n s' t'
       |none=>B?
theorem lF{tb:String->Option Y6}{p:WJ}{ann:Option V8}:∀{n:Nat}{s s':SharedT}{t:Thread},kj tb p w m ann n s t=A? s'->topRun tb p w m ann n s.abs t=A? s'.abs
 |0,_,_,_,h=>by cases h
 | n+1,s,s',t,h=>by
   unfold kj at h;unfold topRun;cases he:through t with
   |true=>rw[he]at h;cases h;rfl
   | false =>
     rw[he]at h;cases hk:stepOk m ann t with
     |false=>rw[hk]at h;cases h
     | true =>
       rw[hk]at h;cases hs:stepT (denote tb) p w s t with
       |none=>rw[hs]at h;cases h
       | some r =>
         obtain⟨s2,t2⟩:=r;rw[hs]at h;rw[stepT_spec hs];exact lF h
def sV:List X6->Nat->BT->BT
 | [],_,t=>t
 |o::l,n,t=>sV l (n+1) (t.ins n o)
def uY:List X6->Nat->BT->Bool
 | [],_,_=>Bq
 |o::l,n,t=>((t.ins n o).get n).isSome && uY l (n+1) (t.ins n o)
theorem mq:∀(l:List X6)(n:Nat)(t:BT),uY l n t=Bq->(sV l n t).list (n+l.length)=t.list n++l
 | [],n,t,_=>by rw[ZG];rfl
 | o::l,n,t,h=>by
   obtain⟨h1,h2⟩:=Bool.and_eq_true_iff.mp h;have e:=absHeap_ins (life:=default) h1
   have e2:(t.ins n o).list (n+1)=t.list n++[o]:=by
    have:=h! (λx:Xp=>x.objs.toList) e;simpa[absHeap,Heap.push]using this
   have ih:=mq l (n+1) (t.ins n o) h2;rw[e2,YN]at ih;rw[Wq,show n+(l.length+1)=n+1+l.length by lia];exact ih
theorem xK(ok:uY h.objs.toList 0 .nil=Bq):absHeap (sV h.objs.toList 0 .nil) h.objs.size h.life=h:=by
 have e:=mq _ _ _ ok;rw[Nat.zero_add]at e;unfold absHeap;rw[<-WO,e];rfl
noncomputable abbrev lY(p:WJ)(N:Nat)(w:W0)(os:OsState):Option SharedT :=
 kj treeTable p w 11 (A? (.ref 6)) N ⟨sV (YK w.params).objs.toList 0 .nil,11,(YK w.params).life,Array.mk [],boot_drawn,boot_toks,os⟩ (topStub p)
theorem vN(P:Params):(uY (YK P).objs.toList 0 .nil,(YK P).isNs XO,(YK P).objs.size,(YK P).nsMap XO "__annotations__")=(Bq,Bq,11,A? (.ref 6)):=by kernel_rfl
theorem map_some{o:Option α}{a:α}{f:α->β}{b:β}(h:o=A? a)(e:o.map f=A? b):f a=b:=by rw[h]at e;exact Wi e
abbrev Tr0(p q:WJ)(loose:List WE)(Xt:Wd->Bool)(N:Nat)(g0:Bool):Prop:=∀(w:W0)(os:OsState),((lY p N w os).map λs=>(staticsOk (importedModules p.main.body) (YK w.params) s.abs.heap && namesBound p s.abs.heap && gensDone s.abs && laidKept (YK w.params) s.abs.heap,s.abs.heap.bltView,pinSeenD q (drecsOf q) s.abs,plainSeenD q loose s.abs,clsSeenW q loose s.abs,(s.abs.heap.accountedOkI (importedModules p.main.body),s.abs.heap.isNs XO,s.abs.heap.isNs builtinsNs,tablesOk q s.abs.heap,Xt s.abs,(if g0 then s.abs.gens.size == 0 else !leftWithCleanup s.abs.gens))))=A? (Bq,bltViewBooted,pinGoodD (drecsOf q),plainGoodD q loose,clsGoodW q loose,(Bq,Bq,Bq,Bq,Bq,Bq))
abbrev Tr1(p q:WJ)(N:Nat):Prop:=∀(w:W0)(os:OsState),((lY p N w os).map λs=>seen ((recsOf q).map (·.name)) (ownsOf q) [] {s.abs with gens:=#[]})=A? (expectedOf q)
abbrev Tr2(p q:WJ)(loose:List WE)(N:Nat):Prop:=∀(w:W0)(os:OsState),((lY p N w os).map λs=>s.abs.heap.keysOk (looseW q loose) ((recsOf q).map (·.name)) ((litsOf q).map (·.1)) ((clssOf q (looseW q loose)).map (·.name)))=A? Bq
abbrev Tr3(p q:WJ)(N:Nat):Prop:=∀(w:W0)(os:OsState),((lY p N w os).map λs=>tabsOk q s.abs)=A? Bq
abbrev Tr4(p q:WJ)(loose:List WE)(N:Nat):Prop:=∀(w:W0)(os:OsState),((lY p N w os).map λs=>plainSeenE q (looseW q loose) s.abs)=A? (plainGoodE q (looseW q loose))
abbrev Tr5(p q:WJ)(N:Nat):Prop:=∀(w:W0)(os:OsState),((lY p N w os).map λs=>wideSeen q s.abs)=A? (wideGood q)
theorem rX{p q:WJ}{Xt:Wd->Bool}{Yf:Wd->α}{Ya:W0->α}{N:Nat}{g0:Bool}
 (e:opening p=plainProg p.main.scope.names) (hN:Nat.ble 600 N=Bq) (f:∀s,fenceModules? p s=A? s)
 (r0:Tr0 p q loose Xt N g0)
 (r1:Tr1 p q N)
 (r2:Tr2 p q loose N)
 (r3:Tr3 p q N)
 (r4:Tr4 p q loose N)
 (r5:Tr5 p q N)
 (rY:∀(w:W0)(os:OsState),((lY p N w os).map λs=>Yf s.abs)=A? (Ya w)) :
 LeftO p q loose Xt Yf Ya N g0:=λw=>by
 obtain⟨⟨h,gs,d,k,os⟩,e1,e'⟩:=WA.mp (boot_open e hN f w);obtain⟨rfl,rfl,rfl,rfl⟩:h=YK w.params/\gs=Array.mk []/\d=boot_drawn/\k=boot_toks:=by simpa using e'
 have KH:=vN w.params;have z0:=h! ZO KH;have z1:=h! (λx=>x.2.1) KH;have z2:=h! (λx=>x.2.2.1) KH;have z3:=h! (λx=>x.2.2.2) KH;dsimp only at z0 z1 z2 z3;obtain⟨s1,FL,hY⟩:=WA.mp (rY w os);have q0:=map_some FL (r0 w os);have q1:=map_some FL (r1 w os);have q2:=map_some FL (r2 w os);have q3:=map_some FL (r3 w os);have q4:=map_some FL (r4 w os);have q5:=map_some FL (r5 w os);have rr:=lF FL
 have LS:SharedT.abs ⟨sV (YK w.params).objs.toList 0 .nil,11,(YK w.params).life,Array.mk [],boot_drawn,boot_toks,os⟩=⟨YK w.params,Array.mk [],boot_drawn,boot_toks,os⟩:=by
  unfold SharedT.abs;dsimp only;rw[<-z2,xK z0]
 rw[LS]at rr;have a0:=h! ZO q0;have a1:=h! (λx=>x.2.1) q0;have a2:=h! (λx=>x.2.2.1) q0;have a3:=h! (λx=>x.2.2.2.1) q0;have a4:=h! (λx=>x.2.2.2.2.1) q0;have b0:=h! (λx=>x.2.2.2.2.2.1) q0;have b1:=h! (λx=>x.2.2.2.2.2.2.1) q0;have b2:=h! (λx=>x.2.2.2.2.2.2.2.1) q0;have b3:=h! (λx=>x.2.2.2.2.2.2.2.2.1) q0;have b4:=h! (λx=>x.2.2.2.2.2.2.2.2.2.1) q0;have b5:=h! (λx=>x.2.2.2.2.2.2.2.2.2.2) q0;dsimp only at a0 a1 a2 a3 a4 b0 b1 b2 b3 b4 b5
 have l2:openSeen q loose (importedModules p.main.body) Xt g0 s1.abs=openGood q loose:=by
  unfold openSeen openGood;rw[q1,a1,q2,b0,b1,b2,b3,b4,b5,q3,a2,q4,a3,q5,a4];rfl
 have t:topFrom treeTable p w N ⟨YK w.params,Array.mk [],boot_drawn,boot_toks,os⟩=A? s1.abs:=by
  unfold topFrom;dsimp only;rw[z1,z2,z3,rr];show(match staticsOk (importedModules p.main.body) (YK w.params) s1.abs.heap && namesBound p s1.abs.heap && gensDone s1.abs && laidKept (YK w.params) s1.abs.heap with|true=>_|false=>_)=_;rw[a0]
 unfold openEnds;rw[e1];show(topFrom treeTable p w N _).map _=_;rw[t];exact h! A? (Prod.ext l2 hY)
def p0:Params:={strHash:=λ_=>0,shareClass:=λ_=>0,mergeTok:=λt=>t,idOf:=λ_=>0,idOfShared:=λ_ _=>0,followText:=λ_=>C?,idOfImm:=λ_=>0}
structure Pc(p:WJ)(N:Nat)(as:List V6)(vs:W0->List (Option X6)):Prop where
 out:∀(w:W0)(os:OsState),((lY p N w os).map λs=>as.map s.abs.heap.get?)=A? (vs w)
theorem Pc.k{p:WJ}{N:Nat}{K:Params->Frag}{e:∀P,as=(K P).map (·.1)}(h:Pc p N as λw=>(K w.params).map λp=>A? p.2):∀(w:W0)(os:OsState),((lY p N w os).map λs=>(kHook K as e).obs s.abs)=A? ((kHook K as e).val w):=h.out
def kP(K:Frag):List V6:=K.filterMap λp=>match p.2 with
 | ⟨.type "code",_,.fields vs,_⟩=>(match(vs[11]?:Option V8)with
   |some (.ref P)=>A? P
   |_=>B?)
 |_=>B?
theorem pK{K:Frag}{P:V6}(h:codeHdIn K c P=Bq):P∈kP K:=by
 unfold codeHdIn at h;split at h
 .rename_i od vs sl e
  have hm:=mem_of_lookupK e;refine List.mem_filterMap.mpr ⟨_,hm,?_⟩;simp only[Yl]at h;have h1:=h.1.1.1.1.1;show(match(vs[11]?:Option V8)with|some (.ref P)=>A? P|_=>B?)=A? P;split at h1
  .rename_i P' e2
   rw[e2];exact h! A? (beq_iff_eq.mp h1)
  .cases h1
 .cases h
theorem Pc.km{p:WJ}{N:Nat}{ts:List V6}{K:Params->Frag}{e:∀P,as=(K P).map (·.1)}(h:Pc p N as λw=>(K w.params).map λp=>A? p.2)(t:Pc p N ts λ_=>ts.map λ_=>A? (tabObj #[])):∀(w:W0)(os:OsState),((lY p N w os).map λs=>(kmHook K as e ts).obs s.abs)=A? ((kmHook K as e ts).val w):=λw os=>by
 obtain⟨s,e1,a1⟩:=WA.mp (h.out w os);have a2:=map_some e1 (t.out w os);rw[e1];exact h! A? (Prod.ext a1 a2)
end HD
section
open PySem PySem.W PyProof.Rows
def LAW.vw:WJ:=PySem.W.view PySem.Challenge.pw_boughbook_k49_whole_whence_by_notes [1,2,4,5,6,8,9,11,12,13,14,16,17,18,20,21,22,23,24,25,26,27,28,30,31,32,33,34,35,36,37,38,39,40,41,42,43,44,45,46,47,48,49,50,51,52,53,54]
def LAW.xt(s:Wd):Bool:=xlAt LAW.vw [] s && recOk (RowW.records (OpenRow.toRowW (OpenLaw.row PySem.Challenge.rw_boughbook_k49_whole_whence_by_notes))) s
theorem LAW.ws:OpenLaw.wellSaid PySem.Challenge.rw_boughbook_k49_whole_whence_by_notes=true:=by kernel_rfl
theorem LAW.lk0:HD.Tr0 PySem.Challenge.pw_boughbook_k49_whole_whence_by_notes LAW.vw [] LAW.xt 90000 true:=λ_ _=>by kernel_rfl
theorem LAW.lk1:HD.Tr1 PySem.Challenge.pw_boughbook_k49_whole_whence_by_notes LAW.vw 90000:=λ_ _=>by kernel_rfl
theorem LAW.lk2:HD.Tr2 PySem.Challenge.pw_boughbook_k49_whole_whence_by_notes LAW.vw [] 90000:=λ_ _=>by kernel_rfl
theorem LAW.lk3:HD.Tr3 PySem.Challenge.pw_boughbook_k49_whole_whence_by_notes LAW.vw 90000:=λ_ _=>by kernel_rfl
theorem LAW.lk4:HD.Tr4 PySem.Challenge.pw_boughbook_k49_whole_whence_by_notes LAW.vw [] 90000:=λ_ _=>by kernel_rfl
theorem LAW.lk5:HD.Tr5 PySem.Challenge.pw_boughbook_k49_whole_whence_by_notes LAW.vw 90000:=λ_ _=>by kernel_rfl
section
local macro_rules | `(tactic| o_head $_H) => `(tactic| assumption)
theorem LAW.d0(h:OpenRow.Holds (OpenLaw.row PySem.Challenge.rw_boughbook_k49_whole_whence_by_notes)):OpenRow.Holds (OpenLaw.row PySem.Challenge.rw_boughbook_k49_whole_whence_by_notes):=by
 k_head
end
noncomputable def LAW.ks:List V6:=(LAW.d0.heap_1 HD.p0).map (·.1)
theorem LAW.ke:∀P,LAW.ks=(LAW.d0.heap_1 P).map (·.1):=λ_=>by kernel_rfl
theorem LAW.kp:HD.Pc PySem.Challenge.pw_boughbook_k49_whole_whence_by_notes 90000 LAW.ks λw=>(LAW.d0.heap_1 w.params).map λp=>A? p.2:=⟨λ_ _=>by kernel_rfl⟩
noncomputable def LAW.ts:List V6:=HD.kP (LAW.d0.heap_1 HD.p0)
theorem LAW.te:∀P,LAW.ts=HD.kP (LAW.d0.heap_1 P):=λ_=>by kernel_rfl
theorem LAW.kt:HD.Pc PySem.Challenge.pw_boughbook_k49_whole_whence_by_notes 90000 LAW.ts λ_=>LAW.ts.map λ_=>A? (tabObj #[]):=⟨λ_ _=>by kernel_rfl⟩
end
namespace L2
open PySem PySem.Spec PyProof.Rows
theorem gmE{f:α->β}{l:List α}{x:α}(h:l[i]?=A? x):(l.map f)[i]?=A? (f x):=by rw[V7,h];rfl
theorem glE{l:List α}{x:α}(h:l[i]?=A? x):i<l.length:=(XN.mp h).1
abbrev Key:=Sum Int WE
def mR:Key->V8->Bool
 |.inl k,v=>Value.isInt k v
 |.inr x,v=>Value.isStrOf x v
def yL(w:W0):Key->Int
 |.inl k=>hashInt k
 |.inr x=>hashStr w x
theorem bS:∀{k:Key}{v:V8},mR k v=Bq->(∃i t,k=WQ i/\v=Value.int i t)\/(∃x t,k=Sum.inr x/\v=Value.str x t)
 | .inl i,v,h=>by
   obtain⟨t,e⟩:=Value.isInt_shape (k:=i) (v:=v) h;exact .inl ⟨i,t,rfl,e⟩
 | .inr x,v,h=>by
   obtain⟨t,e⟩:=Value.isStrOf_shape (x:=x) (v:=v) h;exact .inr ⟨x,t,rfl,e⟩
theorem sg(i:Int)(t:Tok):mR (.inl i) (.int i t)=true:=by simp[mR,Value.isInt]
theorem rV(x:WE)(t:Tok):mR (.inr x) (.str x t)=true:=by simp[mR,Value.isStrOf]
theorem wD(a b:Int):decide ((WQ a:Key)=WQ b)=(a == b):=by
 by_cases e:a=b
 .subst e;simp
 .have h:¬(WQ a:Key)=WQ b:=λq=>e (Sum.inl.inj q);rw[c! h];exact(beq_eq_false_iff_ne.mpr e).symm
theorem wL(a b:WE):decide ((Sum.inr a:Key)=Sum.inr b)=decide (a=b):=by
 by_cases e:a=b
 .subst e;simp
 .have h:¬(Sum.inr a:Key)=Sum.inr b:=λq=>e (Sum.inr.inj q);rw[c! h,c! e]
theorem wW(a:Int)(b:WE):decide ((WQ a:Key)=Sum.inr b)=false:=c! (λq=>nomatch q)
theorem wE(a:WE)(b:Int):decide ((Sum.inr a:Key)=WQ b)=false:=c! (λq=>nomatch q)
def bw(prog:WJ)(w:W0):PySem.KeyKind prog w Key where
 is:=mR
 hash:=yL w
 inj:=λv a b ha hb=>by
  rcases bS ha with⟨i,t,rfl,rfl⟩|⟨x,t,rfl,rfl⟩
  .rcases bS hb with⟨j,u,rfl,e⟩|⟨y,u,rfl,e⟩
   .injection e with e1 _;rw[e1]
   .exact nomatch e
  .rcases bS hb with⟨j,u,rfl,e⟩|⟨y,u,rfl,e⟩
   .exact nomatch e
   .injection e with e1 _;rw[e1]
 byValue:=λk v h=>by
  rcases bS h with⟨i,t,rfl,rfl⟩|⟨x,t,rfl,rfl⟩ <;> rfl
 pyHash:=λhv h=>by
  rcases bS hv with⟨i,t,rfl,rfl⟩|⟨x,t,rfl,rfl⟩
  .exact wpAny_pyHash_int h
  .exact wpAny_pyHash_str h
 eqBool:=λhu hv h=>by
  rcases bS hu with⟨i,t,rfl,rfl⟩|⟨x,t,rfl,rfl⟩
  .rcases bS hv with⟨j,u,rfl,rfl⟩|⟨y,u,rfl,rfl⟩
   .rw[wD]at h;exact wpAny_eqBool_int h
   .rw[wW]at h;exact SeqAt.EqAt.int_str i t y u _ _ _ _ h
  .rcases bS hv with⟨j,u,rfl,rfl⟩|⟨y,u,rfl,rfl⟩
   .rw[wE]at h;exact SeqAt.EqAt.str_int x t j u _ _ _ _ h
   .rw[wL]at h;exact wpAny_eqBool_str h
 «strs»:=λk x t v h=>by
  rcases bS h with⟨i,u,rfl,e⟩|⟨y,u,rfl,e⟩
  .exact nomatch e
  .injection e with e1 _;subst e1;cases v <;> rfl
theorem o9(prog:WJ)(w:W0)(i:Int)(t:Tok):(bw prog w).is (.inl i) (.int i t)=true:=sg i t
theorem ox(prog:WJ)(w:W0)(x:WE)(t:Tok):(bw prog w).is (.inr x) (.str x t)=true:=rV x t
set_option genInjectivity true in
inductive V where
 |non|bl (b:Bool)|int (i:Int)|str (x:WE)|byt (b:Array UInt8)|flt (b:UInt64)|ref (a:V6)|ty (n:String)
 deriving DecidableEq
def RelV:V->V8->Prop
 |.non,u=>u=XH
 |.bl b,u=>u=Value.bool b
 |.int i,u=>∃t,u=Value.int i t
 |.str x,u=>∃t,u=Value.str x t
 |.byt b,u=>∃t,u=Value.bytes b t
 |.flt b,u=>∃t,u=Value.float b t
 |.ref a,u=>u=W3 a
 |.ty n,u=>u=Zl n
abbrev Vals:List V->List V8->Prop:=WL RelV
theorem Vals.length{xs:List V}(r:Vals xs us):xs.length=us.length:=Wx r
theorem Vals.get:∀{xs:List V}{us:List V8}{i:Nat}{x:V},Vals xs us->xs[i]?=A? x->∃u,us[i]?=A? u/\RelV x u
 |_,_,_,_,.nil,e=>by simp at e
 |_,_,0,_,.cons r _,e=>by simp at e;subst e;exact⟨_,D?,r⟩
 | _,_,i+1,x,.cons _ t,e=>by
   obtain⟨u,h1,h2⟩:=Vals.get (i:=i) (x:=x) t (by simpa using e);exact⟨u,by simpa using h1,h2⟩
theorem Vals.set{x:V}(r:RelV x u):∀{xs:List V}{us:List V8}(i:Nat),Vals xs us->Vals (xs.set i x) (us.set i u)
 |_,_,_,.nil=>.nil
 |_,_,0,.cons _ t=>.cons r t
 |_,_,i+1,.cons q t=>.cons q (Vals.set r i t)
theorem Vals.append:∀{xs ys:List V}{us ws:List V8},Vals xs us->Vals ys ws->Vals (xs++ys) (us++ws)
 |_,_,_,_,.nil,s=>s
 |_,_,_,_,.cons r t,s=>.cons r (Vals.append t s)
theorem Vals.take:∀{xs:List V}{us:List V8}(n:Nat),Vals xs us->Vals (xs.take n) (us.take n)
 |_,_,0,_=>.nil
 |_,_,_+1,.nil=>.nil
 |_,_,n+1,.cons r t=>.cons r (Vals.take n t)
theorem Vals.drop:∀{xs:List V}{us:List V8}(n:Nat),Vals xs us->Vals (xs.drop n) (us.drop n)
 |_,_,0,r=>r
 |_,_,_+1,.nil=>.nil
 |_,_,n+1,.cons _ t=>Vals.drop n t
def RelO:Option V->Option V8->Prop
 |some v,A? u=>RelV v u
 |none,B?=>True
 |_,_=>False
def KV{κ:Type}:List (κ×V)->List (κ×V8)->Prop:=WL λ(p:κ×V)(q:κ×V8)=>p.1=q.1/\RelV p.2 q.2
def kV:Key->V
 |.inl i=>.int i
 |.inr x=>.str x
set_option genSizeOf true in
inductive HO where
 |lst (xs:List V)
 |tup (xs:List V)
 |dK (kvs:List (Key×V))|dT (kvs:List (List Key×V))
 |set (S:Int->Bool) (n:Nat)
 |ins (C dx:V6) (fs:List (WE×V))
 |own (x:V6)
 |xd (fs:List (WE×V))
 |met (f x:V6)
 |rng (lo hi:Int)
 |frz (o:X6) (u:HO)
 |tbl (ps:Array V8)
 |ext (φ:Xp->Prop)
abbrev Hp:=V6->Option HO
def upd(H:Hp)(a:V6)(o:HO):Hp:=λb=>if b=a then A? o else H b
theorem ac{H:Hp}{o:HO}:upd H a o a=A? o:=by unfold upd;rw[b! rfl]
theorem aj{H:Hp}{o:HO}(h:b≠a):upd H a o b=H b:=by unfold upd;rw[a! h]
theorem vH{H:Hp}{o u:HO}:upd (upd H a o) a u=upd H a u:=by
 funext b;unfold upd;split <;> rfl
theorem aF{H:Hp}{o u:HO}(h:H a=A? o)(h':H b=A? u)(d:o≠u):a≠b:=by
 intro e;subst e;rw[h]at h';exact d (Wi h')
theorem av{H:Hp}{o:HO}(h:H a=A? o)(h':H b=B?):a≠b:=by
 intro e;subst e;rw[h]at h';cases h'
section
variable(P:WJ)(w:W0)
def ObjOk(H:Hp)(h:Xp)(a:V6):HO->Prop
 |.lst xs=>xs.length<=WD/\∃(its:List V8)(n:Nat),Vals xs its/\h.get? a=A? {cls:=.type "list",data:=.seq its.toArray n}
 |.tup xs=>xs.length<=WD/\∃(its:List V8)(n:Nat),Vals xs its/\h.get? a=A? {cls:=.type "tuple",data:=.seq its.toArray n}
 |.dK kvs=>kvs.length<=WD/\(a == XY)=C?/\∃vs,KV kvs vs/\h.DictOf (bw P w) a vs
 |.dT kvs=>kvs.length<=WD/\(a == XY)=C?/\∃xs:List (List Key×V6×V8),
  WL (λ(p:List Key×V)(q:List Key×V6×V8)=>p.1=q.1/\H q.2.1=A? (.tup (p.1.map kV))/\RelV p.2 q.2.2) kvs xs /\
  ∃o es ep,h.get? a=A? o/\o.ExactDict/\o.data=.dict es ep/\es.toList=xs.map (entryOfKey (tupleKind (bw P w)))/\(xs.map (·.1)).Nodup
 |.set S n=>h.SetOf (intKind P w) a S n
 |.ins C dx fs=>H dx=A? (.own a)/\fs.length<=1000/\dx≠a/\h.get? a=A? (YI C dx) /\
  ∃mA,h.Ns1 dx mA/\(∀f,RelO (fs.lookup f) (mA f))/\PySem.Within mA (fs.map (·.1))
 |.own _=>∃o,h.get? a=A? o
 |.xd fs=>∃mA,h.Ns1 a mA/\∀f,RelO (fs.lookup f) (mA f)
 |.rng lo hi=>∃t u v,h.get? a=A? {cls:=.type "range",data:=.fields #[.int lo t,.int hi u,.int 1 v]}
 |.frz o u=>h.get? a=A? o/\ObjOk H h a u
 |.tbl ps=>h.get? a=A? {cls:=.none,data:=.fields ps}
 |.met f x=>h.get? a=A? (PySem.W.methodObj (.ref f) (.ref x))
 |.ext φ=>φ h/\(∃o,h.get? a=A? o)/\∀h1 h2:Xp,φ h1->(∀o,h1.get? a=A? o->h2.get? a=A? o)->φ h2
def HOk(H:Hp)(h:Xp):Prop:=∀a o,H a=A? o->ObjOk P w H h a o
end
section
variable{H H':Hp}{o:HO}
theorem ObjOk.lt(x:ObjOk P w H h a o):a<h.objs.size:=by
 cases o with
 |lst xs=>obtain⟨_,_,_,_,e⟩:=x;exact WC e
 |tup xs=>obtain⟨_,_,_,_,e⟩:=x;exact WC e
 |dK kvs=>obtain⟨_,_,_,_,o,_,_,e,_⟩:=x;exact WC e
 |dT kvs=>obtain⟨_,_,_,_,o,_,_,e,_⟩:=x;exact WC e
 |set S n=>obtain⟨o,_,_,_,e,_⟩:=x;exact WC e
 |ins C dx fs=>obtain⟨_,_,_,e,_⟩:=x;exact WC e
 |own y=>obtain⟨_,e⟩:=x;exact WC e
 |xd fs=>obtain⟨_,⟨_,_,_,e,_⟩,_⟩:=x;exact WC e
 |rng lo hi=>obtain⟨_,_,_,e⟩:=x;exact WC e
 |frz ob u=>obtain⟨e,_⟩:=x;exact WC e
 |tbl ps=>exact WC (show h.get? a=A? _ from x)
 |met f y=>exact WC (show h.get? a=A? _ from x)
 |ext φ=>obtain⟨_,⟨_,e⟩,_⟩:=x;exact WC e
theorem WL.mapP{F G:α->β->Prop}:∀{HS:List α}{l₂:List β},WL F HS l₂->(∀a b,F a b->G a b)->WL G HS l₂
 |_,_,.nil,_=>.nil
 |_,_,.cons r t,f=>.cons (f _ _ r) (WL.mapP t f)
theorem ObjOk.stay(x:ObjOk P w H h a o)(k:∀b u,(b=a\/H b=A? (.own a))->h.get? b=A? u->h'.get? b=A? u)
 (ho:∀b,H b=A? (.own a)->H' b=A? (.own a)) (ht:∀b xs,H b=A? (.tup xs)->H' b=A? (.tup xs)):ObjOk P w H' h' a o:=by
 induction o with
 |lst xs=>obtain⟨z,its,n,r,e⟩:=x;exact⟨z,its,n,r,k _ _ (.inl rfl) e⟩
 |tup xs=>obtain⟨z,its,n,r,e⟩:=x;exact⟨z,its,n,r,k _ _ (.inl rfl) e⟩
 |dK kvs=>obtain⟨z,y,vs,r,ob,es,ep,e,c⟩:=x;exact⟨z,y,vs,r,ob,es,ep,k _ _ (.inl rfl) e,c⟩
 | dT kvs =>
   obtain⟨z,y,xs,r,ob,es,ep,e,c⟩:=x;exact⟨z,y,xs,WL.mapP r λp q z=>⟨z.1,ht _ _ z.2.1,z.2.2⟩,ob,es,ep,k _ _ (.inl rfl) e,c⟩
 |set S n=>obtain⟨ob,es,ep,t,e,c⟩:=x;exact⟨ob,es,ep,t,k _ _ (.inl rfl) e,c⟩
 | ins C dx fs =>
   obtain⟨d,z,ne,e,mA,⟨od,es,ep,e2,c⟩,r⟩:=x;exact⟨ho _ d,z,ne,k _ _ (.inl rfl) e,mA,⟨od,es,ep,k _ _ (.inr d) e2,c⟩,r⟩
 |own y=>obtain⟨ob,e⟩:=x;exact⟨ob,k _ _ (.inl rfl) e⟩
 |xd fs=>obtain⟨mA,⟨od,es,ep,e,c⟩,r⟩:=x;exact⟨mA,⟨od,es,ep,k _ _ (.inl rfl) e,c⟩,r⟩
 |rng lo hi=>obtain⟨t,u,v,e⟩:=x;exact⟨t,u,v,k _ _ (.inl rfl) e⟩
 |frz ob u ih=>obtain⟨e,q⟩:=x;exact⟨k _ _ (.inl rfl) e,ih q⟩
 | tbl ps =>
   have e:h.get? a=A? {cls:=.none,data:=.fields ps}:=x;show h'.get? a=A? {cls:=.none,data:=.fields ps};exact k a _ (.inl rfl) e
 | met f y =>
   have e:h.get? a=A? (PySem.W.methodObj (.ref f) (.ref y)):=x;show h'.get? a=A? (PySem.W.methodObj (.ref f) (.ref y));exact k a _ (.inl rfl) e
 |ext φ=>obtain⟨p,⟨o,e⟩,st⟩:=x;exact⟨st _ _ p λo q=>k _ _ (.inl rfl) q,⟨o,k _ _ (.inl rfl) e⟩,st⟩
theorem HOk.lt(x:HOk P w H h)(e:H a=A? o):a<h.objs.size:=(x a o e).lt
theorem HOk.fresh(x:HOk P w H h)(e:h.objs.size<=a):H a=none:=by
 cases q:H a with
 |none=>rfl
 |some u=>exact g! (W8 (x.lt q) e) (Xy _)
theorem HOk.kept(x:HOk P w H h)(k:∀b u,h.get? b=A? u->h'.get? b=A? u):HOk P w H h':=λa o e =>
 (x a o e).stay (λb u _ q=>k b u q) (λ_ q=>q) λ_ _ q=>q
theorem HOk.laid(x:HOk P w H h)(k:∀b u,h.get? b=A? u->h'.get? b=A? u)(hp:h.objs.size<=a)(new:ObjOk P w (upd H a o) h' a o):HOk P w (upd H a o) h':=λb u e=>by
 have hn:=x.fresh hp;by_cases hb:b=a
 .subst hb;rw[ac]at e;cases e;exact new
 .rw[aj hb]at e;exact(x b u e).stay (λc v _ q=>k c v q) (λc q=>by rw[aj (av q hn)];exact q) λc xs q=>by rw[aj (av q hn)];exact q
end
def Rd(H:Hp)(a:V6)(u:HO):Prop:=H a=A? u\/∃o,H a=A? (.frz o u)
theorem Rd.ok{H:Hp}{u:HO}(r:Rd H a u)(x:HOk P w H h):ObjOk P w H h a u:=by
 rcases r with r|⟨o,r⟩
 .exact x a u r
 .obtain⟨_,q⟩:=x a _ r;exact q
def Mut:Option HO->Prop
 |some (.lst _)=>True
 |some (.dK _)=>True
 |some (.dT _)=>True
 |some (.set _ _)=>True
 |some (.ins _ _ _)=>True
 |some (.ext _)=>True
 |_=>False
section
variable{H:Hp}{x e:V6}{o':HO}
theorem HOk.write(ok:HOk P w H h)(mu:Mut (H x))(he:e=x\/H e=A? (.own x))(k:∀b u,b≠e->h.get? b=A? u->h'.get? b=A? u)(GZ:∃u,h'.get? e=A? u)
 (new:ObjOk P w (upd H x o') h' x o'):HOk P w (upd H x o') h':=λb u q=>by
 have HU:∀c y,H c=A? (.own y)->c≠x:=λc y r z=>by subst z;rw[r]at mu;exact mu
 have LU:∀c xs,H c=A? (.tup xs)->c≠x:=λc xs r z=>by subst z;rw[r]at mu;exact mu
 by_cases hb:b=x
 .subst hb;rw[ac]at q;cases q;exact new
 .rw[aj hb]at q;by_cases CL:b=e
  .have q':H b=A? (.own x):=by
    rcases he with z|z
    .exact g! (CL.trans z) hb
    .rw[CL];exact z
   rw[q]at q';cases q';obtain⟨v,hv⟩:=GZ;exact⟨v,by rw[CL];exact hv⟩
  .refine(ok b u q).stay (λc v hc r=>k c v ?_ r) (λc r=>by rw[aj (HU c b r)];exact r) λc xs r=>by rw[aj (LU c xs r)];exact r
   rcases hc with rfl|hc
   .exact CL
   .rintro rfl;rcases he with z|z
    .exact HU c b hc z
    .rw[hc]at z;cases z;exact hb rfl
end
structure Un(fs ex:List V6)(H H':Hp)(h h':Xp):Prop where
 keep:∀b o,h.get? b=A? o->H b=B?->b∉fs->b∉ex->h'.get? b=A? o
 slot:∀b o,h.get? b=A? o->H b=B?->b∈fs->b∉ex->∃sl,h'.get? b=A? {o with slots:=sl}
 free:∀b o,h.get? b=A? o->H b=B?->b∉ex->H' b=B?
 there:∀b o,h.get? b=A? o->b∉ex->∃o',h'.get? b=A? o'
 tups:∀b xs,H b=A? (.tup xs)->H' b=A? (.tup xs)
 frzs:∀b o u,H b=A? (.frz o u)->H' b=A? (.frz o u)
 tbls:∀b ps,H b=A? (.tbl ps)->∃more,H' b=A? (.tbl (ps++more))
section
variable{fs Q5 ex Vd:List V6}{H H1 H2:Hp}{h1 h2:Xp}{x e:V6}{o:HO}
theorem Un.any(u:Un fs ex H H1 h h1){ob:X6}(q:h.get? b=A? ob)(n:H b=B?)(hx:b∉ex):∃sl,h1.get? b=A? {ob with slots:=sl}:=by
 by_cases hb:b∈fs
 .exact u.slot b ob q n hb hx
 .exact⟨ob.slots,u.keep b ob q n hb hx⟩
theorem Un.kept(k:∀b u,h.get? b=A? u->h'.get? b=A? u):Un fs ex H H h h' :=
 ⟨λb ob q _ _ _=>k b ob q,λb ob q _ _ _=>⟨ob.slots,k b ob q⟩,λ_ _ _ n _=>n,λb ob q _=>⟨ob,k b ob q⟩,λ_ _ q=>q,λ_ _ _ q=>q,λ_ ps q=>⟨#[],by rw[q];simp⟩⟩
theorem Un.refl:Un fs ex H H h h:=Un.kept λ_ _ q=>q
theorem Un.laid(k:∀b u,h.get? b=A? u->h'.get? b=A? u)(hp:h.objs.size<=a)(hn:H a=B?):Un fs ex H (upd H a o) h h' where
 keep:=λb u q _ _ _=>k b u q
 slot:=λb u q _ _ _=>⟨u.slots,k b u q⟩
 free:=λb u q n _=>by rw[aj (WT (W8 (WC q) hp))];exact n
 there:=λb u q _=>⟨u,k b u q⟩
 tups:=λb xs q=>by rw[aj (av q hn)];exact q
 frzs:=λb u xs q=>by rw[aj (av q hn)];exact q
 tbls:=λb ps q=>⟨#[],by rw[aj (av q hn),q];simp⟩
theorem Un.write(mu:Mut (H x))(he:e=x\/H e=A? (.own x))(k:∀b u,b≠e->h.get? b=A? u->h'.get? b=A? u)(GZ:∃u,h'.get? e=A? u):Un fs ex H (upd H x o) h h':=by
 have hx:∀b,H b=B?->b≠x:=λb n z=>by subst z;rw[n]at mu;exact mu
 have hb:∀b,H b=B?->b≠e:=λb n z=>by
  subst z;rcases he with r|r
  .exact hx b n r
  .rw[n]at r;cases r
 have hm:∀b u,H b=A? u->¬Mut (A? u)->b≠x:=λb u q nm z=>by subst z;rw[q]at mu;exact nm mu
 refine⟨λb u q n _ _=>k b u (hb b n) q,λb u q n _ _=>⟨u.slots,k b u (hb b n) q⟩,λb u q n _=>by rw[aj (hx b n)];exact n,λb u q _=>?_,
  λb xs q=>by rw[aj (hm b _ q λz=>z)];exact q,λb u xs q=>by rw[aj (hm b _ q λz=>z)];exact q,λb ps q=>⟨#[],by rw[aj (hm b _ q λz=>z),q];simp⟩⟩
 by_cases CL:b=e
 .subst CL;exact GZ
 .exact⟨u,k b u CL q⟩
end
def trk(h:Xp)(H:Hp):List V6:=(XS h.objs.size).filter λa=>(H a).isSome
def lZ(h:Xp)(H:Hp):Xp:=PySem.W.hideAll h (trk h H)
theorem sK(h:Xp)(H:Hp):(lZ h H).objs.size=h.objs.size:=PySem.W.hideAll_size _ _
theorem uq{H:Hp}{o:X6}(e:h.get? b=A? o)(n:H b=B?):(lZ h H).get? b=A? o :=
 PySem.W.hideAll_get _ e λhm=>by
  have q:(H b).isSome=true:=(X7.mp hm).2;rw[n]at q;simp at q
theorem vB{H:Hp}{o:X6}(e:(lZ h H).get? b=A? o):h.get? b=A? o/\H b=none:=by
 have e':h.get? b=A? o:=PySem.W.of_hideAll (trk h H) e;refine⟨e',?_⟩;cases q:H b with
 |none=>rfl
 | some x =>
   have hm:b∈trk h H:=X7.mpr ⟨ZP.mpr (WC e'),by simp[q]⟩;have z:(lZ h H).get? b=none:=PySem.W.hideAll_none (trk h H) hm;rw[z]at e;cases e
end L2
open L2.V renaming ref->k!,int->o!,str->B!
variable{o:L2.HO}{xs:List L2.V}{H H' H1 H2 H8 H7:L2.Hp}{v y:L2.V}{kvs:List (List L2.Key×L2.V)}{fin:V6->L2.Hp->Prop}
namespace L2
open PySem PySem.Spec PyProof.Rows
structure Mod(K:Wf)(mg:WE->Option V8)(base:Xp):Prop where
 kin:K.In base
 glob:base.Ns XO mg
 blt:∃mb,base.Ns builtinsNs mb/\∀x:WE,x≠"__name__"->mb x=bootBuiltins x
 nolimit:base.NoLimit
set_option genInjectivity true in
structure Cx where
 prog:WJ
 w:W0
 K:Wf
 mg:WE->Option V8
 base:Xp
 A:W5
 N:List WE
 s₀:Wd
 H₀:Hp
 env:Env
 outer:List Env
 stack:List Env
 ex:List V6
 fn:WE->Bool
 calm:Bool
 pn:List (V6×X6)
 xe:V8->Wd->Prop
def frs(l:List Env):List V6:=l.filterMap (·.frame)
abbrev Cx.fs(X:Cx):List V6:=frs X.outer
def Vis(sc:Y2)(x:WE):Prop:=sc.names.lookup x=A? .local\/sc.names.lookup x=A? .cell\/sc.names.lookup x=A? .free
def Loc(sc:Y2)(x:WE):Prop:=sc.names.lookup x=A? .local\/sc.names.lookup x=A? .cell
def Look(env:Env)(h:Xp)(m:WE->Option V8)(x:WE)(u:V8):Prop :=
 (env.kindOf x=A? .local/\m x=A? u)\/((env.kindOf x=A? .cell\/env.kindOf x=A? .free)/\∃c,env.cells.lookup x=A? c/\h.IsCell c (A? u))
structure Cx.Ok(X:Cx):Prop where
 mod:Mod X.K X.mg X.base
 kind:X.env.scope.kind=.function
 glob:X.env.globals=XO
 blt:X.env.builtins=builtinsNs
 above:X.s₀.heap.1.size<=X.env.locals
 inj:∀x y c,X.env.cells.lookup x=A? c->X.env.cells.lookup y=A? c->x=y
 has:∀x,(X.env.kindOf x=A? .cell\/X.env.kindOf x=A? .free)->∃c,X.env.cells.lookup x=A? c
 cab:∀x c,X.fn x=Bq->X.env.cells.lookup x=A? c->X.s₀.heap.1.size<=c
 hd:X.calm=Bq->X.A.handled=B?
 frames:X.A.frames=A? X.stack
 stk:X.stack=X.outer\/(X.stack=X.env::X.outer/\X.env.frame=A? X.env.locals)
 exf:∀b∈X.ex,b≠X.env.locals/\∀x c,X.env.cells.lookup x=A? c->c≠b
 bs:∀b o,X.base.get? b=A? o->X.s₀.heap.get? b=A? o/\X.H₀ b=B?
 bsz:X.base.objs.size<=X.s₀.heap.1.size
 noex:∀b o,X.base.get? b=A? o->b∉X.ex
 exfs:∀b∈X.ex,b∉X.fs
 funs:X.s₀.heap.FunFrames X.base X.outer
 frf:∀b∈X.fs,X.H₀ b=B?
structure Inv(X:Cx)(Y:List (V6×X6))(σ:List (Option V))(H:Hp)(s:Wd):Prop where
 ok:X.Ok
 os:s.os=X.s₀.os
 bare:AllBare s.gens
 base:Un X.fs X.ex X.H₀ H X.s₀.heap s.1
 loc:∃m,s.1.Ns X.env.locals m/\∀(i:Nat)(x:WE)(v:V),X.N[i]?=A? x->σ[i]?=A? (A? v)->Vis X.env.scope x->∃u,RelV v u/\Look X.env s.1 m x u
 cell:∀x c,X.env.cells.lookup x=A? c->∃v,s.1.IsCell c v
 free:H X.env.locals=B?
 freeC:∀x c,X.env.cells.lookup x=A? c->H c=B?
 pin:∀p∈X.pn++Y,s.1.get? p.1=A? p.2/\H p.1=B?/\p.1≠X.env.locals/\p.1∉X.fs/\∀v,p.2.data≠.cell v
 hok:HOk X.prog X.w H s.1
 len:σ.length=X.N.length
section
variable{X:Cx}{σ:List (Option V)}
theorem Cx.Ok.nofr(ok:X.Ok){o:X6}(e:X.base.get? b=A? o):b∉X.fs:=λhb=>by
 have:=(ok.funs.mem hb).1;rw[e]at this;cases this
theorem Inv.bs(I:Inv X Y σ H s):∀b o,X.base.get? b=A? o->s.1.get? b=A? o/\H b=none:=λb o e =>
 ⟨I.base.keep b o (I.ok.bs b o e).1 (I.ok.bs b o e).2 (I.ok.nofr e) (I.ok.noex b o e),I.base.free b o (I.ok.bs b o e).1 (I.ok.bs b o e).2 (I.ok.noex b o e)⟩
theorem Inv.bk(I:Inv X Y σ H s):∀b o,X.base.get? b=A? o->s.1.get? b=A? o:=λb o e=>(I.bs b o e).1
theorem Inv.mod(I:Inv X Y σ H s):Mod X.K X.mg X.base:=I.ok.mod
theorem Inv.kIn(I:Inv X Y σ H s):X.K.In s.1:=I.ok.mod.kin.keeps I.bk
theorem Inv.lt(I:Inv X Y σ H s):X.env.locals<s.1.1.size:=let⟨_,hn,_⟩:=I.loc;hn.lt
theorem Inv.sz(I:Inv X Y σ H s):X.s₀.heap.1.size<=s.1.1.size:=Xa I.ok.above (Yi I.lt)
theorem Inv.nofs(I:Inv X Y σ H s)(h:s.1.1.size<=a):a∉X.fs:=λhb=>by
 obtain⟨_,o,ho,_⟩:=I.ok.funs.mem hb;exact g! (W8 (WC ho) (Xa I.sz h)) (Xy _)
theorem Inv.cne(I:Inv X Y σ H s):∀x c,X.env.cells.lookup x=A? c->c≠X.env.locals:=λx c e z=>by
 obtain⟨v,o,ho,hd⟩:=I.cell x c e;obtain⟨m,⟨o',es,ep,BC,HV,_⟩,_⟩:=I.loc;rw[z,BC]at ho;cases ho;rw[HV]at hd;cases hd
theorem Inv.funs(I:Inv X Y σ H s):s.1.FunFrames X.base X.outer:=by
 have all:∀(l:List Env),(∀b∈frs l,b∈X.fs)->X.s₀.heap.FunFrames X.base l->s.1.FunFrames X.base l:=by
  intro l;induction l with
  |nil=>intro _ _;trivial
  | cons env r ih =>
    intro hs hl;obtain⟨hk,⟨L,o,hf,hn,ho,hd⟩,hr⟩:=hl;have hL:L∈X.fs:=hs L (by unfold frs;rw[YT,hf];exact Wj);obtain⟨sl,e⟩:=I.base.slot L o ho (I.ok.frf L hL) hL λz=>I.ok.exfs L z hL;exact⟨hk,⟨L,_,hf,hn,e,hd⟩,ih (λb hb=>hs b (by unfold frs;rw[YT,hf];exact Wo _ hb)) hr⟩
 exact all X.outer (λ_ hb=>hb) I.ok.funs
theorem Inv.stack(I:Inv X Y σ H s):s.1.FunFrames X.base X.stack:=by
 rcases I.ok.stk with e|⟨e,hf⟩
 .rw[e];exact I.funs
 .rw[e];obtain⟨m,hn,_⟩:=I.loc;refine .cons (by rw[I.ok.kind];decide) hf hn ?_ I.funs;exact Heap.get?_none_of_le (Xa I.ok.bsz I.ok.above)
theorem Inv.stkSub(I:Inv X Y σ H s):∀b∈frs X.stack,b∈X.env.locals::X.fs:=λb hb=>by
 rcases I.ok.stk with e|⟨e,hf⟩
 .rw[e]at hb;exact Wo _ hb
 .rw[e]at hb;unfold frs at hb;rw[YT,hf]at hb;exact hb
theorem Inv.stkFree(I:Inv X Y σ H s):∀b∈frs X.stack,H b=none:=λb hb=>by
 rcases Wr.mp (I.stkSub b hb)with e|hb
 .rw[e];exact I.free
 .obtain⟨_,o,ho,_⟩:=I.ok.funs.mem hb;exact I.base.free b o ho (I.ok.frf b hb) λz=>I.ok.exfs b z hb
theorem Inv.step{g':Array GenState}{d':Drawn}(I:Inv X Y σ H s)
 (Eb:∀b∈ch,(b∈X.ex\/X.s₀.heap.1.size<=b)/\b≠X.env.locals/\(∀x c,X.env.cells.lookup x=A? c->c≠b)/\∀p∈X.pn++Y,p.1≠b)
 (keep:∀b o,b≠X.env.locals->b∉X.fs->b∉ch->s.1.get? b=A? o->H b=B?->h'.get? b=A? o)
 (slot:∀b o,b≠X.env.locals->b∈X.fs->b∉ch->s.1.get? b=A? o->H b=B?->∃sl,h'.get? b=A? {o with slots:=sl}) (free:∀b o,b∉ch->s.1.get? b=A? o->H b=B?->H' b=B?)
 (there:∀b o,b∉ch->s.1.get? b=A? o->∃o',h'.get? b=A? o')
 (tups:∀b xs,H b=A? (.tup xs)->H' b=A? (.tup xs)) (frzs:∀b o u,H b=A? (.frz o u)->H' b=A? (.frz o u)) (tbls:∀b ps,H b=A? (.tbl ps)->∃more,H' b=A? (.tbl (ps++more)))
 (ns:∀m,s.1.Ns X.env.locals m->h'.Ns X.env.locals m) (hok:HOk X.prog X.w H' h') (hg:AllBare g') :
 Inv X Y σ H' {s with heap:=h',gens:=g',drawn:=d',toks:=t'}:=by
 have OU:∀b o,X.s₀.heap.get? b=A? o->b≠X.env.locals:=λb o e=>WT (W8 (WC e) I.ok.above)
 have KI:∀b o,X.s₀.heap.get? b=A? o->b∉X.ex->b∉ch:=λb o e hx hb=>by
  rcases(Eb b hb).1 with z|z
  .exact hx z
  .exact g! (W8 (WC e) z) (Xy _)
 have cellK:∀x c,X.env.cells.lookup x=A? c->∀v,s.1.IsCell c v->h'.IsCell c v:=λx c e v⟨o,ho,hd⟩=>by
  have HW:c∉ch:=λz=>(Eb c z).2.2.1 x c e rfl;by_cases hc:c∈X.fs
  .obtain⟨sl,q⟩:=slot c o (I.cne x c e) hc HW ho (I.freeC x c e);exact⟨_,q,hd⟩
  .exact⟨o,keep c o (I.cne x c e) hc HW ho (I.freeC x c e),hd⟩
 refine⟨I.ok,I.os,hg,⟨λb o e n hb hx=>?_,λb o e n hb hx=>?_,λb o e n hx=>?_,λb o e hx=>?_,λb xs e=>tups b xs (I.base.tups b xs e),λb o xs e=>frzs b o xs (I.base.frzs b o xs e),λb ps e=>?_⟩,?_,λx c e=>?_,?_,λx c e=>?_,λp hp=>?_,hok,I.len⟩
 .exact keep b o (OU b o e) hb (KI b o e hx) (I.base.keep b o e n hb hx) (I.base.free b o e n hx)
 .obtain⟨sl,e1⟩:=I.base.slot b o e n hb hx;obtain⟨Q6,e2⟩:=slot b _ (OU b o e) hb (KI b o e hx) e1 (I.base.free b o e n hx);exact⟨Q6,e2⟩
 .obtain⟨o',e1⟩:=I.base.there b o e hx;exact free b o' (KI b o e hx) e1 (I.base.free b o e n hx)
 .obtain⟨o',e1⟩:=I.base.there b o e hx;exact there b o' (KI b o e hx) e1
 .obtain⟨m1,e1⟩:=I.base.tbls b ps e;obtain⟨m2,e2⟩:=tbls b _ e1;exact⟨m1++m2,by rw[e2,Array.append_assoc]⟩
 .obtain⟨m,hn,hl⟩:=I.loc;refine⟨m,ns m hn,λi x v e1 e2 e3=>?_⟩;obtain⟨u,r,l⟩:=hl i x v e1 e2 e3;refine⟨u,r,?_⟩;rcases l with l|⟨k,c,e,z⟩
  .exact .inl l
  .exact .inr ⟨k,c,e,cellK x c e _ z⟩
 .obtain⟨v,z⟩:=I.cell x c e;exact⟨v,cellK x c e v z⟩
 .obtain⟨m,⟨o,_,_,ho,_⟩,_⟩:=I.loc;exact free _ o (λz=>(Eb _ z).2.1 rfl) ho I.free
 .obtain⟨v,o,ho,hd⟩:=I.cell x c e;exact free c o (λz=>(Eb c z).2.2.1 x c e rfl) ho (I.freeC x c e)
 .obtain⟨e,n,ne,nf,d⟩:=I.pin p hp;have HW:p.1∉ch:=λz=>(Eb p.1 z).2.2.2 p hp rfl;exact⟨keep p.1 p.2 ne nf HW e n,free p.1 p.2 HW e n,ne,nf,d⟩
theorem Inv.un(I:Inv X Y σ H s)(u:Un X.fs [] H H' s.1 h')(hok:HOk X.prog X.w H' h'):Inv X Y σ H' {s with heap:=h',toks:=t'}:=by
 obtain⟨m,⟨o,es,ep,ho,r⟩,_⟩:=id I.loc;obtain⟨sl,hL⟩:=u.any ho I.free (by simp)
 exact I.step (g':=s.gens) (d':=s.drawn) (ch:=[]) (λ_ z=>nomatch z) (λb o _ hb _ e n=>u.keep b o e n hb (by simp)) (λb o _ hb _ e n=>u.slot b o e n hb (by simp)) (λb o _ e n=>u.free b o e n (by simp)) (λb o _ e=>u.there b o e (by simp)) u.tups u.frzs u.tbls (λm' hm=>by
  obtain⟨o',G0,G1,BC,r'⟩:=hm;rw[ho]at BC;cases BC;exact⟨_,G0,G1,hL,r'⟩) hok I.bare
theorem Inv.call{g':Array GenState}{d':Drawn}(I:Inv X Y σ H s)(u:Un (frs X.stack) ch H H' s.1 h')(hok:HOk X.prog X.w H' h')(hg:AllBare g')
 (Eb:∀b∈ch,(b∈X.ex\/X.s₀.heap.1.size<=b)/\b≠X.env.locals/\(∀x c,X.env.cells.lookup x=A? c->c≠b)/\∀p∈X.pn++Y,p.1≠b) :
 Inv X Y σ H' {s with heap:=h',gens:=g',drawn:=d',toks:=t'}:=by
 obtain⟨m,⟨o,es,ep,ho,r⟩,_⟩:=id I.loc;obtain⟨sl,hL⟩:=u.any ho I.free λz=>(Eb _ z).2.1 rfl
 exact I.step (ch:=ch) Eb (λb o hL hb hc e n=>u.keep b o e n (λz=>(Wr.mp (I.stkSub b z)).elim hL hb) hc) (λb o _ _ hc e n=>u.any e n hc) (λb o hc e n=>u.free b o e n hc) (λb o hc e=>u.there b o e hc) u.tups u.frzs u.tbls (λm' hm=>by
  obtain⟨o',G0,G1,BC,r'⟩:=hm;rw[ho]at BC;cases BC;exact⟨_,G0,G1,hL,r'⟩) hok hg
theorem Inv.turned(I:Inv X Y σ H s)(k:∀b o,b≠it->s.1.get? b=A? o->h'.get? b=A? o)(hn:H it=B?)(hL:it≠X.env.locals)
 (h1:it∈X.ex\/X.s₀.heap.1.size<=it) (h2:∀x c,X.env.cells.lookup x=A? c->c≠it) (h3:∀p∈X.pn++Y,p.1≠it):Inv X Y σ H {s with heap:=h',toks:=t'}:=by
 have HX:∀b u,H b=A? u->b≠it:=λb u e z=>by rw[z,hn]at e;cases e
 refine I.step (g':=s.gens) (d':=s.drawn) (ch:=[it]) (λb hb=>?_) (λb o _ _ hc e _=>k b o (λz=>hc (by simp[z])) e) (λb o _ _ hc e _=>⟨o.slots,k b o (λz=>hc (by simp[z])) e⟩) (λ_ _ _ _ n=>n)
  (λb o hc e=>⟨o,k b o (λz=>hc (by simp[z])) e⟩) (λ_ _ e=>e) (λ_ _ _ e=>e) (λb ps e=>⟨#[],by rw[e];simp⟩) (λm hm=>?_) (λb u e=>?_) I.bare
 .have e:b=it:=by simpa using hb
  subst e;exact⟨h1,hL,h2,h3⟩
 .obtain⟨o,es,ep,ho,r⟩:=hm;exact⟨o,es,ep,k _ o (Yc hL) ho,r⟩
 .refine(I.hok b u e).stay (λc v hc q=>k c v ?_ q) (λ_ q=>q) λ_ _ q=>q;rcases hc with z|z
  .rw[z];exact HX b u e
  .exact HX c _ z
theorem Inv.tok(I:Inv X Y σ H s)(t:Nat):Inv X Y σ H {s with toks:=t}:=I.un (h':=s.1) (t':=t) Un.refl I.hok
theorem Inv.kept(I:Inv X Y σ H s)(k:∀b u,s.1.get? b=A? u->h'.get? b=A? u):Inv X Y σ H {s with heap:=h',toks:=t'}:=I.un (Un.kept k) (I.hok.kept k)
theorem Inv.laid(I:Inv X Y σ H s)(k:∀b u,s.1.get? b=A? u->h'.get? b=A? u)(hp:s.1.1.size<=a)(new:ObjOk X.prog X.w (upd H a o) h' a o) :
 Inv X Y σ (upd H a o) {s with heap:=h',toks:=t'}:=I.un (Un.laid k hp (I.hok.fresh hp)) (I.hok.laid k hp new)
theorem Inv.write{x e:V6}(I:Inv X Y σ H s)(mu:Mut (H x))(he:e=x\/H e=A? (.own x))(k:∀b u,b≠e->s.1.get? b=A? u->h'.get? b=A? u)(GZ:∃u,h'.get? e=A? u)
 (new:ObjOk X.prog X.w (upd H x o) h' x o):Inv X Y σ (upd H x o) {s with heap:=h',toks:=t'}:=I.un (Un.write mu he k GZ) (I.hok.write mu he k GZ new)
theorem Inv.weak{i':List (Option V)}(I:Inv X Y σ H s)(hl:i'.length=σ.length)(w:∀(i:Nat)v,i'[i]?=A? (A? v)->σ[i]?=A? (A? v)):Inv X Y i' H s :=
 ⟨I.ok,I.os,I.bare,I.base,let⟨m,hn,Dc⟩:=I.loc;⟨m,hn,λi x v e1 e2 e3=>Dc i x v e1 (w i v e2) e3⟩,I.cell,I.free,I.freeC,I.pin,I.hok,hl.trans I.len⟩
theorem Inv.pins_of{Bh:List (V6×X6)}(I:Inv X Y σ H s)(h:∀p∈Bh,s.1.get? p.1=A? p.2/\H p.1=B?/\p.1≠X.env.locals/\p.1∉X.fs/\∀v,p.2.data≠.cell v):Inv X Bh σ H s :=
 ⟨I.ok,I.os,I.bare,I.base,I.loc,I.cell,I.free,I.freeC,λp hp=>(Wm.mp hp).elim (λz=>I.pin p (Wt _ z)) (h p),I.hok,I.len⟩
theorem px(hN:N.Nodup)(a:N[i]?=A? x)(b:N[j]?=A? x):i=j:=by
 obtain⟨h1,e1⟩:=XN.mp a;obtain⟨h2,e2⟩:=XN.mp b;exact(List.getElem_inj hN).mp (e1.trans e2.symm)
theorem l7{Q:Unit->Wd->Prop}(I:Inv X Y σ H s)(hN:X.N.Nodup)(hi:X.N[i]?=A? x)(hx:Loc X.env.scope x)(r:RelV v u)
 (h:∀s',Inv X Y (σ.set i (A? v)) H s'->(∃a,XA a s.1 s'.1/\(a=X.env.locals\/X.env.cells.lookup x=A? a))->Q () s') (hf:X.fn x=Bq\/X.env.scope.names.lookup x=A? .local:=by first|exact .inl rfl|exact .inr rfl|assumption):Ww M A (storeName X.env x u) Q E s:=by
 obtain⟨m,hn,hl⟩:=id I.loc;have LV:(X.env.scope.kind == .class ||(X.env.scope.kind == .module && X.env.locals != X.env.globals))=false:=by rw[I.ok.kind];rfl
 have HY:i<σ.length:=by rw[I.len];exact(glE hi)
 have cne:=I.cne
 have tracked:∀{a:V6}{h':Xp},(∃o,s.1.get? a=A? o/\H a=B?)->XA a s.1 h'->HOk X.prog X.w H h':=λ{a h'}ha hs b ob e=>by
  obtain⟨_,_,BG⟩:=ha;refine(I.hok b ob e).stay (λc w' hc q=>(hs.2 c ?_).trans q) (λ_ q=>q) λ_ _ q=>q;rintro rfl;rcases hc with rfl|hc
  .rw[BG]at e;cases e
  .rw[BG]at hc;cases hc
 rcases hx with hk|hk
 .refine wpAny_storeName_local hk hn (λh' Ec hs=>?_) LV;obtain⟨oL,_,_,Q7,_⟩:=id hn;refine h _ ⟨I.ok,I.os,I.bare,⟨λb o e n hb hx=>?_,λb o e n hb hx=>?_,I.base.free,λb o e hx=>?_,I.base.tups,I.base.frzs,I.base.tbls⟩,⟨_,Ec,λj y v' e1 e2 e3=>?_⟩,λy c e=>?_,I.free,I.freeC,λp hp=>?_,tracked ⟨oL,Q7,I.free⟩ hs,by simpa using I.len⟩ ⟨_,hs,.inl rfl⟩
  .exact(hs.2 b (WT (W8 (WC e) I.ok.above))).trans (I.base.keep b o e n hb hx)
  .obtain⟨sl,e1⟩:=I.base.slot b o e n hb hx;exact⟨sl,(hs.2 b (WT (W8 (WC e) I.ok.above))).trans e1⟩
  .obtain⟨o',e1⟩:=I.base.there b o e hx;exact⟨o',(hs.2 b (WT (W8 (WC e) I.ok.above))).trans e1⟩
  .by_cases hj:j=i
   .subst hj;rw[hi]at e1;cases e1;rw[XC HY]at e2;cases e2;exact⟨u,r,.inl ⟨hk,by simp⟩⟩
   .rw[XD (Yc hj)]at e2;obtain⟨u',r',q⟩:=hl j y v' e1 e2 e3;refine⟨u',r',?_⟩;rcases q with⟨k,e⟩|⟨k,c,e,z⟩
    .refine .inl ⟨k,?_⟩;have:y≠x:=λe=>hj (px hN e1 (e ▸ hi));simp[this,e]
    .exact .inr ⟨k,c,e,z.sameBut hs (cne y c e)⟩
  .obtain⟨w',z⟩:=I.cell y c e;exact⟨w',z.sameBut hs (cne y c e)⟩
  .obtain⟨e,n,ne,nf,d⟩:=I.pin p hp;exact⟨(hs.2 p.1 ne).trans e,n,ne,nf,d⟩
 .have Ey:X.fn x=true:=by
   rcases hf with z|z
   .exact z
   .rw[z]at hk;cases hk
  obtain⟨c,hc⟩:=I.ok.has x (.inl hk);obtain⟨w',z⟩:=I.cell x c hc;refine wpAny_storeName_cell I.ok.kind hk hc z (λh' z8 hs=>?_);obtain⟨oc,E9,LW⟩:=id z;refine h {s with heap:=h'} ⟨I.ok,I.os,I.bare,⟨λb o e n hb hx=>?_,λb o e n hb hx=>?_,I.base.free,λb o e hx=>?_,I.base.tups,I.base.frzs,I.base.tbls⟩,⟨m,hn.sameBut hs (Yc (cne x c hc)),λj y v' e1 e2 e3=>?_⟩,λy c' e=>?_,I.free,I.freeC,λp hp=>?_,tracked ⟨oc,E9,I.freeC x c hc⟩ hs,by simpa using I.len⟩ ⟨c,hs,.inr hc⟩
  .exact(hs.2 b (WT (W8 (WC e) (I.ok.cab x c Ey hc)))).trans (I.base.keep b o e n hb hx)
  .obtain⟨sl,e1⟩:=I.base.slot b o e n hb hx;exact⟨sl,(hs.2 b (WT (W8 (WC e) (I.ok.cab x c Ey hc)))).trans e1⟩
  .obtain⟨o',e1⟩:=I.base.there b o e hx;exact⟨o',(hs.2 b (WT (W8 (WC e) (I.ok.cab x c Ey hc)))).trans e1⟩
  .by_cases hj:j=i
   .subst hj;rw[hi]at e1;cases e1;rw[XC HY]at e2;cases e2;exact⟨u,r,.inr ⟨.inl hk,c,hc,z8⟩⟩
   .rw[XD (Yc hj)]at e2;obtain⟨u',r',q⟩:=hl j y v' e1 e2 e3;refine⟨u',r',?_⟩;rcases q with q|⟨k,c',e,z'⟩
    .exact .inl q
    .refine .inr ⟨k,c',e,z'.sameBut hs ?_⟩;rintro rfl;exact hj (px hN e1 (I.ok.inj _ _ _ e hc ▸ hi))
  .by_cases Ez:c'=c
   .subst Ez;exact⟨_,z8⟩
   .obtain⟨w2,z2⟩:=I.cell y c' e;exact⟨w2,z2.sameBut hs Ez⟩
  .obtain⟨e,n,ne,nf,d⟩:=I.pin p hp;refine⟨(hs.2 p.1 ?_).trans e,n,ne,nf,d⟩;intro q;rw[q,E9]at e;have q':oc=p.2:=Wi e;exact d w' (by rw[<-q'];exact LW)
theorem kW{Q:Unit->Wd->Prop}(I:Inv X Y σ H s)(hN:X.N.Nodup)(hi:X.N[i]?=A? x)(hx:Loc X.env.scope x)(r:RelV v u)
 (h:∀s',Inv X Y (σ.set i (A? v)) H s'->Q () s') (hf:X.fn x=Bq\/X.env.scope.names.lookup x=A? .local:=by first|exact .inl rfl|exact .inr rfl|assumption):Ww M A (storeName X.env x u) Q E s :=
 l7 I hN hi hx r (λs' I' _=>h s' I') hf
theorem Inv.call'(I:Inv X Y σ H s)(ho:s'.os=s.os)(u:Un (frs X.stack) ch H H' s.1 s'.1)(hok:HOk X.prog X.w H' s'.1)(hg:AllBare s'.gens)
 (Eb:∀b∈ch,(b∈X.ex\/X.s₀.heap.1.size<=b)/\b≠X.env.locals/\(∀x c,X.env.cells.lookup x=A? c->c≠b)/\∀p∈X.pn++Y,p.1≠b):Inv X Y σ H' s':=by
 obtain⟨h',g',d',t',o'⟩:=s';have e:o'=s.os:=ho;subst e;exact I.call (g':=g') (t':=t') (d':=d') u hok hg Eb
end
abbrev XK:=V8->Option V6->Hp->Prop
abbrev St:=List (Option V)
abbrev VK:=V->Hp->Prop
abbrev TE:=St->Hp->VK->Prop
abbrev TT:=St->Hp->(Bool->Hp->Prop)->Prop
abbrev TA:=St->Hp->(List V->Hp->Prop)->Prop
structure Ends where
 nx:St->Hp->Prop
 rt:VK
 bk:St->Hp->Prop:=λ_ _=>False
 ct:St->Hp->Prop:=λ_ _=>False
abbrev TS:=Ends->St->Hp->Prop
def EP(X:Cx)(Y:List (V6×X6))(σ:St)(Q:VK)(u:V8)(s':Wd):Prop:=∃v H',Inv X Y σ H' s'/\RelV v u/\Q v H'
def TP(X:Cx)(Y:List (V6×X6))(σ:St)(Q:Bool->Hp->Prop)(b:Bool)(s':Wd):Prop:=∃H',Inv X Y σ H' s'/\Q b H'
def AP(X:Cx)(Y:List (V6×X6))(σ:St)(Q:List V->Hp->Prop)(us:List V8)(s':Wd):Prop:=∃vs H',Inv X Y σ H' s'/\Vals vs us/\Q vs H'
def SP(X:Cx)(Y:List (V6×X6))(D:Ends)(f:Flow)(s':Wd):Prop :=
 match f with
 |.next=>∃i' H',Inv X Y i' H' s'/\D.nx i' H'
 |.brk=>∃i' H',Inv X Y i' H' s'/\D.bk i' H'
 |.cont=>∃i' H',Inv X Y i' H' s'/\D.ct i' H'
 |.ret u=>∃v i' H',Inv X Y i' H' s'/\RelV v u/\D.rt v H'
def PE(X:Cx)(e:Xb)(t:TE):Prop :=
 ∀(Y:List (V6×X6))(s:Wd)(σ:St)(H:Hp)(Q:VK),Inv X Y σ H s->t σ H Q->Ww (WN X.prog X.w) X.A (Yd e X.env) (EP X Y σ Q) X.xe s
def PT(X:Cx)(e:Xb)(t:TT):Prop :=
 ∀(Y:List (V6×X6))(s:Wd)(σ:St)(H:Hp)(Q:Bool->Hp->Prop),Inv X Y σ H s->t σ H Q->Ww (WN X.prog X.w) X.A (isTrue e X.env (Yd e X.env)) (TP X Y σ Q) X.xe s
def PW(X:Cx)(e:Xb)(t:TT):Prop :=
 ∀(whole:Sem V8)(Y:List (V6×X6))(s:Wd)(σ:St)(H:Hp)(Q:Bool->Hp->Prop),Inv X Y σ H s->t σ H Q->Ww (WN X.prog X.w) X.A (isTrue e X.env whole) (TP X Y σ Q) X.xe s
theorem PW.pt{X:Cx}{t:TT}(h:PW X e t):PT X e t:=h _
def PA(X:Cx)(es:List Xb)(t:TA):Prop :=
 ∀(pos:Zb)(Y:List (V6×X6))(s:Wd)(σ:St)(H:Hp)(Q:List V->Hp->Prop),Inv X Y σ H s->t σ H Q->Ww (WN X.prog X.w) X.A (spliced (Y1 pos (W6 es X.env))) (AP X Y σ Q) X.xe s
def PS(X:Cx)(st:Z5)(t:TS):Prop :=
 ∀(Y:List (V6×X6))(s:Wd)(σ:St)(H:Hp)(D:Ends),Inv X Y σ H s->t D σ H->Ww (WN X.prog X.w) X.A (exec st X.env) (SP X Y D) X.xe s
def PSs(X:Cx)(st:List Z5)(t:TS):Prop :=
 ∀(Y:List (V6×X6))(s:Wd)(σ:St)(H:Hp)(D:Ends),Inv X Y σ H s->t D σ H->Ww (WN X.prog X.w) X.A (execs st X.env) (SP X Y D) X.xe s
theorem thn{t:Sem α}{Q Q':α->Wd->Prop}(h:Ww M A t Q E s)(hQ:∀a s,Q a s->Q' a s):Ww M A t Q' E s:=XX h hQ λ_ _ x=>x
end L2
variable{tb:L2.TS}{σ:L2.St}{D:L2.Ends}{tl:L2.TE}{R:L2.St->V8->L2.Hp->Prop}{tt:L2.TT}
namespace L2
open PySem PySem.Spec PyProof.Rows
section
variable{X:Cx}
inductive wg(i:Nat)(σ:St)(H:Hp)(Q:VK):Prop
 |mk (v:_) (Br:σ[i]?=A? (A? v)) (Bs:Q v H):wg i σ H Q
def bu(i:Nat):TE:=wg i
def tC(v:V):TE:=λ_ H Q=>Q v H
theorem xF(hN:X.N[i]?=A? x)(hv:Vis X.env.scope x)(hd:(x == ("__debug__":WE))=false:=by decide)(AD:(x == ("__classdict__":WE))=false:=by decide):PE X (.Name x pos) (bu i):=by
 intro Y s σ H Q I h;obtain⟨v,e,h⟩:=h;obtain⟨m,hn,hl⟩:=I.loc;obtain⟨u,r,l⟩:=hl i x v hN e hv;have fin:EP X Y σ Q u s:=⟨v,H,I,r,h⟩;rcases l with⟨hk,hm⟩|⟨hk,c,hc,Bi⟩
 .exact wpAny_Name (wpAny_loadName_local I.ok.kind hk hn hm fin) hd
 .rcases hk with hk|hk
  .exact wpAny_Name (wpAny_loadName_cell I.ok.kind hk hc Bi fin) hd
  .exact wpAny_Name (wpAny_loadName_free I.ok.kind hk hc Bi fin AD) hd
theorem ae{i j pos}:PE X (.Constant (.int i) j pos) (tC (.int i)):=λ_ _ _ H _ I h=>wpAny_Constant_int ⟨.int i,H,I.tok _,⟨_,rfl⟩,h⟩
theorem re{b j pos}:PE X (.Constant (.bool b) j pos) (tC (.bl b)):=λ_ _ _ H _ I h=>Constant_bool ⟨.bl b,H,I,rfl,h⟩
theorem fP{j pos}:PE X (.Constant .none j pos) (tC .non):=λ_ _ _ H _ I h=>Constant_none ⟨.non,H,I,rfl,h⟩
theorem gp{x j pos}:PE X (.Constant (.str x) j pos) (tC (.str x)):=λ_ _ _ H _ I h=>Calls.Constant_str ⟨.str x,H,I.tok _,⟨_,rfl⟩,h⟩
def Gl(X:Cx)(x:WE):Prop:=X.env.kindOf x=A? .globalImplicit
theorem iL(I:Inv X Y σ H s)(hg:Gl X x)(hm:X.mg x=A? u)(h:Q u s)
 (hd:(x == ("__debug__":WE))=false:=by decide):Ww (WN X.prog X.w) X.A (Yd (.Name x pos) X.env) Q E s :=
 Calls.Name_function_global I.ok.kind hg (Calls.loadGlobal_global (by rw[I.ok.glob];exact I.mod.glob.keeps I.bk) hm h) hd
theorem d9(I:Inv X Y σ H s)(hg:Gl X x)(hm:X.mg x=B?)(hv:bootBuiltins x=A? u)(h:Q u s)
 (hn:x≠"__name__":=by decide) (hd:(x == ("__debug__":WE))=false:=by decide):Ww (WN X.prog X.w) X.A (Yd (.Name x pos) X.env) Q E s:=by
 obtain⟨mb,h1,h2⟩:=I.mod.blt;exact Calls.Name_function_global I.ok.kind hg (Calls.loadGlobal_builtin (by rw[I.ok.glob];exact I.mod.glob.keeps I.bk) hm (by rw[I.ok.blt];exact h1.keeps I.bk) ((h2 x hn).trans hv) h) hd
theorem nB(hg:Gl X x)(hm:X.mg x=A? u)(r:RelV v u)(hd:(x == ("__debug__":WE))=false:=by decide):PE X (.Name x pos) (tC v) :=
 λ_ _ _ H _ I h=>iL I hg hm ⟨v,H,I,r,h⟩ hd
variable{a b:Xb}{ta tb:TE}
def PC(X:Cx)(op:CmpOp)(a b:Xb)(t:TE):Prop :=
 ∀(Y:List (V6×X6))(s:Wd)(σ:St)(H:Hp)(Q:VK),Inv X Y σ H s->t σ H Q ->
   Ww (WN X.prog X.w) X.A (Yd a X.env) (λv l'=>Ww (WN X.prog X.w) X.A (Yd b X.env) (λu zW=>Ww (WN X.prog X.w) X.A (Yk op v u) (EP X Y σ Q) X.xe zW) X.xe l') X.xe s
def tB(t:TE):TT:=λσ H Q=>t σ H λx H1=>∃c,x=.bl c/\Q c H1
theorem lu{t:TE}(h:PC X op a b t)(h1:behindInMarks op b=false:=by first|exact HZ _ (by decide) (by decide)|rfl):PT X (.Compare a [op] [b] pos) (tB t):=by
 intro Y s σ H Q I hw;refine wpAny_isTrue_Compare1 (thn (h Y s σ H _ I hw) λv s1 h1=>thn h1 λu s2 h2=>thn h2 λc s3⟨x,H1,I1,r1,q1⟩=>?_) h1;obtain⟨d,rfl,q⟩:=q1;cases r1;exact Yy ⟨H1,I1,q⟩
variable{tA KJ:TT}{rest:List Xb}
def yJ(t u:TT):TT:=λσ H Q=>t σ H λc H1=>if c=Bq then u σ H1 Q else Q C? H1
def tOr(t u:TT):TT:=λσ H Q=>t σ H λc H1=>if c=Bq then Q Bq H1 else u σ H1 Q
def yX(t:TT):TT:=λσ H Q=>t σ H λc H1=>Q (!c) H1
theorem fJ(ha:PT X a tA):PW X (.BoolOp .And [a] pos) tA:=by
 intro wh Y s σ H Q I h;refine isTrue_and (thn (ha Y s σ H Q I h) λc s1 e=>?_);cases c with
 |true=>exact isTrue_and_nil e
 |false=>exact e
theorem nJ(ha:PT X a tA):PW X (.BoolOp .Or [a] pos) tA:=by
 intro wh Y s σ H Q I h;refine isTrue_or (thn (ha Y s σ H Q I h) λc s1 e=>?_);cases c with
 |false=>exact isTrue_or_nil e
 |true=>exact e
theorem gC(ha:PT X a tA)(hb:PW X (.BoolOp .And (b::rest) pos) KJ):PW X (.BoolOp .And (a::b::rest) pos) (yJ tA KJ):=by
 intro wh Y s σ H Q I h;refine isTrue_and (thn (ha Y s σ H _ I h) λc s1⟨H1,I1,q1⟩=>?_);cases c with
 |true=>exact hb wh Y s1 σ H1 Q I1 q1
 |false=>exact⟨H1,I1,q1⟩
theorem rE(ha:PT X a tA)(hb:PW X (.BoolOp .Or (b::rest) pos) KJ):PW X (.BoolOp .Or (a::b::rest) pos) (tOr tA KJ):=by
 intro wh Y s σ H Q I h;refine isTrue_or (thn (ha Y s σ H _ I h) λc s1⟨H1,I1,q1⟩=>?_);cases c with
 |true=>exact⟨H1,I1,q1⟩
 |false=>exact hb wh Y s1 σ H1 Q I1 q1
theorem wT(ha:PT X a tA):PT X (.UnaryOp .Not a pos) (yX tA):=by
 intro Y s σ H Q I h;exact isTrue_not (ha Y s σ H (λc H1=>Q (!c) H1) I h)
def yz(ta tb:TE):TE:=λσ H Q=>ta σ H λx H1=>∃c,x=.bl c/\if c=Bq then tb σ H1 Q else Q (.bl C?) H1
theorem tV{op}{t:TE}(h:PE X a t):PE X (.BoolOp op [a] pos) t:=λY s σ H Q I hw=>BoolOp_one (h Y s σ H Q I hw)
theorem sT(ha:PE X a ta)(hb:PE X (.BoolOp .And (b::rest) pos) tb):PE X (.BoolOp .And (a::b::rest) pos) (yz ta tb):=by
 intro Y s σ H Q I h;refine BoolOp_and (thn (ha Y s σ H _ I h) λv s1⟨x,H1,I1,r1,q1⟩=>?_);obtain⟨c,rfl,q1⟩:=q1;cases r1;refine Yy ?_;cases c with
 |true=>exact hb Y s1 σ H1 Q I1 q1
 |false=>exact⟨.bl C?,H1,I1,D?,q1⟩
def tIf(t:TT)(ta tb:TE):TE:=λσ H Q=>t σ H λc H1=>if c=Bq then ta σ H1 Q else tb σ H1 Q
theorem pj{c:Xb}(hc:PT X c tA)(ha:PE X a ta)(hb:PE X b tb):PE X (.IfExp c a b pos) (tIf tA ta tb):=by
 intro Y s σ H Q I h;refine wpAny_IfExp (thn (hc Y s σ H _ I h) λd s1⟨H1,I1,q1⟩=>?_);cases d with
 |true=>exact ha Y s1 σ H1 Q I1 q1
 |false=>exact hb Y s1 σ H1 Q I1 q1
end
def SqL(K:Wf)(H:Hp)(a:V6)(xs:List V):Prop :=
 Rd H a (.lst xs) \/
  ∃(o:X6)(its:Array V8)(n:Nat),K.lookup a=A? o/\o.cls=.type "list"/\o.dict=B?/\o.data=.seq its n/\its.size<=WD/\Vals xs its.toList
def SqT(K:Wf)(H:Hp)(a:V6)(xs:List V):Prop :=
 Rd H a (.tup xs) \/
  ∃(o:X6)(its:Array V8)(n:Nat),K.lookup a=A? o/\o.cls=.type "tuple"/\o.data=.seq its n/\its.size<=WD/\Vals xs its.toList
def yS:V8->Option V
 |.none=>A? .non
 |.bool b=>A? (.bl b)
 |.int i _=>A? (.int i)
 |.str x _=>A? (.str x)
 |.bytes b _=>A? (.byt b)
 |.float b _=>A? (.flt b)
 |.ref a=>A? (.ref a)
 |.type n=>A? (.ty n)
 |_=>B?
theorem RelV.abs{x:V}(r:RelV x u):yS u=A? x:=by
 cases x with
 |non=>cases r;rfl
 |bl _=>cases r;rfl
 |int _=>obtain⟨t,rfl⟩:=r;rfl
 |str _=>obtain⟨t,rfl⟩:=r;rfl
 |byt _=>obtain⟨t,rfl⟩:=r;rfl
 |flt _=>obtain⟨t,rfl⟩:=r;rfl
 |ref _=>cases r;rfl
 |ty _=>cases r;rfl
theorem RelV.inj{x:V}(r:RelV x u)(q:RelV y u):x=y:=Wi (r.abs.symm.trans q.abs)
theorem Vals.inj:∀{xs ys:List V}{us:List V8},Vals xs us->Vals ys us->xs=ys
 |_,_,_,.nil,.nil=>rfl
 |_,_,_,.cons r t,.cons r' t'=>by rw[r.inj r',Vals.inj t t']
section
variable{X:Cx}{ys:List V}
theorem SqL.of(h:H a=A? (.lst xs)):SqL K H a xs:=.inl (.inl h)
theorem SqT.of(h:H a=A? (.tup xs)):SqT K H a xs:=.inl (.inl h)
theorem Inv.list(I:Inv X Y σ H s)(h:SqL X.K H a xs):∃its:List V8,Vals xs its/\PlainL s.1 a its.toArray/\xs.length<=WD:=by
 rcases h with h|⟨o,its,n,hk,hc,hd,hs,hz,r⟩
 .obtain⟨z,its,n,r,e⟩:=h.ok I.hok;exact⟨its,r,⟨_,n,e,D?,D?,D?⟩,z⟩
 .refine⟨its.toList,r,⟨o,n,I.kIn a o hk,hc,hd,by simpa using hs⟩,?_⟩;have e:=r.length;simp only[WO]at e;lia
theorem Inv.tuple(I:Inv X Y σ H s)(h:SqT X.K H a xs):∃its:List V8,Vals xs its/\IsTup s.1 a its.toArray/\xs.length<=WD:=by
 rcases h with h|⟨o,its,n,hk,hc,hs,hz,r⟩
 .obtain⟨z,its,n,r,p⟩:=h.ok I.hok;exact⟨its,r,⟨_,p,D?,n,D?⟩,z⟩
 .refine⟨its.toList,r,⟨o,I.kIn a o hk,hc,n,by simpa using hs⟩,?_⟩;have e:=r.length;simp only[WO]at e;lia
theorem Inv.list_inj(I:Inv X Y σ H s)(h:SqL X.K H a xs)(h':SqL X.K H a ys):xs=ys:=by
 obtain⟨its,r,⟨o,n,e,_,_,d⟩,_⟩:=I.list h;obtain⟨its',r',⟨o',n',e',_,_,d'⟩,_⟩:=I.list h';rw[e]at e';cases e';rw[d]at d';injection d' with d1 _;have:its=its':=by simpa using h! Array.toList d1
 subst this;exact r.inj r'
theorem Inv.tuple_inj(I:Inv X Y σ H s)(h:SqT X.K H a xs)(h':SqT X.K H a ys):xs=ys:=by
 obtain⟨its,r,⟨o,e,_,n,d⟩,_⟩:=I.tuple h;obtain⟨its',r',⟨o',e',_,n',d'⟩,_⟩:=I.tuple h';rw[e]at e';cases e';rw[d]at d';injection d' with d1 _;have:its=its':=by simpa using h! Array.toList d1
 subst this;exact r.inj r'
end
abbrev Cx.wish(X:Cx)(E:V8->Wd->Prop):Cx:={X with xe:=E}
abbrev Cx.nox(X:Cx):Cx:=X.wish λ_ _=>False
theorem Cx.Ok.wish{X:Cx}(ok:X.Ok)(E:V8->Wd->Prop):(X.wish E).Ok :=
 ⟨ok.mod,ok.kind,ok.glob,ok.blt,ok.above,ok.inj,ok.has,ok.cab,ok.hd,ok.frames,ok.stk,ok.exf,ok.bs,ok.bsz,ok.noex,ok.exfs,ok.funs,ok.frf⟩
theorem Cx.Ok.unwish{X:Cx}(ok:(X.wish E).Ok):X.Ok :=
 ⟨ok.mod,ok.kind,ok.glob,ok.blt,ok.above,ok.inj,ok.has,ok.cab,ok.hd,ok.frames,ok.stk,ok.exf,ok.bs,ok.bsz,ok.noex,ok.exfs,ok.funs,ok.frf⟩
section
variable{X:Cx}
theorem Inv.wish(I:Inv X Y σ H s)(E:V8->Wd->Prop):Inv (X.wish E) Y σ H s:=⟨I.ok.wish E,I.os,I.bare,I.base,I.loc,I.cell,I.free,I.freeC,I.pin,I.hok,I.len⟩
theorem Inv.unwish(I:Inv (X.wish E) Y σ H s):Inv X Y σ H s:=⟨I.ok.unwish,I.os,I.bare,I.base,I.loc,I.cell,I.free,I.freeC,I.pin,I.hok,I.len⟩
theorem SP.unwish{f:Flow}(h:SP (X.wish E) Y D f s'):SP X Y D f s':=by
 cases f with
 |next=>obtain⟨i',H',I,q⟩:=h;exact⟨i',H',I.unwish,q⟩
 |brk=>obtain⟨i',H',I,q⟩:=h;exact⟨i',H',I.unwish,q⟩
 |cont=>obtain⟨i',H',I,q⟩:=h;exact⟨i',H',I.unwish,q⟩
 |ret u=>obtain⟨v,i',H',I,r,q⟩:=h;exact⟨v,i',H',I.unwish,r,q⟩
theorem PSs.nox{st:List Z5}{t:TS}(h:PSs X.nox st t):PSs X st t:=λY s σ H D I hw =>
 XX (h Y s σ H D (I.wish _) hw) (λ_ _ q=>q.unwish) λ_ _ z=>X9 z
end
section
variable{X:Cx}{rest:List Z5}{t u:TS}{te:TE}
def yC:TS:=λD σ H=>D.nx σ H
def vG(t u:TS):TS:=λD σ H=>t {D with nx:=u D} σ H
theorem aY:PSs X [] yC:=λ_ _ σ H _ I h=>wpAny_execs_nil ⟨σ,H,I,h⟩
theorem ad(h1:PS X st t)(h2:PSs X rest u):PSs X (st::rest) (vG t u):=by
 intro Y s σ H D I h;refine wpAny_execs_cons (thn (h1 Y s σ H {D with nx:=u D} I h) λf s1 q=>?_);cases f with
 | next =>
   obtain⟨i',H',I',q⟩:=q;exact h2 Y s1 i' H' D I' q
 |ret v=>exact q
 |brk=>exact q
 |cont=>exact q
theorem ak(h1:PS X st t):PSs X [st] t:=by
 intro Y s σ H D I h;refine wpAny_execs_cons (thn (h1 Y s σ H D I h) λf s1 q=>?_);cases f with
 |next=>exact wpAny_execs_nil q
 |ret v=>exact q
 |brk=>exact q
 |cont=>exact q
theorem Inv.quiet(I:Inv X Y σ H s):interactive X.env=false:=by simp[interactive,I.ok.kind]
def ya(te:TE):TS:=λD σ H=>te σ H λ_ H1=>D.nx σ H1
theorem aX(he:PE X e te)(hs:swapsWith e B? pos.line X.env=pure false:=by rfl):PS X (.Expr e pos) (ya te):=by
 intro Y s σ H D I h;exact wpAny_Expr_any (thn (he Y s σ H _ I h) λv s1⟨x,H1,I1,r1,q1⟩=>⟨σ,H1,I1,q1⟩) I.quiet hs
def yK(te:TE):TS:=λD σ H=>te σ H D.rt
theorem aE(he:PE X e te):PS X (.Return (A? e) pos) (yK te):=by
 intro Y s σ H D I h;exact wpAny_Return_some (thn (he Y s σ H _ I h) λv s1⟨x,H1,I1,r1,q1⟩=>⟨x,σ,H1,I1,r1,q1⟩)
def yj(c:TT)(t u:TS):TS:=λD σ H=>c σ H λb H1=>if b=Bq then t D σ H1 else u D σ H1
theorem bL{c:Xb}{a b:List Z5}{tc:TT}(hc:PT X c tc)(ha:PSs X a t)(hb:PSs X b u):PS X (.If c a b pos) (yj tc t u):=by
 intro Y s σ H D I h;refine wpAny_If (thn (hc Y s σ H _ I h) λd s1⟨H1,I1,q1⟩=>?_);cases d with
 |true=>exact ha Y s1 σ H1 D I1 q1
 |false=>exact hb Y s1 σ H1 D I1 q1
end
abbrev TG:=V->St->Hp->(St->Hp->Prop)->Prop
abbrev TGs:=List V->St->Hp->(St->Hp->Prop)->Prop
def PG(X:Cx)(target:Xb)(t:TG):Prop :=
 ∀(Y:List (V6×X6))(s:Wd)(σ:St)(H:Hp)(v:V)(u:V8)(Q:St->Hp->Prop),Inv X Y σ H s->RelV v u->t v σ H Q ->
   Ww (WN X.prog X.w) X.A (assign target X.env u) (λ_ s'=>∃i' H',Inv X Y i' H' s'/\Q i' H') X.xe s
def PGs(X:Cx)(ts:List Xb)(t:TGs):Prop :=
 ∀(Y:List (V6×X6))(s:Wd)(σ:St)(H:Hp)(vs:List V)(us:List V8)(Q:St->Hp->Prop),Inv X Y σ H s->Vals vs us->t vs σ H Q ->
   Ww (WN X.prog X.w) X.A (assignInOrder ((assignEach ts X.env).map (·.2)) us) (λ_ s'=>∃i' H',Inv X Y i' H' s'/\Q i' H') X.xe s
abbrev wU:=V->V->V->Hp->(Hp->Prop)->Prop
def yl(X:Cx)(t:wU):Prop :=
 ∀(Y:List (V6×X6))(s:Wd)(σ:St)(H:Hp)(o i v:V)(ov iv u:V8)(Q:Hp->Prop),Inv X Y σ H s->RelV o ov->RelV i iv->RelV v u->t o i v H Q ->
   Ww (WN X.prog X.w) X.A (setItem ov iv u) (λ_ s'=>∃H',Inv X Y σ H' s'/\Q H') X.xe s
abbrev TIp:=V->V->Hp->VK->Prop
def PIp(X:Cx)(op:Operator)(t:TIp):Prop :=
 ∀(Y:List (V6×X6))(s:Wd)(σ:St)(H:Hp)(x y:V)(v u:V8)(Q:VK),Inv X Y σ H s->RelV x v->RelV y u->t x y H Q ->
   Ww (WN X.prog X.w) X.A (inplaceOp op v u) (EP X Y σ Q) X.xe s
section
variable{X:Cx}
def au(i:Nat):TG:=λv σ H Q=>Q (σ.set i (A? v)) H
theorem vO(hN:X.N.Nodup)(hi:X.N[i]?=A? x)(hx:Loc X.env.scope x)(hf:X.fn x=Bq\/X.env.scope.names.lookup x=A? .local:=by first|exact .inl rfl|exact .inr rfl|assumption):PG X (.Name x pos) (au i):=by
 intro Y s σ H v u Q I r h;exact wpAny_assign_Name (kW I hN hi hx r (λs' I'=>⟨_,H,I',h⟩) hf)
def lO:TGs:=λvs σ H Q=>vs=[]/\Q σ H
def cP(t:TG)(u:TGs):TGs:=λvs σ H Q=>∃v r,vs=v::r/\t v σ H λi' H'=>u r i' H' Q
theorem bg:PGs X [] lO:=by
 intro Y s σ H vs us Q I r h;obtain⟨e,h⟩:=h;subst e;cases r;exact assignInOrder_nil ⟨σ,H,I,h⟩
theorem az{es:List Xb}{t:TG}{u:TGs}(h1:PG X e t)(h2:PGs X es u)
 (hs:(assignEach (e::es) X.env).map (·.2)=assign e X.env::(assignEach es X.env).map (·.2):=by rfl):PGs X (e::es) (cP t u):=by
 intro Y s σ H vs us Q I r h;obtain⟨v,vr,e1,h⟩:=h;subst e1;cases r with
 | cons r rr =>
   rw[hs];refine assignInOrder_cons (thn (h1 Y s σ H _ _ _ I r h) λ_ s1⟨zC,H1,I1,q1⟩=>?_);exact h2 Y s1 zC H1 _ _ Q I1 rr q1
def lV(K:Wf)(n:Nat)(t:TGs):TG:=λv σ H Q=>∃a xs,v=.ref a/\SqT K H a xs/\xs.length=n/\t xs σ H Q
theorem bM{es:List Xb}{k:Nat}{t:TGs}(hc:X.calm=Bq)(h:PGs X es t)
 (hn:(assignEach es X.env).length=n:=by rfl) (zM:(assignEach es X.env).findIdx? (·.1)=none:=by rfl):PG X (.Tuple es k pos) (lV X.K n t):=by
 intro Y s σ H v u Q I r hw;obtain⟨a,xs,e1,hq,hl,hw⟩:=hw;subst e1;cases r;obtain⟨its,rv,ht,hz⟩:=I.tuple hq;refine assign_Tuple_tuple (I.ok.hd hc) ht (by simp[hn,<-hl,rv.length]) zM λh' hx=>?_;have I1:Inv X Y σ H {s with heap:=h'}:=I.kept (t':=s.toks) λb o e=>hx b o (WT (WC e)) e;exact h Y _ σ H xs _ Q I1 (by simpa using rv) hw
def yF(to ti:TE)(t:wU):TG:=λv σ H Q=>to σ H λo H1=>ti σ H1 λi H2=>t o i v H2 λH3=>Q σ H3
theorem nG{o i:Xb}{to ti:TE}{t:wU}(ho:PE X o to)(hi:PE X i ti)(hs:yl X t)
 (ha:∀v,assign (.Subscript o i pos) X.env v=(do
  let ov <-holding [v] (Yd o X.env)
  let iv <-holding [v,ov] (Yd i X.env)
  standAt pos
  holding [v,ov,iv] (setItem ov iv v)
  release [v,ov,iv] []):=by intro _;rfl):PG X (.Subscript o i pos) (yF to ti t):=by
 intro Y s σ H v u Q I r h;rw[ha];refine V3 (Xq (thn (ho Y s σ H _ I h) λov s1⟨x,H1,I1,r1,q1⟩=>?_));refine V3 (Xq (thn (hi Y s1 σ H1 _ I1 q1) λiv s2⟨y,H2,I2,r2,q2⟩=>?_));refine V3 (wpAny_standAt (V3 (Xq (thn (hs Y s2 σ H2 x y v ov iv u _ I2 r1 r2 r q2) λ_ s3⟨H3,I3,q3⟩=>?_))));exact wpAny_release ⟨σ,H3,I3,q3⟩
def lN(te:TE)(g:TG):TS:=λD σ H=>te σ H λx H1=>g x σ H1 D.nx
theorem iB{te:TE}{g:TG}(he:PE X e te)(hg:PG X tg g)(hs:swapsWithSole [tg] e pos.line X.env=pure false:=by rfl)(hw:swappedStores [tg] e X.env=pure none:=by rfl)
 (h1:(assignEach [tg] X.env).map (·.2)=[assign tg X.env]:=by rfl):PS X (.Assign [tg] e pos) (lN te g):=by
 intro Y s σ H D I h;refine wpAny_Assign_stores (thn (he Y s σ H _ I h) λv s1⟨x,H1,I1,r1,q1⟩=>?_) hs hw;rw[h1];exact thn (hg Y s1 σ H1 x v _ I1 r1 q1) λ_ s2 q=>q
theorem xj{te:TE}(hN:X.N.Nodup)(hi:X.N[i]?=A? x)(hx:Loc X.env.scope x)(he:PE X e te)(hs:swapsWith e (A? (.Name x pos')) pos.line X.env=pure false:=by rfl)(hf:X.fn x=Bq\/X.env.scope.names.lookup x=A? .local:=by first|exact .inl rfl|exact .inr rfl|assumption) :
 PS X (.Assign [.Name x pos'] e pos) (lN te (au i)):=by
 intro Y s σ H D I h;refine wpAny_Assign_Name (thn (he Y s σ H _ I h) λv s1⟨y,H1,I1,r1,q1⟩=>?_) hs;exact kW I1 hN hi hx r1 (λs2 I2=>⟨_,H1,I2,q1⟩) hf
def y9(i:Nat)(te:TE)(ti:TIp):TS:=λD σ H=>∃x,σ[i]?=A? (A? x)/\te σ H λy H1=>ti x y H1 λz H2=>D.nx (σ.set i (A? z)) H2
theorem xb{te:TE}{op:Operator}{ti:TIp}(hN:X.N.Nodup)(hi:X.N[i]?=A? x)(hx:Loc X.env.scope x)(he:PE X e te)(ho:PIp X op ti)(hf:X.fn x=Bq\/X.env.scope.names.lookup x=A? .local:=by first|exact .inl rfl|exact .inr rfl|assumption) :
 PS X (.AugAssign (.Name x pos') op e pos) (y9 i te ti):=by
 intro Y s σ H D I h;obtain⟨v,e1,h⟩:=h;obtain⟨m,hn,hl⟩:=I.loc;have OV:Vis X.env.scope x:=by rcases hx with k|k;exact .inl k;exact .inr (.inl k)
 obtain⟨u,r,l⟩:=hl i x v hi e1 OV;refine wpAny_AugAssign_Name ?_
 have go:Ww (WN X.prog X.w) X.A (Yd e X.env) (λw zW=>Ww (WN X.prog X.w) X.A (inplaceOp op u w) (λr Bt=>Ww (WN X.prog X.w) X.A (storeName X.env x r) (λ_=>SP X Y D .next) X.xe Bt) X.xe zW) X.xe s:=by
  refine thn (he Y s σ H _ I h) λw s1⟨y,H1,I1,r1,q1⟩=>?_;refine thn (ho Y s1 σ H1 v y u w _ I1 r r1 q1) λz s2⟨zv,H2,I2,r2,q2⟩=>?_;exact kW I2 hN hi hx r2 (λs3 I3=>⟨_,H2,I3,q2⟩) hf
 rcases l with⟨hk,hm⟩|⟨hk,c,hc,Bi⟩
 .exact wpAny_loadName_local I.ok.kind hk hn hm go
 .rcases hk with hk|hk
  .exact wpAny_loadName_cell I.ok.kind hk hc Bi go
  .rcases hx with k|k
   .have:X.env.scope.names.lookup x=A? .free:=hk;rw[k]at this;cases this
   .have:X.env.scope.names.lookup x=A? .free:=hk;rw[k]at this;cases this
def ipI(f:Int->Int->Int):TIp:=λx y H Q=>∃i j,x=.int i/\y=.int j/\Q (.int (f i j)) H
end
section
variable{X:Cx}
def xC(c:TT)(tb:TS):TS:=λD σ H=>∃W:Nat->St->Hp->Prop,(∃m,W m σ H)/\∀m σ H,W m σ H ->
 c σ H λb H1=>if b=Bq then∃N:St->Hp->Prop,(∀i' H',N i' H'->∃m',m'<m/\W m' i' H')/\tb {D with nx:=N,ct:=N,bk:=D.nx} σ H1 else D.nx σ H1
theorem ja{c:Xb}{tc:TT}(hp:PassesOwn (WN X.prog X.w) X.A X.env X.xe)(hc:PT X c tc)(hb:PSs X body tb):PS X (.While c body [] pos) (xC tc tb):=by
 intro Y s σ H D I h;obtain⟨W,⟨m0,w0⟩,turn⟩:=h;refine wpAny_While (codeAny_whileLoop (λn s'=>∃i' H',Inv X Y i' H' s'/\W n i' H') ?_ m0 ⟨σ,H,I,w0⟩);rintro n s1 ⟨zC,H1,I1,w1⟩;refine Zm hp (thn (hc Y s1 zC H1 _ I1 (turn n zC H1 w1)) λb s2⟨H2,I2,q2⟩=>?_);cases b with
 | true =>
   obtain⟨N,hN,q2⟩:=q2;rw[b! rfl];refine Zm hp (thn (hb Y s2 zC H2 _ I2 q2) λf s3 q3=>?_);cases f with
   | next =>
     obtain⟨Ds,H3,I3,n3⟩:=q3;obtain⟨m',hm,w3⟩:=hN Ds H3 n3;exact⟨m',hm,Ds,H3,I3,w3⟩
   | cont =>
     obtain⟨Ds,H3,I3,n3⟩:=q3;obtain⟨m',hm,w3⟩:=hN Ds H3 n3;exact⟨m',hm,Ds,H3,I3,w3⟩
   |brk=>exact q3
   |ret v=>exact q3
 | false =>
   rw[a! Wz];exact wpAny_execs_nil ⟨zC,H2,I2,q2⟩
end
structure It where
 go:Nat->Hp->Prop
 yld:Nat->Hp->V->Hp->Prop
 stop:Nat->Hp->Prop
def FpOk(X:Cx)(Y:List (V6×X6))(H:Hp)(b:V6):Prop :=
 H b=B?/\b≠X.env.locals/\b∉X.fs/\(b∈X.ex\/X.s₀.heap.1.size<=b)/\(∀x c,X.env.cells.lookup x=A? c->c≠b)/\∀p∈X.pn++Y,p.1≠b
theorem Inv.fpOk{X:Cx}(I:Inv X Y σ H s)(hb:s.1.1.size<=b)(hn:H' b=B?):FpOk X Y H' b:=by
 refine⟨hn,Y4 (W8 I.lt hb),I.nofs hb,.inr (Xa I.sz hb),λx c e z=>?_,λp hp z=>?_⟩
 .obtain⟨v,q⟩:=I.cell x c e;exact g! (W8 q.lt (by rw[z];exact hb)) (Xy _)
 .exact g! (W8 (WC (I.pin p hp).1) (by rw[z];exact hb)) (Xy _)
structure Turn(P:WJ)(w:W0)(K:Wf)(tg:Xb)(J:It)(fp:List V6)(it:V6)(tn:Nat->Xp->Prop):Prop where
 mem:it∈fp
 obj:∀i h,tn i h->∀b∈fp,∃o,h.get? b=A? o/\∀v,o.data≠.cell v
 keep:∀i h h',tn i h->(∀b∈fp,∀o,h.get? b=A? o->h'.get? b=A? o)->tn i h'
 item:∀(X:Cx),X.prog=P->X.w=w->X.K=K->X.calm=Bq->∀(i:Nat)(Y:List (V6×X6))(s:Wd)(σ:St)(H:Hp)(E:V8->Wd->Prop),Inv X Y σ H s->(∀b∈fp,FpOk X Y H b)->tn i s.1->J.go i H ->
  Ww (WN P w) X.A (Y8 (.ref it)) (λr s1=>∃u,r=A? u /\
   Ww (WN P w) X.A (letOwnedTupleGo tg (.ref it) u) (λ_ s2=>∃x H',Inv X Y σ H' s2/\RelV x u/\J.yld i H x H'/\tn (i+1) s2.1/\∀b∈fp,H' b=B?) E s1) E s
 done:∀(X:Cx),X.prog=P->X.w=w->X.K=K->X.calm=Bq->∀(i:Nat)(Y:List (V6×X6))(s:Wd)(σ:St)(H:Hp)(E:V8->Wd->Prop),Inv X Y σ H s->(∀b∈fp,FpOk X Y H b)->tn i s.1->J.stop i H ->
  Ww (WN P w) X.A (Y8 (.ref it)) (λr s1=>r=B?/\Inv X Y σ H s1) E s
 self:∀(A:W5)(i:Nat)(s:Wd)(Q:V8->Wd->Prop)(E:V8->Wd->Prop),tn i s.1->Q (.ref it) s->Ww (WN P w) A (pyIter (.ref it)) Q E s
abbrev TI:=St->Hp->(It->Hp->Prop)->Prop
def PIE(X:Cx)(Y:List (V6×X6))(σ:St)(tg:Xb)(R:It->Hp->Prop)(KL:V8)(s2:Wd):Prop :=
 ∃(it:V6)(fp:List V6)(tn:Nat->Xp->Prop)(J:It)(H':Hp),KL=.ref it/\Inv X Y σ H' s2/\Turn X.prog X.w X.K tg J fp it tn/\tn 0 s2.1/\(∀b∈fp,FpOk X Y H' b)/\R J H'
def PI(X:Cx)(tg iter:Xb)(wi:TI):Prop :=
 ∀(Y:List (V6×X6))(s:Wd)(σ:St)(H:Hp)(R:It->Hp->Prop),Inv X Y σ H s->wi σ H R ->
   Ww (WN X.prog X.w) X.A (Yd iter X.env) (λv s1=>Ww (WN X.prog X.w) X.A (pyIter v) (PIE X Y σ tg R) X.xe s1) X.xe s
theorem qL{o:X6}{n:String}{vs:Array V8}{Q:Unit->Wd->Prop}(ho:s.1.get? it=A? o)(hc:o.cls=.type n)(hd:o.data=.fields vs)
 (hn:["enumerate","zip","dict_itemiterator","dict_reverseitemiterator","odict_iterator","itertools.zip_longest","itertools.pairwise"].contains n=C?) (hQ:Q () s):Ww M A (letOwnedTupleGo tg (.ref it) u) Q E s:=by
 unfold letOwnedTupleGo
 cases tg <;> first
  |exact Wa hQ
  |(cases u <;> first
   |exact Wa hQ
   | (refine V3 (wpAny_load ho ?_)
      rw[hc,hd];show Ww M A (if(["enumerate","zip","dict_itemiterator","dict_reverseitemiterator","odict_iterator","itertools.zip_longest","itertools.pairwise"].contains n && vs[0]? == A? (Yv _))=Bq then _ else _) Q E s;rw[a! (by intro h;rw[hn,Bool.false_and]at h;cases h)];exact Wa hQ))
def Itl(K:Wf)(a:V6):It :=
 ⟨λi H=>∃xs x,SqL K H a xs/\xs[i]?=A? x,λi H x H'=>H'=H/\∀xs,SqL K H a xs->xs[i]?=A? x,λi H=>∃xs,SqL K H a xs/\xs.length<=i⟩
def Itt(K:Wf)(a:V6):It :=
 ⟨λi H=>∃xs x,SqT K H a xs/\xs[i]?=A? x,λi H x H'=>H'=H/\∀xs,SqT K H a xs->xs[i]?=A? x,λi H=>∃xs,SqT K H a xs/\xs.length<=i⟩
def Itr(lo:Int)(n:Nat):It:=⟨λi _=>i<n,λi H x H'=>H'=H/\x=.int (lo+i),λi _=>n<=i⟩
theorem rZ(a it:V6):Turn P w K tg (Itl K a) [it] it (λi h=>h.IsListIter it a i) where
 mem:=by simp
 obj:=λi h st b hb=>by
  have e:b=it:=by simpa using hb
  subst e;obtain⟨o,e,c,d⟩:=st;exact⟨o,e,λv z=>by rw[d]at z;cases z⟩
 keep:=λi h h' st k=>st.at λo e=>k it (by simp) o e
 item:=by
  intro X hP hw hK hc i Y s σ H E I hf st hg;subst hP hw hK;obtain⟨xs,x,hq,hx⟩:=hg;obtain⟨its,rv,p,hz⟩:=I.list hq;obtain⟨u,hu,ru⟩:=rv.get hx;obtain⟨f0,f1,f2,f3,f4,f5⟩:=hf it (by simp);refine wpAny_pyNext_list_item st p.isList (x:=u) (by simpa using hu) λh' Dd sb=>?_;have I1:Inv X Y σ H {s with heap:=h'}:=I.turned (t':=s.toks) (λb o hb e=>(sb.2 b hb).trans e) f0 f1 f3 f4 f5;obtain⟨o,e,c,d⟩:=id Dd;exact⟨u,D?,qL (s:={s with heap:=h'}) e c d (by decide) ⟨x,H,I1,ru,⟨D?,λys hy=>by rw[I.list_inj hy hq];exact hx⟩,Dd,λb hb=>(hf b hb).1⟩⟩
 done:=by
  intro X hP hw hK hc i Y s σ H E I hf st hg;subst hP hw hK;obtain⟨xs,hq,hx⟩:=hg;obtain⟨its,rv,p,hz⟩:=I.list hq;obtain⟨f0,f1,f2,f3,f4,f5⟩:=hf it (by simp);have hl:=rv.length;exact wpAny_pyNext_list_end (I.ok.hd hc) st p.isList (by simp;lia) λh' eb=>⟨rfl,I.turned (t':=s.toks) (λb o hb e=>eb b o hb e) f0 f1 f3 f4 f5⟩
 self:=λ_ _ _ _ _ st h=>wpAny_pyIter_listiter st h
theorem qr(a it:V6):Turn P w K tg (Itt K a) [it] it (λi h=>h.IsTupleIter it a i) where
 mem:=by simp
 obj:=λi h st b hb=>by
  have e:b=it:=by simpa using hb
  subst e;obtain⟨o,e,c,d⟩:=st;exact⟨o,e,λv z=>by rw[d]at z;cases z⟩
 keep:=λi h h' st k=>st.at λo e=>k it (by simp) o e
 item:=by
  intro X hP hw hK hc i Y s σ H E I hf st hg;subst hP hw hK;obtain⟨xs,x,hq,hx⟩:=hg;obtain⟨its,rv,p,hz⟩:=I.tuple hq;obtain⟨u,hu,ru⟩:=rv.get hx;obtain⟨f0,f1,f2,f3,f4,f5⟩:=hf it (by simp);refine wpAny_pyNext_tuple_item st (show s.1.IsTuple a its.toArray from p) (x:=u) (by simpa using hu) λh' Dd sb=>?_;have I1:Inv X Y σ H {s with heap:=h'}:=I.turned (t':=s.toks) (λb o hb e=>(sb.2 b hb).trans e) f0 f1 f3 f4 f5;obtain⟨o,e,c,d⟩:=id Dd;exact⟨u,D?,qL (s:={s with heap:=h'}) e c d (by decide) ⟨x,H,I1,ru,⟨D?,λys hy=>by rw[I.tuple_inj hy hq];exact hx⟩,Dd,λb hb=>(hf b hb).1⟩⟩
 done:=by
  intro X hP hw hK hc i Y s σ H E I hf st hg;subst hP hw hK;obtain⟨xs,hq,hx⟩:=hg;obtain⟨its,rv,p,hz⟩:=I.tuple hq;obtain⟨f0,f1,f2,f3,f4,f5⟩:=hf it (by simp);have hl:=rv.length;exact wpAny_pyNext_tuple_end (I.ok.hd hc) st (show s.1.IsTuple a its.toArray from p) (by simp;lia) λh' eb=>⟨rfl,I.turned (t':=s.toks) (λb o hb e=>eb b o hb e) f0 f1 f3 f4 f5⟩
 self:=λ_ _ _ _ _ st h=>wpAny_pyIter_tupleiter st h
theorem pN(it:V6)(lo:Int)(n:Nat):Turn P w K tg (Itr lo n) [it] it (λi h=>IsRangeIter h it (lo+(i:Nat) * 1) ((n:Int) - (i:Nat)) 1) where
 mem:=by simp
 obj:=λi h st b hb=>by
  have e:b=it:=by simpa using hb
  subst e
  exact⟨_,st,λv z=>by
   have z':Data.fields _=Data.cell v:=z;cases z'⟩
 keep:=λi h h' st k=>k it (by simp) _ st
 item:=by
  intro X hP hw hK hc i Y s σ H E I hf st hg;subst hP hw hK;obtain⟨f0,f1,f2,f3,f4,f5⟩:=hf it (by simp);have W:=Walks.range (prog:=X.prog) (w:=X.w) (I.ok.hd hc) it lo 1 n;refine W.item i s _ _ hg st λv h' tk hv Dd kk=>?_;obtain⟨t,rfl⟩:=hv;have I1:Inv X Y σ H {s with heap:=h',toks:=tk}:=I.turned (λb o hb e=>kk b o (by simpa using hb) e) f0 f1 f3 f4 f5;refine⟨_,D?,qL (s:={s with heap:=h',toks:=tk}) (n:="range_iterator") Dd rfl rfl (by decide) ⟨.int (lo+i),H,I1,⟨t,?_⟩,⟨D?,D?⟩,Dd,λb hb=>(hf b hb).1⟩⟩;rw[Int.mul_one]
 done:=by
  intro X hP hw hK hc i Y s σ H E I hf st hg;subst hP hw hK;obtain⟨f0,f1,f2,f3,f4,f5⟩:=hf it (by simp);exact wpAny_pyNext_range_end (I.ok.hd hc) st (by have:n<=i:=hg;lia) λh' eb=>⟨rfl,I.turned (t':=s.toks) (λb o hb e=>eb b o hb e) f0 f1 f3 f4 f5⟩
 self:=λ_ _ _ _ _ st h=>wpAny_pyIter_rangeiter st h
end L2
open L2.SqT renaming of->i!
open L2.SqL renaming of->l!
variable{wi:L2.TI}{J:L2.It}
namespace L2
open PySem PySem.Spec PyProof.Rows
section
variable{X:Cx}
def yh(K:Wf)(tl:TE):TI:=λσ H R=>tl σ H λx H1=>∃a,x=.ref a/\(∃xs,SqL K H1 a xs)/\R (Itl K a) H1
def yH(K:Wf)(tl:TE):TI:=λσ H R=>tl σ H λx H1=>∃a,x=.ref a/\(∃xs,SqT K H1 a xs)/\R (Itt K a) H1
theorem b9{l:Xb}(hl:PE X l tl):PI X tg l (yh X.K tl):=by
 intro Y s σ H R I h;refine thn (hl Y s σ H _ I h) λv s1⟨x,H1,I1,r1,q1⟩=>?_;obtain⟨a,e,⟨xs,hq⟩,q⟩:=q1;subst e;cases r1;obtain⟨its,rv,p,hz⟩:=I1.list hq;refine wpAny_pyIter_list p.isList ?_;refine⟨s1.1.1.size,[s1.1.1.size],_,_,H1,D?,I1.kept (t':=s1.toks) λb o e=>V9 _ e,rZ a _,⟨_,Wh _ rfl,D?,D?⟩,λb hb=>?_,q⟩;have e:b=s1.1.1.size:=by simpa using hb
 subst e;exact I1.fpOk (Wc _) (I1.hok.fresh (Wc _))
theorem cf{l:Xb}(hl:PE X l tl):PI X tg l (yH X.K tl):=by
 intro Y s σ H R I h;refine thn (hl Y s σ H _ I h) λv s1⟨x,H1,I1,r1,q1⟩=>?_;obtain⟨a,e,⟨xs,hq⟩,q⟩:=q1;subst e;cases r1;obtain⟨its,rv,p,hz⟩:=I1.tuple hq;refine Zk (show s1.1.IsTuple a its.toArray from p) ?_;refine⟨s1.1.1.size,[s1.1.1.size],_,_,H1,D?,I1.kept (t':=s1.toks) λb o e=>V9 _ e,qr a _,⟨_,Wh _ rfl,D?,D?⟩,λb hb=>?_,q⟩;have e:b=s1.1.1.size:=by simpa using hb
 subst e;exact I1.fpOk (Wc _) (I1.hok.fresh (Wc _))
theorem uG{R:It->Hp->Prop}{lo hi:Int}{t u v:Tok}{tk:Nat}(I:Inv X Y σ H s)(h1:-(2 ^ 62)<=lo)(h2:lo<2 ^ 62)(h3:-(2 ^ 62)<=hi)(h4:hi<2 ^ 62)
 (q:R (Itr lo (hi - lo).toNat) H):Ww (WN X.prog X.w) X.A (pyIter (.ref s.1.1.size)) (PIE X Y σ tg R) E {s with heap:=s.1.push {cls:=.type "range",data:=.fields #[.int lo t,.int hi u,.int 1 v]},toks:=tk}:=by
 refine wpAny_pyIter_range (IsRange.new ..) (small_one h1 h2 h3 h4) ?_;have I1:Inv X Y σ H {s with heap:=s.1.push {cls:=.type "range",data:=.fields #[.int lo t,.int hi u,.int 1 v]},toks:=tk}:=I.kept λb o e=>V9 _ e
 refine⟨(s.1.push {cls:=.type "range",data:=.fields #[.int lo t,.int hi u,.int 1 v]}).objs.size,[(s.1.push {cls:=.type "range",data:=.fields #[.int lo t,.int hi u,.int 1 v]}).objs.size],_,_,H,D?,
  I1.kept (t':=tk) λb o e=>V9 _ e,pN _ lo (hi - lo).toNat,?_,λb hb=>?_,q⟩
 .have e1:lo+((0:Nat):Int) * 1=lo:=by simp
  have e2:(((hi - lo).toNat:Nat):Int) - ((0:Nat):Int)=Builtin.Range.rangeSize lo hi 1:=by rw[rangeSize_one];split <;> lia
  show IsRangeIter _ _ (lo+((0:Nat):Int) * 1) ((((hi - lo).toNat:Nat):Int) - ((0:Nat):Int)) 1;rw[e1,e2];exact Wh _ rfl
 .have e:b=(s.1.push {cls:=.type "range",data:=.fields #[.int lo t,.int hi u,.int 1 v]}).objs.size:=by simpa using hb
  subst e;exact I1.fpOk (Wc _) (I1.hok.fresh (Wc _))
def yv(ta:TA):TI:=λσ H R=>ta σ H λvs H1=>∃j:Int,vs=[.int j]/\-(2 ^ 62)<=j/\j<2 ^ 62/\R (Itr 0 j.toNat) H1
theorem bU{a:Xb}{ta:TA}{p:Zb}(hg:Gl X "range")(hm:X.mg "range"=B?)(ha:PA X [a] ta)(hs:W6 [a] X.env=[(C?,Yd a X.env)]:=by rfl):PI X tg (.Call (.Name "range" p) [a] [] pos) (yv ta):=by
 intro Y s σ H R I h;refine Call_ (d9 I hg hm boot_range (Xu (thn (ha pos Y s σ H _ I h) λus s1⟨vs,H1,I1,r1,q1⟩=>?_) hs rfl));obtain⟨j,e,q1,q2,q⟩:=q1;subst e;cases r1 with
 | cons r rr =>
   cases rr;obtain⟨t,rfl⟩:=r;exact call_range_1 (uG I1 (by lia) (by lia) q1 q2 (by simpa using q))
def yY(wi:TI)(g:TG)(tb:TS):TS:=λD σ H=>wi σ H λJ H1=>∃W:Nat->Nat->St->Hp->Prop,(∃m,W 0 m σ H1)/\∀i m σ H,W i m σ H ->
 (J.stop i H/\D.nx σ H)\/(J.go i H/\∃N:St->Hp->Prop,(∀i' H',N i' H'->∃m',m'<m/\W (i+1) m' i' H')/\∀x H',J.yld i H x H'->g x σ H' λzl H2=>tb {D with nx:=N,ct:=N,bk:=D.nx} zl H2)
def kN(fp:List V6)(h:Xp):List (V6×X6):=fp.filterMap λb=>(h.get? b).map λo=>(b,o)
theorem dk{o:X6}(hb:b∈fp)(e:h.get? b=A? o):(b,o)∈kN fp h:=List.mem_filterMap.mpr ⟨b,hb,by rw[e];rfl⟩
theorem rM{p:V6×X6}(hp:p∈kN fp h):p.1∈fp/\h.get? p.1=A? p.2:=by
 obtain⟨b,hb,e⟩:=List.mem_filterMap.mp hp;cases q:h.get? b with
 |none=>rw[q]at e;cases e
 | some o =>
   rw[q]at e;have e':(b,o)=p:=Wi e;subst e';exact⟨hb,q⟩
theorem Inv.pinned(I:Inv X Y σ H s)(hf:∀b∈fp,FpOk X Y H b)(ho:∀b∈fp,∃o,s.1.get? b=A? o/\∀v,o.data≠.cell v):Inv X (Y++kN fp s.1) σ H s :=
 I.pins_of λp hp=>(Wm.mp hp).elim (λz=>I.pin p (WK _ z)) λz=>by
  obtain⟨hb,e⟩:=rM z;obtain⟨f0,f1,f2,_⟩:=hf p.1 hb;obtain⟨o,e',d⟩:=ho p.1 hb;rw[e]at e';cases e';exact⟨e,f0,f1,f2,d⟩
theorem Inv.unpinned{pl:List (V6×X6)}(I:Inv X (Y++pl) σ H s):Inv X Y σ H s:=I.pins_of λp hp=>I.pin p (WK _ (Wt _ hp))
theorem bA{g:TG}(hp:PassesOwn (WN X.prog X.w) X.A X.env X.xe)(hc:X.calm=Bq)(hi:PI X tg iter wi)(hg:PG X tg g)(hb:PSs X body tb)
 (hs:∀x,foldedSetIterable iter X.env x=pure x:=by intro _;rfl):PS X (.For tg iter body [] pos) (yY wi g tb):=by
 intro Y s σ H D I h;refine wpAny_For (thn (hi Y s σ H _ I h) λv s1 h1=>thn h1 λKL s2 h2=>?_) hs;obtain⟨it,fp,tn,J,H2,e,I2,T,EA,f2,W,⟨m0,w0⟩,turn⟩:=h2;subst e
 have Cb:∀{H':Hp},(∀b∈fp,H' b=B?)->∀b∈fp,FpOk X Y H' b:=λhn b hb=>⟨hn b hb,(f2 b hb).2⟩;refine codeAny_forLoop_any (λn s'=>∃i i' H',Inv X Y i' H' s'/\tn i s'.1/\(∀b∈fp,H' b=B?)/\W i n i' H') ?_ m0 ⟨0,σ,H2,I2,EA,λb hb=>(f2 b hb).1,w0⟩;rintro n s3 ⟨i,Ds,H3,I3,OW,OX,w3⟩;rcases turn i n Ds H3 w3 with⟨stop,qn⟩|⟨go,N,hN,step⟩
 .refine Zm hp (thn (T.done X rfl rfl rfl hc i Y s3 Ds H3 X.xe I3 (Cb OX) OW stop) λr s4⟨hr,I4⟩=>?_);subst hr;exact wpAny_execs_nil ⟨Ds,H3,I4,qn⟩
 .refine Zm hp (thn (T.item X rfl rfl rfl hc i Y s3 Ds H3 X.xe I3 (Cb OX) OW go) λr s4⟨u,hr,h4⟩=>?_);subst hr;refine Zm hp (thn h4 λ_ s5⟨x,H5,I5,r5,y5,G2,KN⟩=>?_);have Q8:=I5.pinned (Cb KN) (T.obj _ _ G2);refine Zm hp (thn (hg _ s5 Ds H5 x u _ Q8 r5 (step x H5 y5)) λ_ s6⟨Q9,H6,I6,q6⟩=>?_);refine Zm hp (thn (hb _ s6 Q9 H6 _ I6 q6) λf s7 q7=>?_)
  have again:∀{Du:St}{H7:Hp},Inv X (Y++kN fp s5.1) Du H7 s7->N Du H7->∃m,m<n/\∃i i' H',Inv X Y i' H' s7/\tn i s7.1/\(∀b∈fp,H' b=B?)/\W i m i' H':=λ{Du H7}I7 n7=>by
   obtain⟨m',hm,w7⟩:=hN Du H7 n7;refine⟨m',hm,i+1,Du,H7,I7.unpinned,T.keep _ _ _ G2 λb hb o e=>(I7.pin (b,o) (WK _ (WK _ (dk hb e)))).1,λb hb=>?_,w7⟩;obtain⟨o,e,d⟩:=T.obj _ _ G2 b hb;exact(I7.pin (b,o) (WK _ (WK _ (dk hb e)))).2.1
  cases f with
  |next=>obtain⟨Du,H7,I7,n7⟩:=q7;exact again I7 n7
  |cont=>obtain⟨Du,H7,I7,n7⟩:=q7;exact again I7 n7
  |brk=>obtain⟨Du,H7,I7,q7⟩:=q7;exact⟨Du,H7,I7.unpinned,q7⟩
  |ret v=>obtain⟨x7,Du,H7,I7,r7,q7⟩:=q7;exact⟨x7,Du,H7,I7.unpinned,r7,q7⟩
end
theorem fF{g:TG}(Pv:Nat->St->Hp->Prop)(h0:Pv 0 σ H)(hl:∀i σ H,i<=xs.length->Pv i σ H->SqL K H a xs)
 (hs:∀i x σ H,xs[i]?=A? x->Pv i σ H->g x σ H λzl H2=>tb {D with nx:=Pv (i+1),ct:=Pv (i+1),bk:=D.nx} zl H2) (hd:∀σ H,Pv xs.length σ H->D.nx σ H) :
 ∃W:Nat->Nat->St->Hp->Prop,(∃m,W 0 m σ H)/\∀i m σ H,W i m σ H ->
   ((Itl K a).stop i H/\D.nx σ H)\/((Itl K a).go i H/\∃N:St->Hp->Prop,(∀i' H',N i' H'->∃m',m'<m/\W (i+1) m' i' H')/\∀x H',(Itl K a).yld i H x H'->g x σ H' λzl H2=>tb {D with nx:=N,ct:=N,bk:=D.nx} zl H2):=by
 refine⟨λi m σ H=>m=xs.length - i/\i<=xs.length/\Pv i σ H,⟨xs.length,by simp,WY _,h0⟩,?_⟩;rintro i m σ H ⟨rfl,hi,p⟩;have q:=hl i σ H hi p;by_cases zf:i<xs.length
 .refine .inr ⟨⟨xs,xs[i],q,by simp[zf]⟩,Pv (i+1),λi' H' p'=>⟨xs.length - (i+1),by lia,rfl,zf,p'⟩,λx H' y=>?_⟩;obtain⟨e,y⟩:=y;subst e;exact hs i x σ _ (y xs q) p
 .have e:i=xs.length:=by lia
  subst e;exact .inl ⟨⟨xs,q,Wc _⟩,hd σ H p⟩
theorem vD{g:TG}(Pv:Nat->St->Hp->Prop)(h0:Pv 0 σ H)(hl:∀i σ H,i<=xs.length->Pv i σ H->SqT K H a xs)
 (hs:∀i x σ H,xs[i]?=A? x->Pv i σ H->g x σ H λzl H2=>tb {D with nx:=Pv (i+1),ct:=Pv (i+1),bk:=D.nx} zl H2) (hd:∀σ H,Pv xs.length σ H->D.nx σ H) :
 ∃W:Nat->Nat->St->Hp->Prop,(∃m,W 0 m σ H)/\∀i m σ H,W i m σ H ->
   ((Itt K a).stop i H/\D.nx σ H)\/((Itt K a).go i H/\∃N:St->Hp->Prop,(∀i' H',N i' H'->∃m',m'<m/\W (i+1) m' i' H')/\∀x H',(Itt K a).yld i H x H'->g x σ H' λzl H2=>tb {D with nx:=N,ct:=N,bk:=D.nx} zl H2):=by
 refine⟨λi m σ H=>m=xs.length - i/\i<=xs.length/\Pv i σ H,⟨xs.length,by simp,WY _,h0⟩,?_⟩;rintro i m σ H ⟨rfl,hi,p⟩;have q:=hl i σ H hi p;by_cases zf:i<xs.length
 .refine .inr ⟨⟨xs,xs[i],q,by simp[zf]⟩,Pv (i+1),λi' H' p'=>⟨xs.length - (i+1),by lia,rfl,zf,p'⟩,λx H' y=>?_⟩;obtain⟨e,y⟩:=y;subst e;exact hs i x σ _ (y xs q) p
 .have e:i=xs.length:=by lia
  subst e;exact .inl ⟨⟨xs,q,Wc _⟩,hd σ H p⟩
theorem cj{lo:Int}{g:TG}(Pv:Nat->St->Hp->Prop)(h0:Pv 0 σ H)
 (hs:∀i σ H,i<n->Pv i σ H->g (.int (lo+i)) σ H λzl H2=>tb {D with nx:=Pv (i+1),ct:=Pv (i+1),bk:=D.nx} zl H2) (hd:∀σ H,Pv n σ H->D.nx σ H) :
 ∃W:Nat->Nat->St->Hp->Prop,(∃m,W 0 m σ H)/\∀i m σ H,W i m σ H ->
   ((Itr lo n).stop i H/\D.nx σ H)\/((Itr lo n).go i H/\∃N:St->Hp->Prop,(∀i' H',N i' H'->∃m',m'<m/\W (i+1) m' i' H')/\∀x H',(Itr lo n).yld i H x H'->g x σ H' λzl H2=>tb {D with nx:=N,ct:=N,bk:=D.nx} zl H2):=by
 refine⟨λi m σ H=>m=n - i/\i<=n/\Pv i σ H,⟨n,by simp,WY _,h0⟩,?_⟩;rintro i m σ H ⟨rfl,hi,p⟩;by_cases zf:i<n
 .refine .inr ⟨zf,Pv (i+1),λi' H' p'=>⟨n - (i+1),by lia,rfl,zf,p'⟩,λx H' y=>?_⟩;obtain⟨e,y⟩:=y;subst e y;exact hs i σ _ zf p
 .have e:i=n:=by lia
  subst e;exact .inl ⟨Wc _,hd σ H p⟩
abbrev R2:=V->V->Hp->VK->Prop
def OpR(X:Cx)(f:V8->V8->Sem V8)(r:R2):Prop :=
 ∀(Y:List (V6×X6))(s:Wd)(σ:St)(H:Hp)(x y:V)(v u:V8)(Q:VK),Inv X Y σ H s->RelV x v->RelV y u->r x y H Q ->
   Ww (WN X.prog X.w) X.A (f v u) (EP X Y σ Q) X.xe s
def UnR(X:Cx)(f:V8->Sem V8)(r:V->Hp->VK->Prop):Prop :=
 ∀(Y:List (V6×X6))(s:Wd)(σ:St)(H:Hp)(x:V)(v:V8)(Q:VK),Inv X Y σ H s->RelV x v->r x H Q ->
   Ww (WN X.prog X.w) X.A (f v) (EP X Y σ Q) X.xe s
def hX(X:Cx)(f:V8)(r:List V->Hp->VK->Prop):Prop :=
 ∀(Y:List (V6×X6))(s:Wd)(σ:St)(H:Hp)(xs:List V)(us:List V8)(Q:VK),Inv X Y σ H s->Vals xs us->r xs H Q ->
   Ww (WN X.prog X.w) X.A (call f us) (EP X Y σ Q) X.xe s
def yQ(X:Cx)(r:V->Hp->(Bool->Hp->Prop)->Prop):Prop :=
 ∀(Y:List (V6×X6))(s:Wd)(σ:St)(H:Hp)(x:V)(v:V8)(Q:Bool->Hp->Prop),Inv X Y σ H s->RelV x v->r x H Q ->
   Ww (WN X.prog X.w) X.A (truthy v) (TP X Y σ Q) X.xe s
def tOp(r:R2)(ta tb:TE):TE:=λσ H Q=>ta σ H λx H1=>tb σ H1 λy H2=>r x y H2 Q
def tUn(r:V->Hp->VK->Prop)(ta:TE):TE:=λσ H Q=>ta σ H λx H1=>r x H1 Q
inductive IrI(C:Int->Int->Prop)(g:Int->Int->V)(x:V)(y:V)(H:Hp)(Q:VK):Prop
 |mk (i:_) (j:_) (Br:x=.int i) (Bs:y=.int j) (CN:C i j) (Fb:Q (g i j) H):IrI C g x y H Q
def rI(C:Int->Int->Prop)(g:Int->Int->V):R2:=IrI C g
inductive xR(g:Int->Int->V)(x:V)(y:V)(H:Hp)(Q:VK):Prop
 |mk (i:_) (j:_) (Br:x=.int i) (Bs:y=.int j) (CN:Q (g i j) H):xR g x y H Q
def rI0(g:Int->Int->V):R2:=xR g
inductive IrU(g:Int->V)(x:V)(H:Hp)(Q:VK):Prop
 |mk (i:_) (Br:x=.int i) (Bs:Q (g i) H):IrU g x H Q
def rU(g:Int->V):V->Hp->VK->Prop:=IrU g
section
variable{X:Cx}{a b c:Xb}{ta tb tc:TE}
theorem wG(ha:PE X a ta)(hb:PE X b tb){R:V->V->Hp->Prop}(I:Inv X Y σ H s)
 (h:ta σ H λx H1=>tb σ H1 λy H2=>R x y H2) {f:V8->V8->Sem V8}
 (hf:∀v u s2 x y H2,Inv X Y σ H2 s2->RelV x v->RelV y u->R x y H2->Ww (WN X.prog X.w) X.A (f v u) Q X.xe s2) :
 Ww (WN X.prog X.w) X.A (Yd a X.env) (λv l'=>Ww (WN X.prog X.w) X.A (Yd b X.env) (λu zW=>Ww (WN X.prog X.w) X.A (f v u) Q X.xe zW) X.xe l') X.xe s:=by
 refine thn (ha Y s σ H _ I h) λv s1⟨x,H1,I1,r1,q1⟩=>?_;refine thn (hb Y s1 σ H1 _ I1 q1) λu s2⟨y,H2,I2,r2,q2⟩=>?_;exact hf v u s2 x y H2 I2 r1 r2 q2
theorem ax{op:Operator}{r:R2}(ho:OpR X (YV op) r)(ha:PE X a ta)(hb:PE X b tb):PE X (.BinOp a op b pos) (tOp r ta tb):=by
 intro Y s σ H Q I h;exact wpAny_BinOp (wG ha hb I h λv u s2 x y H2 I2 rx ry q=>ho Y s2 σ H2 x y v u Q I2 rx ry q)
theorem oA{op:UnaryOp}{r:V->Hp->VK->Prop}(ho:UnR X (unaryOp op) r)(ha:PE X a ta):PE X (.UnaryOp op a pos) (tUn r ta):=by
 intro Y s σ H Q I h;exact UnaryOp_ (thn (ha Y s σ H _ I h) λv s1⟨x,H1,I1,r1,q1⟩=>ho Y s1 σ H1 x v Q I1 r1 q1)
theorem opI{f:V8->V8->Sem V8}{C:Int->Int->Prop}{g:Int->Int->Int}
 (rule:∀(i j:Int)(t u:Tok)(s:Wd)(Q:V8->Wd->Prop)(E:V8->Wd->Prop),C i j->Q (.int (g i j) s.toks) {s with toks:=s.toks+1}->Ww (WN X.prog X.w) X.A (f (.int i t) (.int j u)) Q E s) :
 OpR X f (rI C λi j=>.int (g i j)):=by
 intro Y s σ H x y v u Q I rx ry h;obtain⟨i,j,rfl,rfl,hc,q⟩:=h;obtain⟨t,rfl⟩:=rx;obtain⟨t',rfl⟩:=ry;exact rule i j t t' s _ _ hc ⟨.int (g i j),H,I.tok _,⟨_,rfl⟩,q⟩
theorem vj{f:V8->V8->Sem V8}{g:Int->Int->Int}
 (rule:∀(i j:Int)(t u:Tok)(s:Wd)(Q:V8->Wd->Prop)(E:V8->Wd->Prop),Q (.int (g i j) s.toks) {s with toks:=s.toks+1}->Ww (WN X.prog X.w) X.A (f (.int i t) (.int j u)) Q E s) :
 OpR X f (rI0 λi j=>.int (g i j)):=by
 intro Y s σ H x y v u Q I rx ry h;obtain⟨i,j,rfl,rfl,q⟩:=h;obtain⟨t,rfl⟩:=rx;obtain⟨t',rfl⟩:=ry;exact rule i j t t' s _ _ ⟨.int (g i j),H,I.tok _,⟨_,rfl⟩,q⟩
theorem xg{f:V8->V8->Sem V8}{g:Int->Int->Bool}
 (rule:∀(i j:Int)(t u:Tok)(s:Wd)(Q:V8->Wd->Prop)(E:V8->Wd->Prop),Q (.bool (g i j)) s->Ww (WN X.prog X.w) X.A (f (.int i t) (.int j u)) Q E s) :
 OpR X f (rI0 λi j=>.bl (g i j)):=by
 intro Y s σ H x y v u Q I rx ry h;obtain⟨i,j,rfl,rfl,q⟩:=h;obtain⟨t,rfl⟩:=rx;obtain⟨t',rfl⟩:=ry;exact rule i j t t' s _ _ ⟨.bl (g i j),H,I,rfl,q⟩
def yI(i j:Int):Prop:=0<j/\j<1073741824
def xQ(i j:Int):Prop:=0<=j/\j<=1000000/\i.natAbs<2 ^ 64
def CMul(i j:Int):Prop:=(-(2 ^ 64)<i/\i<2 ^ 64)\/(-(2 ^ 64)<j/\j<2 ^ 64)
theorem CMul.ok{i j:Int}(h:CMul i j):IntMulOk i j:=by
 rcases h with⟨h1,h2⟩|⟨h1,h2⟩
 .exact .of_left (intBits_le_64 h1 h2)
 .exact .of_right (intBits_le_64 h1 h2)
theorem qk(k:Nat):(0:Int)<=2 ^ k:=by
 rw[two_pow_cast];exact Int.natCast_nonneg _
theorem bF:OpR X (YV .Add) (rI0 λi j=>.int (i+j)):=vj λ_ _ _ _ _ _ _ q=>add_int q
theorem iD:OpR X (YV .Sub) (rI0 λi j=>.int (i - j)):=vj λ_ _ _ _ _ _ _ q=>sub_int q
theorem fM:OpR X (YV .Mult) (rI CMul λi j=>.int (i * j)):=opI λ_ _ _ _ _ _ _ hc q=>mul_int q hc.ok
theorem bN:OpR X (YV .FloorDiv) (rI yI λi j=>.int (i / j)):=opI λi j _ _ _ _ _ hc q=>by
 have h1:(0:Int)<j:=hc.1;have h2:j<1073741824:=hc.2;exact floordiv_int (by lia) (by rw[Int.fdiv_eq_ediv_of_nonneg i (by lia)];exact q) (.inl (PyProof.noPylong_small (by lia)))
theorem bq:OpR X (YV .Mod) (rI (λ_ j=>0<j) λi j=>.int (i%j)):=opI λi j _ _ _ _ _ hc q=>by
 have h1:(0:Int)<j:=hc;exact mod_int' (by lia) (by rw[Int.fmod_eq_emod_of_nonneg i (by lia)];exact q)
theorem qb:OpR X (YV .Pow) (rI xQ λi j=>.int (i ^ j.toNat)):=opI λ_ _ _ _ _ _ _ hc q=>pow_int_small hc.1 hc.2.1 hc.2.2 q
theorem ue:OpR X (YV .LShift) (rI xQ λi j=>.int (i * 2 ^ j.toNat)):=opI λ_ _ _ _ _ _ _ hc q=>lshift_int_small hc.1 hc.2.1 hc.2.2 q
theorem wV:OpR X (YV .RShift) (rI (λ_ j=>0<=j) λi j=>.int (i / 2 ^ j.toNat)):=opI λi j _ _ _ _ _ hc q =>
 rshift_int hc (by rw[Int.fdiv_eq_ediv_of_nonneg i (qk _)];exact q)
theorem pL:OpR X (YV .BitAnd) (rI0 λi j=>.int (Xk i j)):=vj λ_ _ _ _ _ _ _ q=>and_int q
theorem yn:OpR X (YV .BitOr) (rI0 λi j=>.int (Ys i j)):=vj λ_ _ _ _ _ _ _ q=>or_int q
theorem unI{f:V8->Sem V8}{g:Int->Int}
 (rule:∀(i:Int)(t:Tok)(s:Wd)(Q:V8->Wd->Prop)(E:V8->Wd->Prop),Q (.int (g i) s.toks) {s with toks:=s.toks+1}->Ww (WN X.prog X.w) X.A (f (.int i t)) Q E s) :
 UnR X f (rU λi=>.int (g i)):=by
 intro Y s σ H x v Q I rx h;obtain⟨i,rfl,q⟩:=h;obtain⟨t,rfl⟩:=rx;exact rule i t s _ _ ⟨.int (g i),H,I.tok _,⟨_,rfl⟩,q⟩
theorem nh:UnR X (unaryOp .USub) (rU λi=>.int (-i)):=unI λ_ _ _ _ _ q=>neg_int q
theorem xf:UnR X (unaryOp .Invert) (rU λi=>.int (XF i)):=unI λ_ _ _ _ _ q=>invert_int q
end
def yE:V->V->Bool
 |.non,.non=>Bq|.non,.int _=>Bq|.int _,.non=>Bq|.non,.bl _=>Bq|.bl _,.non=>Bq|.non,.str _=>Bq|.str _,.non=>Bq
 |.int _,.int _=>Bq|.bl _,.bl _=>Bq|.str _,.str _=>Bq|.byt _,.byt _=>Bq
 |.int _,.str _=>Bq|.str _,.int _=>Bq|.bl _,.str _=>Bq|.str _,.bl _=>Bq
 |_,_=>C?
inductive xM(x:V)(y:V)(H:Hp)(Q:VK):Prop
 |mk  (Br:yE x y=Bq) (Bs:Q (.bl (decide (x=y))) H):xM  x y H Q
def rEq:R2:=xM
inductive yo(x:V)(y:V)(H:Hp)(Q:VK):Prop
 |mk  (Br:yE x y=Bq) (Bs:Q (.bl (!decide (x=y))) H):yo  x y H Q
def rNe:R2:=yo
theorem kh{i j:Int}:decide (o! i=o! j)=(i == j):=by
 rw[Bool.eq_iff_iff];simp
theorem tS{i j:Bool}:decide (V.bl i=V.bl j)=(i == j):=by
 rw[Bool.eq_iff_iff];simp
theorem qT{i j:WE}:decide (B! i=B! j)=(i == j):=by
 rw[Bool.eq_iff_iff];simp
theorem rn{i j:Array UInt8}:decide (V.byt i=V.byt j)=(i.toList == j.toList):=by
 rw[Bool.eq_iff_iff];cases i;cases j;simp
section
variable{X:Cx}{a b c:Xb}{ta tb tc:TE}
theorem bj{Q:VK}{k k':Bool}(I:Inv X Y σ H s)(q:Q (.bl k) H)(e:k=k'):EP X Y σ Q (.bool k') s:=by
 subst e;exact⟨.bl k,H,I,D?,q⟩
theorem cN:OpR X (Yk .Eq) rEq:=by
 intro Y s σ H x y v u Q I rx ry h;obtain⟨hs,q⟩:=h;cases x with
 | non =>
   cases rx;cases y with
   |non=>cases ry;exact PySem.EqNone.eq_none_none (bj I q (by simp))
   |bl j=>cases ry;exact PySem.EqNone.eq_none_bool (bj I q (by simp))
   |int j=>obtain⟨t',rfl⟩:=ry;exact PySem.EqNone.eq_none_int (bj I q (by simp))
   |str j=>obtain⟨t',rfl⟩:=ry;exact PySem.EqNone.eq_none_str (bj I q (by simp))
   |_=>exact g! (show C?=Bq from hs) Wz
 | bl i =>
   cases rx;cases y with
   |non=>cases ry;exact PySem.EqNone.eq_bool_none (bj I q (by simp))
   |bl j=>cases ry;exact eq_bool (bj I q tS)
   |str j=>obtain⟨t',rfl⟩:=ry;exact PySem.EqMixed.eq_bool_str (bj I q (by simp))
   |_=>exact g! (show C?=Bq from hs) Wz
 | int i =>
   obtain⟨t,rfl⟩:=rx;cases y with
   |non=>cases ry;exact PySem.EqNone.eq_int_none (bj I q (by simp))
   |int j=>obtain⟨t',rfl⟩:=ry;exact eq_int (bj I q kh)
   |str j=>obtain⟨t',rfl⟩:=ry;exact PySem.EqMixed.eq_int_str (bj I q (by simp))
   |_=>exact g! (show C?=Bq from hs) Wz
 | str i =>
   obtain⟨t,rfl⟩:=rx;cases y with
   |non=>cases ry;exact PySem.EqNone.eq_str_none (bj I q (by simp))
   |bl j=>cases ry;exact PySem.EqMixed.eq_str_bool (bj I q (by simp))
   |int j=>obtain⟨t',rfl⟩:=ry;exact PySem.EqMixed.eq_str_int (bj I q (by simp))
   |str j=>obtain⟨t',rfl⟩:=ry;exact eq_str (bj I q qT)
   |_=>exact g! (show C?=Bq from hs) Wz
 | byt i =>
   obtain⟨t,rfl⟩:=rx;cases y with
   |byt j=>obtain⟨t',rfl⟩:=ry;exact PySem.W.eq_bytes (bj I q rn)
   |_=>exact g! (show C?=Bq from hs) Wz
 |_=>cases y <;> exact g! (show C?=Bq from hs) Wz
theorem sZ:OpR X (Yk .NotEq) rNe:=by
 intro Y s σ H x y v u Q I rx ry h;obtain⟨hs,q⟩:=h;cases x with
 | non =>
   cases rx;cases y with
   |non=>cases ry;exact PySem.EqNone.ne_none_none (bj I q (by simp))
   |bl j=>cases ry;exact PySem.EqNone.ne_none_bool (bj I q (by simp))
   |int j=>obtain⟨t',rfl⟩:=ry;exact PySem.EqNone.ne_none_int (bj I q (by simp))
   |str j=>obtain⟨t',rfl⟩:=ry;exact PySem.EqNone.ne_none_str (bj I q (by simp))
   |_=>exact g! (show C?=Bq from hs) Wz
 | bl i =>
   cases rx;cases y with
   |non=>cases ry;exact PySem.EqNone.ne_bool_none (bj I q (by simp))
   |bl j=>cases ry;exact ne_bool (bj I q (h! not tS))
   |str j=>obtain⟨t',rfl⟩:=ry;exact PySem.EqMixed.ne_bool_str (bj I q (by simp))
   |_=>exact g! (show C?=Bq from hs) Wz
 | int i =>
   obtain⟨t,rfl⟩:=rx;cases y with
   |non=>cases ry;exact PySem.EqNone.ne_int_none (bj I q (by simp))
   |int j=>obtain⟨t',rfl⟩:=ry;exact ne_int (bj I q (h! not kh))
   |str j=>obtain⟨t',rfl⟩:=ry;exact PySem.EqMixed.ne_int_str (bj I q (by simp))
   |_=>exact g! (show C?=Bq from hs) Wz
 | str i =>
   obtain⟨t,rfl⟩:=rx;cases y with
   |non=>cases ry;exact PySem.EqNone.ne_str_none (bj I q (by simp))
   |bl j=>cases ry;exact PySem.EqMixed.ne_str_bool (bj I q (by simp))
   |int j=>obtain⟨t',rfl⟩:=ry;exact PySem.EqMixed.ne_str_int (bj I q (by simp))
   |str j=>obtain⟨t',rfl⟩:=ry;exact ne_str (bj I q (h! not qT))
   |_=>exact g! (show C?=Bq from hs) Wz
 | byt i =>
   obtain⟨t,rfl⟩:=rx;cases y with
   |byt j=>obtain⟨t',rfl⟩:=ry;exact PySem.W.ne_bytes (bj I q (h! not rn))
   |_=>exact g! (show C?=Bq from hs) Wz
 |_=>cases y <;> exact g! (show C?=Bq from hs) Wz
theorem gb:OpR X (Yk .Lt) (rI0 λi j=>.bl (decide (i<j))):=xg λ_ _ _ _ _ _ _ q=>lt_int q
theorem wt:OpR X (Yk .LtE) (rI0 λi j=>.bl (decide (i<=j))):=xg λ_ _ _ _ _ _ _ q=>le_int q
theorem uL:OpR X (Yk .Gt) (rI0 λi j=>.bl (decide (j<i))):=xg λ_ _ _ _ _ _ _ q=>gt_int q
theorem xu:OpR X (Yk .Is) (λx y H Q=>y=.non/\Q (.bl (decide (x=.non))) H):=by
 intro Y s σ H x y v u Q I rx ry h;obtain⟨rfl,q⟩:=h;cases ry;refine is_none_gen (bj I q ?_)
 cases x <;> first
  |(cases rx;rfl)
  |(obtain⟨t,rfl⟩:=rx;rfl)
theorem og:OpR X (Yk .IsNot) (λx y H Q=>y=.non/\Q (.bl (!decide (x=.non))) H):=by
 intro Y s σ H x y v u Q I rx ry h;obtain⟨rfl,q⟩:=h;cases ry;refine isnot_none_gen (bj I q ?_)
 cases x <;> first
  |(cases rx;rfl)
  |(obtain⟨t,rfl⟩:=rx;rfl)
theorem aN(b:Xb)(h:op≠.In:=by decide)(h2:op≠.NotIn:=by decide):behindInMarks op b=false:=by
 have e1:(op == CmpOp.In)=false:=by cases op <;> first|rfl|exact g! rfl h
 have e2:(op == CmpOp.NotIn)=false:=by cases op <;> first|rfl|exact g! rfl h2
 cases b <;> simp[behindInMarks,e1,e2]
theorem gL{r:R2}(ho:OpR X (Yk op) r)(ha:PE X a ta)(hb:PE X b tb)(hm:behindInMarks op b=C?):PE X (.Compare a [op] [b] pos) (tOp r ta tb):=by
 intro Y s σ H Q I h;exact wpAny_Compare1 (wG ha hb I h λv u s2 x y H2 I2 rx ry q=>ho Y s2 σ H2 x y v u Q I2 rx ry q) hm
inductive v8(x:V)(Q:Bool->Hp->Prop)(H':Hp):Prop
 |mk (k:Bool) (Br:x=.bl k) (Bs:Q k H'):v8 x Q H'
def mK(t:TE):TT:=λσ H Q=>t σ H λx H'=>v8 x Q H'
theorem aH{r:R2}(ho:OpR X (Yk op) r)(ha:PE X a ta)(hb:PE X b tb)(hm:behindInMarks op b=C?):PT X (.Compare a [op] [b] pos) (mK (tOp r ta tb)):=by
 intro Y s σ H Q I h
 refine wpAny_isTrue_Compare1 (thn (ha Y s σ H _ I h) λv s1⟨x,H1,I1,r1,q1⟩=>thn (hb Y s1 σ H1 _ I1 q1) λu s2⟨y,H2,I2,r2,q2⟩ =>
  thn (ho Y s2 σ H2 x y v u _ I2 r1 r2 q2) λc s3⟨z,H3,I3,r3,k,e,q3⟩=>?_) hm
 subst e;cases r3;exact Yy ⟨H3,I3,q3⟩
def wY(r r':R2)(ta tb tc:TE):TE:=λσ H Q=>ta σ H λx H1=>tb σ H1 λy H2=>r x y H2 λz H3=>∃k,z=.bl k /\
 (if k=Bq then tc σ H3 λw' H4=>r' y w' H4 Q else Q (.bl C?) H3)
theorem tU{LX:CmpOp}{r r':R2}(ho:OpR X (Yk op) r)(BC:OpR X (Yk LX) r')(ha:PE X a ta)(hb:PE X b tb)(hc:PE X c tc)
 (hm:lastMarks [op,LX] [b,c]=false:=by with_unfolding_all rfl):PT X (.Compare a [op,LX] [b,c] pos) (mK (wY r r' ta tb tc)):=by
 intro Y s σ H Q I h
 refine isTrue_chain (thn (ha Y s σ H _ I h) λv s1⟨x,H1,I1,r1,q1⟩=>test_link (thn (hb Y s1 σ H1 _ I1 q1) λu s2⟨y,H2,I2,r2,q2⟩ =>
  thn (ho Y s2 σ H2 x y v u _ I2 r1 r2 q2) λd s3⟨z,H3,I3,r3,k,e,q3⟩=>?_)) hm
 subst e;cases r3;refine Yy ?_;cases k with
 | false =>
   obtain⟨k',e',q'⟩:=q3;cases e';exact ite_ff ⟨H3,I3,q'⟩
 | true =>
   refine ite_tt (test_last (thn (hc Y s3 σ H3 _ I3 q3) λw' s4⟨z',H4,I4,r4,q4⟩=>thn (BC Y s4 σ H4 y z' u w' _ I4 r2 r4 q4) λd' s5⟨z2,H5,I5,r5,k2,e2,q5⟩=>?_));subst e2;cases r5;exact Yy ⟨H5,I5,q5⟩
def xS(K:Wf)(x:V)(H:Hp)(k:Bool):Prop :=
 match x with
 |.non=>k=C?
 |.bl b=>k=b
 |.int i=>k=(i != 0)
 |.str y=>y.length<=WD/\k=((y.length:Int) != 0)
 |.byt y=>y.size<=WD/\k=((y.size:Int) != 0)
 |.ref p=>(∃xs,SqL K H p xs/\k=!xs.isEmpty)\/(∃xs,SqT K H p xs/\k=!xs.isEmpty)\/∃kvs,H p=A? (.dK kvs)/\k=!kvs.isEmpty
 |_=>False
theorem qD{kvs:List (κ×V)}(r:KV kvs vs):(!vs.isEmpty)=!kvs.isEmpty:=by
 cases r <;> rfl
theorem kY(r:Vals xs its):(!its.toArray.isEmpty)=!xs.isEmpty:=by
 cases r <;> simp
theorem jA:(WD:Nat)<2 ^ 63:=by rw[Zw];decide
theorem xp:yQ X (λx H Q=>∃k,xS X.K x H k/\Q k H):=by
 intro Y s σ H x v Q I rx h;obtain⟨k,e,q⟩:=h;have hl:=jA;have hs:WD=16777216:=Zw;cases x with
 | non =>
   cases rx;have e':k=false:=e;subst e';exact truthy_none ⟨H,I,q⟩
 | bl b =>
   cases rx;have e':k=b:=e;subst e';exact Yy ⟨H,I,q⟩
 | int i =>
   obtain⟨t,rfl⟩:=rx;have e':k=(i != 0):=e;subst e';exact PySem.P.truthy_int ⟨H,I,q⟩
 | str y =>
   obtain⟨t,rfl⟩:=rx;obtain⟨hy,e'⟩:y.length<=WD/\k=((y.length:Int) != 0):=e;subst e';exact PySem.P.truthy_str (by lia) ⟨H,I.tok _,q⟩
 | byt y =>
   obtain⟨t,rfl⟩:=rx;obtain⟨hy,e'⟩:y.size<=WD/\k=((y.size:Int) != 0):=e;subst e';exact PySem.W.truthy_bytes (by lia) ⟨H,I.tok _,q⟩
 | ref p =>
   cases rx;have e':(∃xs,SqL X.K H p xs/\k=!xs.isEmpty)\/(∃xs,SqT X.K H p xs/\k=!xs.isEmpty)\/∃kvs,H p=A? (.dK kvs)/\k=!kvs.isEmpty:=e;rcases e' with⟨xs,hx,e'⟩|⟨xs,hx,e'⟩|⟨kvs,hx,e'⟩
   .subst e';obtain⟨its,r,pl,hz⟩:=I.list hx;have hlen:=r.length;exact wpAny_truthy_list pl.isList (by simp only[Wn];lia) ⟨H,I.tok _,by rw[kY r];exact q⟩
   .subst e';obtain⟨its,r,pl,hz⟩:=I.tuple hx;have hlen:=r.length;exact truthy_tuple pl (by simp only[Wn];lia) ⟨H,I.tok _,by rw[kY r];exact q⟩
   .subst e';obtain⟨hz,hS,vs,r,m⟩:kvs.length<=WD/\(p == XY)=C?/\∃vs,KV kvs vs/\s.1.DictOf (bw X.prog X.w) p vs:=I.hok p _ hx;have hlen:kvs.length=vs.length:=Wx r;exact wpAny_truthy_dict hS m (by lia) ⟨H,I.tok _,by rw[qD r];exact q⟩
 |_=>exact(show False from e).elim
theorem cr(ha:PE X a ta)(he:∀whole,isTrue a X.env whole=(do let v <-whole;standAt a.pos;holding [v] (truthy v))) :
 PT X a (λσ H Q=>ta σ H λx H'=>∃k,xS X.K x H' k/\Q k H'):=by
 intro Y s σ H Q I h;exact isTrue_plain (thn (ha Y s σ H _ I h) λv s1⟨x,H1,I1,r1,q1⟩=>xp Y s1 σ H1 x v Q I1 r1 q1) (he _)
theorem iK:OpR X (YV .Add) (λx y H Q=>∃i j,x=.str i/\y=.str j/\i.length+j.length<=WD/\Q (.str (i++j)) H):=by
 intro Y s σ H x y v u Q I rx ry h;obtain⟨i,j,rfl,rfl,hz,q⟩:=h;obtain⟨t,rfl⟩:=rx;obtain⟨t',rfl⟩:=ry;exact add_str (λt' tk=>⟨.str (i++j),H,I.tok _,⟨_,rfl⟩,q⟩) hz
theorem vals1{x:V}(r:Vals [x] us):∃u,us=[u]/\RelV x u:=by
 cases r with
 |cons r1 r2=>cases r2;exact⟨_,D?,r1⟩
theorem vals2{x:V}(r:Vals [x,y] us):∃u w',us=[u,w']/\RelV x u/\RelV y w':=by
 cases r with
 | cons r1 r2 =>
   cases r2 with
   |cons r3 r4=>cases r4;exact⟨_,_,D?,r1,r3⟩
theorem sP(hc:X.calm=Bq):hX X (.builtin "min") (λxs H Q=>∃i j,xs=[.int i,.int j]/\Q (.int (if j<i then j else i)) H):=by
 intro Y s σ H xs us Q I r h;obtain⟨i,j,rfl,q⟩:=h;obtain⟨u,w',rfl,⟨t,rfl⟩,⟨t',rfl⟩⟩:=vals2 r;refine min_two_ints (I.ok.hd hc) λh' tk k=>⟨_,H,I.kept k,?_,q⟩;by_cases hj:j<i
 .rw[b! hj,b! hj];exact⟨_,D?⟩
 .rw[a! hj,a! hj];exact⟨_,D?⟩
end
end L2
variable{r:L2.R2}
namespace L2
open PySem PySem.Spec PyProof.Rows
structure ObjM(h:Xp)(x dx C:V6)(mA:WE->Option V8):Prop where
 obj:h.get? x=A? (YI C dx)
 ns:h.Ns1 dx mA
 ne:dx≠x
theorem r9{dx:V6}{mA:WE->Option V8}(n:h.Ns1 dx mA):∃od,h.get? dx=A? od/\∀name,PySem.W.lookIn name od=A? (mA name):=by
 obtain⟨o,es,ep,ho,hd,hk,_,hm⟩:=n;refine⟨o,ho,λname=>?_⟩;have e:=hm name;unfold nsFind findBy at e;rw[<-Array.find?_toList]at e;unfold PySem.W.lookIn;rw[hd];dsimp only;split
 .rename_i y q
  rw[q]at e;exact h! A? e
 .rename_i q
  rw[q]at e
  have a:es.toList.any (·.refKey)=false:=by
   rw[List.any_eq_false];intro y hy;obtain⟨z,t,Bu⟩:=hk y (Array.mem_toList_iff.mp hy);simp[DictEntry.refKey,Bu]
  have a':¬es.toList.any (·.refKey)=true:=by rw[a];exact Wz
  rw[a! a'];exact h! A? e
theorem ObjM.look{x dx:V6}{mA:WE->Option V8}(I:ObjM h x dx C mA):∃od,PySem.W.InstAt h x (YI C dx) C (A? od)/\∀name,PySem.W.lookIn name od=A? (mA name) :=
 let⟨od,ho,hl⟩:=r9 I.ns
 ⟨od,⟨I.obj,rfl,rfl,ho⟩,hl⟩
section
variable{x dx:V6}{mA:WE->Option V8}{v:V8}
theorem get_map{expr:Bool}(X:K.In s.1)(I:ObjM s.1 x dx C mA)(hg:PySem.W.plainGet K C name=Bq)(hh:PySem.W.hasDictIn K C=Bq)
 (ha:X5 K (.ref C) name=A? B?) (hv:mA name=A? v) (De:PySem.W.handedIn v=Bq) (h:Q v {s with toks:=s.toks+1}) :
 Ww (WN prog w) A (getAttr (.ref x) name expr) Q E s:=by
 obtain⟨od,J,hl⟩:=I.look;exact PySem.W.get_value X J (PySem.W.plainGet_of hg).1 (PySem.W.findObj_own hh ha rfl (by rw[hl,hv])) De h
theorem tj{pl:Sem Bool}{Q:V8×List V8->Wd->Prop}(X:K.In s.1)(I:ObjM s.1 x dx C mA)(hg:PySem.W.plainGet K C name=Bq)
 (hf:X5 K (.ref C) name=A? (A? (.ref f))) (ht:PySem.W.isFn K (.ref f)=Bq) (hv:mA name=B?) (h:Q (.ref f,[.ref x]) s) :
 Ww (WN prog w) A (getMethod (.ref x) name pl) Q E s:=by
 obtain⟨od,J,hl⟩:=I.look;exact PySem.W.method_fn X J (PySem.W.plainGet_of hg).1 (PySem.W.plainGet_of hg).2 hf (beq_iff_eq.mp ht) (by show(PySem.W.lookIn name od).map (·.isSome)=A? C?;rw[hl,hv];rfl) h
theorem vC{ns:List WE}{Q:Unit->Wd->Prop}(X:K.In s.1)(I:ObjM s.1 x dx C mA)
 (hs:X5 K (.ref C) "__setattr__"=A? (A? (.builtin "object.__setattr__"))) (hp:PySem.W.plainOver K C=Bq) (ht:PySem.W.takerIn K C name=A? B?) (hh:PySem.W.hasDictIn K C=Bq)
 (hw:PySem.Within mA ns) (hsz:ns.length<=WD)
 (h:∀h',ObjM h' x dx C (λy=>if y=name then A? v else mA y)->XA dx s.1 h'->Q () {s with heap:=h',toks:=s.toks+2}) :
 Ww (WN prog w) A (setAttr (.ref x) name v) Q E s:=by
 obtain⟨od,J,hl⟩:=I.look;refine PySem.W.set_plain X J hs (PySem.W.osa_open (s:={s with toks:=s.toks+1}) (r:=B?) X J hp ht λb=>?_);obtain⟨cd,hc,HV⟩:=PySem.W.any_some hh;have hx:s.1.get? x=A? ⟨.ref C,A? dx,.plain,#[]⟩:=I.obj;refine V3 (Wa (V3 (V3 (wpAny_loadPart hx (V3 (PySem.W.Looks.here (s:={s with toks:=s.toks+1}) (PySem.W.looks_clsIn X hc) ?_))))));rw[HV];refine Wa (a:=A? dx) (V3 (Wa (V3 ?_)));refine wpAny_nsSet1 (s:={s with toks:=s.toks+1}) I.ns λh' KO OY=>?_;obtain⟨oD,Ve,Vf,Ra,Rb,Rc⟩:=KO.count (PySem.Within.cons name v hw);refine V3 (wpAny_lookBehind Ra (by rw[Rb];exact pastItsLine_dict (Xa Rc (by rw[Wq];lia))) ?_);exact Wa (h _ ⟨(OY.2 _ (Yc I.ne)).trans I.obj,KO,I.ne⟩ OY)
theorem tQ{R:Result->Wd->Prop}{vs:List V8}(X:K.In s.1)(hm:PySem.W.makesIn K C=Bq)
 (hi:X5 K (.ref C) "__init__"=A? (A? (.ref f))) (hf:PySem.W.typeIn K (.ref f)=A? (.type "function"))
 (h:Zt (WN prog w) (A.under (.builtin "type.__call__" ⟨.ref C::vs,kw⟩)) (.call (.ref f) ⟨.ref (s.1.1.size+1)::vs,kw⟩) (PySem.W.InitBack (s.1.1.size+1) R)
  {s with heap:=(s.1.push Yg).push (YI C s.1.1.size)}) :
 Zt (WN prog w) A (.call (.ref C) ⟨vs,kw⟩) R s:=by
 obtain⟨hh,g,d,t,os⟩:=s;exact PySem.W.make_core (PySem.W.makes_of X hm) (PySem.W.looks_findIn X hi) (λself=>PySem.W.bind_fn X self hf) (.inl rfl) h
end
def aO(f:WE)(v:V):List (WE×V)->List (WE×V)
 | []=>[(f,v)]
 |(g,x)::r=>if g=f then(g,v)::r else(g,x)::aO f v r
theorem jZ(f g:WE)(v:V):∀fs:List (WE×V),(aO f v fs).lookup g=if g=f then A? v else fs.lookup g
 | []=>by
   show ZK g [(f,v)]=_;by_cases h:g=f
   .have hb:(g == f)=true:=beq_iff_eq.mpr h;simp only[ZK,hb,b! h]
   .have hb:(g == f)=false:=beq_eq_false_iff_ne.mpr h;simp only[ZK,hb,a! h]
 | (k,x)::r=>by
   have ih:=jZ f g v r;rw[show aO f v ((k,x)::r)=(if k=f then(k,v)::r else(k,x)::aO f v r)from rfl];by_cases hk:k=f
   .rw[b! hk];by_cases h:g=k
    .have hb:(g == k)=true:=beq_iff_eq.mpr h;simp only[ZK,hb,b! (h.trans hk)]
    .have hb:(g == k)=false:=beq_eq_false_iff_ne.mpr h;simp only[ZK,hb,a! (λe:g=f=>h (e.trans hk.symm))]
   .rw[a! hk];by_cases h:g=k
    .have hb:(g == k)=true:=beq_iff_eq.mpr h;simp only[ZK,hb,a! (λe:g=f=>hk (h.symm.trans e))]
    .have hb:(g == k)=false:=beq_eq_false_iff_ne.mpr h;simp only[ZK,hb];exact ih
theorem jO(f:WE)(v:V):∀fs:List (WE×V),f∈(aO f v fs).map (·.1)/\∀g,g∈fs.map (·.1)->g∈(aO f v fs).map (·.1)
 | []=>⟨by simp[aO],λg h=>by simp at h⟩
 | (k,x)::r=>by
   obtain⟨i1,i2⟩:=jO f v r;rw[show aO f v ((k,x)::r)=(if k=f then(k,v)::r else(k,x)::aO f v r)from rfl];by_cases hk:k=f
   .rw[b! hk];subst hk;exact⟨by simp,λg h=>by simpa using h⟩
   .rw[a! hk];refine⟨?_,λg h=>?_⟩
    .rw[WH];exact Wo _ i1
    .rw[WH]at h |-;rcases Wr.mp h with e|e
     .exact Wr.mpr (.inl e)
     .exact Wo _ (i2 g e)
theorem j5(f:WE)(v:V):∀fs:List (WE×V),(aO f v fs).length<=fs.length+1
 | []=>by simp[aO]
 | (k,x)::r=>by
   have ih:=j5 f v r;rw[show aO f v ((k,x)::r)=(if k=f then(k,v)::r else(k,x)::aO f v r)from rfl];by_cases hk:k=f
   .rw[b! hk,Wq,Wq];lia
   .rw[a! hk,Wq,Wq];lia
theorem RelO.some_of{o:Option V8}(r:RelO (A? v) o):∃u,o=A? u/\RelV v u:=by
 cases o with
 |none=>exact(show False from r).elim
 |some u=>exact⟨u,D?,r⟩
theorem RelO.none_of{o:Option V8}(r:RelO B? o):o=none:=by
 cases o with
 |none=>rfl
 |some u=>exact(show False from r).elim
theorem sy(r:RelV v u):PySem.W.handedIn u=true:=by
 cases v with
 |non=>cases(show u=XH from r);rfl
 |bl b=>cases(show u=Value.bool b from r);rfl
 |int i=>obtain⟨t,e⟩:=(show∃t,u=Value.int i t from r);cases e;rfl
 |str x=>obtain⟨t,e⟩:=(show∃t,u=Value.str x t from r);cases e;rfl
 |byt b=>obtain⟨t,e⟩:=(show∃t,u=Value.bytes b t from r);cases e;rfl
 |flt b=>obtain⟨t,e⟩:=(show∃t,u=Value.float b t from r);cases e;rfl
 |ref a=>cases(show u=W3 a from r);rfl
 |ty n=>cases(show u=Zl n from r);rfl
section
variable{dx:V6}{fs Q5:List (WE×V)}
theorem nT(hok:HOk P w H h)(e:H a=A? (.ins C dx fs)):∃mA,ObjM h a dx C mA/\(∀f,RelO (fs.lookup f) (mA f))/\PySem.Within mA (fs.map (·.1))/\fs.length<=1000/\H dx=A? (.own a):=by
 obtain⟨d,z,ne,ob,mA,n,r,q⟩:=(show ObjOk P w H h a (.ins C dx fs)from hok a _ e);exact⟨mA,⟨ob,n,ne⟩,r,q,z,d⟩
end
structure Cls(K:Wf)(C:V6):Prop where
 pg:PySem.W.plainGet K C Str.empty=Bq
 hd:PySem.W.hasDictIn K C=Bq
 po:PySem.W.plainOver K C=Bq
 sa:X5 K (.ref C) "__setattr__"=A? (A? (.builtin "object.__setattr__"))
theorem Cls.get(c:Cls K C)(f:WE):PySem.W.plainGet K C f=true:=c.pg
def NoAttr(K:Wf)(C:V6)(f:WE):Prop:=X5 K (.ref C) f=A? B?
theorem NoAttr.taker{f:WE}(n:NoAttr K C f):PySem.W.takerIn K C f=A? none:=by
 unfold PySem.W.takerIn;rw[show X5 K (.ref C) f=A? B? from n];rfl
structure Meth(K:Wf)(C:V6)(m:WE)(f:V6):Prop where
 at_:X5 K (.ref C) m=A? (A? (.ref f))
 fn:PySem.W.isFn K (.ref f)=Bq
 kp:YW K (.ref f)=Bq
section
variable{X:Cx}{dx:V6}{fs:List (WE×V)}{f:WE}
theorem qc{b:Bool}(I:Inv X Y σ H s)(e:H a=A? (.ins C dx fs))(c:Cls X.K C)(n:NoAttr X.K C f)(l:fs.lookup f=A? v)
 (h:∀u s',Inv X Y σ H s'->RelV v u->Q u s'):Ww (WN X.prog X.w) A (getAttr (.ref a) f b) Q E s:=by
 obtain⟨mA,O,r,_,_,_⟩:=nT I.hok e;obtain⟨u,hu,ru⟩:=RelO.some_of (v:=v) (o:=mA f) (by rw[<-l];exact r f);exact get_map I.kIn O (c.get f) c.hd n hu (sy ru) (h u _ (I.tok _) ru)
theorem kq{m:WE}{g:V6}{pl:Sem Bool}{Q:V8×List V8->Wd->Prop}(I:Inv X Y σ H s)(e:H a=A? (.ins C dx fs))(c:Cls X.K C)(k:Meth X.K C m g)(l:fs.lookup m=B?)
 (h:Q (.ref g,[.ref a]) s):Ww (WN X.prog X.w) A (getMethod (.ref a) m pl) Q E s:=by
 obtain⟨mA,O,r,_,_,_⟩:=nT I.hok e;have hn:mA m=none:=RelO.none_of (by rw[<-l];exact r m);exact tj I.kIn O (c.get m) k.at_ k.fn hn h
theorem qx{Q:Unit->Wd->Prop}(I:Inv X Y σ H s)(e:H a=A? (.ins C dx fs))(c:Cls X.K C)(n:NoAttr X.K C f)(hl:fs.length<1000)(ry:RelV y u)
 (h:∀s',Inv X Y σ (upd H a (.ins C dx (aO f y fs))) s'->Q () s'):Ww (WN X.prog X.w) A (setAttr (.ref a) f u) Q E s:=by
 obtain⟨mA,O,r,wi,_,ho⟩:=nT I.hok e;have hz:(fs.map (·.1)).length<=WD:=by rw[V2,Zw];lia
 refine vC I.kIn O c.sa c.po n.taker c.hd wi hz λh' O' sb=>h _ ?_;have hd:∃o,h'.get? dx=A? o:=let⟨o,_,_,e',_⟩:=O'.ns;⟨o,e'⟩
 refine I.write (x:=a) (e:=dx) (by rw[e];exact ZH) (.inr ho) (λb q hb z=>(sb.2 b hb).trans z) hd ?_;refine⟨by rw[aj O.ne];exact ho,?_,O.ne,O'.obj,_,O'.ns,λg=>?_,λg hg=>?_⟩
 .have:=j5 f y fs;lia
 .show RelO ((aO f y fs).lookup g) (if g=f then A? u else mA g);rw[jZ];by_cases q:g=f
  .rw[b! q,b! q];exact ry
  .rw[a! q,a! q];exact r g
 .by_cases q:g=f
  .rw[q];exact(jO f y fs).1
  .refine(jO f y fs).2 g (wi g λz=>hg ?_);show(if g=f then A? u else mA g)=B?;rw[a! q];exact z
theorem Inv.made(I:Inv X Y σ H s):Inv X Y σ (upd (upd H s.1.1.size (.own (s.1.1.size+1))) (s.1.1.size+1) (.ins C s.1.1.size []))
 {s with heap:=(s.1.push Yg).push (YI C s.1.1.size)}:=by
 have e1:(s.1.push Yg).get? s.1.1.size=A? Yg:=Wh s.1 rfl
 have e2:((s.1.push Yg).push (YI C s.1.1.size)).get? (s.1.1.size+1)=A? (YI C s.1.1.size):=by
  have:=Wh (s.1.push Yg) (o:=YI C s.1.1.size) rfl
  rwa [Xw]at this
 have e3:(s.1.push Yg).Ns s.1.1.size (λ_=>B?):=⟨Yg,#[],_,e1,rfl,(λe he=>g! he (by simp)),λ_=>rfl⟩;have I1:=I.laid (a:=s.1.1.size) (o:=.own (s.1.1.size+1)) (h':=s.1.push Yg) (t':=s.toks) (λb u q=>V9 _ q) (Wc _) ⟨_,e1⟩;refine I1.laid (a:=s.1.1.size+1) (o:=.ins C s.1.1.size []) (t':=s.toks) (λb u q=>V9 _ q) (Nat.le_of_eq (Xw _ _)) ?_;have ne:s.1.1.size≠s.1.1.size+1:=WT (Nat.lt_succ_self _);refine⟨by rw[aj ne,ac],WY _,ne,e2,λ_=>B?,(Heap.Ns1.of_empty e3).at λo q=>V9 _ q,λ_=>ZH,λy hy=>g! rfl hy⟩
theorem uZ{f:WE}(hb:ZN e f env (Yd e env)=Yd e env)
 (h:Ww (WN prog w) A (Yd e env) (λo l'=>Ww (WN prog w) A (getAttr o f Bq) Q E l') E s):Ww (WN prog w) A (Yd (.Attribute e f pos) env) Q E s :=
 Attribute_any_ h (by rw[arm_eval_Attribute,hb])
end
def xZ(K:Wf)(ta:TE)(f:WE):TE:=λσ H Q=>ta σ H λx H1=>∃a C dx fs v,x=.ref a/\H1 a=A? (.ins C dx fs)/\Cls K C/\NoAttr K C f/\fs.lookup f=A? v/\Q v H1
def yR(K:Wf)(ta tv:TE)(f:WE):TS:=λD σ H=>tv σ H λy H1=>ta σ H1 λx H2=>∃a C dx fs,x=.ref a/\H2 a=A? (.ins C dx fs)/\Cls K C/\NoAttr K C f/\fs.length<1000 /\
 D.nx σ (upd H2 a (.ins C dx (aO f y fs)))
section
variable{X:Cx}{o value:Xb}{f:WE}{LY:Zb}{ta tv:TE}
theorem bB(he:PE X e ta)(hb:ZN e f X.env (Yd e X.env)=Yd e X.env):PE X (.Attribute e f pos) (xZ X.K ta f):=by
 intro Y s σ H Q I h;refine uZ hb (thn (he Y s σ H _ I h) λu s1⟨x,H1,I1,rx,a,C,dx,fs,v,ex,ea,c,n,l,q⟩=>?_);subst ex;obtain rfl:u=W3 a:=rx;exact qc I1 ea c n l λu' s2 I2 ru=>⟨v,H1,I2,ru,q⟩
theorem gh(ha:PE X o ta)(hv:PE X value tv)(hs:swapsWith value (A? (.Attribute o f pos')) pos.line X.env=pure C?):PS X (.Assign [.Attribute o f pos'] value pos) (yR X.K ta tv f):=by
 intro Y s σ H D I h;refine plainObj_wpAny_Assign_Attribute (thn (hv Y s σ H _ I h) λu s1⟨y,H1,I1,ry,q⟩=>thn (ha Y s1 σ H1 _ I1 q) λov s2⟨x,H2,I2,rx,a,C,dx,fs,ex,ea,c,n,l,q2⟩=>?_) hs;subst ex;obtain rfl:ov=W3 a:=rx;exact qx I2 ea c n l ry λs3 I3=>⟨σ,_,I3,q2⟩
end
section
variable{X:Cx}{c:V8}{b:Bool}
end
structure Room(k:Nat)(A:W5):Prop where
 hd:A.handled=B?
 dp:A.depth+3 * k+5<recursionLimit
 un:A.units+16 * k+200<Zx
theorem Room.mono{k:Nat}(r:Room k A)(h:j<=k):Room j A:=⟨r.hd,by have:=r.dp;lia,by have:=r.un;lia⟩
theorem Room.deeper{k:Nat}(r:Room (k+1) A)(env:Env):Room k (A.deeper env) :=
 ⟨r.hd,by have:=r.dp;show A.depth+1+3 * k+5<_;lia,by have:=r.un;show A.units+3+16 * k+200<_;lia⟩
theorem Room.in1{k:Nat}(r:Room (k+1) A):Room k A.in1 :=
 ⟨r.hd,by have:=r.dp;show A.depth+3 * k+5<_;lia,by have:=r.un;show A.units+1+16 * k+200<_;lia⟩
theorem qB:(A.under (.builtin "type.__call__" ⟨.ref C::us,kw⟩)).depth=A.depth+1:=by
 first|rfl|simp[Around.under,Code.weight,Code.isCreation,Code.isGuard,Code.isCaller,Code.frames,Code.isFrame,guardIds]
theorem qg:(A.under (.builtin "type.__call__" ⟨.ref C::us,kw⟩)).units=A.units+1:=by
 first|rfl|simp[Around.under,Code.cUnits,Code.frames,Code.isFrame]
theorem Room.make{k:Nat}(r:Room (k+1) A)(C:V6)(us:List V8)(kw:List (WE×V8)):Room k (A.under (.builtin "type.__call__" ⟨.ref C::us,kw⟩)) :=
 ⟨r.hd,by have:=r.dp;rw[qB];lia,by have:=r.un;rw[qg];lia⟩
theorem Room.depth{k:Nat}(r:Room k A):A.depth<recursionLimit:=by have:=r.dp;lia
theorem Room.units{k:Nat}(r:Room k A):A.units+64<Zx:=by have:=r.un;lia
def iT:TA:=λ_ H Q=>Q [] H
def cD(ta:TE)(tr:TA):TA:=λσ H Q=>ta σ H λx H1=>tr σ H1 λxs H2=>Q (x::xs) H2
section
variable{X:Cx}{es:List Xb}{te:TE}{t:TA}
theorem af:PA X [] iT:=λ_ _ _ _ H Q I h=>YA ⟨[],H,I,.nil,h⟩
theorem aa(ha:PE X e te)(hr:PA X es t)(hs:W6 (e::es) X.env=(C?,Yd e X.env)::W6 es X.env:=by rfl):PA X (e::es) (cD te t):=by
 intro pos Y s σ H Q I h;rw[hs];show Ww _ _ (spliced ((C?,Yd e X.env)::Y1 pos (W6 es X.env))) _ _ s;refine Ye (thn (ha Y s σ H _ I h) λu s1⟨x,H1,I1,r1,q1⟩=>?_);exact thn (hr pos Y s1 σ H1 _ I1 q1) λus s2⟨xs,H2,I2,r2,q2⟩=>⟨x::xs,H2,I2,.cons r1 r2,q2⟩
def xV(t:TA):TE:=λσ H Q=>t σ H λxs H1=>xs.length<=WD/\∀p,H1 p=B?->Q (.ref p) (upd H1 p (.tup xs))
def xY(t:TA):TE:=λσ H Q=>t σ H λxs H1=>xs.length<=WD/\∀p,H1 p=B?->Q (.ref p) (upd H1 p (.lst xs))
theorem aW{x1}(h:PA X es t):PE X (.Tuple es x1 pos) (xV t):=by
 intro Y s σ H Q I hq;refine wpAny_Tuple_spliced (thn (h pos Y s σ H _ I hq) λus s1⟨xs,H1,I1,r,z,q⟩=>⟨by rw[<-r.length];exact z,?_⟩);have hf:H1 s1.1.1.size=none:=I1.hok.fresh (Wc _);refine⟨.ref s1.1.1.size,upd H1 s1.1.1.size (.tup xs),I1.laid (t':=s1.toks) (λb u e=>V9 _ e) (Wc _) ?_,D?,q _ hf⟩;exact⟨z,us,0,r,Wh _ rfl⟩
theorem bV(h:PA X es t):PE X (.List es pos) (xY t):=by
 intro Y s σ H Q I hq;refine wpAny_List_spliced (thn (h pos Y s σ H _ I hq) λus s1⟨xs,H1,I1,r,z,q⟩=>⟨by rw[<-r.length];exact z,?_⟩);have hf:H1 s1.1.1.size=none:=I1.hok.fresh (Wc _);refine⟨.ref s1.1.1.size,upd H1 s1.1.1.size (.lst xs),I1.laid (t':=s1.toks) (λb u e=>V9 _ e) (Wc _) ?_,D?,q _ hf⟩;exact⟨z,us,0,r,Wh _ rfl⟩
end
abbrev Sp:=List V->Hp->VK->XK->Prop
abbrev CXT:=List Env->Hp->Wd->XK->V8->Wd->Prop
structure Env0(P:WJ)(w:W0)(K:Wf)(mg:WE->Option V8)(base:Xp)(A:W5)(outer:List Env)(s:Wd)(H:Hp):Prop where
 frames:A.frames=A? outer
 mod:Mod K mg base
 bs:∀b o,base.get? b=A? o->s.1.get? b=A? o/\H b=B?
 bsz:base.objs.size<=s.1.1.size
 funs:s.1.FunFrames base outer
 frf:∀b∈frs outer,H b=B?
 hok:HOk P w H s.1
 bare:AllBare s.gens
def CE(outer:List Env)(P:WJ)(w:W0)(H:Hp)(s:Wd)(Q:VK)(u:V8)(s':Wd):Prop :=
 ∃v H',s'.os=s.os/\AllBare s'.gens/\Un (frs outer) [] H H' s.1 s'.1/\HOk P w H' s'.1/\RelV v u/\Q v H'
def CR(CX:CXT)(outer:List Env)(P:WJ)(w:W0)(H:Hp)(s:Wd)(Q:VK)(E:XK)(r:Result)(s':Wd):Prop :=
 match r with
 |.ok (.ret u)=>CE outer P w H s Q u s'
 |.ok _=>False
 |.error e=>CX outer H s E e s'
structure bp(P:WJ)(w:W0)(K:Wf)(mg:WE->Option V8)(base:Xp)(CX:CXT)(k:Nat)(f:V6)(fd:YO)(ps:List WE)(sp:Sp):Prop where
 len:∀vs H Q E,sp vs H Q E->vs.length=ps.length
 run:∀(A:W5)(outer:List Env)(s:Wd)(H:Hp)(args:Args)(us:List V8)(vs:List V)(Q:VK)(E:XK),Room k A->Env0 P w K mg base A outer s H->BindsTo s fd args (ps.zip us)->Vals vs us->sp vs H Q E ->
  Zt (WN P w) A (.call (.ref f) args) (CR CX outer P w H s Q E) s
theorem Env0.make(e:Env0 P w K mg base A outer s H)(C:V6)(us:List V8)(kw:List (WE×V8)) :
 Env0 P w K mg base (A.under (.builtin "type.__call__" ⟨.ref C::us,kw⟩)) outer s H:=⟨by first|exact e.frames|(simpa[Around.under,Code.envs,Code.isFrame,pushEnvs]using e.frames),e.mod,e.bs,e.bsz,e.funs,e.frf,e.hok,e.bare⟩
theorem Env0.in1(e:Env0 P w K mg base A outer s H) :
 Env0 P w K mg base A.in1 outer s H:=⟨e.frames,e.mod,e.bs,e.bsz,e.funs,e.frf,e.hok,e.bare⟩
section
variable{X:Cx}
theorem Inv.env0(I:Inv X Y σ H s):Env0 X.prog X.w X.K X.mg X.base X.A X.stack s H :=
 ⟨I.ok.frames,I.ok.mod,I.bs,Xa I.ok.bsz I.sz,I.stack,I.stkFree,I.hok,I.bare⟩
theorem Inv.after{Q:VK}(I:Inv X Y σ H s)(h:CE X.stack X.prog X.w H s Q u s'):EP X Y σ Q u s':=by
 obtain⟨v,H',os,bare,un,hok,r,q⟩:=h;obtain⟨hh,g,d,t,Rf⟩:=s';obtain rfl:Rf=s.os:=os;exact⟨v,H',I.call (h':=hh) (g':=g) (d':=d) (t':=t) (ch:=[]) un hok bare (λb z=>g! z (by simp)),r,q⟩
end
def ig(sp:Sp)(Aj:List V)(E:XK)(t:TA):TE:=λσ H Q=>t σ H λvs H1=>sp (vs++Aj) H1 Q E
def vZ(C:V6)(m:WE)(sp:Sp)(Aj:List V)(E:XK)(ta:TE)(t:TA):TE:=λσ H Q=>ta σ H λx H1=>∃a dx fs,x=.ref a/\H1 a=A? (.ins C dx fs)/\fs.lookup m=B? /\
 t σ H1 λvs H2=>sp (x::(vs++Aj)) H2 Q E
def yg(C:V6)(sp:Sp)(Aj:List V)(E:XK)(t:TA):TE:=λσ H Q=>t σ H λvs H1=>∀x dx,H1 x=B?->H1 dx=B?->dx≠x ->
 sp (.ref x::(vs++Aj)) (upd (upd H1 dx (.own x)) x (.ins C dx [])) (λv H2=>v=.non/\Q (.ref x) H2) E
def Binds(K:Wf)(fd:YO)(ps:List WE)(ds:List V8):Prop :=
 ∀(s:Wd)(us:List V8),K.In s.1->(us++ds).length=ps.length->BindsTo s fd ⟨us,[]⟩ (ps.zip (us++ds))
theorem Binds.all(h:∀us:List V8,us.length=ps.length->bindArgs fd ⟨us,[]⟩=pure (ps.zip us)):Binds K fd ps []:=λs us _ hl=>by
 rw[ZG]at hl |-;exact .of_eq (h us hl)
def Passes(CX:CXT)(X:Cx)(E:XK):Prop:=∀(Y:List (V6×X6))(σ:St)(H:Hp)(s:Wd)(e:V8)(s':Wd),Inv X Y σ H s->CX X.stack H s E e s'->X.xe e s'
section
variable{X:Cx}{CX:CXT}{k:Nat}{sp:Sp}{Aj:List V}{ds:List V8}{E:XK}{m:WE}{p apos:Zb}{o:Xb}{es:List Xb}{ta:TE}{t:TA}
theorem pP{Q:VK}{vs:List V}(F:bp X.prog X.w X.K X.mg X.base CX k f fd ps sp)(hr:Room k X.A)(hb:Binds X.K fd ps ds)(hd:Vals Aj ds)(hx:Passes CX X E)
 (I:Inv X Y σ H s) (r:Vals vs us) (h:sp (vs++Aj) H Q E):Ww (WN X.prog X.w) X.A (call (.ref f) us) (EP X Y σ Q) X.xe s:=by
 have r2:Vals (vs++Aj) (us++ds):=r.append hd;have hl:(us++ds).length=ps.length:=by rw[<-r2.length];exact F.len _ _ _ _ h
 refine wpAny_call (codeAny_mono (F.run X.A X.stack s H ⟨us,[]⟩ (us++ds) (vs++Aj) Q E hr I.env0 (hb s us I.kIn hl) r2 h) λr s' hq=>?_);cases r with
 |error e=>exact hx Y σ H s e s' I hq
 | ok fl =>
   cases fl with
   |ret u=>exact I.after hq
   |next=>exact X9 hq
   |brk=>exact X9 hq
   |cont=>exact X9 hq
theorem cX(F:bp X.prog X.w X.K X.mg X.base CX k f fd ps sp)(hr:Room k X.A)(hg:Gl X x)(hm:X.mg x=A? (.ref f))(hk:YW X.K (.ref f)=Bq)(hb:Binds X.K fd ps ds)(hd:Vals Aj ds)(hx:Passes CX X E)
 (ha:PA X (e::es) t) (Dw:(x == ("__debug__":WE))=false:=by decide) (he:W6 (e::es) X.env=(C?,Yd e X.env)::W6 es X.env:=by rfl) (Ax:(Y1 pos (W6 es X.env)).any (·.1)=false:=by rfl) :
 PE X (.Call (.Name x p) (e::es) [] pos) (ig sp Aj E t):=by
 intro Y s σ H Q I h;refine Xz (iL I hg hm ?_ Dw);refine PySem.W.callWith_K (h₀:=X.base) I.ok.mod.kin hk (thn (ha pos Y s σ H _ I h) λus s1⟨vs,H1,I1,r,q⟩=>⟨I1.kIn,?_⟩) he Ax;exact pP F hr hb hd hx I1 r q
theorem fK{pl:Sem Bool}(he:PE X o ta)(c:Cls X.K C)(hm:Meth X.K C m f)(F:bp X.prog X.w X.K X.mg X.base CX k f fd ps sp)(hr:Room k X.A)(hb:Binds X.K fd ps ds)(hd:Vals Aj ds)(hx:Passes CX X E)(ha:PA X (e::es) t)
 (zM:W6 (e::es) X.env=(C?,Yd e X.env)::W6 es X.env:=by rfl) (Ax:(Y1 pos (W6 es X.env)).any (·.1)=false:=by rfl)
 (ht:Yd (.Call (.Attribute o m apos) (e::es) [] pos) X.env=(do
  let ov <-Yd o X.env
  standAt apos.atName
  let(f,first) <-holding [ov] (getMethod ov m pl)
  callWith pos f first (Y1 pos (W6 (e::es) X.env)) (backToKw pos (keywordEach [] X.env))):=by rfl) :
 PE X (.Call (.Attribute o m apos) (e::es) [] pos) (vZ C m sp Aj E ta t):=by
 intro Y s σ H Q I h;refine PySem.W.methodCall_KW (pl:=pl) (thn (he Y s σ H _ I h) λu s1⟨x,H1,I1,rx,a,dx,fs,ex,ea,l,q⟩=>?_) ht;subst ex;obtain rfl:u=W3 a:=rx;refine kq I1 ea c hm l ?_;refine PySem.W.callWith_K (first:=[.ref a]) (h₀:=X.base) I.ok.mod.kin hm.kp (thn (ha pos Y s1 σ H1 _ I1 q) λus s2⟨vs,H2,I2,r,q2⟩=>⟨I2.kIn,?_⟩) zM Ax;exact pP (us:=.ref a::us) (vs:=.ref a::vs) F hr hb hd hx I2 (.cons rfl r) q2
theorem jn{pl:Sem Bool}(he:PE X o ta)(c:Cls X.K C)(hm:Meth X.K C m f)(F:bp X.prog X.w X.K X.mg X.base CX k f fd ps sp)(hr:Room k X.A)(hb:Binds X.K fd ps ds)(hd:Vals Aj ds)(hx:Passes CX X E)
 (ht:Yd (.Call (.Attribute o m apos) [] [] pos) X.env=(do
  let ov <-Yd o X.env
  standAt apos.atName
  let(f,first) <-holding [ov] (getMethod ov m pl)
  callWith pos f first (Y1 pos (W6 [] X.env)) (backToKw pos (keywordEach [] X.env))):=by rfl) :
 PE X (.Call (.Attribute o m apos) [] [] pos) (vZ C m sp Aj E ta iT):=by
 intro Y s σ H Q I h;refine PySem.W.methodCall_KW (pl:=pl) (thn (he Y s σ H _ I h) λu s1⟨x,H1,I1,rx,a,dx,fs,ex,ea,l,q⟩=>?_) ht;subst ex;obtain rfl:u=W3 a:=rx;refine kq I1 ea c hm l ?_;exact PySem.W.callWith_K0 (first:=[.ref a]) I1.kIn hm.kp (pP (us:=[.ref a]) (vs:=[.ref a]) F hr hb hd hx I1 (.cons rfl .nil) q)
structure Mk(K:Wf)(C f:V6):Prop where
 makes:PySem.W.makesIn K C=Bq
 init:X5 K (.ref C) "__init__"=A? (A? (.ref f))
 fn:PySem.W.isFn K (.ref f)=Bq
 kp:YW K (.ref C)=Bq
theorem uM{Q:VK}{vs:List V}(M:Mk X.K C f)(F:bp X.prog X.w X.K X.mg X.base CX k f fd ps sp)(hr:Room (k+1) X.A)(hb:Binds X.K fd ps ds)(hd:Vals Aj ds)
 (hx:Passes CX X E) (I:Inv X Y σ H s) (r:Vals vs us)
 (h:∀x dx,H x=B?->H dx=B?->dx≠x->sp (.ref x::(vs++Aj)) (upd (upd H dx (.own x)) x (.ins C dx [])) (λv H2=>v=.non/\Q (.ref x) H2) E) :
 Ww (WN X.prog X.w) X.A (call (.ref C) us) (EP X Y σ Q) X.xe s:=by
 have hq:=h (s.1.1.size+1) s.1.1.size (I.hok.fresh (Nat.le_succ _)) (I.hok.fresh (Wc _)) (WT (Nat.lt_succ_self _));have I2:=Inv.made (C:=C) I;have r2:Vals (k! (s.1.1.size+1)::(vs++Aj)) (W3 (s.1.1.size+1)::(us++ds)):=.cons rfl (r.append hd)
 have hl:(W3 (s.1.1.size+1)::us++ds).length=ps.length:=by
  have e:=r2.length;rw[F.len _ _ _ _ hq]at e;exact e.symm
 refine wpAny_call (tQ (f:=f) I.kIn M.makes M.init (beq_iff_eq.mp M.fn) (codeAny_mono (F.run _ X.stack _ _ ⟨W3 (s.1.1.size+1)::us,[]⟩ (W3 (s.1.1.size+1)::(us++ds)) _ _ E (hr.make C us [])
  (I2.env0.make C us []) (hb _ (W3 (s.1.1.size+1)::us) I2.kIn hl) r2 hq) λr s' AS=>?_))
 cases r with
 |error e=>exact hx Y σ _ _ e s' I2 AS
 | ok fl =>
   cases fl with
   | ret u =>
     obtain⟨v,H',I3,rv,ev,q3⟩:=I2.after AS;subst ev;exact⟨rv,⟨k! (s.1.1.size+1),H',I3,D?,q3⟩⟩
   |next=>exact X9 AS
   |brk=>exact X9 AS
   |cont=>exact X9 AS
theorem rC(M:Mk X.K C f)(F:bp X.prog X.w X.K X.mg X.base CX k f fd ps sp)(hr:Room (k+1) X.A)(hg:Gl X x)(hm:X.mg x=A? (.ref C))(hb:Binds X.K fd ps ds)(hd:Vals Aj ds)(hx:Passes CX X E)
 (ha:PA X (e::es) t) (Dw:(x == ("__debug__":WE))=false:=by decide) (he:W6 (e::es) X.env=(C?,Yd e X.env)::W6 es X.env:=by rfl) (Ax:(Y1 pos (W6 es X.env)).any (·.1)=false:=by rfl) :
 PE X (.Call (.Name x p) (e::es) [] pos) (yg C sp Aj E t):=by
 intro Y s σ H Q I h;refine Xz (iL I hg hm ?_ Dw);refine PySem.W.callWith_K (h₀:=X.base) I.ok.mod.kin M.kp (thn (ha pos Y s σ H _ I h) λus s1⟨vs,H1,I1,r,q⟩=>⟨I1.kIn,?_⟩) he Ax;exact uM M F hr hb hd hx I1 r q
end
section
variable{X:Cx}{CX:CXT}{k:Nat}{ks:List WE}{sp:Sp}{E:XK}{m:WE}{p apos Rg:Zb}{o:Xb}{es:List Xb}{Vg:List Keyword}{te ta:TE}{t tk:TA}{nm:Option WE}
variable{g:List V8->List V8->List V8}{gV:List V->List V->List V}
end
structure bX(N P:List WE)(sc:Y2):Prop where
 kind:sc.kind=.function
 co:sc.isCoroutine=C?
 gen:sc.isGenerator=C?
 nd:N.Nodup
 pre:N.take P.length=P
 par:∀x∈P,sc.names.lookup x=A? .local\/sc.names.lookup x=A? .cell
 nofree:∀y∈sc.names,y.2≠.free
theorem mx:∀{binds:List (WE×V8)}{m:WE->Option V8},(∀v,(x,v)∉binds)->bindL kindOf binds m x=m x
 | [],_,_=>rfl
 | (n,v)::r,m,h=>by
   unfold bindL;rw[mx λw hw=>h w (Wo _ hw)];split
   .have:x≠n:=by rintro rfl;exact h v Wj
    simp[this]
   .rfl
theorem mG:∀{binds:List (WE×V8)}{m:WE->Option V8},(∀v,(x,v)∉binds)->bindC kindOf binds m x=m x
 | [],_,_=>rfl
 | (n,v)::r,m,h=>by
   unfold bindC;rw[mG λw hw=>h w (Wo _ hw)];split
   .rfl
   .have:x≠n:=by rintro rfl;exact h v Wj
    simp[this]
theorem mV{v:V8}:∀{P:List WE}{vs:List V8}{i:Nat}{m:WE->Option V8},P.Nodup->P[i]?=A? x->vs[i]?=A? v->kindOf x=A? .local ->
 bindL kindOf (P.zip vs) m x=A? v
 | [],_,_,_,_,h,_,_=>by simp at h
 |_::_,[],_,_,_,_,h,_=>by simp at h
 | p::P,w::vs,0,m,nd,h1,h2,hk=>by
   simp at h1 h2;subst h1;subst h2;show bindL kindOf ((p,w)::P.zip vs) m p=_;unfold bindL;rw[mx λv hv=>(Xf.mp nd).1 (ZC hv).1,b! hk];simp
 | p::P,w::vs,i+1,m,nd,h1,h2,hk=>by
   show bindL kindOf ((p,w)::P.zip vs) m x=_;unfold bindL;exact mV (i:=i) (Xf.mp nd).2 (by simpa using h1) (by simpa using h2) hk
theorem mS{v:V8}:∀{P:List WE}{vs:List V8}{i:Nat}{m:WE->Option V8},P.Nodup->P[i]?=A? x->vs[i]?=A? v->kindOf x≠A? .local ->
 bindC kindOf (P.zip vs) m x=A? v
 | [],_,_,_,_,h,_,_=>by simp at h
 |_::_,[],_,_,_,_,h,_=>by simp at h
 | p::P,w::vs,0,m,nd,h1,h2,hk=>by
   simp at h1 h2;subst h1;subst h2;show bindC kindOf ((p,w)::P.zip vs) m p=_;unfold bindC;rw[mG λv hv=>(Xf.mp nd).1 (ZC hv).1,a! hk];simp
 | p::P,w::vs,i+1,m,nd,h1,h2,hk=>by
   show bindC kindOf ((p,w)::P.zip vs) m x=_;unfold bindC;exact mS (i:=i) (Xf.mp nd).2 (by simpa using h1) (by simpa using h2) hk
def start(N:List WE)(vs:List V):St:=vs.map A?++W7 (N.length - vs.length) B?
def kb(CX:CXT)(P:WJ)(w:W0)(K:Wf)(mg:WE->Option V8)(base:Xp)(N:List WE)(qual:WE)(scope:Y2)(f:V6)(cd:V8)(A:W5)(outer:List Env)(s:Wd)(H:Hp)(E:XK):Cx where
 prog:=P
 w:=w
 K:=K
 mg:=mg
 base:=base
 A:=A.deeper (YZ qual scope s.1.1.size f cd)
 N:=N
 s₀:=s
 H₀:=H
 env:=YZ qual scope s.1.1.size f cd
 outer:=outer
 stack:=YZ qual scope s.1.1.size f cd::outer
 ex:=[]
 calm:=Bq
 fn:=λ_=>Bq
 pn:=[]
 xe:=λe s'=>Ww (WN P w) (A.deeper (YZ qual scope s.1.1.size f cd)) (leaving (YZ qual scope s.1.1.size f cd) e) (λ_ Ia=>CX outer H s E e Ia) (λe' Ia=>CX outer H s E e' Ia) s'
theorem oK(h:sc.names.lookup x=A? .cell):∃c,(cellsFrom n sc.names []).lookup x=A? c:=by
 have q:=PySem.W.cellsFrom_some sc.names n [] (.inl h);exact Option.isSome_iff_exists.mp q
theorem sF{CX:CXT}{cd:V8}{s1:Wd}{E:XK}{vs:List V}
 (S:bX N ps scope) (hd:A.handled=B?) (e0:Env0 P w K mg base A outer s H) (hl:vs.length=ps.length) (r:Vals vs us)
 (x:InCallC s s.1.1.size (bindL (YZ qual scope s.1.1.size f cd).kindOf (ps.zip us) λ_=>B?) (cellsFrom (s.1.1.size+1) scope.names []) (bindC (YZ qual scope s.1.1.size f cd).kindOf (ps.zip us) λ_=>B?) s1) :
 Inv (kb CX P w K mg base N qual scope f cd A outer s H E) [] (start N vs) H s1:=by
 have Ax:ps.length<=N.length:=by have:=h! XG S.pre;rw[W9]at this;lia
 obtain⟨h1,tk,rfl,hk⟩:=x.done;have LZ:∀b:V6,b∉(kb CX P w K mg base N qual scope f cd A outer s H E).ex:=λb z=>g! (show b∈([]:List V6)from z) (by simp)
 refine⟨⟨e0.mod,S.kind,D?,D?,Wc _,λy z c h1 h2=>?_,λy hy=>?_,λy c _ h=>?_,λ_=>hd,Around.frames_deeper e0.frames,.inr ⟨D?,D?⟩,λb z=>g! z (LZ b),e0.bs,e0.bsz,λb _ _=>LZ b,λb z=>g! z (LZ b),e0.funs,e0.frf⟩,
  rfl,e0.bare,Un.kept hk,⟨_,x.toInCall.ns,λi y v h1 h2 h3=>?_⟩,λy c h=>⟨_,x.cell y c h⟩,e0.hok.fresh (Wc _),λy c h=>?_,λp hp=>g! (show p∈([]:List (V6×X6))from hp) (by simp),e0.hok.kept hk,?_⟩
 .exact name_of_addr x.apart (X2 h1) (X2 h2)
 .have hy:scope.names.lookup y=A? .cell\/scope.names.lookup y=A? .free:=hy;rcases hy with hy|hy
  .exact oK hy
  .exact g! rfl (S.nofree _ (X2 hy))
 .exact Yi (x.above y c (X2 h))
 .have hi:i<vs.length:=by
   unfold start at h2;by_cases hi:i<vs.length
   .exact hi
   .rw[W4 (by simpa using hi)]at h2;rw[List.getElem?_replicate]at h2;split at h2 <;> cases h2
  have ha:vs[i]?=A? v:=by
   unfold start at h2;rw[WS (by simpa using hi),V7]at h2;cases e:vs[i]? with
   |none=>rw[e]at h2;cases h2
   |some a=>rw[e]at h2;cases h2;rfl
  obtain⟨u,hu,rv⟩:=r.get ha
  have hp:ps[i]?=A? y:=by
   rw[<-S.pre,List.getElem?_take_of_lt (by lia)];exact h1
  have KP:ps.Nodup:=by rw[<-S.pre];exact S.nd.sublist (List.take_sublist _ _)
  refine⟨u,rv,?_⟩;rcases S.par y (V5 hp)with k|k
  .exact .inl ⟨k,mV KP hp hu k⟩
  .obtain⟨c,e⟩:=oK (n:=s.1.1.size+1) k;refine .inr ⟨.inl k,c,e,?_⟩;have q:=x.cell y c e;rw[mS KP hp hu (by show scope.names.lookup y≠_;rw[k];decide)]at q;exact q
 .exact e0.hok.fresh (Yi (x.above y c (X2 h)))
 .unfold start;show _=N.length;rw[Wk,V2,List.length_replicate];lia
theorem t4{CX:CXT}{k:Nat}{dV kV doc pm zh ct oc:V8}{an od:Option V6}
 {Ed:Array (Option V8)} {sp:Sp} (lk:K.lookup f=A? ⟨oc,od,.func (PySem.W.fnOf name qual params body scope dV kV doc pm an zh ct),Ed⟩) (AD:PySem.W.codeIn K zh qual=Bq) (S:bX N ps scope)
 (len:∀vs H Q E,sp vs H Q E->vs.length=ps.length)
 (zN:∀(A:W5)(outer:List Env)(s:Wd)(H:Hp)(vs:List V)(Q:VK)(E:XK),Room k (A.deeper (YZ qual scope s.1.1.size f zh))->sp vs H Q E ->
  ∃t,PSs (kb CX P w K mg base N qual scope f zh A outer s H E) body t/\t {nx:=λ_ H'=>Q .non H',rt:=Q} (start N vs) H) :
 bp P w K mg base CX (k+1) f (PySem.W.fnOf name qual params body scope dV kV doc pm an zh ct) ps sp:=by
 refine⟨len,λA outer s H args us vs Q E hr e0 hb r Bb=>?_⟩;have hl:=len _ _ _ _ Bb;have KX:K.In s.1:=e0.mod.kin.keeps λb o e=>(e0.bs b o e).1;have lim:s.1.NoLimit:=e0.mod.nolimit.keeps λb o e=>(e0.bs b o e).1
 have Ib:∀y∈ps.zip us,scope.names.lookup y.1=A? .local\/(scope.names.lookup y.1=A? .cell/\((cellsFrom (s.1.1.size+1) scope.names []).lookup y.1).isSome=Bq):=λ⟨n,v⟩hy=>by
  rcases S.par n (ZC hy).1 with q|q
  .exact .inl q
  .exact .inr ⟨q,PySem.W.cellsFrom_some _ _ _ (.inl q)⟩
 refine codeAny_call_function hr.depth (KX _ _ lk) rfl S.co S.gen rfl (PySem.W.codeRec_of KX AD) (hb _ _ _ _ ?_);refine wpAny_newFunctionEnv_cells S.kind Ib λenv he s1 x=>?_;subst he;refine⟨lim.keeps x.toInCall.keep,codeAny_func ?_⟩;obtain⟨t,ht,hq⟩:=zN A outer s H vs Q E (hr.deeper _) Bb;have I:Inv (kb CX P w K mg base N qual scope f zh A outer s H E) [] (start N vs) H s1:=sF S hr.hd e0 hl r x;refine XX (ht [] s1 (start N vs) H _ I hq) (λfl s' hs=>?_) λe s' hs=>hs
 have fin:∀{i':St}{H':Hp}{v:V}{u:V8},Inv (kb CX P w K mg base N qual scope f zh A outer s H E) [] i' H' s'->RelV v u->Q v H'->CE outer P w H s Q u s' :=
  λ{i' H' v u}J rv q=>⟨v,H',J.os,J.bare,J.base,J.hok,rv,q⟩
 cases fl with
 | ret u =>
   obtain⟨v,i',H',J,rv,q⟩:=hs;exact fin J rv q
 | next =>
   obtain⟨i',H',J,q⟩:=hs;exact fin (v:=V.non) (u:=XH) J rfl q
 | brk =>
   obtain⟨_,_,_,q⟩:=hs;exact X9 q
 | cont =>
   obtain⟨_,_,_,q⟩:=hs;exact X9 q
end L2
variable{CX:L2.CXT}{sp:L2.Sp}
namespace L2
open PySem PySem.Spec PyProof.Rows
section
variable{X:Cx}{p:Zb}{es:List Xb}{t:TA}{id T:String}{r:List V->Hp->VK->Prop}
def tCB(r:List V->Hp->VK->Prop)(t:TA):TE:=λσ H Q=>t σ H λvs H1=>r vs H1 Q
theorem aB(hc:hX X (.builtin id) r)(hg:Gl X x)(hm:X.mg x=B?)(hv:bootBuiltins x=A? (.builtin id))(ha:PA X (e::es) t)(hn:x≠"__name__":=by decide)(Dw:(x == ("__debug__":WE))=false:=by decide)
 (he:W6 (e::es) X.env=(C?,Yd e X.env)::W6 es X.env:=by rfl) (Ax:(Y1 pos (W6 es X.env)).any (·.1)=false:=by rfl):PE X (.Call (.Name x p) (e::es) [] pos) (tCB r t):=by
 intro Y s σ H Q I h;refine Xz (d9 I hg hm hv ?_ hn Dw);exact PyProof.Rows.callWith_builtin1 (thn (ha pos Y s σ H _ I h) λus s1⟨vs,H1,I1,r1,q1⟩=>hc Y s1 σ H1 vs us Q I1 r1 q1) he Ax
theorem bT(hc:hX X (.type T) r)(hg:Gl X x)(hm:X.mg x=B?)(hv:bootBuiltins x=A? (.type T))(ha:PA X (e::es) t)(hn:x≠"__name__":=by decide)(Dw:(x == ("__debug__":WE))=false:=by decide)
 (he:W6 (e::es) X.env=(C?,Yd e X.env)::W6 es X.env:=by rfl) (Ax:(Y1 pos (W6 es X.env)).any (·.1)=false:=by rfl):PE X (.Call (.Name x p) (e::es) [] pos) (tCB r t):=by
 intro Y s σ H Q I h;refine Xz (d9 I hg hm hv ?_ hn Dw);exact Xu (thn (ha pos Y s σ H _ I h) λus s1⟨vs,H1,I1,r1,q1⟩=>hc Y s1 σ H1 vs us Q I1 r1 q1) he Ax
end
end L2
namespace HT
open PySem PyProof.Rows
def lexLt:List Int->List Int->Bool
 | [],[]=>C?
 | [],_::_=>Bq
 |_::_,[]=>C?
 |x::xs,y::ys=>if x=y then lexLt xs ys else decide (x<y)
theorem lexLt_cons(x y:Int)(xs ys:List Int):lexLt (x::xs) (y::ys)=if x=y then lexLt xs ys else decide (x<y):=rfl
theorem lexLt_nil_nil:lexLt [] []=false:=rfl
theorem lexLt_nil_cons(y:Int)(ys:List Int):lexLt [] (y::ys)=true:=rfl
theorem lexLt_cons_nil(x:Int)(xs:List Int):lexLt (x::xs) []=false:=rfl
theorem eqAt_int(A:W5)(s:Wd)(a:Int)(t:Tok)(c:Int)(u:Tok):∃e,SeqAt.EqAt A s (.int a t) (.int c u) e/\(e=Bq↔a=c) :=
 ⟨(a == c),SeqAt.EqAt.int_int a t c u,by simp⟩
theorem rcLt_int(A:W5)(s:Wd)(a:Int)(t:Tok)(c:Int)(u:Tok)(prog:WJ)(w:W0)(E:V8->Wd->Prop)(Q:V8->Wd->Prop)(h:Q (.bool (decide (a<c))) s) :
 Ww (WN prog w) A (richCompare .Lt (.int a t) (.int c u)) Q E s :=
 (PyProof.Rows.lt_int h:Ww (WN prog w) A (Yk .Lt (.int a t) (.int c u)) Q E s)
section
open PySem.SeqAt
open PySem.AutoSeq1 (wpAny_loadPart')
open PySem.MeetsSeq PySem.MeetsSeq2 PySem.MeetsSeq3
theorem tuple_lt_ints(l b:V6)(items zj:Array V8)(n n2:Nat)(dd Cu:Option V6)(sl Cv:Array (Option V8))(ns ms:List Int)(hi:IntsAre items.toList ns)(hj:IntsAre zj.toList ms) :
 Meets (Y6.«tuple.__lt__» ⟨[.ref l,.ref b],[]⟩)
  (λ_ R s=>s.1.get? l=A? {cls:=.type "tuple",dict:=dd,data:=.seq items n,slots:=sl}/\s.1.get? b=A? {cls:=.type "tuple",dict:=Cu,data:=.seq zj n2,slots:=Cv} /\
   R (.ok (.ret (.bool (lexLt ns ms)))) s) :=
 .of_wp λprog w A R s h=>by
  obtain⟨hp,g,d,tk,os⟩:=s;obtain⟨hl,hb,h⟩:=h;have f2:=AutoSeq1.sub_tuple_tuple;have z1:items.size=ns.length:=by rw[<-hi.length];simp
  have z2:zj.size=ms.length:=by rw[<-hj.length];simp
  wp_walk using wpAny_loadPart' hl,wpAny_loadPart' hb,wpAny_forIn_list _ (λrest b s'=>b.1=B?/\s'=⟨hp,g,d,tk,os⟩/\∃(vs ws:List V8)(G3 G5:List Int),rest=vs.zip ws /\
   IntsAre vs G3/\IntsAre ws G5/\G3.length+zj.size=G5.length+items.size/\R (.ok (.ret (.bool (lexLt G3 G5)))) ⟨hp,g,d,tk,os⟩) _
  case turn =>
   rintro⟨y,x⟩ rest b s' ⟨zJ,rfl,vs,ws,G3,G5,hz,L0,KQ,hlen,hR⟩;cases L0 with
   |nil=>rw[List.zip_nil_left]at hz;cases hz
   | cons a t L1 =>
     cases KQ with
     |nil=>rw[List.zip_nil_right]at hz;cases hz
     | cons c u L3 =>
       rw[ZI]at hz;injection hz with Ic BH;injection Ic with hy hx;subst hy hx;rw[lexLt_cons]at hR;simp only[Wq]at hlen;obtain⟨e,he,Ie⟩:=eqAt_int A.in1 ⟨hp,g,d,tk,os⟩ a t c u;refine V3 (he prog w _ _ ?_);cases e with
       | true =>
         rw[b! (Ie.mp rfl)]at hR
         wp_walk
         exact⟨D?,D?,_,_,_,_,BH,L1,L3,by lia,hR⟩
       | false =>
         rw[a! (λq=>g! (Ie.mpr q) Wz)]at hR;have Ig:=rcLt_int A.in1 ⟨hp,g,d,tk,os⟩ a t c u prog w
         wp_walk using Ig
         exact⟨_,D?,by simpa using hR⟩
  case fin =>
   rintro⟨b1,b2⟩ s' ⟨zJ,rfl,vs,ws,G3,G5,hz,L0,KQ,hlen,hR⟩;simp only at zJ;subst zJ
   have hv:lexLt G3 G5=decide (items.size<zj.size):=by
    cases L0 with
    | nil =>
      cases KQ with
      | nil =>
        simp only[Za]at hlen;rw[lexLt_nil_nil];exact(c! (by lia)).symm
      | cons c u hw =>
        simp only[Za,Wq]at hlen;rw[lexLt_nil_cons];exact(d! (by lia)).symm
    | cons a t hv =>
      cases KQ with
      | nil =>
        simp only[Za,Wq]at hlen;rw[lexLt_cons_nil];exact(c! (by lia)).symm
      | cons c u hw =>
        rw[ZI]at hz;cases hz
   rw[hv]at hR
   wp_walk
   exact⟨_,D?,by simpa[Builtin.Tuple.tupleCompareSizes]using hR⟩
  case h =>
   exact⟨D?,D?,items.toList,zj.toList,ns,ms,D?,hi,hj,by lia,h⟩
end
theorem lt_tupInts{zj:Array V8}{ms:List Int}(hl:IsTup s.1 l items)(hb:IsTup s.1 b zj)(hi:IntsAre items.toList ns)(hj:IntsAre zj.toList ms)
 (hu:A.units<Zx) (h:Q (.bool (lexLt ns ms)) s):Ww (WN prog w) A (Yk .Lt (.ref l) (.ref b)) Q E s:=by
 obtain⟨⟨cls,dd,data,sl⟩,ho,hc,n,hd⟩:=id hl;obtain⟨⟨EB,Cu,data2,Cv⟩,CO,Bj,n2,hd2⟩:=id hb;simp only at hc hd Bj hd2;subst hc hd Bj hd2
 exact richCompare_meets_room (op:=.Lt) ⟨_,ho,rfl⟩ ⟨_,CO,rfl⟩ PySem.F.slot_tuple_lt PySem.F.entry_tuple_lt (PySem.F.args_tuple_lt_2 _ _) (tuple_lt_ints l b items zj n n2 dd Cu sl Cv ns ms hi hj)
  ⟨ho,CO,show Value.bool (lexLt ns ms)≠Value.notImplemented/\Q (.bool (lexLt ns ms)) s from⟨(λx=>nomatch x),h⟩⟩ hu
theorem cat_tup{t:V6}{vs ws:List V8}(ht:IsTup s.1 t vs.toArray)(hb:IsTup s.1 b ws.toArray)(hv:vs≠[])
 (h1:ws=[]->Q (.ref t) s) (h2:ws≠[]->Q (.ref s.1.1.size) {s with heap:=s.1.push {cls:=.type "tuple",data:=.seq (vs++ws).toArray}})
 (hsz:vs.length+ws.length<=WD):Ww (WN prog w) A (YV .Add (.ref t) (.ref b)) Q E s:=by
 obtain⟨⟨cls,dd,data,sl⟩,ho,hc,n,hd⟩:=id ht;obtain⟨⟨EB,Cu,data2,Cv⟩,CO,Bj,n2,hd2⟩:=id hb;simp only at hc hd Bj hd2;subst hc hd Bj hd2;have e:vs.toArray++ws.toArray=(vs++ws).toArray:=by simp
 by_cases hw:ws=[]
 .exact concat_meets ⟨_,ho,rfl⟩ ⟨_,CO,rfl⟩ noFill_tuple_add seq_tuple_add PySem.F.slot_tuple_add PySem.F.entry_tuple_add (PySem.F.args_tuple_add_2 _ _)
   (tuple_addW1 t b vs.toArray ws.toArray n n2 dd Cu sl Cv (by simpa using hv) (by simp[hw])) ⟨ho,CO,h1 hw⟩
 .refine concat_meets ⟨_,ho,rfl⟩ ⟨_,CO,rfl⟩ noFill_tuple_add seq_tuple_add PySem.F.slot_tuple_add PySem.F.entry_tuple_add (PySem.F.args_tuple_add_2 _ _)
   (tuple_addW2 t b vs.toArray ws.toArray n n2 dd Cu sl Cv (by simpa using hv) (by simpa using hw) (by rw[Wn,Wn];exact hsz)) ⟨ho,CO,?_⟩
  rw[e];exact h2 hw
def sIx(n d:Nat):Option Int->Nat
 |none=>d
 |some v=>if v<0 then(v+(n:Int)).toNat else min v.toNat n
theorem sIx_none(n d:Nat):sIx n d B?=d:=rfl
theorem sIx_nat(n d k:Nat):sIx n d (A? (k:Int))=min k n:=by
 show(if(k:Int)<0 then((k:Int)+(n:Int)).toNat else min (k:Int).toNat n)=min k n;rw[a! (by lia),Wl]
theorem sIx_le(n d:Nat)(hd:d<=n)(o:Option Int):sIx n d o<=n:=by
 cases o with
 |none=>exact hd
 | some v =>
   show(if v<0 then(v+(n:Int)).toNat else min v.toNat n)<=n;by_cases hv:v<0
   .rw[b! hv];lia
   .rw[a! hv];exact Nat.min_le_right _ _
theorem clip_eq(v:Int)(n d:Nat):(if v<0 then max (v+(n:Int)) 0 else min v (n:Int))=((sIx n d (A? v):Nat):Int):=by
 show(if v<0 then max (v+(n:Int)) 0 else min v (n:Int))=(((if v<0 then(v+(n:Int)).toNat else min v.toNat n):Nat):Int);by_cases hv:v<0
 .simp only[b! hv];lia
 .simp only[a! hv];lia
theorem adjust_gen(lo hi:Option Int)(n:Nat):YR lo hi 1 (n:Int)=(((sIx n 0 lo:Nat):Int),((sIx n n hi:Nat):Int)):=by
 have h1:¬((1:Int)<0):=by lia
 unfold YR;simp only[h1,if_false];refine Prod.ext ?_ ?_
 .cases lo with
  |none=>rfl
  |some v=>exact clip_eq v n 0
 .cases hi with
  |none=>rfl
  |some v=>exact clip_eq v n n
theorem places_gen(i j:Nat):XR (i:Int) (j:Int) 1=j - i:=by
 unfold XR;have h1:(1:Int) > 0:=by lia
 simp only[h1,if_true,Int.ediv_one];split <;> lia
theorem slicePart_{v:V8}{o:Option Int}{Q:Option Int->Wd->Prop}(p:IsPart v o)(h:Q o s):Ww (WN prog w) A (Builtin.Slice.slicePartIndex v) Q E s:=by
 cases p with
 |none=>exact slicePart_none h
 |int i t=>exact slicePart_int h
theorem sliceApplied_gen{Q:Int×Int×Nat->Wd->Prop}(hs:s.1.IsSliceOf sl vl vu .none)(pl:IsPart vl lo)(pu:IsPart vu hi)
 (h:Q (((sIx n 0 lo:Nat):Int),1,sIx n n hi - sIx n 0 lo) s):Ww (WN prog w) A (Zz (.ref sl) (pure (n:Int))) Q E s:=by
 obtain⟨os,BI,Fc,AU⟩:=id hs;unfold Zz Builtin.Slice.sliceFields;refine V3 (V3 (Xe BI AU (x:=vl) rfl (V3 (Xe BI AU (x:=vu) rfl (V3 (Xe BI AU (x:=.none) rfl (Wa ?_)))))));refine V3 (slicePart_none ?_);show Ww _ _ (if((1:Int) == 0)=Bq then _ else _) _ _ s;rw[a! (by decide)];refine V3 (slicePart_ pl (V3 (slicePart_ pu (V3 (Wa ?_)))));show Ww _ _ (match YR lo hi 1 (n:Int)with|(lo,hi)=>pure (lo,(1:Int),XR lo hi 1)) _ _ s;rw[adjust_gen lo hi n];show Ww _ _ (pure (((sIx n 0 lo:Nat):Int),(1:Int),XR ((sIx n 0 lo:Nat):Int) ((sIx n n hi:Nat):Int) 1)) _ _ s;rw[places_gen];exact Wa h
theorem pick_gen(xs:Array V8)(i k:Nat):((XS k).filterMap λ(m:Nat)=>xs[((i:Int)+(m:Int) * 1).toNat]?).toArray=((xs.toList.drop i).take k).toArray:=by
 have e:(λ(m:Nat)=>xs[((i:Int)+(m:Int) * 1).toNat]?)=λm=>xs[i+m]?:=by
  funext m;have:((i:Int)+(m:Int) * 1).toNat=i+m:=by lia
  rw[this]
 rw[e];have:=pick_run xs i k;rw[List.filterMap_map]at this;have e2:((λx=>xs[x]?) ∘ λx=>i+x)=λm=>xs[i+m]?:=rfl;rw[e2]at this;rw[this]
theorem getItem_tuple_cut{t:V6}(ht:IsTup s.1 t items)(hs:s.1.IsSliceOf sl vl vu .none)(pl:IsPart vl lo)(pu:IsPart vu hi)
 (hw:¬(sIx items.size 0 lo=0/\sIx items.size items.size hi=items.size))
 (h:Q (.ref s.1.1.size) {s with heap:=s.1.push {cls:=.type "tuple",data:=.seq ((items.toList.drop (sIx items.size 0 lo)).take (sIx items.size items.size hi - sIx items.size 0 lo)).toArray}})
 (hsz:items.size<=WD):Ww (WN prog w) A (Z3 (.ref t) (.ref sl)) Q E s:=by
 have Ag:sizeOk (.seq ((items.toList.drop (sIx items.size 0 lo)).take (sIx items.size items.size hi - sIx items.size 0 lo)).toArray):=by
  show((items.toList.drop (sIx items.size 0 lo)).take (sIx items.size items.size hi - sIx items.size 0 lo)).toArray.size<=WD;rw[Wn,W9,Xm,WO];lia
 have hj:sIx items.size items.size hi<=items.size:=sIx_le _ _ (Wc _) hi;obtain⟨os,BI,Fc,AU⟩:=id hs;have Ih:s.TypeIs (.ref sl) "slice":=⟨os,BI,Fc⟩;unfold Z3
 try with_reducible refine Xq ?_
 first|refine V3 (Wa ?_)|skip
 refine V3 (wpAny_sequenceKey ht.typeIs (by decide) ?_)
 refine V3 (Xi (name:=Wb "__getitem__") ht.typeIs Xg
  (Xl Xg ht.typeIs entry_tuple_getitem ?_ (args_tuple_getitem _ _)))
 show Ww _ _ (Builtin.Tuple.tupleItemsOf (.ref t) >>= _) _ _ s;refine V3 (tupleItemsOf_ ht ?_);refine V3 (Z0 Ih ?_);rw[b! (by decide)];refine V3 (sliceApplied_gen hs pl pu ?_)
 have zt:¬((((sIx items.size 0 lo:Nat):Int) == 0 && (1:Int) == 1 && (sIx items.size items.size hi - sIx items.size 0 lo) == items.size)=Bq):=by
  intro q;rw[Yl,Yl]at q;have q1:((sIx items.size 0 lo:Nat):Int)=0:=eq_of_beq q.1.1;have q2:sIx items.size items.size hi - sIx items.size 0 lo=items.size:=eq_of_beq q.2;exact hw ⟨by lia,by lia⟩
 show Ww _ _ (if(((sIx items.size 0 lo:Nat):Int) == 0 && (1:Int) == 1 && (sIx items.size items.size hi - sIx items.size 0 lo) == items.size)=Bq then _ else _) _ _ s;rw[a! zt,pick_gen]
 first
  |exact V3 (m:=XT _) (Xc (Wa ⟨_,rfl,Wa h⟩) Ag)
  |exact V3 (m:=XT _) (Xc (V3 (Wa (Wa ⟨_,rfl,Wa h⟩))) Ag)
  |exact V3 (V3 (m:=XT _) (Xc (Wa (Wa ⟨_,rfl,Wa h⟩)) Ag))
  |exact V3 (V3 (m:=XT _) (Xc (Wa ⟨_,rfl,Wa h⟩) Ag))
end HT
open HT renaming sIx->q!,sIx_nat->w!,lexLt->G!,lexLt_cons->N!
namespace L2
open PySem PySem.Spec PyProof.Rows
abbrev TO:=St->Hp->(Option Int->Hp->Prop)->Prop
def PO(X:Cx)(e:Option Xb)(t:TO):Prop :=
 ∀(Y:List (V6×X6))(s:Wd)(σ:St)(H:Hp)(Q:Option Int->Hp->Prop),Inv X Y σ H s->t σ H Q ->
   Ww (WN X.prog X.w) X.A (evalPart e X.env) (λu s'=>∃o H',Inv X Y σ H' s'/\IsPart u o/\Q o H') X.xe s
def vy:TO:=λ_ H Q=>Q B? H
inductive vW(x:V)(Q:Option Int->Hp->Prop)(H1:Hp):Prop
 |mk (i:Int) (Br:x=.int i) (Bs:Q (A? i) H1):vW x Q H1
def wk(t:TE):TO:=λσ H Q=>t σ H λx H1=>vW x Q H1
theorem intsAre_of:∀{us:List V8},Vals (ns.map o!) us->IntsAre us ns:=by
 induction ns with
 |nil=>intro us r;rw[Ym]at r;cases r;exact .nil
 | cons n ns ih =>
   intro us r;rw[WH]at r;cases r with
   | cons r1 r2 =>
     obtain⟨t,e⟩:=r1;subst e;exact .cons n t (ih r2)
section
variable{X:Cx}{te:TE}{lo hi:Option Xb}{tl th:TO}{p2:Zb}
theorem bH:PO X B? vy:=by
 intro Y s σ H Q I h;rw[evalPart_none];exact Wa ⟨B?,H,I,.none,h⟩
theorem bv(h:PE X e te):PO X (A? e) (wk te):=by
 intro Y s σ H Q I hw;rw[evalPart_some];refine thn (h Y s σ H _ I hw) λu s1⟨x,H1,I1,r1,q1⟩=>?_;obtain⟨i,rfl,q⟩:=q1;obtain⟨t,rfl⟩:=r1;exact⟨A? i,H1,I1,.int i t,q⟩
def SlR(X:Cx)(r:V->Option Int->Option Int->Hp->VK->Prop):Prop :=
 ∀(Y:List (V6×X6))(s:Wd)(σ:St)(H:Hp)(x:V)(v vl vu:V8)(lo hi:Option Int)(sl:V6)(Q:VK),Inv X Y σ H s->RelV x v->s.1.IsSliceOf sl vl vu .none->IsPart vl lo->IsPart vu hi->r x lo hi H Q ->
   ∃T id,typeLookup (.type T) "__getitem__"=pure (A? (.builtin id))/\s.TypeIs v T/\Ww (WN X.prog X.w) X.A (Z3 v (.ref sl)) (EP X Y σ Q) X.xe s
def tSl(r:V->Option Int->Option Int->Hp->VK->Prop)(te:TE)(tl th:TO):TE:=λσ H Q=>te σ H λx H1=>tl σ H1 λl H2=>th σ H2 λu H3=>r x l u H3 Q
theorem bd{r:V->Option Int->Option Int->Hp->VK->Prop}(hr:SlR X r)(he:PE X e te)(hl:PO X lo tl)(hu:PO X hi th):PE X (.Subscript e (.Slice lo hi B? p2) pos) (tSl r te tl th):=by
 intro Y s σ H Q I h;refine Subscript_ (thn (he Y s σ H _ I h) λv s1⟨x,H1,I1,r1,q1⟩=>?_);refine wpAny_Slice (thn (hl Y s1 σ H1 _ I1 q1) λvl s2⟨l,H2,I2,pl,q2⟩=>thn (hu Y s2 σ H2 _ I2 q2) λvu s3⟨u,H3,I3,pu,q3⟩=>?_);rw[evalPart_none];refine Wa ?_;have I4:Inv X Y σ H3 {s3 with heap:=s3.1.push {cls:=.type "slice",data:=.fields #[vl,vu,.none]}}:=I3.kept (t':=s3.toks) λb ob q=>V9 _ q;obtain⟨T,id,hT,ht,hg⟩:=hr Y {s3 with heap:=s3.1.push {cls:=.type "slice",data:=.fields #[vl,vu,.none]}} σ H3 x v vl vu l u s3.1.1.size Q I4 r1 (Heap.IsSliceOf.new ..) pl pu q3;show Ww (WN X.prog X.w) X.A (subscriptTail e (.Slice lo hi B? p2) v (.ref s3.1.1.size)) (EP X Y σ Q) X.xe {s3 with heap:=s3.1.push {cls:=.type "slice",data:=.fields #[vl,vu,.none]}};exact tail_any (ops:=[.ref s3.1.1.size,v]) ht hT hg (by with_unfolding_all rfl)
def d8(xs:List V)(lo hi:Option Int):List V:=(xs.drop (q! xs.length 0 lo)).take (q! xs.length xs.length hi - q! xs.length 0 lo)
theorem gq(xs:List V)(lo hi:Option Int):(d8 xs lo hi).length<=xs.length:=by
 unfold d8;rw[W9,Xm];lia
inductive wq(K:Wf)(x:V)(lo:Option Int)(hi:Option Int)(H:Hp)(Q:VK):Prop
 |mk (a:_) (xs:_) (Br:x=.ref a) (Bs:SqT K H a xs) (CN:¬(q! xs.length 0 lo=0/\q! xs.length xs.length hi=xs.length)) (Fb:∀p,H p=B?->Q (.ref p) (upd H p (.tup (d8 xs lo hi)))):wq K x lo hi H Q
def yN(K:Wf):V->Option Int->Option Int->Hp->VK->Prop:=wq K
theorem cQ:SlR X (yN X.K):=by
 intro Y s σ H x v vl vu lo hi sl Q I rx hs pl pu h;obtain⟨a,xs,rfl,hx,hw,q⟩:=h;cases rx;obtain⟨its,r,ht,hz⟩:=I.tuple hx;have hlen:its.toArray.size=xs.length:=by rw[Wn];exact r.length.symm
 refine⟨"tuple",_,Xg.lookup,ht.typeIs,?_⟩;refine HT.getItem_tuple_cut ht hs pl pu (by rw[hlen];exact hw) ?_ (by rw[hlen];exact hz);rw[hlen];refine⟨.ref s.1.1.size,_,I.laid (t':=s.toks) (o:=.tup (d8 xs lo hi)) (λb ob q=>V9 _ q) (Wc _) ?_,D?,q _ (I.hok.fresh (Wc _))⟩;exact⟨Xa (gq xs lo hi) hz,_,0,(r.drop (q! xs.length 0 lo)).take (q! xs.length xs.length hi - q! xs.length 0 lo),Wh _ rfl⟩
def xX(K:Wf):R2:=λx y H Q=>∃a b xs ys,x=.ref a/\y=.ref b/\SqT K H a xs/\SqT K H b ys/\xs≠[]/\xs.length+ys.length<=WD /\
 (ys=[]->Q (.ref a) H)/\(ys≠[]->∀p,H p=B?->Q (.ref p) (upd H p (.tup (xs++ys))))
theorem Vals.nil_iff(r:Vals xs us):us=[]↔xs=[]:=by
 cases r with
 |nil=>simp
 |cons _ _=>simp
theorem ny:OpR X (YV .Add) (xX X.K):=by
 intro Y s σ H x y v u Q I rx ry h;obtain⟨a,b,xs,ys,rfl,rfl,ha,hb,hx,hz,q1,q2⟩:=h;cases rx;cases ry;obtain⟨its,r1,p1,_⟩:=I.tuple ha;obtain⟨zu,r2,p2,_⟩:=I.tuple hb;refine HT.cat_tup p1 p2 (λz=>hx (r1.nil_iff.mp z)) (λz=>⟨.ref a,H,I,rfl,q1 (r2.nil_iff.mp z)⟩) (λz=>?_) (by rw[<-r1.length,<-r2.length];exact hz);refine⟨.ref s.1.1.size,_,I.laid (t':=s.toks) (o:=.tup (xs++ys)) (λb ob q=>V9 _ q) (Wc _) ?_,D?,q2 (λw=>z (r2.nil_iff.mpr w)) _ (I.hok.fresh (Wc _))⟩;exact⟨by rw[Wk];exact hz,_,0,r1.append r2,Wh _ rfl⟩
end
def ixN(n:Nat)(i:Int):Option Nat:=if 0<=i then(if i<n then A? i.toNat else B?)else if -(n:Int)<=i then A? (i+n).toNat else B?
def atI{α:Type}(xs:List α)(i:Int):Option α:=(ixN xs.length i).bind λj=>xs[j]?
theorem qG{i:Int}(h:ixN n i=A? j):seqIndex? i n=A? j/\j<n/\-(n:Int)<=i/\i<n:=by
 unfold ixN at h;by_cases h0:0<=i
 .rw[b! h0]at h;by_cases h1:i<n
  .rw[b! h1]at h;have e:i.toNat=j:=Wi h;exact⟨by rw[seqIndex_of h0 h1,e],by lia,by lia,h1⟩
  .rw[a! h1]at h;cases h
 .rw[a! h0]at h;by_cases h1:-(n:Int)<=i
  .rw[b! h1]at h;have e:(i+n).toNat=j:=Wi h;exact⟨by rw[seqIndex_neg (by lia) h1,e],by lia,h1,by lia⟩
  .rw[a! h1]at h;cases h
theorem nb{xs:List α}{i:Int}{v:α}(h:atI xs i=A? v):∃j,seqIndex? i xs.length=A? j/\xs[j]?=A? v/\j<xs.length/\-(xs.length:Int)<=i/\i<xs.length:=by
 unfold atI at h;cases e:ixN xs.length i with
 |none=>rw[e]at h;cases h
 | some j =>
   rw[e]at h;obtain⟨h1,h2,h3,h4⟩:=qG e;exact⟨j,h1,h,h2,h3,h4⟩
theorem br{xs:List α}{v:α}(h:xs[j]?=A? v):atI xs (j:Int)=A? v:=by
 have hj:j<xs.length:=(glE h)
 have e:ixN xs.length (j:Int)=A? j:=by
  unfold ixN;rw[b! (by lia),b! (by lia)];simp
 unfold atI;rw[e];exact h
theorem uy(xs:List α)(v:α):atI (xs++[v]) (-1)=A? v:=by
 have hl:(xs++[v]).length=xs.length+1:=by simp
 have e:ixN (xs++[v]).length (-1)=A? xs.length:=by
  unfold ixN;rw[hl,a! (by decide),b! (by lia)];congr 1;lia
 unfold atI;rw[e];show(xs++[v])[xs.length]?=A? v;simp
def vK(b:Xb):Prop:=∀o i,subscripted b C? o i=operate [o,i] (Z3 o i)
def IxR(X:Cx)(r:R2):Prop :=
 ∀(value slice:Xb)(Y:List (V6×X6))(s:Wd)(σ:St)(H:Hp)(x y:V)(v u:V8)(Q:VK),Inv X Y σ H s->RelV x v->RelV y u->r x y H Q ->
   subscripted slice C? v u=operate [v,u] (Z3 v u)->Ww (WN X.prog X.w) X.A (subscriptTail value slice v u) (EP X Y σ Q) X.xe s
def MtR(X:Cx)(id:String)(r:V->List V->Hp->VK->Prop):Prop :=
 ∀(Y:List (V6×X6))(s:Wd)(σ:St)(H:Hp)(x:V)(xs:List V)(v:V8)(us:List V8)(Q:VK),Inv X Y σ H s->RelV x v->Vals xs us->r x xs H Q ->
   Ww (WN X.prog X.w) X.A (call (.builtin id) (v::us)) (EP X Y σ Q) X.xe s
section
variable{X:Cx}{a b:Xb}{ta tb:TE}
theorem aw(hr:IxR X r)(ha:PE X a ta)(hb:PE X b tb)(hs:vK b):PE X (.Subscript a b pos) (tOp r ta tb):=by
 intro Y s σ H Q I h;exact Subscript_ (wG ha hb I h λv u s2 x y H2 I2 rx ry q=>hr a b Y s2 σ H2 x y v u Q I2 rx ry q (hs _ _))
inductive v0(K:Wf)(x:V)(y:V)(H:Hp)(Q:VK):Prop
 |mk (p:_) (xs:_) (i:_) (v:_) (Br:x=.ref p) (Bs:y=.int i) (CN:SqL K H p xs) (Fb:atI xs i=A? v) (G6:Q v H):v0 K x y H Q
def yA(K:Wf):R2:=v0 K
inductive vU(K:Wf)(x:V)(y:V)(H:Hp)(Q:VK):Prop
 |mk (p:_) (xs:_) (i:_) (v:_) (Br:x=.ref p) (Bs:y=.int i) (CN:SqT K H p xs) (Fb:atI xs i=A? v) (G6:Q v H):vU K x y H Q
def eF(K:Wf):R2:=vU K
inductive wv(x:V)(y:V)(H:Hp)(Q:VK):Prop
 |mk (z:_) (i:_) (c:_) (Br:x=.str z) (Bs:y=.int i) (CN:z.length<=WD) (Fb:atI z.cps.toList i=A? c) (G6:Q (.str ⟨#[c]⟩) H):wv  x y H Q
def za:R2:=wv
theorem aS:IxR X (yA X.K):=by
 intro value slice Y s σ H x y v u Q I rx ry h hs;obtain⟨p,xs,i,z,rfl,rfl,hq,he,q⟩:=h;cases rx;obtain⟨t,rfl⟩:=ry;obtain⟨its,r,pl,hz⟩:=I.list hq;obtain⟨j,h1,h2,h3,h4,h5⟩:=nb he;obtain⟨w,ew,Dx⟩:=r.get h2;have hl:=r.length;have hn:=jA;have fin:EP X Y σ Q w s:=⟨z,H,I,Dx,q⟩;by_cases h0:0<=i
 .have hj:i.toNat=j:=by
   rw[seqIndex_of h0 h5]at h1;exact Wi h1
  exact item_listR pl.isList h0 (by lia) (by rw[hj];simpa using ew) fin hs
 .have hj:(i+(its.toArray.size:Int)).toNat=j:=by
   rw[seqIndex_neg (by lia) h4]at h1;rw[Wn,<-hl];exact Wi h1
  exact subscriptTail_builtinR (x:=w) pl.isList.typeIs slot_list_getitem.lookup
   (wpAny_getItem_list_neg (Q:=λr s'=>r=w/\EP X Y σ Q r s') pl.isList (by lia) (by rw[Wn] <;> lia) (by lia) (by rw[hj];simpa using ew) ⟨rfl,fin⟩) hs
theorem ay:IxR X (eF X.K):=by
 intro value slice Y s σ H x y v u Q I rx ry h hs;obtain⟨p,xs,i,z,rfl,rfl,hq,he,q⟩:=h;cases rx;obtain⟨t,rfl⟩:=ry;obtain⟨its,r,pl,hz⟩:=I.tuple hq;obtain⟨j,h1,h2,h3,h4,h5⟩:=nb he;obtain⟨w,ew,Dx⟩:=r.get h2;have hl:=r.length;have hn:=jA;have fin:EP X Y σ Q w s:=⟨z,H,I,Dx,q⟩
 exact subscriptTail_builtinR (x:=w) pl.typeIs slot_tuple_getitem.lookup
  (getItem_tuple (j:=j) (Q:=λr s'=>r=w/\EP X Y σ Q r s') pl (by lia) (by lia) (by rw[Wn,<-hl];exact h1) (by simpa using ew) ⟨rfl,fin⟩) hs
theorem qu:IxR X za:=by
 intro value slice Y s σ H x y v u Q I rx ry h hs;obtain⟨z,i,c,rfl,rfl,hz,he,q⟩:=h;obtain⟨t,rfl⟩:=rx;obtain⟨t',rfl⟩:=ry;obtain⟨j,h1,h2,h3,h4,h5⟩:=nb he;have hl:z.cps.toList.length=z.length:=by simp[Str.length]
 rw[hl]at h1 h4 h5;have hn:=jA
 exact tail_any (typeIs_str s z t) slot_str_getitem.lookup (getItem_str (c:=c) (by
  have e1:decide (i < -(2 ^ 63:Int))=false:=c! (by lia);have e2:decide (i >= 2 ^ 63)=false:=c! (by lia);rw[e1,e2,Bool.or_false]) (by rw[h1];simpa using h2) ⟨.str ⟨#[c]⟩,H,I.tok _,⟨_,rfl⟩,q⟩) hs
theorem pX(its:List V8)(n j:Nat)(u:V8):Xs (·.setIfInBounds j u) {cls:=.type "list",data:=.seq its.toArray n}={cls:=.type "list",data:=.seq (its.set j u).toArray n}:=by
 simp[Xs]
theorem Inv.lst{p:V6}(I:Inv X Y σ H s)(h:H p=A? (.lst xs)) :
 ∃(its:List V8)(n:Nat),Vals xs its/\s.1.get? p=A? {cls:=.type "list",data:=.seq its.toArray n}/\xs.length<=WD:=by
 obtain⟨z,its,n,r,e⟩:=I.hok p _ h;exact⟨its,n,r,e,z⟩
theorem Inv.lstUpd{p:V6}{ys:List V}{its':List V8}{n':Nat}{f:X6->X6}(I:Inv X Y σ H s)(h:H p=A? (.lst xs))
 (ho:s.1.get? p=A? {cls:=.type "list",data:=.seq its.toArray n}) (hf:f {cls:=.type "list",data:=.seq its.toArray n}={cls:=.type "list",data:=.seq its'.toArray n'}) (r:Vals ys its') (hz:ys.length<=WD) (t:Nat) :
 Inv X Y σ (upd H p (.lst ys)) {s with heap:=s.1.update p f,toks:=t}:=by
 have e:(s.1.update p f).get? p=A? {cls:=.type "list",data:=.seq its'.toArray n'}:=by
  rw[Xr f ho (by rw[hf] <;> rfl),hf]
 refine I.write (x:=p) (e:=p) (by rw[h];trivial) (.inl rfl) (λb u hb q=>(XE _ _ (Yc hb)).trans q) ⟨_,e⟩ ?_;exact⟨hz,its',n',r,e⟩
def yw:V->V->V->Hp->(Hp->Prop)->Prop:=λo i v H Q=>∃p xs k j,o=.ref p/\i=.int k/\H p=A? (.lst xs)/\ixN xs.length k=A? j/\Q (upd H p (.lst (xs.set j v)))
theorem set_list:yl X yw:=by
 intro Y s σ H o i v ov iv u Q I ro ri rv h;obtain⟨p,xs,k,j,rfl,rfl,hp,hj,q⟩:=h;cases ro;obtain⟨t,rfl⟩:=ri;obtain⟨its,n,r,ho,hz⟩:=I.lst hp;obtain⟨h1,h2,h3,h4⟩:=qG hj;have hl:=r.length;have hn:=jA
 have I':Inv X Y σ (upd H p (.lst (xs.set j v))) {s with heap:=s.1.update p (Xs (·.setIfInBounds j u))} :=
  I.lstUpd hp ho (pX its n j u) (r.set rv j) (by rw[Yq];exact hz) s.toks
 by_cases h0:0<=k
 .have hk:k.toNat=j:=by
   rw[seqIndex_of h0 h4]at h1;exact Wi h1
  exact PySem.W.ki_setAt ho h0 (by lia) (by rw[Wn,<-hl];exact h4) (by rw[hk];exact⟨_,I',q⟩)
 .have hk:(k+(its.toArray.size:Int)).toNat=j:=by
   rw[seqIndex_neg (by lia) h3]at h1;rw[Wn,<-hl];exact Wi h1
  exact PySem.W.ki_setBack ho (by lia) (by rw[Wn,<-hl];exact h3) (by lia) (by rw[hk];exact⟨_,I',q⟩)
theorem n9(lo hi:Option Int)(n:Nat):(sliceBounds lo hi B? n).1=((q! n 0 lo:Nat):Int)/\(sliceBounds lo hi B? n).2.1=((q! n n hi:Nat):Int)/\(sliceBounds lo hi B? n).2.2=1:=by
 refine⟨?_,?_,D?⟩
 .cases lo with
  |none=>simp[sliceBounds,q!]
  | some i =>
    simp only[sliceBounds,q!,Option.getD_none,show(1:Int) > 0 by decide,if_true];by_cases h:i<0
    .simp only[h,if_true] <;> lia
    .simp only[h,if_false] <;> lia
 .cases hi with
  |none=>simp[sliceBounds,q!]
  | some i =>
    simp only[sliceBounds,q!,Option.getD_none,show(1:Int) > 0 by decide,if_true];by_cases h:i<0
    .simp only[h,if_true] <;> lia
    .simp only[h,if_false] <;> lia
theorem lR(its:List V8)(lo hi:Option Int):slicePick its.toArray lo hi B?=((its.drop (q! its.length 0 lo)).take (q! its.length its.length hi - q! its.length 0 lo)).toArray:=by
 obtain⟨h1,h2,h3⟩:=n9 lo hi its.toArray.size;unfold slicePick;rw[h1,h2,h3];simp only[sliceRange_one,pick_run,Wn] <;> rfl
inductive wA(K:Wf)(x:V)(lo:Option Int)(hi:Option Int)(H:Hp)(Q:VK):Prop
 |mk (a:_) (xs:_) (Br:x=.ref a) (Bs:SqL K H a xs) (CN:∀p,H p=B?->Q (.ref p) (upd H p (.lst (d8 xs lo hi)))):wA K x lo hi H Q
def yG(K:Wf):V->Option Int->Option Int->Hp->VK->Prop:=wA K
theorem n5:SlR X (yG X.K):=by
 intro Y s σ H x v vl vu lo hi sl Q I rx hs pl pu h;obtain⟨a,xs,rfl,hx,q⟩:=h;cases rx;obtain⟨its,r,ht,hz⟩:=I.list hx;have hlen:=r.length;refine⟨"list",_,slot_list_getitem.lookup,ht.isList.typeIs,?_⟩;refine wpAny_getItem_list_slice ht.isList hs pl pu .none (by simp) ?_ (by rw[Wn] <;> lia);rw[lR,<-hlen];refine⟨.ref s.1.1.size,_,I.laid (t':=s.toks) (o:=.lst (d8 xs lo hi)) (λb ob q=>V9 _ q) (Wc _) ?_,D?,q _ (I.hok.fresh (Wc _))⟩;exact⟨Xa (gq xs lo hi) hz,_,0,(r.drop (q! xs.length 0 lo)).take (q! xs.length xs.length hi - q! xs.length 0 lo),Wh _ rfl⟩
def jQ:V->Bool
 |.non=>Bq
 |.bl _=>Bq
 |.int _=>Bq
 |.str _=>Bq
 |_=>C?
def eqV:V->V->Bool
 |.non,.non=>Bq
 |.bl a,.bl b=>a == b
 |.bl a,.int b=>(if a then 1 else 0) == b
 |.int a,.bl b=>a == (if b then 1 else 0)
 |.int a,.int b=>a == b
 |.str a,.str b=>a == b
 |_,_=>C?
theorem wS{x:V}{v:V8}(ry:RelV y u)(rx:RelV x v)(fy:jQ y=Bq)(fx:jQ x=Bq):SeqAt.EqAt A s u v (eqV y x):=by
 cases y with
 | non =>
   cases ry;cases x with
   |non=>cases rx;exact SeqAt.EqAt.same _
   |bl b=>cases rx;exact SeqAt.EqAt.none_bool b
   |int b=>obtain⟨t,rfl⟩:=rx;exact SeqAt.EqAt.none_int b t
   |str b=>obtain⟨t,rfl⟩:=rx;exact SeqAt.EqAt.none_str b t
   |_=>exact g! (show C?=Bq from fx) Wz
 | bl a =>
   cases ry;cases x with
   |non=>cases rx;exact SeqAt.EqAt.bool_none a
   |bl b=>cases rx;exact SeqAt.EqAt.bool_bool a b
   |int b=>obtain⟨t,rfl⟩:=rx;exact SeqAt.EqAt.bool_int a b t
   |str b=>obtain⟨t,rfl⟩:=rx;exact SeqAt.EqAt.bool_str a b t
   |_=>exact g! (show C?=Bq from fx) Wz
 | int a =>
   obtain⟨t',rfl⟩:=ry;cases x with
   |non=>cases rx;exact SeqAt.EqAt.int_none a t'
   |bl b=>cases rx;exact SeqAt.EqAt.int_bool a t' b
   |int b=>obtain⟨t,rfl⟩:=rx;exact SeqAt.EqAt.int_int a t' b t
   |str b=>obtain⟨t,rfl⟩:=rx;exact SeqAt.EqAt.int_str a t' b t
   |_=>exact g! (show C?=Bq from fx) Wz
 | str a =>
   obtain⟨t',rfl⟩:=ry;cases x with
   |non=>cases rx;exact SeqAt.EqAt.str_none a t'
   |bl b=>cases rx;exact SeqAt.EqAt.str_bool a t' b
   |int b=>obtain⟨t,rfl⟩:=rx;exact SeqAt.EqAt.str_int a t' b t
   |str b=>obtain⟨t,rfl⟩:=rx;exact SeqAt.EqAt.str_str a t' b t
   |_=>exact g! (show C?=Bq from fx) Wz
 |_=>exact g! (show C?=Bq from fy) Wz
def eqU(x:V)(u:V8):Bool:=match u with
 |.none=>eqV .non x
 |.bool b=>eqV (.bl b) x
 |.int i _=>eqV (.int i) x
 |.str z _=>eqV (.str z) x
 |_=>C?
theorem uI{x:V}(r:RelV y u)(f:jQ y=Bq):eqU x u=eqV y x:=by
 cases y with
 |non=>cases r;rfl
 |bl b=>cases r;rfl
 |int i=>obtain⟨t,rfl⟩:=r;rfl
 |str z=>obtain⟨t,rfl⟩:=r;rfl
 |_=>exact g! (show C?=Bq from f) Wz
theorem n6{x:V}:∀{xs:List V}{us:List V8},Vals xs us->xs.all jQ=Bq->us.any (eqU x)=xs.any λy=>eqV y x
 |_,_,.nil,_=>rfl
 | y::xs,u::us,.cons r t,f=>by
   rw[List.all_cons,Yl]at f;rw[List.any_cons,List.any_cons,uI r f.1,n6 t f.2]
theorem kK{x:V}{v:V8}(rx:RelV x v)(fx:jQ x=Bq):∀{xs:List V}{us:List V8},Vals xs us->xs.all jQ=Bq->∀u∈us,SeqAt.EqAt A s u v (eqU x u)
 |_,_,.nil,_=>λu hu=>by cases hu
 | y::xs,u::us,.cons r t,f=>λu' hu=>by
   rw[List.all_cons,Yl]at f;rcases Wr.mp hu with rfl|hu
   .rw[uI r f.1];exact wS r rx f.1 fx
   .exact kK rx fx t f.2 u' hu
def inV(x:V)(xs:List V):Bool:=xs.any λy=>eqV y x
def rIn(K:Wf)(neg:Bool):R2:=λx y H Q=>∃p xs,y=.ref p/\(SqL K H p xs\/SqT K H p xs)/\jQ x=Bq/\xs.all jQ=Bq/\Q (.bl (if neg then !inV x xs else inV x xs)) H
theorem mE:OpR X (Yk .In) (rIn X.K C?):=by
 intro Y s σ H x y v u Q I rx ry h;obtain⟨p,xs,rfl,hq,fx,fs,q⟩:=h;cases ry;rcases hq with hq|hq
 .obtain⟨its,r,pl,hz⟩:=I.list hq;refine SeqAt.in_listAt (eqU x) pl.isList (λw hw=>kK rx fx r fs w (by simpa using hw)) ⟨.bl _,H,I,rfl,?_⟩;rw[show its.toArray.any (eqU x)=its.any (eqU x)by simp,n6 r fs];exact q
 .obtain⟨its,r,pl,hz⟩:=I.tuple hq;refine SeqAt.in_tupleAt (eqU x) pl (λw hw=>kK rx fx r fs w (by simpa using hw)) ⟨.bl _,H,I,rfl,?_⟩;rw[show its.toArray.any (eqU x)=its.any (eqU x)by simp,n6 r fs];exact q
inductive v7(K:Wf)(xs:List V)(H:Hp)(Q:VK):Prop
 |mk (p:V6) (ys:List V) (Br:xs=[.ref p]) (Bs:SqL K H p ys\/SqT K H p ys) (CN:Q (.int ys.length) H):v7 K xs H Q
theorem aA:hX X (.builtin "len") (v7 X.K):=by
 intro Y s σ H xs us Q I r h;obtain⟨p,ys,rfl,hq,q⟩:=h;obtain⟨u,rfl,rx⟩:=vals1 r;cases rx;have hn:=jA;rcases hq with hq|hq
 .obtain⟨its,r',pl,hz⟩:=I.list hq;have hlen:=r'.length;exact Calls.call_len_list pl.isList (by simp only[Wn] <;> lia) ⟨.int ys.length,H,I.tok _,⟨s.toks+1,by rw[Wn,hlen]⟩,q⟩
 .obtain⟨its,r',pl,hz⟩:=I.tuple hq;have hlen:=r'.length;exact len_tuple pl (by simp only[Wn] <;> lia) ⟨.int ys.length,H,I.tok _,⟨s.toks+1,by rw[Wn,hlen]⟩,q⟩
theorem bc:hX X (.type "tuple") (λxs H Q=>∃p ys,xs=[.ref p]/\((SqL X.K H p ys/\∀l,H l=B?->Q (.ref l) (upd H l (.tup ys)))\/(SqT X.K H p ys/\Q (.ref p) H))):=by
 intro Y s σ H xs us Q I r h;obtain⟨p,ys,rfl,h⟩:=h;obtain⟨u,rfl,rx⟩:=vals1 r;cases rx;rcases h with⟨hq,q⟩|⟨hq,q⟩
 .obtain⟨its,r',pl,hz⟩:=I.list hq;have hlen:=r'.length;refine call_tuple_list pl.isList (λh' kp=>?_) (by simp only[Wn] <;> lia);have I1:Inv X Y σ H {s with heap:=h'}:=I.kept (t':=s.toks) kp
  have I2:Inv X Y σ (upd H h'.objs.size (.tup ys)) {s with heap:=h'.push {cls:=.type "tuple",data:=.seq its.toArray}} :=
   I1.laid (t':=s.toks) (λb o e=>V9 _ e) (Wc _) (show ObjOk X.prog X.w _ _ _ (.tup ys)from⟨hz,its,0,r',Wh _ rfl⟩)
  exact⟨.ref h'.objs.size,_,I2,D?,q _ (I1.hok.fresh (Wc _))⟩
 .obtain⟨its,r',pl,hz⟩:=I.tuple hq;exact call_tuple_same pl ⟨.ref p,H,I,rfl,q⟩
def tyV(K:Wf)(T:String)(x:V)(H:Hp):Prop:=match x with
 |.str _=>T="str"
 |.int _=>T="int"
 |.ref p=>(T="list"/\∃xs,SqL K H p xs)\/(T="tuple"/\∃o,K.lookup p=A? o/\o.cls=.type "tuple"/\o.dict=B?) \/
  (T="dict"/\((∃kvs,H p=A? (.dK kvs))\/∃kvs,H p=A? (.dT kvs)))\/(T="set"/\∃S n,H p=A? (.set S n))
 |_=>False
theorem ul{T:String}{x:V}{v:V8}(I:Inv X Y σ H s)(r:RelV x v)(ty:tyV X.K T x H) :
 s.TypeIs v T/\∀a,v=.ref a->∃ob,s.1.get? a=A? ob/\ob.dict=none:=by
 cases x with
 | str z =>
   obtain⟨t,rfl⟩:=r;cases(show T="str" from ty);exact⟨typeIs_str s z t,λ_ e=>nomatch e⟩
 | int i =>
   obtain⟨t,rfl⟩:=r;cases(show T="int" from ty);exact⟨typeIs_int s i t,λ_ e=>nomatch e⟩
 | ref p =>
   cases r;rcases ty with⟨rfl,xs,hq⟩|⟨rfl,o,hk,hc,hd⟩|⟨rfl,hk⟩|⟨rfl,S,n,hk⟩
   .obtain⟨its,_,pl,_⟩:=I.list hq;refine⟨pl.isList.typeIs,λa e=>?_⟩;cases e;obtain⟨o,n,e,c,hd,_⟩:=pl;exact⟨o,e,hd⟩
   .refine⟨⟨o,I.kIn p o hk,hc⟩,λa e=>?_⟩;cases e;exact⟨o,I.kIn _ o hk,hd⟩
   .have z:∃o,s.1.get? p=A? o/\o.ExactDict:=by
     rcases hk with⟨kvs,hk⟩|⟨kvs,hk⟩
     .obtain⟨_,_,_,_,o,_,_,e,ex,_⟩:=I.hok p _ hk;exact⟨o,e,ex⟩
     .obtain⟨_,_,_,_,o,_,_,e,ex,_⟩:=I.hok p _ hk;exact⟨o,e,ex⟩
    obtain⟨o,e,ex⟩:=z;refine⟨⟨o,e,ex.1⟩,λa e2=>?_⟩;cases e2;exact⟨o,e,ex.2.1⟩
   .obtain⟨o,_,_,_,e,ex,_⟩:=I.hok p _ hk;refine⟨⟨o,e,ex.1⟩,λa e2=>?_⟩;cases e2;exact⟨o,e,ex.2.1⟩
 |_=>exact X9 ty
def yq(K:Wf)(T:String)(r:V->List V->Hp->VK->Prop)(to:TE):TE:=λσ H Q=>to σ H λx H1=>tyV K T x H1/\r x [] H1 Q
def tBM(K:Wf)(T:String)(r:V->List V->Hp->VK->Prop)(to:TE)(t:TA):TE:=λσ H Q=>to σ H λx H1=>tyV K T x H1/\t σ H1 λxs H2=>r x xs H2 Q
variable{o:Xb}{es:List Xb}{to:TE}{t:TA}{apos zo:Zb}{T id:String}{r:V->List V->Hp->VK->Prop}
theorem ku(pa:PlainAttrs T)(slot:Slot T name id)(L4:typeOf (.builtin id)=pure (.type "method_descriptor"))(hm:MtR X id r)(ho:PE X o to)
 (AH:ZN o name X.env (Yd o X.env)=Yd o X.env:=by rfl) (AI:(apos.endLine == zo.line)=true:=by rfl):PE X (.Call (.Attribute o name apos) [] [] zo) (yq X.K T r to):=by
 intro Y s σ H Q I h;refine wpAny_Call_method0_late AH AI (thn (ho Y s σ H _ I h) λv s1⟨x,H1,I1,r1,ty,q1⟩=>?_);obtain⟨h1,h2⟩:=ul I1 r1 ty;exact⟨T,id,pa,slot,L4,h1,h2,Z7 rfl (PySem.evalArgs_none (hm Y s1 σ H1 x [] v [] Q I1 r1 .nil q1))⟩
theorem cC(pa:PlainAttrs T)(slot:Slot T name id)(L4:typeOf (.builtin id)=pure (.type "method_descriptor"))(hm:MtR X id r)(ho:PE X o to)(ha:PA X (e::es) t)
 (AH:ZN o name X.env (Yd o X.env)=Yd o X.env:=by rfl)
 (Ii:((Y1 zo (W6 (e::es) X.env)).all (λx=>!x.1) && (backToKw zo (keywordEach [] X.env)).all (λx=>x.1.isSome)
  && decide ((e::es).length+([]:List Keyword).length+(if([]:List Keyword).isEmpty then 0 else 1)<30))=true:=by rfl)
 (AI:(apos.endLine == zo.line)=true:=by rfl) (hs:W6 (e::es) X.env=(C?,Yd e X.env)::W6 es X.env:=by rfl) (FP:(Y1 zo (W6 es X.env)).any (·.1)=false:=by rfl) :
 PE X (.Call (.Attribute o name apos) (e::es) [] zo) (tBM X.K T r to t):=by
 intro Y s σ H Q I h;refine wpAny_Call_method_late AH Ii AI rfl (thn (ho Y s σ H _ I h) λv s1⟨x,H1,I1,r1,ty,q1⟩=>?_);obtain⟨h1,h2⟩:=ul I1 r1 ty;refine⟨T,id,pa,slot,L4,h1,h2,?_⟩;have hA:=ha zo Y s1 σ H1 _ I1 q1;rw[hs]at hA |-;refine Z7 (by show(C? ||(Y1 zo (W6 es X.env)).any (·.1))=C?;rw[FP] <;> rfl) (Calls.evalArgs_plain ?_);exact thn hA λus s2⟨vs,H2,I2,r2,q2⟩=>hm Y s2 σ H2 x vs v us Q I2 r1 r2 q2
end
def MtM(X:Cx)(id:String)(r:V->List V->Hp->VK->Prop):Prop :=
 ∀(Y:List (V6×X6))(s:Wd)(σ:St)(H:Hp)(x:V)(xs:List V)(v:V8)(us:List V8)(Q:VK),Inv X Y σ H s->RelV x v->Vals xs us->r x xs H Q ->
   Ww (WN X.prog X.w) X.A (call (.builtin id) (v::us)) (EP X Y σ Q) X.xe s
theorem Vals.one:∀{x:V}{us:List V8},Vals [x] us->∃u,us=[u]/\RelV x u
 |_,_,.cons r .nil=>⟨_,rfl,r⟩
theorem Vals.zero:∀{us:List V8},Vals [] us->us=[]
 |_,.nil=>rfl
theorem Vals.dropLast(h:Vals xs us):Vals xs.dropLast us.dropLast:=by
 induction h with
 |nil=>exact .nil
 | cons r t ih =>
   cases t with
   |nil=>exact .nil
   |cons q t'=>exact .cons r ih
theorem Vals.rep(h:Vals xs us):∀k:Nat,Vals (W7 k xs).flatten (W7 k us).flatten
 |0=>.nil
 | k+1=>by
   rw[X3,X3,Zi,Zi];exact Vals.append h (Vals.rep h k)
theorem pR(l:List α):l.eraseIdx (l.length - 1)=l.dropLast:=by
 induction l with
 |nil=>rfl
 | cons a r ih =>
   cases r with
   |nil=>rfl
   | cons b r =>
     have e:(a::b::r).length - 1=((b::r).length - 1)+1:=by
      have h1:(a::b::r).length=r.length+2:=rfl;have h2:(b::r).length=r.length+1:=rfl;lia
     rw[e,List.eraseIdx_cons_succ,ih]
     all_goals rfl
theorem foldl_rep(its:List V8):∀(k:Nat)(acc:List V8),
 List.foldl (λx1 x2=>x1++x2) acc.toArray (W7 k its.toArray)=(acc++(W7 k its).flatten).toArray
 |0,acc=>by simp
 | k+1,acc=>by
   have e:acc.toArray++its.toArray=(acc++its).toArray:=by simp
   have e2:(acc++its)++(W7 k its).flatten=acc++(W7 (k+1) its).flatten:=by
    rw[X3,Zi,YN]
   rw[<-e2,<-foldl_rep its k (acc++its),<-e,X3,List.foldl_cons]
section
variable{X:Cx}{ys zs:List V}
theorem Inv.lset{its':List V8}{f:Array V8->Array V8}(I:Inv X Y σ H s)(hH:H l=A? (.lst xs))
 (e:s.1.get? l=A? {cls:=.type "list",data:=.seq its.toArray n}) (hf:f its.toArray=its'.toArray) (hv:Vals ys its') (hz:ys.length<=WD) :
 Inv X Y σ (upd H l (.lst ys)) {s with heap:=s.1.update l (Xs f),toks:=t'}:=by
 have q:=PySem.IsL.update e f;rw[hf]at q;refine I.write (x:=l) (e:=l) (by rw[hH];exact trivial) (.inl rfl) (λb' u hb hu=>(XE s.1 (Xs f) (Yc hb)).trans hu) ⟨_,q⟩ ?_;exact⟨hz,its',_,hv,q⟩
theorem Inv.lnew(I:Inv X Y σ H s)(hv:Vals ys its)(hz:ys.length<=WD) :
 Inv X Y σ (upd H s.1.1.size (.lst ys)) {s with heap:=s.1.push {cls:=.type "list",data:=.seq its.toArray},toks:=t'} :=
 I.laid (λ_ _ q=>V9 _ q) (Wc _) ⟨hz,its,0,hv,Wh _ rfl⟩
theorem Inv.fresh(I:Inv X Y σ H s):H s.1.1.size=none:=I.hok.fresh (Wc _)
theorem Inv.lstM(I:Inv X Y σ H s)(hH:H l=A? (.lst xs)):xs.length<=WD/\∃(its:List V8)(n:Nat),Vals xs its/\xs.length=its.length/\s.1.get? l=A? {cls:=.type "list",data:=.seq its.toArray n}:=by
 obtain⟨z,its,n,r,e⟩:=I.hok l _ hH;exact⟨z,its,n,r,r.length,e⟩
theorem kF(h:n<=WD):Yt n=false:=by
 unfold Yt;exact c! (by lia)
end
section
variable{X:Cx}
inductive oH(x:V)(vs:List V)(H:Hp)(Q:VK):Prop
 |mk (l:_) (xs:_) (y:_) (Br:x=.ref l) (Bs:vs=[y]) (CN:H l=A? (.lst xs)) (Fb:xs.length<WD) (G6:Q .non (upd H l (.lst (xs++[y])))):oH  x vs H Q
def qP:V->List V->Hp->VK->Prop:=oH
theorem bi:MtM X "list.append" qP:=by
 intro Y s σ H x vs v us Q I rx rv h;obtain⟨l,xs,y,rfl,rfl,hH,hz,q⟩:=h;cases rx;obtain⟨u,rfl,ru⟩:=rv.one;obtain⟨z,its,n,r,hl,e⟩:=I.lstM hH;refine call_meets F.slot_list_append ⟨_,e,rfl⟩ F.entry_list_append (F.args_list_append_2 _ _) (PySem.list_append l its.toArray n u (by rw[Wn];lia)) ⟨e,?_⟩;refine⟨.non,_,I.lset (its':=its++[u]) hH e (by simp) (r.append (.cons ru .nil)) ?_,D?,q⟩;rw[Wk,WM];lia
inductive oZ(x:V)(vs:List V)(H:Hp)(Q:VK):Prop
 |mk (l:_) (b:_) (xs:_) (zs:_) (Br:x=.ref l) (Bs:vs=[.ref b]) (CN:H l=A? (.lst xs)) (Fb:H b=A? (.lst zs)) (G6:xs.length+zs.length<=WD) (Rh:Q .non (upd H l (.lst (xs++zs)))):oZ  x vs H Q
def u6:V->List V->Hp->VK->Prop:=oZ
theorem sJ:MtM X "list.extend" u6:=by
 intro Y s σ H x vs v us Q I rx rv h;obtain⟨l,b,xs,zs,rfl,rfl,hH,hB,hz,q⟩:=h;cases rx;obtain⟨u,rfl,ru⟩:=rv.one;cases ru;obtain⟨z,its,n,r,hl,e⟩:=I.lstM hH;obtain⟨z2,zu,n2,r2,Ak,e2⟩:=I.lstM hB;have hsz:its.toArray.size+zu.toArray.size<=WD:=by rw[Wn,Wn];lia
 have BJ:¬(!its.toArray.isEmpty && Yt (its.toArray.size+zu.toArray.size))=true:=by
  rw[kF hsz,Bool.and_false];exact Wz
 refine call_meets F.slot_list_extend ⟨_,e,rfl⟩ F.entry_list_extend (F.args_list_extend_2 _ _)
  (AutoSeq1.list_extend_list_list_0 l its.toArray n b zu.toArray n2 BJ (by rw[Wn];lia) (by lia)) ⟨e,e2,?_⟩
 refine⟨.non,_,I.lset (its':=its++zu) hH e (by simp) (r.append r2) ?_,D?,q⟩;rw[Wk];lia
inductive vV(x:V)(vs:List V)(H:Hp)(Q:VK):Prop
 |mk (l:_) (xs:_) (y:_) (Br:x=.ref l) (Bs:vs=[]) (CN:H l=A? (.lst xs)) (Fb:xs[xs.length - 1]?=A? y) (G6:Q y (upd H l (.lst xs.dropLast))):vV  x vs H Q
def yx:V->List V->Hp->VK->Prop:=vV
theorem kD:MtM X "list.pop" yx:=by
 intro Y s σ H x vs v us Q I rx rv h;obtain⟨l,xs,y,rfl,rfl,hH,hy,q⟩:=h;cases rx;have FQ:=rv.zero;subst FQ;obtain⟨z,its,n,r,hl,e⟩:=I.lstM hH;obtain⟨u,hu,ru⟩:=r.get hy
 have EC:its.toArray[its.toArray.size - 1]?=A? u:=by
  show its.toArray[its.length - 1]?=A? u;rw[<-Zg,<-hl];exact hu
 refine call_meets F.slot_list_pop ⟨_,e,rfl⟩ F.entry_list_pop (F.args_list_pop_1 _) (MeetsSeq.list_pop_last l its.toArray n u EC (by rw[Wn];lia)) ⟨e,?_⟩;refine⟨y,_,I.lset (its':=its.dropLast) hH e ?_ r.dropLast ?_,ru,q⟩
 .show its.toArray.eraseIdxIfInBounds (its.toArray.size - 1)=its.dropLast.toArray;rw[Wn,List.eraseIdxIfInBounds_toArray,pR]
 .rw[List.length_dropLast];lia
def yV:R2:=λx y H Q=>∃l k xs,x=.ref l/\y=.int k/\H l=A? (.lst xs)/\-(2 ^ 63)<=k/\k<2 ^ 63/\xs.length * k.toNat<=WD /\
 ∀p,H p=B?->Q (.ref p) (upd H p (.lst (W7 k.toNat xs).flatten))
theorem len_rep(xs:List α)(k:Nat):(W7 k xs).flatten.length=k * xs.length:=by
 induction k with
 |zero=>simp
 |succ k ih=>rw[X3,Zi,Wk,ih,Nat.succ_mul,Nat.add_comm]
theorem uK:OpR X (YV .Mult) yV:=by
 intro Y s σ H x y v u Q I rx ry h;obtain⟨l,k,xs,rfl,rfl,hH,h1,h2,hz,q⟩:=h;cases rx;obtain⟨t,rfl⟩:=ry;obtain⟨z,its,n,r,hl,e⟩:=I.lstM hH;have hlen:its.toArray.size * k.toNat<=WD:=by rw[Wn,<-hl];exact hz
 have L5:¬its.toArray.size * k.toNat > (2 ^ 63 - 1) / 8:=by
  have:(WD:Nat)<=(2 ^ 63 - 1) / 8:=by decide
  lia
 have zR:¬(!Builtin.List.listFitsIndex k)=true:=by
  rw[fitsIndex_both h1 h2];exact Wz
 have BJ:¬Yt (its.toArray.size * k.toNat)=true:=by
  rw[kF hlen];exact Wz
 have FR:List.foldl (λx1 x2=>x1++x2) #[] (W7 (if its.toArray.isEmpty=Bq then 0 else k.toNat) its.toArray)=(W7 k.toNat its).flatten.toArray:=by
  have f0:∀m:Nat,List.foldl (λx1 x2=>x1++x2) #[] (W7 m its.toArray)=(W7 m its).flatten.toArray:=λm=>by
   have:=foldl_rep its m [];rw[List.nil_append]at this;exact this
  rw[f0];cases its with
  |nil=>simp
  |cons a r'=>rw[a! (by simp)]
 refine wpAny_binaryOp_repeat_ref (T:="list") (U:="int") (by decide) ⟨_,e,rfl⟩ (λs'=>typeIs_int s' k t) noFill_list_mul F.fills_int_mul F.slot_int_rmul repeat_list F.slot_int_index.lookup
  (call_meets F.slot_int_rmul (typeIs_int s k t) F.entry_int_rmul (F.args_int_rmul_2 _ _) (int___rmul___int_list k t l its.toArray n)
   ⟨e,rfl,⟨_,e,rfl⟩,call_meets F.slot_list_mul ⟨_,e,rfl⟩ F.entry_list_mul (F.args_list_mul_2 _ _) (AutoListH.list___mul___list_int_3 l its.toArray n k t zR L5 BJ) ⟨e,?_⟩⟩)
 rw[FR];exact⟨.ref _,_,I.lnew (t':=s.toks) (r.rep k.toNat) (by rw[len_rep,Nat.mul_comm];exact hz),D?,q _ I.fresh⟩
end
section
variable{X:Cx}
end
end L2
namespace Att
open PySem PySem.W PySem.Calls PyProof.Rows
theorem ints_of_wellAll{P:Params}:∀(ns:List Int)(vs:List V8),WellAll P h vs (ns.map WData.int)->IntsAre vs ns:=by
 intro ns;induction ns with
 | nil =>
   intro vs w;rw[Ym]at w;cases w;exact .nil
 | cons n ns ih =>
   intro vs w;rw[WH]at w;cases w with
   | cons a b =>
     cases a;exact .cons _ _ (ih _ b)
theorem script_of{l:OpenLaw}(hn:l.most=A? n){P:Params}{args:List WData}{vals:List V8}
 (Al:l.row.toRowW.claim.pre args=Bq) (Cc:WellAll P h vals args) :
 ∃a vs ns,vals=[W3 a]/\args=[WData.list (ns.map WData.int)]/\h.get? a=A? {cls:=.type "list",data:=.seq vs.toArray}/\IntsAre vs ns/\ns.length<=n:=by
 have ED:WShape.hasAll [] args [.list .int]=true:=(pre_splitW Al).1;have hc:l.pre.holds [] {args:=args}=true:=(pre_splitW Al).2;obtain⟨d,r,rfl,h1,h2⟩:=hasAllW_cons ED;obtain rfl:=hasAllW_nil h2;obtain⟨xs,rfl,h3⟩:=hasW_list h1;obtain⟨ns,rfl⟩:=items_int h3
 have hlen:ns.length<=n:=by
  unfold OpenLaw.pre at hc
  have h4:(WTm.not (.lt (.lit (.int (n:Int))) (.len (.arg 0)))).holds [] {args:=[.list (ns.map .int)]}=true:=by
   have h4:=(holds_andW hc).1;rw[hn]at h4;exact h4
  have h5:=condW_of h4 (w_not (w_lt w_lit (w_len_list (w_arg rfl))));rw[V2]at h5;refine Nat.le_of_not_lt λq=>?_;have q':(n:Int)<((ns.length:Nat):Int):=by lia
  first
   |(rw[d! q']at h5;exact g! h5 (by decide))
   |(simp at h5;lia)
 cases Cc with
 | cons w1 w2 =>
   cases w2;cases w1 with
   |list ho zc=>exact⟨_,_,ns,D?,D?,ho,ints_of_wellAll ns _ zc,hlen⟩
theorem post_true(l:OpenLaw)(args:List WData):l.row.toRowW.claim.post args (.bool Bq) args=Bq :=
 postW_of (r:=l.row.toRowW) (X:=(Bq == Bq))
  (show WShape.has [] (.bool Bq) .bool=Bq by first|rfl|decide|simp[WShape.has,WShape.arms,WShape.armsAll])
  (show(WTm.eq .res (.lit (.bool Bq))).value [] {args:=args,res:=A? (.bool Bq),after:=args}=A? (.bool (Bq == Bq))from w_eq_bool (w_res rfl) w_lit) rfl
theorem attach_call{l:OpenLaw}{q:WJ}{d:DefRec}
 (hn:l.most=A? n) (EE:d.params.defaults=[])
 (call:∀(w:W0)(s₀ l':Wd)(mg mb:WE->Option V8)(fa:V6)(o:X6)(pm cd doc:V8)(a:V6)(vs:List V8)(ns:List Int),
  Ground q loose [] XP w s₀ mg mb l'.heap->YP w l'.heap ->
  l'.heap.get? fa=A? o->o.data=.func (docDef d.name d.params d.body d.scope pm cd doc)->l'.heap.CodeRec cd d.name->mg d.name=A? (.ref fa) ->
  l'.heap.get? a=A? {cls:=.type "list",data:=.seq vs.toArray}->IntsAre vs ns->ns.length<=n->l'.gens=#[] ->
  Zt (WN l.prog w) callerA (.call (.ref fa) ⟨[.ref a],[]⟩) (λr s'=>r=.ok (.ret (.bool Bq))/\OldK l'.heap s'.1/\s'.os=l'.os/\AllBare s'.gens) l') :
 WalkO q loose XP YP l.row.toRowW d [] (λf vs=>PySem.call f vs):=by
 intro w s₀ l' mg mb G Y fa o pm cd doc dV kV ho hd AD hD Ij hg args vals as Al Ri G7 Cc Rj;obtain rfl:dV=.none:=Dflts.none hD EE;obtain rfl:kV=.none:=Dflts.noKw hD;obtain⟨a,vs,ns,rfl,rfl,FT,hints,hlen⟩:=script_of hn Al Cc;refine enter_call (codeAny_mono (call w s₀ l' mg mb fa o pm cd doc a vs ns G Y ho (fd_plain hd) AD Ij FT hints hlen hg) λr s' hq=>?_);obtain⟨rfl,h2,h3,h4⟩:=hq;exact⟨.inl ⟨.bool Bq,.bool Bq,[],D?,λ_=>rfl,.bool Bq,post_true l _,λ_=>⟨List.Pairwise.nil,λ_ hm=>(nomatch hm)⟩⟩,h2,h3,h4⟩
section
variable{K:Frag}
end
end Att
namespace L2
open PySem PySem.Spec PyProof.Rows
theorem mZ:∀{vs:List V8}{ns:List Int},IntsAre vs ns->Vals (ns.map o!) vs
 |_,_,.nil=>.nil
 |_,_,.cons n t h=>.cons ⟨t,rfl⟩ (mZ h)
def inClass(s:Z5)(j:Nat):Z5:=match s with
 |.ClassDef _ _ _ body _ _ _ _ _ _ _=>body.getD j (.Pass ⟨0,0,0,0⟩)
 |_=>.Pass ⟨0,0,0,0⟩
def cA(s:Z5):Arguments:=match s with
 |.FunctionDef _ a _ _ _ _ _ _ _ _=>a
 |_=>{posonlyargs:=[],args:=[],vararg:=B?,kwonlyargs:=[],kw_defaults:=[],kwarg:=B?,defaults:=[]}
def bY(s:Z5):List Z5:=match s with
 |.FunctionDef _ _ b _ _ _ _ _ _ _=>b
 |_=>[]
def aC(s:Z5):Y2:=match s with
 |.FunctionDef _ _ _ _ _ _ sc _ _ _=>sc
 |_=>{kind:=.function,names:=[],isGenerator:=C?,isCoroutine:=C?}
abbrev CX0:CXT:=λ_ _ _ _ _ _=>False
abbrev E0:XK:=λ_ _ _=>False
theorem cW{X:Cx}:Passes CX0 X E0:=λ_ _ _ _ _ _ _ h=>h.elim
structure Fun(K:Wf)(x qual:WE)(st:Z5)(f:V6)(fd:YO):Prop where
 ex:∃(oc:V8)(od:Option V6)(kV doc pm:V8)(an:Option V6)(zh ct:V8)(Ed:Array (Option V8)),
  fd=PySem.W.fnOf x qual (cA st) (bY st) (aC st) .none kV doc pm an zh ct/\K.lookup f=A? ⟨oc,od,.func fd,Ed⟩/\PySem.W.codeIn K zh qual=Bq
 kp:YW K (.ref f)=Bq
theorem Fun.ok{k:Nat}(F:Fun K x qual st f fd)(S:bX N ps (aC st))(len:∀vs H Q E,sp vs H Q E->vs.length=ps.length)
 (zN:∀(zh:V8)(A:W5)(outer:List Env)(s:Wd)(H:Hp)(vs:List V)(Q:VK)(E:XK),Room k (A.deeper (YZ qual (aC st) s.1.1.size f zh))->sp vs H Q E ->
  ∃t,PSs (kb CX0 P w K mg base N qual (aC st) f zh A outer s H E).nox (bY st) t/\t {nx:=λ_ H'=>Q .non H',rt:=Q} (start N vs) H):bp P w K mg base CX0 (k+1) f fd ps sp:=by
 obtain⟨oc,od,kV,doc,pm,an,zh,ct,Ed,rfl,lk,AD⟩:=F.ex;refine t4 lk AD S len λA outer s H vs Q E hr Bb=>?_;obtain⟨t,h,q⟩:=zN zh A outer s H vs Q E hr Bb;exact⟨t,h.nox,q⟩
theorem Fun.okA{k:Nat}(F:Fun K x qual st f fd)(S:bX N ps (aC st))
 (zN:∀(zh:V8)(A:W5)(outer:List Env)(s:Wd)(H:Hp)(vs:List V)(Q:VK)(E:XK),Room k (A.deeper (YZ qual (aC st) s.1.1.size f zh))->sp vs H Q E ->
  ∃t,PSs (kb CX0 P w K mg base N qual (aC st) f zh A outer s H E).nox (bY st) t/\t {nx:=λ_ H'=>Q .non H',rt:=Q} (start N vs) H) (len:∀vs H Q E,sp vs H Q E->vs.length=ps.length:=by intro _ _ _ _ h;cases h;subst_vars;rfl):bp P w K mg base CX0 (k+1) f fd ps sp:=F.ok S len zN
theorem pgN{X:Cx}(i:Nat)(hN:X.N.Nodup)(hi:X.N[i]?=A? x:=by rfl)(hx:Loc X.env.scope x:=by first|exact .inl rfl|exact .inr rfl)(hf:X.fn x=Bq\/X.env.scope.names.lookup x=A? .local:=by first|exact .inl rfl|exact .inr rfl|assumption):PG X (.Name x pos) (au i):=vO hN hi hx hf
theorem am{X:Cx}(i:Nat){te:TE}(hN:X.N.Nodup)(he:PE X e te)(hi:X.N[i]?=A? x:=by rfl)(hx:Loc X.env.scope x:=by first|exact .inl rfl|exact .inr rfl)(hs:swapsWith e (A? (.Name x pos')) pos.line X.env=pure false:=by rfl)(hf:X.fn x=Bq\/X.env.scope.names.lookup x=A? .local:=by first|exact .inl rfl|exact .inr rfl|assumption):PS X (.Assign [.Name x pos'] e pos) (lN te (au i)):=xj hN hi hx he hs hf
theorem Fun.binds(F:Fun K x qual st f fd)
 (h:∀(kV doc pm:V8)(an:Option V6)(zh ct:V8)(us:List V8),us.length=ps.length->bindArgs (PySem.W.fnOf x qual (cA st) (bY st) (aC st) .none kV doc pm an zh ct) ⟨us,[]⟩=pure (ps.zip us)):Binds K fd ps []:=by
 obtain⟨oc,od,kV,doc,pm,an,zh,ct,Ed,rfl,lk,AD⟩:=F.ex;exact .all (h kV doc pm an zh ct)
theorem nA{oc:V8}{od an:Option V6}{Ed:Array (Option V8)}{kV doc pm zh ct:V8}(l:K.lookup f=A? ⟨oc,od,.func (PySem.W.fnOf x qual (cA st) (bY st) (aC st) .none kV doc pm an zh ct),Ed⟩)
 (c:PySem.W.codeIn K zh qual=Bq) (k:YW K (.ref f)=Bq):Fun K x qual st f (PySem.W.fnOf x qual (cA st) (bY st) (aC st) .none kV doc pm an zh ct):=⟨⟨oc,od,kV,doc,pm,an,zh,ct,Ed,rfl,l,c⟩,k⟩
theorem cK{k:Nat}(hr:Room k A):A.units+1<Zx:=Nat.lt_of_le_of_lt (Nat.add_le_add_left (by decide:1<=64) _) hr.units
section
variable{X:Cx}
theorem pv(i:Nat)(hN:X.N[i]?=A? x:=by rfl)(hv:Vis X.env.scope x:=by first|exact Or.inl rfl|exact Or.inr (Or.inl rfl)|exact Or.inr (Or.inr rfl))(hd:(x == ("__debug__":WE))=false:=by decide)
 (AD:(x == ("__classdict__":WE))=false:=by decide):PE X (.Name x pos) (bu i):=xF hN hv hd AD
end
theorem da{A:Prop}(h:B):if C?=Bq then A else B:=by
 rw[a! Wz];exact h
theorem de{A:Prop}(h:A):if Bq=Bq then A else B:=by
 rw[b! rfl];exact h
theorem fu{c A:Prop}[Decidable c](h1:c->A)(h2:¬c->B):if c then A else B:=by
 by_cases h:c
 .rw[b! h];exact h1 h
 .rw[a! h];exact h2 h
def Same(H H':Hp):Prop:=∀b o,H b=A? o->H' b=A? o
theorem Same.refl(H:Hp):Same H H:=λ_ _ h=>h
theorem Same.trans(a:Same H H1)(b:Same H1 H2):Same H H2:=λc o h=>b c o (a c o h)
theorem Same.free(e:Same H H')(h:H' l=Option.none):H l=Option.none:=by
 cases q:H l with
 |none=>rfl
 | some o =>
   rw[e l o q]at h;cases h
theorem Same.seq(e:Same H H')(h:SqL K H a xs):SqL K H' a xs:=by
 rcases h with(h|⟨o,h⟩)|h
 .exact .inl (.inl (e _ _ h))
 .exact .inl (.inr ⟨o,e _ _ h⟩)
 .exact .inr h
theorem iE(env:Env):∀(ns:List (WE×YD))(acc:List (WE×V6)),(∀n,(n,XB)∈ns->∃c,env.cells.lookup n=A? c) ->
 (∀x c,acc.lookup x=A? c->env.cells.lookup x=A? c) ->
 ∃cl,(forIn ns acc λ(x:WE×YD)(cs:List (WE×V6))=>(if(x.2 == XB)=Bq then(do let a <-cellOf env x.1;pure (YJ ((x.1,a)::cs)))else pure (YJ cs):Sem _))=pure cl /\
   (∀x c,cl.lookup x=A? c->env.cells.lookup x=A? c)/\(∀n,(n,XB)∈ns->∃c,cl.lookup n=A? c)/\∀n c,acc.lookup n=A? c->cl.lookup n=A? c
 | [],acc,_,ha=>⟨acc,rfl,ha,λ_ h=>by simp at h,λ_ _ h=>h⟩
 | (n,k)::r,acc,hf,ha=>by
   by_cases hk:k=XB
   .subst hk;obtain⟨c,hc⟩:=hf n Wj
    have Rk:∀x c',((n,c)::acc).lookup x=A? c'->env.cells.lookup x=A? c':=λx c' e=>by
     rw[XW]at e;cases hx:x == n with
     | true =>
       rw[hx]at e;have e1:x=n:=by simpa using hx
       cases e;rw[e1];exact hc
     |false=>rw[hx]at e;exact ha x c' e
    obtain⟨cl,h1,h2,h3,h4⟩:=iE env r ((n,c)::acc) (λm hm=>hf m (Wo _ hm)) Rk;have up:∀m c',((n,c)::acc).lookup m=A? c'->cl.lookup m=A? c':=h4;refine⟨cl,?_,h2,?_,?_⟩
    .rw[ZE];have e0:cellOf env n=pure c:=by unfold cellOf;rw[hc]
     simp only[beq_self_eq_true,if_true,e0,pure_bind];exact h1
    .intro m hm;rcases Wr.mp hm with e|e
     .have:m=n:=by simpa using(Prod.mk.inj e).1
      subst this;exact⟨c,up m c (by rw[XW];simp)⟩
     .exact h3 m e
    .intro m c' e;by_cases hm:m=n
     .subst hm;have:=ha m c' e;rw[hc]at this;cases this;exact up m c (by rw[XW];simp)
     .have Rl:(m == n)=false:=by simpa using hm
      exact up m c' (by rw[XW,Rl];exact e)
   .have hb:(k == XB)=false:=by simpa using hk
    obtain⟨cl,h1,h2,h3,h4⟩:=iE env r acc (λm hm=>hf m (Wo _ hm)) ha;refine⟨cl,?_,h2,?_,h4⟩
    .rw[ZE];simp only[hb,YF,if_false,pure_bind];exact h1
    .intro m hm;rcases Wr.mp hm with e|e
     .exact g! (Prod.mk.inj e).2.symm hk
     .exact h3 m e
theorem kL(hf:∀n,(n,XB)∈sc.names->∃c,env.cells.lookup n=A? c) :
 ∃cl,closureFor sc env=pure cl/\(∀x c,cl.lookup x=A? c->env.cells.lookup x=A? c)/\∀n,(n,XB)∈sc.names->∃c,cl.lookup n=A? c:=by
 obtain⟨cl,h1,h2,h3,_⟩:=iE env sc.names [] hf (λx c e=>by simp at e);refine⟨cl,?_,h2,h3⟩;unfold closureFor;have e:(forIn sc.names ([]:List (WE×V6)) λ(x:WE×YD)(cs:List (WE×V6))=>(do if(x.2 == XB)=Bq then(do let a <-cellOf env x.1;pure (YJ ((x.1,a)::cs)))else pure (YJ cs):Sem _))=pure cl:=h1
 first
  |(rw[show(forIn sc.names ([]:List (WE×V6)) _:Sem _)=pure cl from h1];rfl)
  |(simp only[h1,pure_bind])
theorem lp{f:WE×YD->WE×YD}(hf:∀p,(f p).1=p.1):∀{l:List (WE×YD)}{x:WE}{k:YD},l.lookup x=A? k->(l.map f).lookup x=A? (f (x,k)).2
 | [],_,_,h=>by simp at h
 | (n,k0)::r,x,k,h=>by
   have ih:=@lp f hf r x k;rw[WH];obtain⟨a,b,e⟩:∃a b,f (n,k0)=(a,b):=⟨_,_,rfl⟩;have ea:a=n:=by have:=hf (n,k0);rw[e]at this;exact this
   subst ea;rw[e,XW];cases hx:x == a with
   | true =>
     rw[XW,hx]at h;cases h;have:x=a:=by simpa using hx
     subst this;rw[e]
   |false=>rw[XW,hx]at h;exact ih h
theorem eW{f:WE×YD->WE×YD}(hf:∀p,(f p).1=p.1):∀{l:List (WE×YD)}{x:WE}{k:YD},(l.map f).lookup x=A? k->∃k0,(x,k0)∈l/\(f (x,k0)).2=k
 | [],_,_,h=>by simp at h
 | (n,k0)::r,x,k,h=>by
   have ih:=@eW f hf r x k;rw[WH]at h;obtain⟨a,b,e⟩:∃a b,f (n,k0)=(a,b):=⟨_,_,rfl⟩;have ea:a=n:=by have:=hf (n,k0);rw[e]at this;exact this
   subst ea;rw[e,XW]at h;cases hx:x == a with
   | true =>
     rw[hx]at h;cases h;have:x=a:=by simpa using hx
     subst this;exact⟨k0,Wj,by rw[e]⟩
   | false =>
     rw[hx]at h;obtain⟨k1,h1,h2⟩:=ih h;exact⟨k1,Wo _ h1,h2⟩
def rlb(env:Env)(p:WE×YD):WE×YD:=if(p.2 == XB && env.scope.kind == .function && env.kindOf p.1 == A? .cell)then(p.1,NameKind.cell)else(p.1,p.2)
theorem nj(env:Env)(p:WE×YD):(rlb env p).1=p.1:=by unfold rlb;split <;> rfl
theorem im(sc:Y2)(env:Env):(relabel sc env).names=sc.names.map (rlb env):=rfl
theorem jh(h:sc.names.lookup x=A? .free):(relabel sc env).names.lookup x=A? .cell\/(relabel sc env).names.lookup x=A? .free:=by
 rw[im,lp (nj env) h];unfold rlb;split
 .exact .inl rfl
 .exact .inr rfl
theorem lg(hn:∀y∈sc.names,y.2≠NameKind.cell)(h:(relabel sc env).names.lookup x=A? .cell\/(relabel sc env).names.lookup x=A? .free):(x,XB)∈sc.names:=by
 rw[im]at h
 have:∃k0,(x,k0)∈sc.names/\((rlb env (x,k0)).2=.cell\/(rlb env (x,k0)).2=.free):=by
  rcases h with h|h
  .obtain⟨k0,a,b⟩:=eW (nj env) h;exact⟨k0,a,.inl b⟩
  .obtain⟨k0,a,b⟩:=eW (nj env) h;exact⟨k0,a,.inr b⟩
 obtain⟨k0,hm,hk⟩:=this;have nc:=hn _ hm;cases k0 with
 |free=>exact hm
 |cell=>exact g! rfl nc
 |_=>simp[rlb]at hk
def cp(X:Cx)(N:List WE)(sc:Y2)(cl:List (WE×V6))(C:V6)(s:Wd)(H:Hp)(fp:List V6)(Y:List (V6×X6)):Cx :=
 {X with N:=N,s₀:=s,H₀:=H,env:=compEnvC sc cl C X.env,outer:=X.stack,ex:=fp,fn:=λ_=>C?,pn:=X.pn++Y,xe:=λ_ _=>False}
def cσ(js:List (Option Nat))(σ:St):St:=js.map λo=>o.bind λj=>(σ[j]?).join
structure fB(X:Cx)(sc:Y2)(N:List WE)(js:List (Option Nat)):Prop where
 kind:sc.kind=.function
 nocell:∀y∈sc.names,y.2≠NameKind.cell
 names:∀y∈sc.names,y.2=NameKind.local->sc.names.lookup y.1=A? .local
 frees:∀y∈sc.names,y.2=XB->X.env.kindOf y.1=A? .cell\/X.env.kindOf y.1=A? .free
 len:js.length=N.length
 slots:∀(i j:Nat)(x:WE),js[i]?=A? (A? j)->N[i]?=A? x->X.N[j]?=A? x/\sc.names.lookup x=A? .free/\(X.env.kindOf x=A? .cell\/X.env.kindOf x=A? .free)
theorem bK{X:Cx}(k:sc.kind=.function)(nc:∀y∈sc.names,y.2≠NameKind.cell)(nm:∀y∈sc.names,y.2=NameKind.local->sc.names.lookup y.1=A? .local)
 (fr:(sc.names.all λy=>y.2 != XB ||X.env.kindOf y.1 == A? NameKind.cell ||X.env.kindOf y.1 == A? XB)=Bq) (ln:js.length=N.length)
 (sl:((js.zip N).all λp=>match p.1 with|none=>Bq|some j=>X.N[j]? == A? p.2 && sc.names.lookup p.2 == A? XB && (X.env.kindOf p.2 == A? NameKind.cell ||X.env.kindOf p.2 == A? XB))=Bq):fB X sc N js:=by
 refine⟨k,nc,nm,λy hy hf=>?_,ln,λi j x e1 e2=>?_⟩
 .have h:=Zs.mp fr y hy;rw[hf]at h;simpa using h
 .have hm:(A? j,x)∈js.zip N:=by
   have:(js.zip N)[i]?=A? (A? j,x):=by rw[X0];exact⟨e1,e2⟩
   exact V5 this
  have h:=Zs.mp sl _ hm;simp at h;exact⟨h.1.1,h.1.2,h.2⟩
def PTs(X:Cx)(ifs:List Xb)(t:TT):Prop :=
 ∀(Y:List (V6×X6))(s:Wd)(σ:St)(H:Hp)(Q:Bool->Hp->Prop),Inv X Y σ H s->t σ H Q ->
   Ww (WN X.prog X.w) X.A (forIn ifs Bq λc r=>if r=Bq then do let ok <-isTrue c X.env (Yd c X.env);pure (YJ ok)else pure (YJ r)) (TP X Y σ Q) X.xe s
def aQ:TT:=λ_ H Q=>Q Bq H
theorem aU{X:Cx}:PTs X [] aQ:=λ_ _ _ H _ I h=>wpAny_tests_nil ⟨H,I,h⟩
theorem i8{X:Cx}{c:Xb}{t:TT}(h:PT X c t):PTs X [c] t:=λY s σ H Q I q=>wpAny_tests_one (h Y s σ H Q I q)
def Keep(σ i':St):Prop:=σ.length=i'.length/\∀(i:Nat)(v:V),σ[i]?=A? (A? v)->i'[i]?=A? (A? v)
def mP(js:List (Option Nat))(g:TG):Prop:=∀(σ zC:St)(x:V)(H:Hp)(Q:St->Hp->Prop),Keep (cσ js σ) zC->g x zC H Q->g x zC H λzl H2=>Keep (cσ js σ) zl/\Q zl H2
def nY(js:List (Option Nat))(g:TGs):Prop:=∀(σ zC:St)(x:List V)(H:Hp)(Q:St->Hp->Prop),Keep (cσ js σ) zC->g x zC H Q->g x zC H λzl H2=>Keep (cσ js σ) zl/\Q zl H2
theorem Keep.refl(σ:St):Keep σ σ:=⟨rfl,λ_ _ h=>h⟩
theorem uU(h:js[i]?=A? B?):(cσ js σ)[i]?=A? none:=by
 unfold cσ;rw[V7,h];rfl
theorem aD(h:js[i]?=A? B?):mP js (au i):=λσ zC x H Q k q=>by
 refine⟨⟨by rw[Yq];exact k.1,λj v e=>?_⟩,q⟩;by_cases hj:i=j
 .subst hj;rw[uU h]at e;cases e
 .rw[XD hj];exact k.2 j v e
theorem jD:nY js lO:=λσ zC x H Q k⟨e,q⟩=>⟨e,k,q⟩
theorem ck{t:TG}{u:TGs}(mono:∀x σ H(Q Q':St->Hp->Prop),(∀a b,Q a b->Q' a b)->t x σ H Q->t x σ H Q')(h1:mP js t)(h2:nY js u):nY js (cP t u):=λσ zC x H Q k⟨v,r,e,q⟩ =>
 ⟨v,r,e,mono _ _ _ _ _ (λa b⟨k',q'⟩=>h2 σ a r b Q k' q') (h1 σ zC v H _ k q)⟩
theorem bC:∀x σ H(Q Q':St->Hp->Prop),(∀a b,Q a b->Q' a b)->au i x σ H Q->au i x σ H Q':=λ_ _ _ _ _ h q=>h _ _ q
theorem jp{t:TGs}(h:nY js t):mP js (lV K n t):=λσ zC x H Q k⟨a,xs,e,hs,hl,q⟩=>⟨a,xs,e,hs,hl,h σ zC xs H Q k q⟩
def fV(js:List (Option Nat))(g:TG)(tt:TT)(te:TE)(σ:St)(J:It)(D:V6)(n:Nat)(W:Nat->Hp->Prop)(fin:Hp->Prop):Prop :=
 ∀i H,W i H->(J.stop i H/\fin H)\/(i<n/\J.go i H/\∀x H1,J.yld i H x H1->g x (cσ js σ) H1 λzl H2=>tt zl H2 λb H3 =>
   if b=Bq then te zl H3 λv H4=>∃ys,H4 D=A? (.lst ys)/\ys.length<WD/\W (i+1) (upd H4 D (.lst (ys++[v])))else W (i+1) H3)
def qM(js:List (Option Nat))(wi:TI)(g:TG)(tt:TT)(te:TE):TE:=λσ H Q=>wi σ H λJ H1=>∀D,H1 D=B? ->
 ∃(n:Nat)(W:Nat->Hp->Prop),W 0 (upd H1 D (.lst []))/\fV js g tt te σ J D n W λH'=>Q (.ref D) H'
section
variable{X:Cx}
theorem tW{h1:Xp}(S:fB X sc N js)(I:Inv X Y σ H s)
 (zm:∀x c,cl.lookup x=A? c->X.env.cells.lookup x=A? c) (Cd:∀n,(n,XB)∈sc.names->∃c,cl.lookup n=A? c)
 (hf:∀b∈fp,FpOk X Y H b) (zf:∀b∈fp,b<s.1.1.size) (AV:h1.Ns s.1.1.size λx=>ZK x ([]:List (WE×V8)))
 (Bc:∀b o,s.1.get? b=A? o->h1.get? b=A? o) :
 Inv (cp X N sc cl s.1.1.size s H fp Y) [] (cσ js σ) H {s with heap:=h1,toks:=t'}:=by
 have hok:(cp X N sc cl s.1.1.size s H fp Y).Ok :=
  { mod:=I.ok.mod
    kind:=S.kind
    glob:=I.ok.glob
    blt:=I.ok.blt
    above:=Wc _
    inj:=λx y c a b=>I.ok.inj x y c (zm x c a) (zm y c b)
    has:=λx h=>Cd x (lg S.nocell h)
    cab:=λx c h=>by cases h
    hd:=I.ok.hd
    frames:=I.ok.frames
    stk:=.inl rfl
    exf:=λb hb=>⟨λe=>g! (zf b hb) (by rw[e];exact Xy _),λx c e z=>(hf b hb).2.2.2.2.1 x c (zm x c e) z⟩
    bs:=I.bs
    bsz:=Xa I.ok.bsz I.sz
    noex:=λb o e hb=>by
     rcases(hf b hb).2.2.2.1 with h|h
     .exact I.ok.noex b o e h
     .exact g! (W8 (W8 (WC e) I.ok.bsz) h) (Xy _)
    exfs:=λb hb hm=>by
     rcases Wr.mp (I.stkSub b hm)with e|e
     .exact(hf b hb).2.1 e
     .exact(hf b hb).2.2.1 e
    funs:=I.stack
    frf:=I.stkFree }
 have hC:H s.1.1.size=none:=I.hok.fresh (Wc _);obtain⟨m0,KR,Ik⟩:=I.loc
 exact
  { ok:=hok
    os:=rfl
    bare:=I.bare
    base:=Un.kept Bc
    loc:=⟨_,AV,λi x v e1 e2 OV=>by
     have Ce:∃j,js[i]?=A? (A? j)/\σ[j]?=A? (A? v):=by
      unfold cσ at e2;rw[V7]at e2;cases q:js[i]? with
      |none=>rw[q]at e2;cases e2
      | some o =>
        rw[q]at e2;cases o with
        |none=>cases e2
        | some j =>
          refine⟨j,D?,?_⟩;have e3:(σ[j]?).join=A? v:=Wi e2;cases r:σ[j]? with
          |none=>rw[r]at e3;cases e3
          |some z=>rw[r]at e3;exact h! A? e3
     obtain⟨j,q1,q2⟩:=Ce;obtain⟨n1,n2,n3⟩:=S.slots i j x q1 e1;obtain⟨u,ru,look⟩:=Ik j x v n1 q2 (by rcases n3 with z|z;exact .inr (.inl z);exact .inr (.inr z));refine⟨u,ru,.inr ⟨jh n2,?_⟩⟩;have hm:(x,XB)∈sc.names:=lg (env:=X.env) S.nocell (jh n2);obtain⟨c,hc⟩:=Cd x hm;refine⟨c,hc,?_⟩;rcases look with⟨k1,_⟩|⟨_,c',z8,ic⟩
     .rcases n3 with z|z <;> (rw[k1]at z;cases z)
     .have:=zm x c hc;rw[z8]at this;cases this;exact ic.keeps Bc⟩
    cell:=λx c e=>by
     obtain⟨v,q⟩:=I.cell x c (zm x c e);exact⟨v,q.keeps Bc⟩
    free:=hC
    freeC:=λx c e=>I.freeC x c (zm x c e)
    pin:=λp hp=>by
     have B3:p∈X.pn++Y:=by simpa[cp]using hp
     obtain⟨a1,a2,a3,a4,a5⟩:=I.pin p B3;refine⟨Bc _ _ a1,a2,λe=>?_,λhm=>?_,a5⟩
     .have e':p.1=s.1.1.size:=e;exact g! (WC a1) (by rw[e'];exact Xy _)
     .rcases Wr.mp (I.stkSub p.1 hm)with e|e
      .exact a3 e
      .exact a4 e
    hok:=I.hok.kept Bc
    len:=by
     show(cσ js σ).length=N.length;unfold cσ;rw[V2];exact S.len }
theorem sw{R:Result->Wd->Prop}{target:Xb}{it acc:V8}(J:Nat->Wd->Prop)
 (turn:∀n s,J n s->Ww (WN prog w) A (Y8 it) (λr l'=>(r=B?/\R (.ok .next) l')\/∃v,r=A? v /\
  Ww (WN prog w) A (letOwnedTupleGo target it v) (λ_ zW=>Ww (WN prog w) A (assign target env v) (λ_ Bt =>
   Ww (WN prog w) A (forIn ifs Bq λc r=>if r=Bq then do let ok <-isTrue c env (Yd c env);pure (YJ ok)else pure (YJ r)) (λok Dy =>
    (ok=C?/\∃m,m<n/\J m Dy)\/(ok=Bq/\Ww (WN prog w) A (Yd elt env) (λx Il=>Ww (WN prog w) A (call (.builtin "list.append") [acc,x]) (λ_ Im=>∃m,m<n/\J m Im) (λ_ _=>False) Il) (λ_ _=>False) Dy))
    (λ_ _=>False) Bt) (λ_ _=>False) zW) (λ_ _=>False) l') (λ_ _=>False) s)
 (n:Nat) (h:J n s):Zt (WN prog w) A (.compLoop (.ListComp elt [⟨target,iter,ifs,0⟩] scope pos) 0 it acc env) R s:=by
 refine codeAny_loop rfl J (λn s hJ=>?_) n h;show Ww _ A ((compTurn (.ListComp elt [⟨target,iter,ifs,0⟩] scope pos) 0 it acc env).onRaise _) _ _ s;refine wpAny_noted ?_;rw[compTurn_list];have up:∀{α:Type}{m:Sem α}{Q:α->Wd->Prop}{E:V8->Wd->Prop}{s:Wd},Ww (WN prog w) A m Q (λ_ _=>False) s->Ww (WN prog w) A m Q E s:=λq=>XX q (λ_ _ z=>z) λ_ _ z=>z.elim;refine V3 (wpAny_standAt (V3 (XX (up (turn n s hJ)) (λr l' zk=>?_) λ_ _ z=>z)));rcases zk with⟨rfl,zk⟩|⟨v,rfl,zk⟩
 .exact Wa zk
 .refine V3 (XX (up zk) (λ_ zW Ac=>?_) λ_ _ z=>z);refine V3 (XX (up Ac) (λ_ Bt BK=>?_) λ_ _ z=>z);refine V3 (XX (up BK) (λok Dy zS=>?_) λ_ _ z=>z);rcases zS with⟨rfl,zS⟩|⟨rfl,zS⟩
  .exact Wa ⟨rfl,zS⟩
  .exact V3 (V3 (XX (up zS) (λx Il zT=>V3 (XX (up zT) (λ_ Im L6=>Wa (Wa ⟨rfl,L6⟩)) λ_ _ z=>z)) λ_ _ z=>z))
theorem lM{g:TG}{te:TE}{tn:Nat->Xp->Prop}{W:Nat->Hp->Prop}{fin:Hp->Prop}
 {R:V8->V6->Result->Wd->Prop} (hc:X.calm=Bq) (S:fB X sc N js) (I:Inv X Y σ H s) (T:Turn X.prog X.w X.K tg J fp it tn) (st:tn 0 s.1) (hf:∀b∈fp,FpOk X Y H b)
 (zm:∀x c,cl.lookup x=A? c->X.env.cells.lookup x=A? c) (Cd:∀n,(n,XB)∈sc.names->∃c,cl.lookup n=A? c)
 (hg:∀cl C s H fp Y,PG (cp X N sc cl C s H fp Y) tg g) (gk:mP js g) (ht:∀cl C s H fp Y,PTs (cp X N sc cl C s H fp Y) ifs tt) (he:∀cl C s H fp Y,PE (cp X N sc cl C s H fp Y) elt te)
 (w0:W 0 (upd H s.1.1.size (.lst []))) (turn:fV js g tt te σ J s.1.1.size n W fin)
 (hR:∀C H' s',C≠X.env.locals->s.1.1.size<C->(∃m,s'.1.Ns C m)->H' C=B?->(∀h' t',XA C s'.1 h'->Inv X Y σ H' {s' with heap:=h',toks:=t'})->fin H'->R (.ref s.1.1.size) C (.ok .next) s') :
 Ww (WN X.prog X.w) X.A (newList []) (λacc Bt=>Ww (WN X.prog X.w) X.A (newFunctionEnv sc X.env.globals cl [] X.env.qual B? .none (A? X.env)) (λIo Dy =>
  Zt (WN X.prog X.w) X.A (.compStart (.ListComp elt [⟨tg,iter,ifs,0⟩] sc pos) 0 (.ref it) acc {Io with scope:=relabel sc X.env}) (R acc Io.locals) Dy) E Bt) E s:=by
 refine Xc (wpAny_newFunctionEnv S.nocell (by intro y hy;simp at hy) (λzk Cf Cg=>?_) S.kind);dsimp only at Cf Cg |-;have I3:Inv X Y σ (upd H s.1.1.size (.lst [])) {s with heap:=s.1.push {cls:=.type "list",dict:=B?,data:=.seq ([]:List V8).toArray}}:=I.lnew (t':=s.toks) (its:=[]) .nil (by decide)
 have zf:∀b∈fp,b<s.1.1.size:=λb hb=>by
  obtain⟨o,ho,_⟩:=T.obj _ _ st b hb;exact WC ho
 have Fd:∀b o,s.1.get? b=A? o->(s.1.push {cls:=.type "list",dict:=B?,data:=.seq ([]:List V8).toArray}).get? b=A? o:=λb o e=>V9 _ e;have hsz:(s.1.push {cls:=.type "list",dict:=B?,data:=.seq ([]:List V8).toArray}).objs.size=s.1.1.size+1:=Xw ..;generalize KS:({s with heap:=s.1.push {cls:=.type "list",dict:=B?,data:=.seq ([]:List V8).toArray}}:Wd)=s3 at I3;have Ip:s.1.push {cls:=.type "list",dict:=B?,data:=.seq ([]:List V8).toArray}=s3.1:=by rw[<-KS]
 rw[Ip]at Cf Cg Fd hsz;rw[Ip];have Rm:∀t',({s with heap:=zk,toks:=t'}:Wd)={s3 with heap:=zk,toks:=t'}:=λt'=>by rw[<-KS]
 rw[Rm];have Bc:∀b o,s3.1.get? b=A? o->zk.get? b=A? o:=λb o e=>Cg.extBut b o (WT (WC e)) (V9 _ e);have L7:∀b∈fp,FpOk X Y (upd H s.1.1.size (.lst [])) b:=λb hb=>⟨by rw[aj (WT (zf b hb))];exact(hf b hb).1,(hf b hb).2⟩;have I4:=tW (t':=s.toks+([]:List (WE×V8)).length) S I3 zm Cd L7 (λb hb=>by rw[hsz];exact Nat.lt_succ_of_lt (zf b hb)) Cf Bc;generalize Vh:upd H s.1.1.size (.lst [])=H3 at I3 I4 L7 w0;have zM:tn 0 zk:=T.keep _ _ _ st λb hb o e=>Bc _ _ (Fd _ _ e)
 have Cb:∀{H':Hp},(∀b∈fp,H' b=B?)->∀b∈fp,FpOk (cp X N sc cl s3.1.1.size s3 H3 fp Y) [] H' b:=λ{H'}hn b hb=>by
  obtain⟨f0,f1,f2,f3,f4,f5⟩:=hf b hb;refine⟨hn b hb,λe=>?_,λhm=>?_,.inl hb,λx c e=>f4 x c (zm x c e),λp hp=>f5 p (by simpa[cp]using hp)⟩
  .have e':b=s3.1.1.size:=e;have h9:b<s.1.1.size:=zf b hb;rw[e',hsz]at h9;exact g! h9 (Nat.not_lt.mpr (Nat.le_succ _))
  .rcases Wr.mp (I.stkSub b hm)with e|e
   .exact f1 e
   .exact f2 e
 have loop:Zt (WN X.prog X.w) X.A (.compLoop (.ListComp elt [⟨tg,iter,ifs,0⟩] sc pos) 0 (.ref it) (.ref s.1.1.size) (compEnvC sc cl s3.1.1.size X.env)) (R (.ref s.1.1.size) s3.1.1.size)
  {s3 with heap:=zk,toks:=s.toks+([]:List (WE×V8)).length}:=by
  refine sw (λk s'=>∃i H',Inv (cp X N sc cl s3.1.1.size s3 H3 fp Y) [] (cσ js σ) H' s'/\tn i s'.1/\(∀b∈fp,H' b=B?)/\W i H'/\k=n - i) ?_ n ⟨0,H3,I4,zM,λb hb=>(L7 b hb).1,w0,rfl⟩;rintro k s5 ⟨i,H5,I5,G2,KN,w5,rfl⟩;rcases turn i H5 w5 with⟨stop,qn⟩|⟨z9,go,step⟩
  .refine thn (T.done (cp X N sc cl s3.1.1.size s3 H3 fp Y) rfl rfl rfl hc i [] s5 (cσ js σ) H5 _ I5 (Cb KN) G2 stop) λr s6⟨hr,I6⟩=>.inl ⟨hr,?_⟩;have I7:Inv X Y σ H5 s6:=I3.call' (ch:=fp) (I6.os.trans rfl) I6.base I6.hok I6.bare λb hb=>⟨(hf b hb).2.2.2.1,(hf b hb).2.1,(hf b hb).2.2.2.2.1,(hf b hb).2.2.2.2.2⟩;have OZ:H5 s3.1.1.size=none:=I6.free;have O0:s3.1.1.size≠X.env.locals:=Y4 I3.lt;obtain⟨m6,Rn,_⟩:=I6.loc;refine hR s3.1.1.size H5 s6 O0 (by lia) ⟨m6,Rn⟩ OZ (λh' t' sb=>?_) qn;refine I7.turned (it:=s3.1.1.size) (λb o hb e=>sb.extBut b o hb e) OZ O0 (.inr I3.sz) (λx c e z=>?_) λp hp z=>?_
   .obtain⟨v,q⟩:=I3.cell x c e;exact g! q.lt (by rw[z];exact Xy _)
   .exact g! (WC (I3.pin p hp).1) (by rw[z];exact Xy _)
  .refine thn (T.item (cp X N sc cl s3.1.1.size s3 H3 fp Y) rfl rfl rfl hc i [] s5 (cσ js σ) H5 _ I5 (Cb KN) G2 go) λr s6⟨u,hr,h6⟩=>.inr ⟨u,hr,?_⟩;refine thn h6 λ_ s7⟨x,H7,I7,r7,y7,L8,Ro⟩=>?_;have Rp:=I7.pinned (Cb Ro) (T.obj _ _ L8);refine thn (hg cl s3.1.1.size s3 H3 fp Y _ s7 (cσ js σ) H7 x u _ Rp r7 (gk σ (cσ js σ) x H7 _ (.refl _) (step x H7 y7))) λ_ s8⟨FU,H8,I8,k8,q8⟩=>?_;refine thn (ht cl s3.1.1.size s3 H3 fp Y _ s8 FU H8 _ I8 q8) λok s9⟨H9,I9,q9⟩=>?_
   have again:∀{s':Wd}{i':St}{H':Hp},Keep (cσ js σ) i'->Inv (cp X N sc cl s3.1.1.size s3 H3 fp Y) ([]++kN fp s7.1) i' H' s'->W (i+1) H'->∃m,m<n - i/\∃i H',Inv (cp X N sc cl s3.1.1.size s3 H3 fp Y) [] (cσ js σ) H' s'/\tn i s'.1/\(∀b∈fp,H' b=B?)/\W i H'/\m=n - i:=λ{s' i' H'}kp I' w'=>by
    refine⟨n - (i+1),by lia,i+1,H',(I'.unpinned).weak kp.1 kp.2,T.keep _ _ _ L8 λb hb o e=>(I'.pin (b,o) (WK _ (WK _ (dk hb e)))).1,λb hb=>?_,w',D?⟩;obtain⟨o,e,d⟩:=T.obj _ _ L8 b hb;exact(I'.pin (b,o) (WK _ (WK _ (dk hb e)))).2.1
   cases ok with
   | false =>
     refine .inl ⟨rfl,again k8 I9 ?_⟩;have O1:if C?=Bq then _ else W (i+1) H9:=q9
     rw[a! Wz]at O1;exact O1
   | true =>
     refine .inr ⟨rfl,?_⟩;rw[b! rfl]at q9;refine thn (he cl s3.1.1.size s3 H3 fp Y _ s9 FU H9 _ I9 q9) λvv Fe⟨v,G8,Rq,rv,ys,hD,Cw,Rr⟩=>?_;refine thn (bi _ Fe FU G8 (.ref s.1.1.size) [v] (.ref s.1.1.size) [vv] (λ_ H'=>W (i+1) H') Rq rfl (.cons rv .nil) ⟨_,ys,v,rfl,rfl,hD,Cw,Rr⟩) λ_ Vi⟨_,Rt,Ru,_,Rv⟩=>?_;exact again k8 Ru Rv
 exact codeAny_compStart_list loop (T.self X.A 0 _ _ _ zM loop)
theorem be{g:TG}{te:TE}(hc:X.calm=Bq)(S:fB X sc N js)(hi:PI X tg iter wi)
 (hg:∀cl C s H fp Y,PG (cp X N sc cl C s H fp Y) tg g) (gk:mP js g) (ht:∀cl C s H fp Y,PTs (cp X N sc cl C s H fp Y) ifs tt) (he:∀cl C s H fp Y,PE (cp X N sc cl C s H fp Y) elt te)
 (hs:∀x,foldedSetIterable iter X.env x=pure x:=by intro _;rfl):PE X (.ListComp elt [⟨tg,iter,ifs,0⟩] sc pos) (qM js wi g tt te):=by
 intro Y s σ H Q I h;obtain⟨cl,e1,e2,e3⟩:=kL (env:=X.env) (sc:=sc) λn hn=>I.ok.has n (S.frees _ hn rfl);rw[eval_ListComp];refine wpAny_comprehension_free (use:=B?) rfl hs e1 S.kind S.names (thn (hi Y s σ H _ I h) λv s1 h1=>thn h1 λKL s2 h2=>?_);obtain⟨it,fp,tn,J,H2,rfl,I2,T,EA,f2,R2⟩:=h2;obtain⟨n,W,w0,turn⟩:=R2 s2.1.1.size I2.fresh;refine lM (R:=λacc C=>compPost (WN X.prog X.w) X.A X.xe B? (EP X Y σ Q) acc C) hc S I2 T EA f2 e2 e3 hg gk ht he w0 turn λC H' s' _ _ hn _ inv fi=>?_;obtain⟨m,hm⟩:=hn;exact⟨m,hm,λh' sb=>⟨.ref s2.1.1.size,H',inv h' s'.toks sb,D?,fi⟩⟩
theorem dN{y:WE}{Iq py:Zb}{g:TG}{te:TE}(hN:X.N.Nodup)(hy:X.N[i]?=A? y)(Rw:Loc X.env.scope y)(hc:X.calm=Bq)(S:fB X sc N js)(hi:PI X tg iter wi)
 (hg:∀cl C s H fp Y,PG (cp X N sc cl C s H fp Y) tg g) (gk:mP js g) (ht:∀cl C s H fp Y,PTs (cp X N sc cl C s H fp Y) ifs tt) (he:∀cl C s H fp Y,PE (cp X N sc cl C s H fp Y) elt te)
 (Rx:swapsWith (.ListComp elt [⟨tg,iter,ifs,0⟩] sc pos) (A? (.Name y py)) Iq.line X.env=pure true:=by rfl)
 (hs:∀x,foldedSetIterable iter X.env x=pure x:=by intro _;rfl) (hf:X.fn y=Bq\/X.env.scope.names.lookup y=A? .local:=by first|exact .inl rfl|exact .inr rfl|assumption) :
 PS X (.Assign [.Name y py] (.ListComp elt [⟨tg,iter,ifs,0⟩] sc pos) Iq) (lN (qM js wi g tt te) (au i)):=by
 intro Y s σ H D I h;obtain⟨cl,e1,e2,e3⟩:=kL (env:=X.env) (sc:=sc) λn hn=>I.ok.has n (S.frees _ hn rfl);rw[exec_Assign_Name_used _ _ _ _ Rx];refine V3 (wpAny_standAt (V3 ?_));show Ww _ X.A (do let _ <-comprehension (.ListComp elt [⟨tg,iter,ifs,0⟩] sc pos) sc X.env _ (newList []) C? (Yd iter X.env) (A? (assign (.Name y py) X.env))) _ _ s;refine V3 (XX (wpAny_comprehension_free (use:=A? (assign (.Name y py) X.env)) (Q:=λ_ s'=>SP X Y D .next s') rfl hs e1 S.kind S.names (thn (hi Y s σ H _ I h) λv s1 h1=>thn h1 λKL s2 h2=>?_)) (λ_ s' hq=>Wa (Wa hq)) λ_ _ z=>z);obtain⟨it,fp,tn,J,H2,rfl,I2,T,EA,f2,R2⟩:=h2;obtain⟨n,W,w0,turn⟩:=R2 s2.1.1.size I2.fresh;refine lM (R:=λacc C=>compPost (WN X.prog X.w) X.A X.xe (A? (assign (.Name y py) X.env)) (λ_ s'=>SP X Y D .next s') acc C) hc S I2 T EA f2 e2 e3 hg gk ht he w0 turn λC H' s' O2 hC hn L9 inv fi=>?_;obtain⟨m,hm⟩:=hn
 have I5:Inv X Y σ H' s':=by
  have q:=inv s'.1 s'.toks (.refl ..);exact q
 refine wpAny_assign_Name (l7 (v:=.ref s2.1.1.size) I5 hN hy Rw rfl (λs6 I6⟨a,sb,ha⟩=>?_) hf)
 have Ry:C≠a:=by
  rcases ha with ha|ha
  .rw[ha];exact O2
  .intro z;obtain⟨v,q⟩:=I2.cell y a ha;exact g! (Zr q.lt hC) (by rw[z];exact Xy _)
 refine⟨m,hm.sameBut sb Ry,λh' Ir=>⟨_,H',I6.turned (it:=C) (t':=s6.toks) (λb o hb e=>Ir.extBut b o hb e) L9 O2 (.inr (Xa I2.sz (Yi hC))) (λx c e z=>?_) λp hp z=>?_,fi⟩⟩
 .obtain⟨v,q⟩:=I2.cell x c e;exact g! (Zr q.lt hC) (by rw[z];exact Xy _)
 .exact g! (Zr (WC (I2.pin p hp).1) hC) (by rw[z];exact Xy _)
end
def lS{α:Type}(xs:List α)(lo hi:Option Int):List α:=(xs.drop (q! xs.length 0 lo)).take (q! xs.length xs.length hi - q! xs.length 0 lo)
def fG(z:WE)(lo hi:Option Int):WE:=⟨(lS z.cps.toList lo hi).toArray⟩
theorem ud(xs:List α)(a n:Nat):((XS n).map λ(k:Nat)=>a+k).filterMap (xs[·]?)=(xs.drop a).take n:=by
 induction n with
 |zero=>simp
 | succ n ih =>
   rw[List.range_succ,WB,List.filterMap_append,ih,X4];congr 1;rw[List.getElem?_drop];cases h:xs[a+n]? <;> simp[h]
theorem sr(n d:Nat)(i:Int):max 0 (min (if i<0 then i+(n:Int)else i) (n:Int))=((q! n d (A? i):Nat):Int):=by
 show max 0 (min (if i<0 then i+(n:Int)else i) (n:Int))=(((if i<0 then(i+(n:Int)).toNat else min i.toNat n):Nat):Int);by_cases h:i<0
 .rw[b! h,b! h];lia
 .rw[a! h,a! h];lia
theorem uA(A B:Int)(a b:Nat)(hA:A=(a:Int))(hB:B=(b:Int)):sliceRange A B 1=(XS (b - a)).map λ(k:Nat)=>a+k:=by
 subst hA;subst hB;unfold sliceRange;simp only[show(1:Int) > 0 by decide,if_true]
 have c:(if(a:Int)<(b:Int)then((b:Int) - a+1 - 1) / 1 else 0).toNat=b - a:=by
  split
  .rw[Int.ediv_one];lia
  .lia
 rw[c];refine List.map_congr_left λk _=>?_;lia
theorem qR(lo hi:Option Int)(n:Nat):Builtin.Str.strSliceIndices lo hi 1 n=(XS (q! n n hi - q! n 0 lo)).map λ(k:Nat)=>q! n 0 lo+k:=by
 unfold Builtin.Str.strSliceIndices;simp only[show(1:Int) > 0 by decide,if_true];cases lo <;> cases hi <;> refine uA _ _ _ _ ?_ ?_ <;> first|rfl|exact sr _ _ _
theorem eS(z:WE)(lo hi:Option Int):(fG z lo hi).length<=z.length:=by
 show(lS z.cps.toList lo hi).toArray.size<=z.cps.size;unfold lS;rw[Wn,W9,Xm,WO];lia
theorem lT(x:WE)(t:Tok)(l u:Option (Int×Tok))(hz:x.length<=WD)(h:∀t' k,Q (.str (fG x (l.map (·.1)) (u.map (·.1))) t') {s with toks:=k}):(sliceMade x t l u B?).post Q s:=by
 have e:(slicePicked x l u B?).filterMap (x.cps[·]?)=lS x.cps.toList (l.map (·.1)) (u.map (·.1)):=by
  unfold slicePicked lS;show(Builtin.Str.strSliceIndices (l.map (·.1)) (u.map (·.1)) 1 x.length).filterMap (x.cps[·]?)=_;rw[qR,show(x.cps[·]?)=(x.cps.toList[·]?)from funext λi=>(Zg ..).symm,ud,WO];rfl
 unfold sliceMade;split
 .rename_i hc
  have hl:(slicePicked x l u B?).length=x.length:=by
   have:=(Yl _ _ ▸ hc).2;simpa using this
  have hw:fG x (l.map (·.1)) (u.map (·.1))=x:=by
   have e2:(lS x.cps.toList (l.map (·.1)) (u.map (·.1)))=x.cps.toList:=by
    have hp:slicePicked x l u B?=(XS (q! x.length x.length (u.map (·.1)) - q! x.length 0 (l.map (·.1)))).map λ(k:Nat)=>q! x.length 0 (l.map (·.1))+k:=qR _ _ _;rw[hp,V2,List.length_range]at hl;have b1:=HT.sIx_le x.length x.length (Wc _) (u.map (·.1));have hx:x.cps.toList.length=x.length:=WO;unfold lS;rw[hx,hl];have Ma:q! x.length 0 (l.map (·.1))=0\/x.length=0:=by lia
    rcases Ma with h0|h0
    .rw[h0,ZR,Xv (by rw[hx];exact Wc _)]
    .have:x.cps.toList=[]:=Yo.mp (by rw[hx];exact h0);rw[this];simp
   unfold fG;rw[e2]
  have:=h t s.toks;rw[hw]at this;exact this
 .show(⟨((slicePicked x l u B?).filterMap (x.cps[·]?)).toArray⟩:WE).length<=WD/\Q _ _;rw[e];exact⟨Xa (eS x _ _) hz,h s.toks (s.toks+1)⟩
section
variable{X:Cx}
inductive vS(x:V)(lo:Option Int)(hi:Option Int)(H:Hp)(Q:VK):Prop
 |mk (z:_) (Br:x=.str z) (Bs:z.length<=WD) (CN:Q (.str (fG z lo hi)) H):vS  x lo hi H Q
def yW:V->Option Int->Option Int->Hp->VK->Prop:=vS
theorem part_of{v:V8}{o:Option Int}(h:IsPart v o):∃l:Option (Int×Tok),v=partValue l/\l.map (·.1)=o:=by
 cases h with
 |none=>exact⟨B?,D?,D?⟩
 |int i t=>exact⟨A? (i,t),D?,D?⟩
theorem pY:SlR X yW:=by
 intro Y s σ H x v vl vu lo hi sl Q I rx hs pl pu h;obtain⟨z,rfl,hz,q⟩:=h;obtain⟨t,rfl⟩:=rx;obtain⟨l,rfl,rfl⟩:=part_of pl;obtain⟨u,rfl,rfl⟩:=part_of pu;refine⟨"str",_,F.slot_str_getitem.lookup,typeIs_str s z t,wpAny_getItem_str_slice (l:=l) (u:=u) (st:=B?) ?_ rfl (lT z t l u hz λt' k=>?_)⟩
 .obtain⟨o,ho,hc,hd⟩:=hs;exact⟨o,ho,hc,hd⟩
 .exact⟨.str (fG z (l.map (·.1)) (u.map (·.1))),H,I.tok k,⟨_,D?⟩,q⟩
def xE:V->List V->Hp->VK->Prop:=λx vs H Q=>∃z y i r,x=.str z/\vs=[.str y]/\Builtin.Str.occurrences z y 0 z.length 1=i::r/\Q (.int (i:Nat)) H
theorem tz:MtR X "str.index" xE:=by
 intro Y s σ H x vs v us Q I rx rv h;obtain⟨z,y,i,r,rfl,rfl,ho,q⟩:=h;obtain⟨t,rfl⟩:=rx;obtain⟨u,rfl,u',rfl⟩:=rv.one;exact SC.index ho ⟨.int (i:Nat),H,I.tok _,⟨_,rfl⟩,q⟩
theorem gz(hc:X.calm=Bq):hX X (.builtin "sum") (λxs H Q=>∃(p:V6)(ns:List Int),xs=[.ref p]/\SqL X.K H p (ns.map o!)/\Q (.int ns.sum) H):=by
 intro Y s σ H xs us Q I r h;obtain⟨p,ns,rfl,hl,q⟩:=h;obtain⟨u,rfl,rx⟩:=vals1 r;cases rx;obtain⟨its,rv,pl,_⟩:=I.list hl;have hi:=intsAre_of rv;obtain⟨ys,e⟩:=(hi.allInts).items;have Dc:s.1.IsList p (intItems ys):=by rw[<-e];exact pl.isList
 refine sum_intListG (I.ok.hd hc) Dc λh' tk t' hk=>?_
 have e3:preSum (numAt ys) ys.size=ns.sum:=by
  rw[preSum_eq,Xv (by simp),<-nums_intItems,<-e];show(numsOf its).sum=_;rw[hi.numsOf]
 rw[e3];exact⟨.int ns.sum,H,I.kept hk,⟨_,D?⟩,q⟩
theorem my(hc:X.calm=Bq):hX X (.builtin "max") (λxs H Q=>∃(p:V6)(ns:List Int),xs=[.ref p]/\SqL X.K H p (ns.map o!)/\ns≠[]/\∀M,M∈ns->(∀a,a∈ns->a<=M)->Q (.int M) H):=by
 intro Y s σ H xs us Q I r h;obtain⟨p,ns,rfl,hl,zp,q⟩:=h;obtain⟨u,rfl,rx⟩:=vals1 r;cases rx;obtain⟨its,rv,pl,_⟩:=I.list hl;have hi:=intsAre_of rv;have hlen:=hi.length;obtain⟨ys,e⟩:=(hi.allInts).items;have Dc:s.1.IsList p (intItems ys):=by rw[<-e];exact pl.isList
 have hn:ys.toList.map (·.1)=ns:=by rw[<-nums_intItems,<-e];exact hi.numsOf
 have hsz:0<ys.size:=by
  have:ns.length=ys.size:=by rw[<-hn];simp
  have:=List.length_pos_iff.mpr zp;lia
 refine max_intList (I.ok.hd hc) Dc hsz λv h' tk hv hk=>?_;obtain⟨t,rfl⟩:=intItems_at hv;obtain⟨h1,h2⟩:=argBest_gt (numAt ys) (ys.size - 1);refine⟨.int _,H,I.kept hk,⟨_,D?⟩,q _ ?_ λa ha=>?_⟩
 .rw[numAt_eq,<-hn];exact getD_mem (by rw[V2,WO];lia)
 .rw[<-hn]at ha;obtain⟨j,hj,rfl⟩:=mem_getD ha;rw[V2,WO]at hj;rw[<-numAt_eq];exact h2 j (by lia)
end
end L2
open L2 renaming Same->j!
namespace PySem
namespace F
end F
open Sem (wp)
end PySem
namespace L2
open PySem PySem.Spec PyProof.Rows
section
variable{X:Cx}{te:TE}{p p2 zz:Zb}
def Itv(K:Wf)(a:V6)(n:Nat):It:=⟨λi H=>i<n/\∃xs,SqL K H a xs/\xs.length=n,λi H x H'=>H'=H/\∀xs,SqL K H a xs->xs[n - 1 - i]?=A? x,λi _=>i=n⟩
theorem uj(a it:V6)(n:Nat):Turn P w K tg (Itv K a n) [it] it (λi h=>h.IsRevIter it a ((n:Int) - 1 - (i:Nat))) where
 mem:=by simp
 obj:=λi h st b hb=>by
  have e:b=it:=by simpa using hb
  subst e;obtain⟨o,e,c,d⟩:=st;exact⟨o,e,λv z=>by rw[d]at z;cases z⟩
 keep:=λi h h' st k=>st.at λo e=>k it (by simp) o e
 item:=by
  intro X hP hw hK hc i Y s σ H E I hf st hg;subst hP hw hK;obtain⟨hi,xs,hq,hx⟩:=hg;obtain⟨its,rv,p,hz⟩:=I.list hq;have hl:=rv.length;obtain⟨x,BL⟩:∃x,xs[n - 1 - i]?=A? x:=⟨_,V4 (by lia)⟩;obtain⟨u,hu,ru⟩:=rv.get BL;obtain⟨f0,f1,f2,f3,f4,f5⟩:=hf it (by simp);have e1:(n:Int) - 1 - (i:Nat)=((n - 1 - i:Nat):Int):=by lia
  rw[e1]at st;refine wpAny_pyNext_rev_item st p.isList (x:=u) (by simpa using hu) λh' Dd sb=>?_;have I1:Inv X Y σ H {s with heap:=h'}:=I.turned (t':=s.toks) (λb o hb e=>(sb.2 b hb).trans e) f0 f1 f3 f4 f5;have e2:((n - 1 - i:Nat):Int) - 1=(n:Int) - 1 - ((i+1:Nat):Int):=by lia
  rw[e2]at Dd;obtain⟨o,e,c,d⟩:=id Dd;exact⟨u,D?,qL (s:={s with heap:=h'}) e c d (by decide) ⟨x,H,I1,ru,⟨D?,λys hy=>by rw[I.list_inj hy hq];exact BL⟩,Dd,λb hb=>(hf b hb).1⟩⟩
 done:=by
  intro X hP hw hK hc i Y s σ H E I hf st hg;subst hP hw hK;have Rz:i=n:=hg;subst Rz;obtain⟨f0,f1,f2,f3,f4,f5⟩:=hf it (by simp);rw[show(i:Int) - 1 - (i:Nat)=-1 by lia]at st;exact wpAny_pyNext_rev_end (I.ok.hd hc) st λh' eb=>⟨rfl,I.turned (t':=s.toks) (λb o hb e=>eb b o hb e) f0 f1 f3 f4 f5⟩
 self:=λ_ _ _ _ _ st h=>wpAny_pyIter_revIter st h
def yO(K:Wf)(tl:TE):TI:=λσ H R=>tl σ H λx H1=>∃a xs,x=.ref a/\SqL K H1 a xs/\R (Itv K a xs.length) H1
theorem xy(g2:Gl X "reversed")(m2:X.mg "reversed"=B?)(he:PE X e te)(h2:W6 [e] X.env=[(C?,Yd e X.env)]:=by rfl):PI X tg (.Call (.Name "reversed" p2) [e] [] zz) (yO X.K te):=by
 intro Y s σ H R I h;refine Xz (d9 I g2 m2 boot_reversed (Xu ?_ h2 rfl));rw[h2];show Ww _ _ (spliced ((C?,Yd e X.env)::[])) _ _ s;refine Ye (thn (he Y s σ H _ I h) λu s1⟨x,H1,I1,r1,a,ys,ex,hq,q⟩=>YA ?_);subst ex;cases r1;obtain⟨its,rv,p,hz⟩:=I1.list hq;have hl:=rv.length;refine call_reversed_list p.isList ?_
 have hit:(s1.1.push (revObj a ((its.toArray.size:Int) - 1))).IsRevIter s1.1.1.size a ((ys.length:Int) - 1 - ((0:Nat):Int)):=by
  rw[hl,show(its.length:Int) - 1 - ((0:Nat):Int)=(its.toArray.size:Int) - 1 by rw[Wn];lia];exact⟨_,Wh _ rfl,D?,D?⟩
 refine wpAny_pyIter_revIter (s:={s1 with heap:=s1.1.push (revObj a ((its.toArray.size:Int) - 1))}) hit ?_;refine⟨s1.1.1.size,[s1.1.1.size],_,_,H1,D?,I1.kept (t':=s1.toks) λb o e=>V9 _ e,uj a _ ys.length,hit,λb hb=>?_,q⟩;have e:b=s1.1.1.size:=by simpa using hb
 subst e;exact I1.fpOk (Wc _) (I1.hok.fresh (Wc _))
theorem vI{g:TG}(Pv:Nat->St->Hp->Prop)(h0:Pv 0 σ H)(hl:∀i σ H,i<=xs.length->Pv i σ H->SqL K H a xs)
 (hs:∀i x σ H,i<xs.length->xs[xs.length - 1 - i]?=A? x->Pv i σ H->g x σ H λzl H2=>tb {D with nx:=Pv (i+1),ct:=Pv (i+1),bk:=D.nx} zl H2) (hd:∀σ H,Pv xs.length σ H->D.nx σ H) :
 ∃W:Nat->Nat->St->Hp->Prop,(∃m,W 0 m σ H)/\∀i m σ H,W i m σ H ->
   ((Itv K a xs.length).stop i H/\D.nx σ H)\/((Itv K a xs.length).go i H/\∃N:St->Hp->Prop,(∀i' H',N i' H'->∃m',m'<m/\W (i+1) m' i' H')/\∀x H',(Itv K a xs.length).yld i H x H'->g x σ H' λzl H2=>tb {D with nx:=N,ct:=N,bk:=D.nx} zl H2):=by
 refine⟨λi m σ H=>i<=xs.length/\m=xs.length - i/\Pv i σ H,⟨xs.length,WY _,D?,h0⟩,?_⟩;rintro i m σ H ⟨hi,rfl,p⟩;by_cases h:i=xs.length
 .left;exact⟨h,hd σ H (by rw[<-h];exact p)⟩
 .right;have BM:i<xs.length:=by lia
  refine⟨⟨BM,xs,hl i σ H hi p,D?⟩,Pv (i+1),λi' H' q=>⟨xs.length - (i+1),by lia,by lia,D?,q⟩,?_⟩;rintro x H' ⟨rfl,hx⟩;exact hs i x σ H' BM (hx xs (hl i σ H' hi p)) p
end
end L2
namespace BB
open PySem L2
set_option genInjectivity true in
inductive Th where
 |knot (n:WE) (ks:List Th)
 |call (s k:Int)
def q:WE:=Wb "?"
def Th.kids:Th->List Th
 |.knot _ ks=>ks
 |.call _ _=>[]
mutual
def Th.size:Th->Nat
 |.knot _ ks=>aq ks+1
 |.call _ _=>1
def aq:List Th->Nat
 | []=>0
 |t::ts=>t.size+aq ts
end
mutual
def Th.tall:Th->Nat
 |.knot _ ks=>bD ks+1
 |.call _ _=>1
def bD:List Th->Nat
 | []=>0
 |t::ts=>max t.tall (bD ts)
end
mutual
def Th.walk:Th->List Th
 |.knot n ks=>.knot n ks::walks ks
 |.call s k=>[.call s k]
def walks:List Th->List Th
 | []=>[]
 |t::ts=>t.walk++walks ts
end
theorem Th.walk_eq(t:Th):t.walk=t::walks t.kids:=by
 cases t with
 |knot n ks=>rw[Th.walk];rfl
 |call s k=>rw[Th.walk];simp[Th.kids,walks]
theorem Th.size_eq(t:Th):t.size=aq t.kids+1:=by
 cases t with
 |knot n ks=>rw[Th.size];rfl
 |call s k=>rw[Th.size];simp[Th.kids,aq]
theorem Th.tall_eq(t:Th):t.tall=bD t.kids+1:=by
 cases t with
 |knot n ks=>rw[Th.tall];rfl
 |call s k=>rw[Th.tall];simp[Th.kids,bD]
theorem jl:∀a b:List Th,walks (a++b)=walks a++walks b
 | [],b=>by simp[walks]
 |t::a,b=>by rw[List.cons_append,walks,walks,jl a b,YN]
theorem cn:∀a b:List Th,aq (a++b)=aq a+aq b
 | [],b=>by simp[aq]
 |t::a,b=>by rw[List.cons_append,aq,aq,cn a b,Nat.add_assoc]
mutual
theorem Th.walk_len:∀t:Th,t.walk.length=t.size
 |.knot n ks=>by rw[Th.walk,Th.size,Wq,jr ks]
 |.call s k=>by rw[Th.walk,Th.size];rfl
theorem jr:∀ts:List Th,(walks ts).length=aq ts
 | []=>rfl
 |t::ts=>by rw[walks,aq,Wk,t.walk_len,jr ts]
end
theorem Th.size_pos(t:Th):1<=t.size:=by rw[t.size_eq];lia
mutual
def At(H:Hp):Th->V6->Prop
 |.knot n ks,a=>n≠q/\∃as:List V6,H a=A? (.tup (.str n::as.map k!))/\Ats H ks as
 |.call s k,a=>H a=A? (.tup [.str q,.int s,.int k])
def Ats(H:Hp):List Th->List V6->Prop
 | [],as=>as=[]
 |t::ts,as=>∃a r,as=a::r/\At H t a/\Ats H ts r
end
def KT(H H':Hp):Prop:=∀b xs,H b=A? (.tup xs)->H' b=A? (.tup xs)
theorem KT.trans(a:KT H H1)(b:KT H1 H2):KT H H2:=λc o h=>b c o (a c o h)
theorem Same.kt(h:j! H H'):KT H H':=λb xs e=>h b _ e
theorem iA(h:H l=B?):KT H (upd H l o):=λb xs e=>by rw[aj (av e h)];exact e
theorem cL(h:H l=A? (.lst xs)):KT H (upd H l o):=λb ys e=>by rw[aj (aF e h (by intro z;cases z))];exact e
mutual
theorem At.mono(k:KT H H'):∀{t:Th}{a:V6},At H t a->At H' t a
 | .knot n ks,a,h=>by
   rw[At]at h |-;obtain⟨h0,as,h1,h2⟩:=h;exact⟨h0,as,k _ _ h1,Ats.mono k h2⟩
 | .call s c,a,h=>by
   rw[At]at h |-;exact k _ _ h
theorem Ats.mono(k:KT H H'):∀{ts:List Th}{as:List V6},Ats H ts as->Ats H' ts as
 | [],as,h=>by rw[Ats]at h |-;exact h
 | t::ts,as,h=>by
   rw[Ats]at h |-;obtain⟨a,r,e,h1,h2⟩:=h;exact⟨a,r,e,At.mono k h1,Ats.mono k h2⟩
end
theorem Ats.nil:Ats H [] []:=by rw[Ats]
theorem Ats.cons{t:Th}{ts:List Th}(h1:At H t a)(h2:Ats H ts as):Ats H (t::ts) (a::as):=by rw[Ats];exact⟨a,as,D?,h1,h2⟩
theorem Ats.append:∀{ts us:List Th}{as bs:List V6},Ats H ts as->Ats H us bs->Ats H (ts++us) (as++bs)
 | [],us,as,bs,h,g=>by rw[Ats]at h;subst h;exact g
 | t::ts,us,as,bs,h,g=>by
   rw[Ats]at h;obtain⟨a,r,rfl,h1,h2⟩:=h;exact .cons h1 (h2.append g)
theorem Ats.length:∀{ts:List Th}{as:List V6},Ats H ts as->as.length=ts.length
 | [],as,h=>by rw[Ats]at h;subst h;rfl
 | t::ts,as,h=>by
   rw[Ats]at h;obtain⟨a,r,rfl,h1,h2⟩:=h;rw[Wq,Wq,h2.length]
theorem Ats.reverse:∀{ts:List Th}{as:List V6},Ats H ts as->Ats H ts.reverse as.reverse
 | [],as,h=>by rw[Ats]at h;subst h;exact .nil
 | t::ts,as,h=>by
   rw[Ats]at h;obtain⟨a,r,rfl,h1,h2⟩:=h;rw[Xx,Xx];exact h2.reverse.append (.cons h1 .nil)
theorem Ats.get:∀{ts:List Th}{as:List V6}{i:Nat}{a:V6},Ats H ts as->as[i]?=A? a->∃t,ts[i]?=A? t/\At H t a
 | [],as,i,a,h,e=>by rw[Ats]at h;subst h;simp at e
 | t::ts,as,i,a,h,e=>by
   rw[Ats]at h;obtain⟨b,r,rfl,h1,h2⟩:=h;cases i with
   |zero=>simp at e;subst e;exact⟨t,D?,h1⟩
   |succ i=>exact h2.get (i:=i) (by simpa using e)
theorem Ats.at:∀{ts:List Th}{as:List V6}{i:Nat}{t:Th},Ats H ts as->ts[i]?=A? t->∃a,as[i]?=A? a/\At H t a
 | [],as,i,a,h,e=>by simp at e
 | t::ts,as,i,a,h,e=>by
   rw[Ats]at h;obtain⟨b,r,rfl,h1,h2⟩:=h;cases i with
   |zero=>simp at e;subst e;exact⟨b,D?,h1⟩
   |succ i=>exact h2.at (i:=i) (by simpa using e)
theorem Ats.snoc_inv{ts:List Th}(h:Ats H ts (as++[a])):∃us t,ts=us++[t]/\Ats H us as/\At H t a:=by
 have r:=h.reverse;rw[Yw,Y5,Zf]at r;cases e:ts.reverse with
 |nil=>rw[e,Ats]at r;cases r
 | cons t us =>
   rw[e,Ats]at r;obtain⟨b,z,e1,h1,h2⟩:=r;cases e1;refine⟨us.reverse,t,?_,?_,h1⟩
   .rw[<-Xx,<-e,YM]
   .have:=h2.reverse;rw[YM]at this;exact this
end BB
open BB.Same renaming kt->n!
open BB.Th renaming knot->p!,call->r!,tall->x!,walk->D!,size_pos->I!,size->K!
variable{p head:BB.Th}{ms L row Ts Ls pats:List BB.Th}{rows:List (List BB.Th)}{As:List (BB.Th×Nat)}
namespace BB
open PySem L2
mutual
def Th.Nm(L:Nat):Th->Prop
 |.knot n ks=>n.length<=L/\Nms L ks
 |.call _ _=>True
def Nms(L:Nat):List Th->Prop
 | []=>True
 |t::ts=>t.Nm L/\Nms L ts
end
def dP:WE:=Wb "abcdefghijklmnopqrstuvwxyz"
theorem qw:dP.cps.toList=(XS 26).map (97+·):=by decide +kernel
theorem jX:dP.length=26:=by decide +kernel
theorem at_nonneg{xs:List α}{i:Int}{v:α}(h0:0<=i)(h:xs[i.toNat]?=A? v):atI xs i=A? v:=by
 have e:i=((i.toNat:Nat):Int):=by lia
 rw[e];exact br h
theorem mL{i:Int}(h0:0<=i)(h1:i<26):atI dP.cps.toList i=A? (97+i.toNat):=by
 refine at_nonneg h0 ?_;rw[qw,V7,List.getElem?_range (by lia)];rfl
theorem sE:∀i<26,Builtin.Str.occurrences dP ⟨#[97+i]⟩ 0 dP.length 1=[i]:=by decide +kernel
def fY(r:Int)(k:Nat):List Nat:=(XS k).map λj=>97+((r / 26 ^ j)%26).toNat
def cR(r:Int)(k:Nat):WE:=⟨(fY r k).toArray⟩
theorem sQ(r:Int)(k:Nat):(fY r k).length=k:=by unfold fY;rw[V2,List.length_range]
theorem dU(r:Int)(k:Nat):(cR r k).length=k:=by show(fY r k).toArray.size=k;rw[Wn,sQ]
theorem qj(r:Int)(k:Nat):fY r (k+1)=fY r k++[97+((r / 26 ^ k)%26).toNat]:=by unfold fY;rw[List.range_succ,WB];rfl
theorem p9(r:Int)(k:Nat):cR r (k+1)=cR r k++⟨#[97+((r / 26 ^ k)%26).toNat]⟩:=by
 show(⟨(fY r (k+1)).toArray⟩:WE)=⟨(fY r k).toArray++#[97+((r / 26 ^ k)%26).toNat]⟩;rw[qj];simp
def Low(x:WE):Prop:=∀c∈x.cps.toList,97<=c/\c<=122
theorem rL(r:Int)(k:Nat):∀c∈fY r k,97<=c/\c<=122:=by
 intro c hc;obtain⟨j,_,rfl⟩:=Wv.mp hc;have:=W2 (r / 26 ^ j) (by decide:(26:Int)≠0);have:=WZ (r / 26 ^ j) (by decide:(0:Int)<26);lia
theorem nO(h:Low x)(lo hi:Option Int):Low (fG x lo hi):=by
 intro c hc;have z8:c∈lS x.cps.toList lo hi:=by simpa[fG]using hc
 exact h c (List.mem_of_mem_drop (List.mem_of_mem_take z8))
theorem qI{y:WE}(hx:Low x)(hy:Low y):Low (x++y):=by
 intro c hc;have z8:c∈(x.cps++y.cps).toList:=hc;rw[Array.toList_append,Wm]at z8;rcases z8 with h|h
 .exact hx c h
 .exact hy c h
theorem vz{c:Nat}(h1:97<=c)(h2:c<=122):Low ⟨#[c]⟩:=by
 intro d hd;have:d=c:=by simpa using hd
 lia
theorem oO(h:Low x):x≠q:=by
 intro e;subst e;have:=h 63 (by decide +kernel);lia
def eN(base:Int):Int:=1+base / 2%8
def nAt(base:Int):Int:=base / 16%7%eN base
def lK(base n:Int):Nat:=97+(((((base / 112) / 26 ^ (nAt base).toNat)%26).toNat+n)%26).toNat
def nameOf(base n:Int):WE :=
 if base%2=1 then fG (cR (base / 112) 8) B? (A? (n+1))
 else fG (cR (base / 112) 8) B? (A? (nAt base))++⟨#[lK base n]⟩++fG (cR (base / 112) 8) (A? (nAt base+1)) (A? (eN base))
theorem jx(base:Int):1<=eN base/\eN base<=8:=by
 have:=W2 (base / 2) (by decide:(8:Int)≠0);have:=WZ (base / 2) (by decide:(0:Int)<8);unfold eN;lia
theorem sU(base:Int):0<=nAt base/\nAt base<eN base:=by
 have:=jx base;unfold nAt;exact⟨W2 _ (by lia),WZ _ (by lia)⟩
theorem mr(base n:Int):97<=lK base n/\lK base n<=122:=by
 unfold lK;have h1:=W2 (((((base / 112) / 26 ^ (nAt base).toNat)%26).toNat:Int)+n) (by decide:(26:Int)≠0);have h2:=WZ (((((base / 112) / 26 ^ (nAt base).toNat)%26).toNat:Int)+n) (by decide:(0:Int)<26);lia
theorem lw(base:Int):Low (cR (base / 112) 8):=by
 intro c hc;exact rL _ _ c (by simpa[cR]using hc)
theorem pE(base n:Int):Low (nameOf base n):=by
 unfold nameOf;split
 .exact nO (lw base) _ _
 .exact qI (qI (nO (lw base) _ _) (vz (mr base n).1 (mr base n).2)) (nO (lw base) _ _)
theorem li(z:WE)(lo hi:Option Int):(fG z lo hi).length=min (q! z.length z.length hi - q! z.length 0 lo) (z.length - q! z.length 0 lo):=by
 show(lS z.cps.toList lo hi).toArray.size=_;unfold lS;rw[Wn,W9,Xm,WO];rfl
theorem pQ(base n:Int):(nameOf base n).length<=8:=by
 unfold nameOf;split
 .have:=eS (cR (base / 112) 8) B? (A? (n+1));rw[dU]at this;exact this
 .have h1:=jx base;have h2:=sU base;rw[strLen_append,strLen_append,li,li,dU]
  have e1:q! 8 8 (A? (nAt base))=(nAt base).toNat:=by
   show(if nAt base<0 then _ else min (nAt base).toNat 8)=_;rw[a! (by lia)];lia
  have e2:q! 8 0 (A? (nAt base+1))=(nAt base+1).toNat:=by
   show(if nAt base+1<0 then _ else min (nAt base+1).toNat 8)=_;rw[a! (by lia)];lia
  have e3:q! 8 8 (A? (eN base))=(eN base).toNat:=by
   show(if eN base<0 then _ else min (eN base).toNat 8)=_;rw[a! (by lia)];lia
  have e4:q! 8 0 B?=0:=rfl;have e5:(⟨#[lK base n]⟩:WE).length=1:=rfl;rw[e1,e2,e3,e4,e5];lia
end BB
namespace L2
open PySem PySem.Spec PyProof.Rows
theorem Same.seqT(e:Same H H')(h:SqT K H a xs):SqT K H' a xs:=by
 rcases h with(h|⟨o,h⟩)|h
 .exact .inl (.inl (e _ _ h))
 .exact .inl (.inr ⟨o,e _ _ h⟩)
 .exact .inr h
theorem ao{p:V6}(h:H p=B?)(o:HO):Same H (upd H p o):=λb u q=>by rw[aj (av q h)];exact q
@[elab_as_elim] theorem gU{G:Hp->Prop}(h:H a=B?)(k:∀H',j! H H'->H' a=A? o->G H'):G (upd H a o):=k _ (ao h _) ac
theorem aM(h:Same H H1)(n:H l=B?):Same H (upd H1 l o):=λb u e=>by rw[aj (av e n)];exact h b u e
theorem rc{te:TE}(zs:List α)(p:α->Bool)(f:α->V)(hz:zs.length=xs.length)(hn:xs.length<=1000000)
 (FV:∀i H2,Same H H2->i<xs.length->J.go i H2) (AJ:∀H2,Same H H2->J.stop xs.length H2) (Ci:∀(i:Nat)H2 x H3,Same H H2->i<xs.length->J.yld i H2 x H3->H3=H2/\xs[i]?=A? x)
 (Dz:∀(i:Nat)x z H2(R:Bool->Hp->Prop),xs[i]?=A? x->zs[i]?=A? z->Same H H2->R (p z) H2->tt ((cσ js σ).set 0 (A? x)) H2 R)
 (Am:∀(i:Nat)x z H2(R:VK),xs[i]?=A? x->zs[i]?=A? z->p z=Bq->Same H H2->R (f z) H2->te ((cσ js σ).set 0 (A? x)) H2 R)
 (q:∀D,H D=B?->fin D (upd H D (.lst ((zs.filter p).map f)))) :
 ∀D,H D=B?->∃(n:Nat)(W:Nat->Hp->Prop),W 0 (upd H D (.lst []))/\fV js (au 0) tt te σ J D n W λH'=>fin D H':=by
 intro D hD;refine⟨xs.length,λi H2=>i<=xs.length/\H2=upd H D (.lst (((zs.take i).filter p).map f)),⟨WY _,by simp⟩,?_⟩;rintro i H2 ⟨hi,rfl⟩;have sm:∀o,Same H (upd H D o):=λo=>ao hD o;by_cases h:i=xs.length
 .left;subst h;refine⟨AJ _ (sm _),?_⟩;rw[<-hz,XU];exact q D hD
 .right;have BM:i<xs.length:=by lia
  refine⟨BM,FV i _ (sm _) BM,λx H1 hy=>?_⟩;obtain⟨rfl,hx⟩:=Ci i _ x H1 (sm _) BM hy;have RA:i<zs.length:=by lia
  have e1:zs[i]?=A? zs[i]:=V4 RA
  have e2:(zs.take (i+1)).filter p=(zs.take i).filter p++(if p zs[i]=Bq then[zs[i]]else[]):=by
   rw[X4,e1,List.filter_append];show _++List.filter p [zs[i]]=_;rw[ZW,List.filter_nil]
  refine Dz i x zs[i] _ _ hx e1 (sm _) ?_
  have hlen:(((zs.take i).filter p).map f).length<=1000000:=by
   rw[V2];have:=List.length_filter_le p (zs.take i);rw[W9]at this;lia
  by_cases hp:p zs[i]=Bq
  .rw[b! hp];refine Am i x zs[i] _ _ hx e1 hp (sm _) ⟨_,ac,Nat.lt_of_le_of_lt hlen (by decide),BM,?_⟩;rw[vH,e2,b! hp,WB];rfl
  .rw[a! hp];refine⟨BM,?_⟩;rw[e2,a! hp,ZG]
theorem cJ{te:TE}(zs:List α)(p:α->Bool)(f:α->V)(hS:SqL K H a xs)(hz:zs.length=xs.length)(hn:xs.length<=1000000)
 (Dz:∀(i:Nat)x z H2(R:Bool->Hp->Prop),xs[i]?=A? x->zs[i]?=A? z->Same H H2->R (p z) H2->tt ((cσ js σ).set 0 (A? x)) H2 R)
 (Am:∀(i:Nat)x z H2(R:VK),xs[i]?=A? x->zs[i]?=A? z->p z=Bq->Same H H2->R (f z) H2->te ((cσ js σ).set 0 (A? x)) H2 R)
 (q:∀D,H D=B?->fin D (upd H D (.lst ((zs.filter p).map f)))) :
 ∀D,H D=B?->∃(n:Nat)(W:Nat->Hp->Prop),W 0 (upd H D (.lst []))/\fV js (au 0) tt te σ (Itl K a) D n W λH'=>fin D H' :=
 rc zs p f hz hn (λi H2 s hi=>⟨xs,xs[i],s.seq hS,V4 hi⟩) (λH2 s=>⟨xs,s.seq hS,Wc _⟩) (λi H2 x H3 s hi hy=>⟨hy.1,hy.2 xs (s.seq hS)⟩) Dz Am q
theorem eR{te:TE}(zs:List α)(p:α->Bool)(f:α->V)(hS:SqT K H a xs)(hz:zs.length=xs.length)(hn:xs.length<=1000000)
 (Dz:∀(i:Nat)x z H2(R:Bool->Hp->Prop),xs[i]?=A? x->zs[i]?=A? z->Same H H2->R (p z) H2->tt ((cσ js σ).set 0 (A? x)) H2 R)
 (Am:∀(i:Nat)x z H2(R:VK),xs[i]?=A? x->zs[i]?=A? z->p z=Bq->Same H H2->R (f z) H2->te ((cσ js σ).set 0 (A? x)) H2 R)
 (q:∀D,H D=B?->fin D (upd H D (.lst ((zs.filter p).map f)))) :
 ∀D,H D=B?->∃(n:Nat)(W:Nat->Hp->Prop),W 0 (upd H D (.lst []))/\fV js (au 0) tt te σ (Itt K a) D n W λH'=>fin D H' :=
 rc zs p f hz hn (λi H2 s hi=>⟨xs,xs[i],s.seqT hS,V4 hi⟩) (λH2 s=>⟨xs,s.seqT hS,Wc _⟩) (λi H2 x H3 s hi hy=>⟨hy.1,hy.2 xs (s.seqT hS)⟩) Dz Am q
end L2
namespace BB
open PySem L2
theorem at0{x:α}{xs:List α}:atI (x::xs) 0=A? x:=br (j:=0) rfl
theorem at1{x y:α}{xs:List α}:atI (x::y::xs) 1=A? y:=br (j:=1) rfl
theorem at2{x y z:α}{xs:List α}:atI (x::y::z::xs) 2=A? z:=br (j:=2) rfl
theorem at3{x y z u:α}{xs:List α}:atI (x::y::z::u::xs) 3=A? u:=br (j:=3) rfl
theorem cg(x:V)(xs:List V):d8 (x::xs) (A? 1) B?=xs:=by
 unfold d8;simp[q!]
theorem du:∀ts:List Th,ts.length<=aq ts
 | []=>WY _
 | t::ts=>by
   have:=t.size_pos;have:=du ts;rw[Wq,aq];lia
theorem mT(ts:List Th):aq ts.reverse=aq ts:=by
 induction ts with
 |nil=>rfl
 |cons x xs ih=>rw[Xx,cn,ih,aq,aq,aq];lia
theorem aZ(h:n<=1000000):n<WD:=Nat.lt_of_le_of_lt h (by decide)
theorem cF(h:n<=1000000):n<=WD:=Yi (aZ h)
theorem lnE(h:Nat.ble n 1000000=Bq):n<=WD:=cF (Nat.le_of_ble_eq_true h)
theorem uAE:(upd H a (.lst (as.map k!++[.ref b]))) a=A? (.lst ((as++[b]).map k!)):=by rw[ac,WB];rfl
theorem lbE{f:α->β}{l:List α}(h:l.length<=1000000):(l.map f).length<WD:=aZ (by rw[V2];exact h)
theorem int_at{k:Int}(h0:0<=k)(h:k<(ns.length:Int)):atI (ns.map o!) k=A? (.int (ns.getD k.toNat 0)):=by
 refine at_nonneg h0 ?_;have hk:k.toNat<ns.length:=by lia
 rw[V7,V4 hk,Wu,V4 hk];rfl
def cellAt(ns:List Int)(k:Int):Int:=if k<(ns.length:Int)then ns.getD k.toNat 0%10 ^ 60 else 0
theorem mF(ns:List Int)(k:Int):0<=cellAt ns k:=by
 unfold cellAt;split
 .exact W2 _ (by decide)
 .exact Int.le_refl _
section
variable{F G:α->β->Prop}
theorem P2.append:∀{a c:List α}{b d:List β},WL F a b->WL F c d->WL F (a++c) (b++d)
 |_,_,_,_,.nil,h=>h
 |_,_,_,_,.cons r t,h=>.cons r (P2.append t h)
theorem P2.get:∀{a:List α}{b:List β}{i:Nat}{x:α},WL F a b->a[i]?=A? x->∃y,b[i]?=A? y/\F x y
 |_,_,_,_,.nil,e=>by simp at e
 |_,_,0,_,.cons r _,e=>by simp at e;subst e;exact⟨_,D?,r⟩
 | _,_,i+1,x,.cons _ t,e=>by
   obtain⟨u,h1,h2⟩:=P2.get (i:=i) (x:=x) t (by simpa using e);exact⟨u,by simpa using h1,h2⟩
theorem P2.get':∀{a:List α}{b:List β}{i:Nat}{y:β},WL F a b->b[i]?=A? y->∃x,a[i]?=A? x/\F x y
 |_,_,_,_,.nil,e=>by simp at e
 |_,_,0,_,.cons r _,e=>by simp at e;subst e;exact⟨_,D?,r⟩
 | _,_,i+1,y,.cons _ t,e=>by
   obtain⟨u,h1,h2⟩:=P2.get' (i:=i) (y:=y) t (by simpa using e);exact⟨u,by simpa using h1,h2⟩
theorem P2.set{x:α}{y:β}(r:F x y):∀{a:List α}{b:List β}(i:Nat),WL F a b->WL F (a.set i x) (b.set i y)
 |_,_,_,.nil=>.nil
 |_,_,0,.cons _ t=>.cons r t
 |_,_,i+1,.cons h t=>.cons h (P2.set r i t)
theorem P2.take:∀{a:List α}{b:List β}(n:Nat),WL F a b->WL F (a.take n) (b.take n)
 |_,_,0,_=>.nil
 |_,_,_+1,.nil=>.nil
 |_,_,n+1,.cons r t=>.cons r (P2.take n t)
theorem P2.drop:∀{a:List α}{b:List β}(n:Nat),WL F a b->WL F (a.drop n) (b.drop n)
 |_,_,0,r=>r
 |_,_,_+1,.nil=>.nil
 |_,_,n+1,.cons _ t=>P2.drop n t
theorem P2.mp(f:∀x y,F x y->G x y):∀{a:List α}{b:List β},WL F a b->WL G a b
 |_,_,.nil=>.nil
 |_,_,.cons r t=>.cons (f _ _ r) (P2.mp f t)
end
def KAt(H:Hp)(k:WE×Int)(a:V6):Prop:=H a=A? (.tup [.str k.1,.int k.2])
def KsAt(H:Hp)(ks:List (WE×Int))(as:List V6):Prop:=WL (KAt H) ks as
theorem KsAt.mono(k:KT H H'){ks:List (WE×Int)}(h:KsAt H ks as):KsAt H' ks as:=P2.mp (λx y e=>k _ _ e) h
def eT(cell:Int):Int:=cell * 1000003+4421
structure ie(ks:List (WE×Int)):Prop where
 ne:1<=ks.length
 le:ks.length<=6
 low:∀k∈ks,Low k.1/\k.1.length<=8
 num:∀k∈ks,0<=k.2/\k.2<=3
 zero:∃k∈ks,k.2=0
theorem u7(h:0<=cell):0<=eT cell:=by unfold eT;lia
end BB
open BB.P2 renaming mp->t!,get->u!,append->v!,get'->E!
namespace L2
open PySem
theorem aR{t u:TS}(R:St->Hp->Prop)(h1:∀k:St->Hp->Prop,(∀i' H',R i' H'->k i' H')->t {D with nx:=k} σ H)(h2:∀i' H',R i' H'->u D i' H'):vG t u D σ H:=h1 _ h2
theorem cE{c:TT}{t u:TS}(R:Bool->Hp->Prop)(h1:∀k:Bool->Hp->Prop,(∀b H',R b H'->k b H')->c σ H k)(h2:∀H',R Bq H'->t D σ H')(h3:∀H',R C? H'->u D σ H'):yj c t u D σ H :=
 h1 _ λb H' r=>by
  cases b with
  |true=>rw[b! rfl];exact h2 H' r
  |false=>rw[a! Wz];exact h3 H' r
end L2
namespace BB
open PySem L2
mutual
def Th.Fit(ks:List (WE×Int)):Th->Prop
 |.knot n ts=>(n,(ts.length:Int))∈ks/\Fits ks ts
 |.call _ _=>False
def Fits(ks:List (WE×Int)):List Th->Prop
 | []=>True
 |t::ts=>t.Fit ks/\Fits ks ts
end
mutual
theorem Th.Fit.nms{ks:List (WE×Int)}(g:ie ks):∀{t:Th},t.Fit ks->t.Nm 8
 | .knot n ts,h=>by
   rw[Th.Fit]at h;rw[Th.Nm];exact⟨(g.low _ h.1).2,Fits.nms g h.2⟩
 |.call _ _,h=>by rw[Th.Fit]at h;exact h.elim
theorem Fits.nms{ks:List (WE×Int)}(g:ie ks):∀{ts:List Th},Fits ks ts->Nms 8 ts
 | [],_=>by rw[Nms];trivial
 | t::ts,h=>by
   rw[Fits]at h;rw[Nms];exact⟨Th.Fit.nms g h.1,Fits.nms g h.2⟩
end
theorem Fits.of{ks:List (WE×Int)}:∀{ts:List Th},(∀t∈ts,t.Fit ks)->Fits ks ts
 | [],_=>by rw[Fits];trivial
 | t::ts,h=>by
   rw[Fits];exact⟨h t (Wj ..),Fits.of λu hu=>h u (Wo _ hu)⟩
def EAt(ext:Th->List V)(H:Hp)(t:Th)(a:V6):Prop:=∃b,H a=A? (.tup (.ref b::.int (t.tall:Nat)::.int (t.size:Nat)::ext t))/\At H t b
def EsAt(ext:Th->List V)(H:Hp)(ts:List Th)(es:List V6):Prop:=WL (EAt ext H) ts es
section
variable{ext:Th->List V}{t:Th}{ts:List Th}{es:List V6}
theorem EAt.mono(k:KT H H')(h:EAt ext H t a):EAt ext H' t a:=by
 obtain⟨b,h1,h2⟩:=h;exact⟨b,k _ _ h1,h2.mono k⟩
theorem EsAt.mono(k:KT H H')(h:EsAt ext H ts es):EsAt ext H' ts es:=t! (λ_ _ e=>EAt.mono k e) h
theorem EsAt.at{x:V}{z:Th}(h:EsAt ext H ts es)(hx:(es.map k!)[i]?=A? x)(hz:ts[i]?=A? z):∃a b,x=.ref a/\es[i]?=A? a/\H a=A? (.tup (.ref b::.int (z.tall:Nat)::.int (z.size:Nat)::ext z))/\At H z b:=by
 obtain⟨a,e,b,h1,h2⟩:=u! h hz;rw[V7,e]at hx;exact⟨a,b,(Wi hx).symm,e,h1,h2⟩
theorem oT:∀{ts:List Th}{es:List V6},WL (EAt ext H) ts es->∃bs,Ats H ts bs/\bs.length=es.length/\∀(i:Nat)x b,(es.map k!)[i]?=A? x->bs[i]?=A? b->∃a r,x=.ref a/\H a=A? (.tup (.ref b::r))
 |_,_,.nil=>⟨[],.nil,rfl,λi x b h=>by simp at h⟩
 | _,_,.cons (b:=e) (l₂:=es) r h=>by
   obtain⟨b,h1,h2⟩:=r;obtain⟨bs,g1,g2,g3⟩:=oT h;refine⟨b::bs,.cons h2 g1,by rw[Wq,Wq,g2],λi x c hx hc=>?_⟩;cases i with
   | zero =>
     simp at hx hc;subst hc;exact⟨e,_,hx.symm,h1⟩
   |succ i=>exact g3 i x c (by simpa using hx) (by simpa using hc)
end
theorem filter_tt(xs:List α):xs.filter (λ_=>Bq)=xs:=by
 induction xs with
 |nil=>rfl
 |cons x xs ih=>rw[ZW,b! rfl,ih]
theorem cV:∀{ts:List Th}{t:Th},t∈ts->t.tall<=bD ts
 | u::ts,t,h=>by
   rw[bD];rcases Wr.mp h with rfl|h
   .lia
   .have:=cV h;lia
theorem mf:∀{ts:List Th},ts≠[]->∃t∈ts,t.tall=bD ts
 | [],h=>g! rfl h
 | [u],_=>⟨u,Wj ..,by rw[bD,bD];lia⟩
 | u::v::ts,_=>by
   obtain⟨t,h1,h2⟩:=mf (ts:=v::ts) (by simp);rw[bD];by_cases c:bD (v::ts)<=u.tall
   .exact⟨u,Wj ..,by lia⟩
   .exact⟨t,Wo _ h1,by lia⟩
theorem mv{ts:List Th}{M:Int}(h1:M∈ts.map λt=>((t.tall:Nat):Int))(h2:∀a∈ts.map (λt=>((t.tall:Nat):Int)),a<=M):M=((bD ts:Nat):Int):=by
 obtain⟨t,ht,rfl⟩:=Wv.mp h1;have zp:ts≠[]:=λz=>by rw[z]at ht;cases ht
 obtain⟨u,hu,e⟩:=mf zp;have a1:=h2 _ (Wv.mpr ⟨u,hu,rfl⟩);have a2:=cV ht;show((t.tall:Nat):Int)=_;lia
theorem jB:∀ts:List Th,(ts.map λt=>((t.size:Nat):Int)).sum=((aq ts:Nat):Int)
 | []=>rfl
 | t::ts=>by
   rw[WH,List.sum_cons,jB ts,aq];lia
theorem ints_map(ts:List Th)(f:Th->Int):(ts.map λt=>o! (f t))=(ts.map f).map o!:=by rw[WR];rfl
structure GT(ks:List (WE×Int))(top most:Int)(t:Th):Prop where
 fit:t.Fit ks
 tall:(t.tall:Int)<=top
 size:(t.size:Int)<=most
def cO(ks:List (WE×Int)):List (WE×Int):=ks.filter λk=>decide (o! k.2=o! 0)
theorem sR{ks:List (WE×Int)}(g:ie ks):1<=(cO ks).length:=by
 obtain⟨k,hk,h0⟩:=g.zero;have:k∈cO ks:=X7.mpr ⟨hk,by rw[h0];rfl⟩;exact List.length_pos_of_mem this
theorem rJ{ks:List (WE×Int)}{top most:Int}(h1:1<=top)(h2:1<=most){k:WE×Int}(h:k∈cO ks):GT ks top most (.knot k.1 []):=by
 obtain⟨hk,h0⟩:=X7.mp h;have e:k.2=0:=V.int.inj (e! h0);refine⟨?_,?_,?_⟩
 .rw[Th.Fit,Fits];refine⟨?_,trivial⟩
  have:k=(k.1,((([]:List Th).length:Nat):Int)):=by
   obtain⟨k1,k2⟩:=k;simp only at e;subst e;rfl
  rw[<-this];exact hk
 .rw[x!,bD];exact h1
 .rw[K!,aq];exact h2
theorem qK{ks:List (WE×Int)}(g:ie ks){i:Int}(h0:0<=i)(h1:i<((cO ks).length:Int)):∃k∈cO ks,atI ((cO ks).map λk=>B! k.1) i=A? (.str k.1)/\k.1≠q/\k.1.length<=8:=by
 have hi:i.toNat<(cO ks).length:=by lia
 refine⟨(cO ks)[i.toNat],Xn hi,at_nonneg h0 ?_,?_,?_⟩
 .rw[V7,V4 hi];rfl
 .exact oO (g.low _ (X7.mp (Xn hi)).1).1
 .exact(g.low _ (X7.mp (Xn hi)).1).2
theorem rW(h:n<=xs.length):d8 xs (A? (n:Int)) B?=xs.drop n:=by
 unfold d8;rw[w!,HT.sIx_none,Nat.min_eq_left h];exact Xv (by rw[Xm];exact Wc _)
theorem take_snoc{xs:List α}{x:α}(h:xs[n]?=A? x):xs.take (n+1)=xs.take n++[x]:=by rw[X4,h];rfl
theorem cB{xs:List V6}{x:V}(h:(xs.map k!)[i]?=A? x):∃a,x=.ref a/\xs[i]?=A? a:=by
 rw[V7]at h;obtain⟨a,h1,h2⟩:=WA.mp h;exact⟨a,h2.symm,h1⟩
end BB
open BB.Th renaming Fit->F!
namespace PySem
open Sem (wp)
theorem bb_tupNext{cur:V6}{x:V8}(g:s.1.IsTupleIter cur tp i)(gt:s.1.IsTuple tp items)(hx:items[i]?=A? x)
 (fin:∀h',h'.IsTupleIter cur tp (i+1)->XA cur s.1 h'->Q x {s with heap:=h'}):Ww (WN prog w) A (Xd (.ref cur)) Q E s:=by
 obtain⟨ob,e1,e2,e3⟩:=id g;obtain⟨ot,e4,_,nt,e5⟩:=gt;unfold Xd;refine V3 (Xi (name:=Wb "__next__") g.typeIs Zy (Xl Zy g.typeIs F.entry_tuple_iterator_next ?_ (F.args_tuple_iterator_next_1 _)));show Ww _ _ (field (.ref cur) 0 >>= _) _ _ s;refine V3 (Xe e1 e3 (x:=.ref tp) rfl ?_);show Ww _ _ (if(W3 tp == XH)=Bq then _ else _) _ _ s;rw[a! (show¬((W3 tp == XH)=Bq)from Wz)];show Ww _ _ (field (.ref cur) 1 >>= _) _ _ s;refine V3 (Xe e1 e3 (x:=.int i 0) rfl ?_);show Ww _ _ (seqItems? (.ref tp) >>= _) _ _ s;refine V3 (XM e4 e5 ?_);simp only[Wl,hx];refine V3 (wpAny_setField e1 e3 (by simp) (Wa ⟨x,rfl,Wa (fin _ ?_ (XJ ..))⟩));exact⟨_,Xr _ e1 (Obj.isFreed_of_fields (Obj.data_mapFields e3 _)),(Obj.cls_mapFields ..).trans e2,by rw[Obj.data_mapFields e3];simp[Yv]⟩
theorem bb_tupEnd{cur:V6}(calm:A.handled=B?)(g:s.1.IsTupleIter cur tp i)(gt:s.1.IsTuple tp items)(hx:items[i]?=B?)
 (fin:∀h' e,Heap.ExtBut cur s.1 h'->(∃o,h'.get? e=A? o/\o.cls=.type "StopIteration")->E (.ref e) {s with heap:=h'}):Ww (WN prog w) A (Xd (.ref cur)) Q E s:=by
 obtain⟨ob,e1,e2,e3⟩:=id g;obtain⟨ot,e4,_,nt,e5⟩:=gt;unfold Xd;refine V3 (Xi (name:=Wb "__next__") g.typeIs Zy (Xl Zy g.typeIs F.entry_tuple_iterator_next ?_ (F.args_tuple_iterator_next_1 _)));show Ww _ _ (field (.ref cur) 0 >>= _) _ _ s;refine V3 (Xe e1 e3 (x:=.ref tp) rfl ?_);show Ww _ _ (if(W3 tp == XH)=Bq then _ else _) _ _ s;rw[a! (show¬((W3 tp == XH)=Bq)from Wz)];show Ww _ _ (field (.ref cur) 1 >>= _) _ _ s;refine V3 (Xe e1 e3 (x:=.int i 0) rfl ?_);show Ww _ _ (seqItems? (.ref tp) >>= _) _ _ s;refine V3 (XM e4 e5 ?_);simp only[Wl,hx];refine V3 (wpAny_rule (V3 (wpAny_setField e1 e3 (by simp) ?_)));show Ww _ _ (newExc (.type "StopIteration") [] >>= _) _ _ _;refine V3 ?_;simp only[newExc,newTuple];refine V3 (Xc ?_ (by size_fits));refine V3 (m:=Z4 _ _) (wpAny_of_eq (a:=XH) (by first|rfl|(simp only[Z4];rfl)) ?_);refine Xc ?_ (by size_fits);simp only[raiseNew];refine V3 (wpAny_handled ?_)
 first|rw[show A.in1.handled=B? from calm]|rw[calm]
 refine V3 (Wa (wpAny_throw ?_));exact fin _ _ (((XJ ..).extBut.push _).push _) ⟨_,Wh _ rfl,rfl⟩
theorem bb_drawsT(calm:A.handled=B?)(cur tp:V6)(ne:tp≠cur)(items:Array V8) :
 Draws prog w A cur [cur,tp] items.size (λi v=>items[i]?=A? v) (λi h=>h.IsTupleIter cur tp i/\h.IsTuple tp items) where
 live:=λ_ _ st=>let⟨o,e,_⟩:=st.1;⟨o,e⟩
 frame:=λ_ _ _ st k=>⟨let⟨o,e,r⟩:=st.1;⟨o,k cur (by simp) o e,r⟩,let⟨o,e,r⟩:=st.2;⟨o,k tp (by simp) o e,r⟩⟩
 item:=λi s Q E hi st q=>by
  refine bb_tupNext st.1 st.2 (x:=items[i]) (by simp[hi]) λh' g' sb=>?_;exact q _ h' s.toks (by simp[hi]) ⟨g',st.2.extBut sb.extBut ne⟩ sb
 done:=λs Q E st e=>bb_tupEnd calm st.1 st.2 (by simp) e
theorem bb_meetsEnumT(tp:V6)(items:Array V8)(n:Nat)(Mb:Option V6)(sl:Array (Option V8)) :
 Meets (Y6.«enumerate.__new__» ⟨[.type "enumerate",.ref tp],[]⟩) (λ_ R s=>s.1.get? tp=A? {cls:=.type "tuple",dict:=Mb,data:=.seq items n,slots:=sl} /\
  R (.ok (.ret (.ref (s.1.push {cls:=.type "tuple_iterator",data:=.fields #[.ref tp,.int 0 0]}).objs.size)))
    {s with heap:=(s.1.push {cls:=.type "tuple_iterator",data:=.fields #[.ref tp,.int 0 0]}).push {cls:=.type "enumerate",data:=.fields #[.none,.bool C?,.ref s.1.1.size,Yv 0,.none,.none]}}) :=
 .of_wp λprog w A R s h=>by
  obtain⟨hp,g,d,tk,os⟩:=s;obtain⟨gt,fin⟩:=h;have su:=sub_enumerate;have gT:Heap.IsTuple (Shared.heap ⟨hp,g,d,tk,os⟩) tp items:=⟨_,gt,rfl,n,rfl⟩
  wp_walk using Yu gt
  refine wpAny_stack_any λst=>Wa ?_;split
  .rename_i c _ _ _ _ _
   cases(c == Zl "enumerate")
   .wp_walk using Yu gt,Zk gT
    exact⟨_,D?,fin⟩
   .wp_walk using Yu gt,Zk gT
    exact⟨_,D?,fin⟩
  .wp_walk using Yu gt,Zk gT
   exact⟨_,D?,fin⟩
theorem bb_callEnumT(gT:s.1.IsTuple tp items)
 (fin:∀h',IsEnum h' (s.1.1.size+1) s.1.1.size 0 .none->h'.IsTupleIter s.1.1.size tp 0->h'.objs.size=s.1.1.size+2 ->
  (∀b o,s.1.get? b=A? o->h'.get? b=A? o)->Q (.ref (s.1.1.size+1)) {s with heap:=h'}):Ww (WN prog w) A (call (.type "enumerate") [.ref tp]) Q E s:=by
 obtain⟨⟨c,Mb,dt,sl⟩,e1,e2,n,e3⟩:=gT;replace e2:c=.type "tuple":=e2;replace e3:dt=.seq items n:=e3;subst e2 e3;refine callType_new F.called_enumerate (by decide) (F.typeCall_enumerate_1 _) (F.newCall_enumerate_1 _) (λobj=>F.args_object_init_2 obj _) F.entry_enumerate_new (bb_meetsEnumT tp items n Mb sl) ⟨e1,?_⟩;have z:(s.1.push {cls:=.type "tuple_iterator",data:=.fields #[.ref tp,.int 0 0]}).objs.size=s.1.1.size+1:=Xw ..;show _/\_;rw[z]
 have ge:IsEnum ((s.1.push {cls:=.type "tuple_iterator",data:=.fields #[.ref tp,.int 0 0]}).push {cls:=.type "enumerate",data:=.fields #[.none,.bool C?,.ref s.1.1.size,Yv 0,.none,.none]}) (s.1.1.size+1) s.1.1.size 0 .none:=by
  have t:=Wh (s.1.push {cls:=.type "tuple_iterator",data:=.fields #[.ref tp,.int 0 0]}) (o:={cls:=.type "enumerate",data:=.fields #[.none,.bool C?,.ref s.1.1.size,Yv 0,.none,.none]}) rfl;rw[z]at t;exact t
 exact⟨⟨_,ge,D?⟩,fin _ ge ⟨_,V9 _ (Wh _ rfl),D?,D?⟩ (by rw[Xw,z]) λb o x=>V9 _ (V9 _ x)⟩
end PySem
namespace L2
open PySem PySem.Spec PyProof.Rows
theorem Inv.turnedL{X:Cx}(I:Inv X Y σ H s)(k:∀b o,b∉fp->s.1.get? b=A? o->h'.get? b=A? o)(hf:∀b∈fp,FpOk X Y H b) :
 Inv X Y σ H {s with heap:=h',toks:=t'}:=by
 have HX:∀b u,H b=A? u->b∉fp:=λb u e z=>by rw[(hf b z).1]at e;cases e
 refine I.step (g':=s.gens) (d':=s.drawn) (ch:=fp) (λb hb=>?_) (λb o _ _ hc e _=>k b o hc e) (λb o _ _ hc e _=>⟨o.slots,k b o hc e⟩) (λ_ _ _ _ n=>n)
  (λb o hc e=>⟨o,k b o hc e⟩) (λ_ _ e=>e) (λ_ _ _ e=>e) (λb ps e=>⟨#[],by rw[e];simp⟩) (λm hm=>?_) (λb u e=>?_) I.bare
 .obtain⟨f0,f1,f2,f3,f4,f5⟩:=hf b hb;exact⟨f3,f1,f4,f5⟩
 .obtain⟨o,es,ep,ho,r⟩:=hm;exact⟨o,es,ep,k _ o (λz=>(hf _ z).2.1 rfl) ho,r⟩
 .refine(I.hok b u e).stay (λc v hc q=>k c v ?_ q) (λ_ q=>q) λ_ _ q=>q;rcases hc with z|z
  .rw[z];exact HX b u e
  .exact HX c _ z
def Ite(K:Wf)(a:V6):It:=⟨λi H=>∃xs x,SqT K H a xs/\xs[i]?=A? x,λi H x H'=>∃p y,H p=B?/\x=.ref p/\H'=upd H p (.tup [.int (i:Nat),y])/\∀xs,SqT K H a xs->xs[i]?=A? y,λi H=>∃xs,SqT K H a xs/\xs.length=i⟩
theorem sO{k1}(a e it:V6):Turn P w K (.Tuple elts k1 pos) (Ite K a) [e,it] e (λi h=>(∃old,IsEnum h e it ((i:Nat):Int) old)/\h.IsTupleIter it a i) where
 mem:=by simp
 obj:=λi h st b hb=>by
  obtain⟨⟨old,he⟩,o,e1,e2,e3⟩:=st;rcases Wr.mp hb with rfl|hb
  .exact⟨_,he,λv z=>by cases z⟩
  .have:b=it:=by simpa using hb
   subst this;exact⟨o,e1,λv z=>by rw[e3]at z;cases z⟩
 keep:=λi h h' st k=>by
  obtain⟨⟨old,he⟩,o,e1,e2⟩:=st;exact⟨⟨old,k e (by simp) _ he⟩,o,k it (by simp) _ e1,e2⟩
 item:=by
  intro X hP hw hK hc i Y s σ H E I hf st hg;subst hP hw hK;obtain⟨xs,x,hq,hx⟩:=hg;obtain⟨its,rv,p,hz⟩:=I.tuple hq;obtain⟨u,hu,ru⟩:=rv.get hx;obtain⟨⟨old,he⟩,hi⟩:=st
  have FW:e≠it:=by
   rintro rfl;obtain⟨o,e1,e2,_⟩:=hi;rw[he]at e1;cases e1;exact g! (XZ e2) (by decide)
  have EF:a≠it:=by
   rintro rfl;obtain⟨o,e1,e2,_⟩:=hi;obtain⟨o',CP,Ce,_⟩:=p;rw[CP]at e1;cases e1;rw[Ce]at e2;exact g! (XZ e2) (by decide)
  have Mc:a≠e:=by
   rintro rfl;obtain⟨o',CP,Ce,_⟩:=p;rw[he]at CP;cases CP;exact g! (XZ Ce) (by decide)
  have zf:i<its.toArray.size:=by
   have:=(glE hu);simpa using this
  have Df:e<s.1.1.size:=WC he;have Ah:it<s.1.1.size:=by obtain⟨o,e1,_⟩:=hi;exact WC e1
  refine wpAny_pyNext_enum_itemD (bb_drawsT (A:=X.A.in1) (show X.A.in1.handled=B? from I.ok.hd hc) it a EF its.toArray) he ⟨hi,p⟩ zf FW (by simp[FW,Mc.symm]) λy h1 tk hy ho Md hT hsz hk=>?_
  have Me:y=u:=by
   have:its[i]?=A? y:=by simpa using hy
   rw[hu]at this;exact(Wi this).symm
  subst Me;refine⟨_,D?,wpAny_letOwnedTupleGo_enum ho λh2 Mf DA=>?_⟩;replace DA:XA e h1 h2:=DA
  have zp:∀b∈[e,it],b<s.1.1.size:=λb hb=>by
   rcases Wr.mp hb with rfl|hb
   .exact Df
   .have:b=it:=by simpa using hb
    subst this;exact Ah
  have FY:H s.1.1.size=none:=I.hok.fresh (Wc _)
  have IA:Inv X Y σ (upd H s.1.1.size (.tup [.int (i:Nat),x])) {s with heap:=s.1.push {cls:=.type "tuple",data:=.seq #[.int (i:Nat) tk,y]},toks:=tk} :=
   I.laid (o:=.tup [.int (i:Nat),x]) (λb ob q=>V9 _ q) (Wc _) ⟨by show 2<=WD;decide,[.int (i:Nat) tk,y],0,.cons ⟨tk,rfl⟩ (.cons ru .nil),Wh _ rfl⟩
  refine⟨.ref s.1.1.size,upd H s.1.1.size (.tup [.int (i:Nat),x]),?_,D?,⟨_,x,FY,D?,D?,λys Cw=>by rw[I.tuple_inj Cw hq];exact hx⟩,⟨⟨y,by simpa using Mf⟩,?_⟩,λb hb=>?_⟩
  .have IB:Inv X Y σ (upd H s.1.1.size (.tup [.int (i:Nat),x])) {s with heap:=h2,toks:=tk+1}:=by
    refine Inv.turnedL (s:={s with heap:=s.1.push {cls:=.type "tuple",data:=.seq #[.int (i:Nat) tk,y]},toks:=tk}) (h':=h2) (fp:=[e,it]) (t':=tk+1) IA (λb o hb q=>?_) λb hb=>?_
    .have CL:b≠e:=λz=>hb (by simp[z]);have Iu:b≠it:=λz=>hb (by simp[z]);rw[DA.2 b CL];by_cases hb2:b=s.1.1.size
     .subst hb2;rw[hT];have q':(s.1.push {cls:=.type "tuple",data:=.seq #[.int (i:Nat) tk,y]}).get? s.1.1.size=A? o:=q;rw[Wh _ rfl]at q';exact q'
     .have AW:b<(s.1.push {cls:=.type "tuple",data:=.seq #[.int (i:Nat) tk,y]}).objs.size:=WC q;rw[Xw]at AW;refine hk b o CL Iu ?_;have q':(s.1.push {cls:=.type "tuple",data:=.seq #[.int (i:Nat) tk,y]}).get? b=A? o:=q;rw[Heap.get?_push_ne _ _ _ hb2]at q';exact q'
    .obtain⟨f0,f1⟩:=hf b hb;exact⟨by rw[aj (WT (zp b hb))];exact f0,f1⟩
   exact IB
  .obtain⟨o,e1,r⟩:=Md.1;exact⟨o,(DA.2 it (Yc FW)).trans e1,r⟩
  .rw[aj (WT (zp b hb))];exact(hf b hb).1
 done:=by
  intro X hP hw hK hc i Y s σ H E I hf st hg;subst hP hw hK;obtain⟨xs,hq,hx⟩:=hg;obtain⟨its,rv,p,hz⟩:=I.tuple hq;obtain⟨⟨old,he⟩,hi⟩:=st
  have EF:a≠it:=by
   rintro rfl;obtain⟨o,e1,e2,_⟩:=hi;obtain⟨o',CP,Ce,_⟩:=p;rw[CP]at e1;cases e1;rw[Ce]at e2;exact g! (XZ e2) (by decide)
  have hn:its.toArray.size=i:=by
   have:=rv.length;rw[Wn];lia
  refine wpAny_pyNext_enum_endD (bb_drawsT (A:=X.A.in1) (show X.A.in1.handled=B? from I.ok.hd hc) it a EF its.toArray) he (by rw[hn];exact⟨hi,p⟩) λh' eb=>⟨rfl,?_⟩;exact I.turnedL (fp:=[e,it]) (t':=s.toks) (λb o hb q=>eb b o (λz=>hb (by simp[z])) q) hf
 self:=λ_ _ _ _ _ st h=>by
  obtain⟨⟨old,he⟩,_⟩:=st;exact wpAny_pyIter_enum he h
section
variable{X:Cx}{te:TE}{p2 zz:Zb}
def xP(K:Wf)(tl:TE):TI:=λσ H R=>tl σ H λx H1=>∃a,x=.ref a/\(∃xs,SqT K H1 a xs)/\R (Ite K a) H1
theorem vo{k1}(g2:Gl X "enumerate")(m2:X.mg "enumerate"=B?)(he:PE X e te)(h2:W6 [e] X.env=[(C?,Yd e X.env)]:=by rfl):PI X (.Tuple elts k1 pos) (.Call (.Name "enumerate" p2) [e] [] zz) (xP X.K te):=by
 intro Y s σ H R I h;refine Xz (d9 I g2 m2 boot_enumerate (Xu ?_ h2 rfl));rw[h2];show Ww _ _ (spliced ((C?,Yd e X.env)::[])) _ _ s;refine Ye (thn (he Y s σ H _ I h) λu s1⟨x,H1,I1,r1,a,ex,⟨xs,hq⟩,q⟩=>YA ?_);subst ex;cases r1;obtain⟨its,rv,p,hz⟩:=I1.tuple hq;refine bb_callEnumT (show s1.1.IsTuple a its.toArray from p) λh' g1 g2 g3 g4=>?_;refine wpAny_pyIter_enum (s:={s1 with heap:=h'}) g1 ?_;refine⟨s1.1.1.size+1,[s1.1.1.size+1,s1.1.1.size],_,_,H1,D?,I1.kept (t':=s1.toks) g4,sO a _ _,⟨⟨_,g1⟩,g2⟩,λb hb=>?_,q⟩
 have zJ:s1.1.1.size<=b:=by
  rcases Wr.mp hb with rfl|hb
  .lia
  .have:b=s1.1.1.size:=by simpa using hb
   exact Nat.le_of_eq this.symm
 exact I1.fpOk zJ (I1.hok.fresh zJ)
inductive uB(K:Wf)(x:V)(y:V)(H:Hp)(Q:VK):Prop
 |mk (a:_) (b:_) (xs:_) (ys:_) (Br:x=.ref a) (Bs:y=.ref b) (CN:SqT K H a xs) (Fb:SqT K H b ys) (G6:xs.length+ys.length<=WD) (Rh:(xs=[]->Q (.ref b) H)) (Vj:(xs≠[]->ys=[]->Q (.ref a) H)) (Vk:(xs≠[]->ys≠[]->∀p,H p=B?->Q (.ref p) (upd H p (.tup (xs++ys))))):uB K x y H Q
def wd(K:Wf):R2:=uB K
theorem dO:OpR X (YV .Add) (wd X.K):=by
 intro Y s σ H x y v u Q I rx ry h;obtain⟨a,b,xs,ys,e1,e2,ha,hb,hz,q0,q1,q2⟩:=h;by_cases hx:xs=[]
 .subst e1 e2;cases rx;cases ry;obtain⟨its,r1,p1,_⟩:=I.tuple ha;obtain⟨zu,r2,p2,_⟩:=I.tuple hb;have hi:its=[]:=r1.nil_iff.mpr hx;obtain⟨⟨cls,dd,data,sl⟩,ho,hc,n,hd⟩:=p1;obtain⟨⟨EB,Cu,data2,Cv⟩,CO,Bj,n2,hd2⟩:=p2;simp only at hc hd Bj hd2;subst hc hd Bj hd2;exact concat_meets ⟨_,ho,rfl⟩ ⟨_,CO,rfl⟩ noFill_tuple_add seq_tuple_add PySem.F.slot_tuple_add PySem.F.entry_tuple_add (PySem.F.args_tuple_add_2 _ _) (tuple_addW0 a b its.toArray zu.toArray n n2 dd Cu sl Cv (by simp[hi])) ⟨ho,CO,⟨.ref b,H,I,rfl,q0 hx⟩⟩
 .exact ny Y s σ H x y v u Q I rx ry ⟨a,b,xs,ys,e1,e2,ha,hb,hx,hz,q1 hx,q2 hx⟩
end
end L2
namespace PySem
open Sem (wp)
abbrev tzH1(h:Xp)(l1:V6):Xp:=h.push {cls:=.type "tuple_iterator",data:=.fields #[.ref l1,.int 0 0]}
abbrev tzH2(h:Xp)(l1 l2:V6):Xp:=(tzH1 h l1).push {cls:=.type "tuple_iterator",data:=.fields #[.ref l2,.int 0 0]}
abbrev tzH3(h:Xp)(l1 l2:V6):Xp:=(tzH2 h l1 l2).push {cls:=.type "tuple",data:=.seq #[.ref h.objs.size,.ref (tzH1 h l1).objs.size]}
abbrev tzH4(h:Xp)(l1 l2:V6):Xp:=(tzH3 h l1 l2).push {cls:=.type "tuple",data:=.seq #[.none,.none]}
abbrev tzH5(h:Xp)(l1 l2:V6):Xp:=(tzH4 h l1 l2).push {cls:=.type "zip",data:=.fields #[.none,.bool C?,.bool C?,.ref (tzH2 h l1 l2).objs.size,.ref (tzH3 h l1 l2).objs.size]}
theorem IsTuple.push'{xs:Array V8}(x:h.IsTuple l xs)(o:X6):(h.push o).IsTuple l xs:=let⟨ob,e,r⟩:=x;⟨ob,V9 _ e,r⟩
theorem bb_meets_zip(l1 l2:V6)(xs ys:Array V8) :
 Meets (Y6.«zip.__new__» ⟨[.type "zip",.ref l1,.ref l2],[]⟩) (λ_ R s=>s.1.IsTuple l1 xs/\s.1.IsTuple l2 ys /\
  R (.ok (.ret (.ref (tzH4 s.1 l1 l2).objs.size))) {s with heap:=tzH5 s.1 l1 l2}) :=
 .of_wp λprog w A R s h=>by
  obtain⟨hp,g,d,tk,os⟩:=s;obtain⟨Bv,Ak,h⟩:=h;have AK:=sub_zip;have RB:Heap.IsTuple (Shared.heap ⟨hp,g,d,tk,os⟩) l1 xs:=Bv;have RC:Heap.IsTuple (Shared.heap ⟨hp.push {cls:=.type "tuple_iterator",data:=.fields #[.ref l1,.int 0 0]},g,d,tk,os⟩) l2 ys:=IsTuple.push' Ak _
  wp_walk using Zk RB,Zk RC
  exact⟨_,D?,h⟩
theorem bb_call_zip{xs:Array V8}(Bv:s.1.IsTuple l1 xs)(Ak:s.1.IsTuple l2 ys)
 (h:∀h',IsZip h' (s.1.1.size+4) (s.1.1.size+2) (s.1.1.size+3) .none->YQ h' (s.1.1.size+2) (.ref s.1.1.size) (.ref (s.1.1.size+1)) ->
  YQ h' (s.1.1.size+3) .none .none->h'.IsTupleIter s.1.1.size l1 0->h'.IsTupleIter (s.1.1.size+1) l2 0->h'.objs.size=s.1.1.size+5 ->
  (∀c o,s.1.get? c=A? o->h'.get? c=A? o)->Q (.ref (s.1.1.size+4)) {s with heap:=h'}) :
 Ww (WN prog w) A (call (.type "zip") [.ref l1,.ref l2]) Q E s:=by
 refine callType_new F.called_zip (by decide) (F.typeCall_zip_2 _ _) (F.newCall_zip_2 _ _) (λobj=>F.args_object_init_3 obj _ _) F.entry_zip_new
  (bb_meets_zip l1 l2 xs ys) ⟨Bv,Ak,?_⟩
 have z1:(tzH1 s.1 l1).objs.size=s.1.1.size+1:=Xw ..;have z2:(tzH2 s.1 l1 l2).objs.size=s.1.1.size+2:=by rw[Xw,z1]
 have z3:(tzH3 s.1 l1 l2).objs.size=s.1.1.size+3:=by rw[Xw,z2]
 have z4:(tzH4 s.1 l1 l2).objs.size=s.1.1.size+4:=by rw[Xw,z3]
 have z5:(tzH5 s.1 l1 l2).objs.size=s.1.1.size+5:=by rw[Xw,z4]
 have g5:(tzH5 s.1 l1 l2).get? (tzH4 s.1 l1 l2).objs.size=A? _:=Wh _ rfl;have g4:(tzH5 s.1 l1 l2).get? (tzH3 s.1 l1 l2).objs.size=A? _:=V9 _ (Wh _ rfl);have g3:(tzH5 s.1 l1 l2).get? (tzH2 s.1 l1 l2).objs.size=A? _:=V9 _ (V9 _ (Wh _ rfl));have g2:(tzH5 s.1 l1 l2).get? (tzH1 s.1 l1).objs.size=A? _:=V9 _ (V9 _ (V9 _ (Wh _ rfl)));have g1:(tzH5 s.1 l1 l2).get? s.1.1.size=A? _:=V9 _ (V9 _ (V9 _ (V9 _ (Wh _ rfl))));show _/\_;rw[z2,z3,z4]at g5;rw[z1,z2]at g3;rw[z3]at g4;rw[z1]at g2;rw[z4]
 exact⟨⟨_,g5,D?⟩,h _ g5 g3 g4 ⟨_,g1,D?,D?⟩ ⟨_,g2,D?,D?⟩ z5 λc o x =>
  V9 _ (V9 _ (V9 _ (V9 _ (V9 _ x))))⟩
structure ZSt(xs ys:Array V8)(z TI TO i1 i2 l1 l2:V6)(k:Nat)(h:Xp):Prop where
 ap:ZipApart z TI TO i1 i2 l1 l2
 zip:IsZip h z TI TO .none\/∃(T:V6)(b:Bool)(x y:V8),h.get? z=A? {cls:=.type "zip",data:=.fields #[Yv T,.bool b,.bool C?,.ref TI,.ref TO]}/\YQ h T x y/\T≠TO
 hTI:YQ h TI (.ref i1) (.ref i2)
 hTO:∃a b,YQ h TO a b
 h1:h.IsTupleIter i1 l1 k
 h2:h.IsTupleIter i2 l2 k
 t1:h.IsTuple l1 xs
 t2:h.IsTuple l2 ys
theorem ZSt.typeIs{xs:Array V8}{TI TO:V6}{k:Nat}(x:ZSt xs ys z TI TO i1 i2 l1 l2 k s.1):s.TypeIs (.ref z) "zip":=by
 rcases x.zip with e|⟨T,b,u,v,e,_⟩
 .exact⟨_,e,D?⟩
 .exact⟨_,e,D?⟩
theorem IsTuple.but{xs:Array V8}(x:h.IsTuple l xs)(e:Heap.ExtBut c h h')(n:l≠c):h'.IsTuple l xs:=let⟨ob,q,r⟩:=x;⟨ob,e _ _ n q,r⟩
theorem IsTupleIter.but{i:V6}{k:Nat}(x:h.IsTupleIter i l k)(e:Heap.ExtBut c h h')(n:i≠c):h'.IsTupleIter i l k:=let⟨ob,q,r⟩:=x;⟨ob,e _ _ n q,r⟩
theorem ZSt.frame{xs:Array V8}{TI TO:V6}{k:Nat}(x:ZSt xs ys z TI TO i1 i2 l1 l2 k h)
 (e:∀b o,o.cls≠.type "list"->h.get? b=A? o->h'.get? b=A? o):ZSt xs ys z TI TO i1 i2 l1 l2 k h':=by
 obtain⟨D,hz,hTI,⟨a,b,hTO⟩,⟨o1,a1,a2,a3⟩,⟨o2,b1,b2,b3⟩,⟨o3,c1,c2,c3⟩,⟨o4,d1,d2,d3⟩⟩:=x;refine⟨D,?_,e _ _ (by simp) hTI,⟨a,b,e _ _ (by simp) hTO⟩,⟨o1,e _ _ (by rw[a2];simp) a1,a2,a3⟩,⟨o2,e _ _ (by rw[b2];simp) b1,b2,b3⟩,⟨o3,e _ _ (by rw[c2];simp) c1,c2,c3⟩,⟨o4,e _ _ (by rw[d2];simp) d1,d2,d3⟩⟩;rcases hz with g|⟨T,b,u,v,g,g2,g3⟩
 .exact .inl (e _ _ (by simp) g)
 .exact .inr ⟨T,b,u,v,e _ _ (by simp) g,e _ _ (by simp) g2,g3⟩
open Sem (wp)
theorem bb_zip_itemA{TI TO:V6}{k:Nat}{xs:Array V8}{x y a b:V8}(D:ZipApart z TI TO i1 i2 l1 l2)
 (hz:IsZip s.1 z TI TO .none) (hTI:YQ s.1 TI (.ref i1) (.ref i2)) (hTO:YQ s.1 TO a b)
 (h1:s.1.IsTupleIter i1 l1 k) (h2:s.1.IsTupleIter i2 l2 k) (Bv:s.1.IsTuple l1 xs) (Ak:s.1.IsTuple l2 ys) (hx:xs[k]?=A? x) (hy:ys[k]?=A? y)
 (hQ:∀h',IsZip h' z TI TO (Yv s.1.1.size)->YQ h' TO x y->h'.IsTupleIter i1 l1 (k+1)->h'.IsTupleIter i2 l2 (k+1)->YQ h' s.1.1.size x y->h'.objs.size=s.1.1.size+1 ->
  (∀c o,c≠z->c≠TO->c≠i1->c≠i2->s.1.get? c=A? o->h'.get? c=A? o)->Q (.ref s.1.1.size) {s with heap:=h'}) :
 Ww (WN prog w) A (Y6.«zip.__next__» ⟨[.ref z],[]⟩) (λfin s'=>∃v,fin=.done (.ret v)/\Q v s') E s:=by
 show Ww _ _ (field (.ref z) 2 >>= _) _ _ _;refine V3 (Xe hz rfl (x:=.bool C?) rfl ?_);show Ww _ _ (field (.ref z) 3 >>= _) _ _ _;refine V3 (Xe hz rfl (x:=.ref TI) rfl ?_);refine V3 (XM hTI rfl ?_);show Ww _ _ (Xj (.ref z) >>= _) _ _ _;refine V3 ?_;unfold Xj;refine V3 (Xe hz rfl (x:=.none) rfl (Wa ?_));simp only[if_true];refine V3 (wpAny_rule ?_);refine V3 (Xe hz rfl (x:=.ref TO) rfl ?_);refine V3 (Yn hz (by simp) λzk zO zd=>?_);replace zO:IsZip zk z TI TO .ellipsis:=zO;refine V3 ?_;simp only[List.zipIdx_cons,List.zipIdx_nil,ZE,List.forIn_nil];refine V3 (V3 (wpAny_onRaise ?_));show Ww _ _ (Xd (.ref i1) >>= _) _ _ _;refine V3 (bb_tupNext (IsTupleIter.but h1 zd.extBut D.i1z) (IsTuple.but Bv zd.extBut D.l1z) hx λAc BN zi=>Wa ?_);have AL:YQ Ac TO a b:=zi.extBut _ _ D.TOi1 (zd.extBut _ _ D.TOz hTO);refine V3 (XM AL rfl ?_);refine V3 (wpAny_updateSeq_pair AL λBK Bw zL=>?_);replace Bw:YQ BK TO x b:=Bw;refine V3 (YU (Wa ?_));refine V3 (V3 (wpAny_onRaise ?_));show Ww _ _ (Xd (.ref i2) >>= _) _ _ _
 refine V3 (bb_tupNext (IsTupleIter.but (IsTupleIter.but (IsTupleIter.but h2 zd.extBut D.i2z) zi.extBut D.i12.symm) zL.extBut D.TOi2.symm)
  (IsTuple.but (IsTuple.but (IsTuple.but Ak zd.extBut D.l2z) zi.extBut D.l2i1) zL.extBut D.l2TO) hy λzS DB zF=>Wa ?_)
 have DC:YQ zS TO x b:=zF.extBut _ _ D.TOi2 Bw;refine V3 (XM DC rfl ?_);refine V3 (wpAny_updateSeq_pair DC λzT Bx Aq=>?_);replace Bx:YQ zT TO x y:=Bx;refine V3 (YU (Wa (Wa ?_)));refine V3 (XM Bx rfl ?_);refine V3 (wpAny_newTuple ?_);have hsz:zT.objs.size=s.1.1.size:=by rw[Aq.1,zF.1,zL.1,zi.1,zd.1]
 have Ff:IsZip zT z TI TO .ellipsis:=Aq.extBut _ _ D.TOz.symm (zF.extBut _ _ D.i2z.symm (zL.extBut _ _ D.TOz.symm (zi.extBut _ _ D.i1z.symm zO)))
 have Iv:∀c o,c≠z->c≠TO->c≠i1->c≠i2->s.1.get? c=A? o->zT.get? c=A? o:=λc o c1 c2 c3 c4 e =>
  Aq.extBut _ _ c2 (zF.extBut _ _ c4 (zL.extBut _ _ c2 (zi.extBut _ _ c3 (zd.extBut _ _ c1 e))))
 have Iw:zT.IsTupleIter i1 l1 (k+1):=IsTupleIter.but (IsTupleIter.but (IsTupleIter.but BN zL.extBut D.TOi1.symm) zF.extBut D.i12) Aq.extBut D.TOi1.symm;have Iy:zT.IsTupleIter i2 l2 (k+1):=IsTupleIter.but DB Aq.extBut D.TOi2.symm;have Iz:z<zT.objs.size:=WC Ff;show Ww _ _ (Builtin.SmallTypes.ownedTupleHandOut (.ref z) (.ref zT.objs.size) >>= _) _ _ _;refine V3 ?_;unfold Builtin.SmallTypes.ownedTupleHandOut;have IC:IsZip (zT.push {cls:=.type "tuple",data:=.seq #[x,y]}) z TI TO .ellipsis:=V9 _ Ff;refine V3 (Yn IC (by simp) λMg DD DE=>?_);replace DD:IsZip Mg z TI TO (Yv zT.objs.size):=DD;refine Yn DD (by simp) λDF Cy DG=>?_;replace Cy:IsZip DF z TI TO (Yv zT.objs.size):=Cy;have up:∀c o,c≠z->zT.get? c=A? o->DF.get? c=A? o:=λc o c1 e=>DG.extBut _ _ c1 (DE.extBut _ _ c1 (V9 _ e));have Fg:YQ DF zT.objs.size x y:=DG.extBut _ _ (Y4 Iz) (DE.extBut _ _ (Y4 Iz) (Wh _ rfl));have O3:DF.objs.size=zT.objs.size+1:=by rw[DG.1,DE.1,Xw]
 rw[hsz]at Cy Fg O3;refine Wa ⟨_,rfl,?_⟩;show Q (.ref zT.objs.size) _;rw[hsz];refine hQ DF Cy (up _ _ D.TOz Bx) ?_ ?_ Fg O3 λc o c1 c2 c3 c4 e=>up c o c1 (Iv c o c1 c2 c3 c4 e)
 .obtain⟨o,e,r⟩:=Iw;exact⟨o,up _ o D.i1z e,r⟩
 .obtain⟨o,e,r⟩:=Iy;exact⟨o,up _ o D.i2z e,r⟩
theorem bb_loadIfAlive{o:X6}{Q:Option X6->Wd->Prop}(hQ:∀u,A? o=A? u->Q (A? u) s)(h:s.1.get? a=A? o):Ww (WN prog w) A (loadIfAlive a) Q E s:=by
 intro Γ p Vl;show Sem.wp _ _ (.loadIfAlive a .pure) _ _ _ _;rw[Sem.wp_loadIfAlive,h];exact hQ o rfl
theorem bb_notfree{T:V6}{b:Bool}{f2 TI TO v:V8}(hz:s.1.get? z=A? {cls:=.type "zip",data:=.fields #[Yv T,.bool b,f2,TI,TO]})(hT:YQ s.1 T u v) :
 Ww (WN prog w) A (Xj (.ref z)) (λa s1=>a=C?/\∃zk,s1={s with heap:=zk}/\zk.get? z=A? {cls:=.type "zip",data:=.fields #[Yv T,.bool Bq,f2,TI,TO]}/\XA z s.1 zk) E s:=by
 unfold Xj;refine V3 (Xe hz rfl (x:=Yv T) rfl ?_);show Ww _ _ (loadIfAlive (T:Int).toNat >>= _) _ _ _;rw[Wl];refine V3 (bb_loadIfAlive (λo(e:A? _=A? o)=>?_) hT);cases e;show Ww _ _ (if(A? _:Option X6).isNone=Bq then _ else _) _ _ _;rw[a! (show¬((A? _:Option X6).isNone=Bq)from Wz)];refine V3 (Xe hz rfl (x:=.bool b) rfl ?_);cases b with
 |true=>exact Wa ⟨rfl,s.1,rfl,hz,rfl,λ_ _=>rfl⟩
 |false=>exact V3 (Yn hz (by simp) λzk zO zd=>Wa ⟨rfl,zk,rfl,zO,zd⟩)
theorem bb_zip_itemB{TI TO T:V6}{k:Nat}{xs:Array V8}{x y v:V8}{b:Bool}(D:ZipApart z TI TO i1 i2 l1 l2)
 (hz:s.1.get? z=A? {cls:=.type "zip",data:=.fields #[Yv T,.bool b,.bool C?,.ref TI,.ref TO]}) (hT:YQ s.1 T u v) (hTI:YQ s.1 TI (.ref i1) (.ref i2))
 (h1:s.1.IsTupleIter i1 l1 k) (h2:s.1.IsTupleIter i2 l2 k) (Bv:s.1.IsTuple l1 xs) (Ak:s.1.IsTuple l2 ys) (hx:xs[k]?=A? x) (hy:ys[k]?=A? y)
 (hQ:∀h',h'.get? z=A? {cls:=.type "zip",data:=.fields #[Yv T,.bool Bq,.bool C?,.ref TI,.ref TO]}->h'.IsTupleIter i1 l1 (k+1)->h'.IsTupleIter i2 l2 (k+1)->YQ h' s.1.1.size x y->h'.objs.size=s.1.1.size+1 ->
  (∀c o,c≠z->c≠i1->c≠i2->s.1.get? c=A? o->h'.get? c=A? o)->Q (.ref s.1.1.size) {s with heap:=h'}) :
 Ww (WN prog w) A (Y6.«zip.__next__» ⟨[.ref z],[]⟩) (λfin s'=>∃v,fin=.done (.ret v)/\Q v s') E s:=by
 show Ww _ _ (field (.ref z) 2 >>= _) _ _ _;refine V3 (Xe hz rfl (x:=.bool C?) rfl ?_);show Ww _ _ (field (.ref z) 3 >>= _) _ _ _;refine V3 (Xe hz rfl (x:=.ref TI) rfl ?_);refine V3 (XM hTI rfl ?_);show Ww _ _ (Xj (.ref z) >>= _) _ _ _;refine V3 (XX (bb_notfree hz hT) (λa s1⟨e1,zk,e2,zO,zd⟩=>?_) λ_ _ x=>x);subst e1 e2;simp only[YF,if_false];rw[<-Array.forIn_toList];refine V3 ?_;simp only[ZE,List.forIn_nil];refine V3 (V3 (Xq ?_));show Ww _ _ (Xd (.ref i1) >>= _) _ _ _;refine V3 (bb_tupNext (IsTupleIter.but h1 zd.extBut D.i1z) (IsTuple.but Bv zd.extBut D.l1z) hx λAc BN zi=>Wa (Wa ?_));refine V3 (V3 (Xq ?_));show Ww _ _ (Xd (.ref i2) >>= _) _ _ _;refine V3 (bb_tupNext (IsTupleIter.but (IsTupleIter.but h2 zd.extBut D.i2z) zi.extBut D.i12.symm) (IsTuple.but (IsTuple.but Ak zd.extBut D.l2z) zi.extBut D.l2i1) hy λzS DB zF=>Wa (Wa (Wa ?_)));refine V3 (wpAny_newTuple (hsz:=by show 2<=WD;decide) (Wa ⟨_,rfl,?_⟩));have hsz:zS.objs.size=s.1.1.size:=by rw[zF.1,zi.1,zd.1]
 show Q (.ref zS.objs.size) {s with heap:=zS.push {cls:=.type "tuple",data:=.seq #[x,y]}};have Fh:YQ (zS.push {cls:=.type "tuple",data:=.seq #[x,y]}) zS.objs.size x y:=Wh _ rfl;have DH:(zS.push {cls:=.type "tuple",data:=.seq #[x,y]}).objs.size=zS.objs.size+1:=Xw ..;have ID:=IsTupleIter.but BN zF.extBut D.i12;rw[hsz]at Fh DH;rw[hsz];refine hQ _ (V9 _ (zF.extBut _ _ D.i2z.symm (zi.extBut _ _ D.i1z.symm zO))) ?_ ?_ Fh DH λc o c1 c3 c4 e=>V9 _ (zF.extBut _ _ c4 (zi.extBut _ _ c3 (zd.extBut _ _ c1 e)))
 .obtain⟨o,e,r⟩:=ID;exact⟨o,V9 _ e,r⟩
 .obtain⟨o,e,r⟩:=DB;exact⟨o,V9 _ e,r⟩
theorem bb_zip_end{TI TO:V6}{k:Nat}{xs:Array V8}{Q:Fin->Wd->Prop}(hh:A.handled=B?)
 (S:ZSt xs ys z TI TO i1 i2 l1 l2 k s.1) (CQ:xs[k]?=B?\/ys[k]?=B?)
 (hE:∀h' e,(∀c o,c≠z->c≠TO->c≠i1->c≠i2->s.1.get? c=A? o->h'.get? c=A? o)->(∃o,h'.get? e=A? o/\o.cls=.type "StopIteration")->E (.ref e) {s with heap:=h'}) :
 Ww (WN prog w) A (Y6.«zip.__next__» ⟨[.ref z],[]⟩) Q E s:=by
 obtain⟨D,hz,hTI,⟨a,b,hTO⟩,h1,h2,Bv,Ak⟩:=S;rcases hz with hz|⟨T,bb,u,v,hz,hT,O4⟩
 .show Ww _ _ (field (.ref z) 2 >>= _) _ _ _;refine V3 (Xe hz rfl (x:=.bool C?) rfl ?_);show Ww _ _ (field (.ref z) 3 >>= _) _ _ _;refine V3 (Xe hz rfl (x:=.ref TI) rfl ?_);refine V3 (XM hTI rfl ?_);show Ww _ _ (Xj (.ref z) >>= _) _ _ _;refine V3 ?_;unfold Xj;refine V3 (Xe hz rfl (x:=.none) rfl (Wa ?_));simp only[if_true];refine V3 (wpAny_rule ?_);refine V3 (Xe hz rfl (x:=.ref TO) rfl ?_);refine V3 (Yn hz (by simp) λzk zO zd=>?_);replace zO:IsZip zk z TI TO .ellipsis:=zO;refine V3 ?_;simp only[List.zipIdx_cons,List.zipIdx_nil,ZE,List.forIn_nil];refine V3 (V3 (wpAny_onRaise ?_));show Ww _ _ (Xd (.ref i1) >>= _) _ _ _;cases hx:xs[k]? with
  | none =>
    refine V3 (bb_tupEnd hh (IsTupleIter.but h1 zd.extBut D.i1z) (IsTuple.but Bv zd.extBut D.l1z) hx λAc e zi he=>?_);obtain⟨oe,Ee,FZ⟩:=he;have Fi:IsZip Ac z TI TO .ellipsis:=zi _ _ D.i1z.symm zO;have Mh:e≠z:=λx=>by subst x;rw[Fi]at Ee;cases Ee;simp at FZ
    refine Yn Fi (by simp) λBK _ zL=>hE BK e (λc o c1 _ c3 _ x=>zL.extBut _ _ c1 (zi _ _ c3 (zd.extBut _ _ c1 x))) ⟨oe,zL.extBut _ _ Mh Ee,FZ⟩
  | some x =>
    have hy:ys[k]?=none:=by rcases CQ with h|h;rw[hx]at h;cases h;exact h
    refine V3 (bb_tupNext (IsTupleIter.but h1 zd.extBut D.i1z) (IsTuple.but Bv zd.extBut D.l1z) hx λAc BN zi=>Wa ?_);have AL:YQ Ac TO a b:=zi.extBut _ _ D.TOi1 (zd.extBut _ _ D.TOz hTO);refine V3 (XM AL rfl ?_);refine V3 (wpAny_updateSeq_pair AL λBK Bw zL=>?_);refine V3 (YU (Wa ?_));refine V3 (V3 (wpAny_onRaise ?_));show Ww _ _ (Xd (.ref i2) >>= _) _ _ _
    refine V3 (bb_tupEnd hh (IsTupleIter.but (IsTupleIter.but (IsTupleIter.but h2 zd.extBut D.i2z) zi.extBut D.i12.symm) zL.extBut D.TOi2.symm)
     (IsTuple.but (IsTuple.but (IsTuple.but Ak zd.extBut D.l2z) zi.extBut D.l2i1) zL.extBut D.l2TO) hy λzS e zF he=>?_)
    obtain⟨oe,Ee,FZ⟩:=he;have Fj:IsZip zS z TI TO .ellipsis:=zF _ _ D.i2z.symm (zL.extBut _ _ D.TOz.symm (zi.extBut _ _ D.i1z.symm zO));have Mh:e≠z:=λx=>by subst x;rw[Fj]at Ee;cases Ee;simp at FZ
    refine Yn Fj (by simp) λzT _ Aq=>hE zT e (λc o c1 c2 c3 c4 x=>Aq.extBut _ _ c1 (zF _ _ c4 (zL.extBut _ _ c2 (zi.extBut _ _ c3 (zd.extBut _ _ c1 x))))) ⟨oe,Aq.extBut _ _ Mh Ee,FZ⟩
 .show Ww _ _ (field (.ref z) 2 >>= _) _ _ _;refine V3 (Xe hz rfl (x:=.bool C?) rfl ?_);show Ww _ _ (field (.ref z) 3 >>= _) _ _ _;refine V3 (Xe hz rfl (x:=.ref TI) rfl ?_);refine V3 (XM hTI rfl ?_);show Ww _ _ (Xj (.ref z) >>= _) _ _ _;refine V3 (XX (bb_notfree hz hT) (λa s1⟨e1,zk,e2,zO,zd⟩=>?_) λ_ _ x=>x);subst e1 e2;simp only[YF,if_false];rw[<-Array.forIn_toList];refine V3 ?_;simp only[ZE,List.forIn_nil];refine V3 (V3 (Xq ?_));show Ww _ _ (Xd (.ref i1) >>= _) _ _ _;cases hx:xs[k]? with
  | none =>
    refine V3 (bb_tupEnd hh (IsTupleIter.but h1 zd.extBut D.i1z) (IsTuple.but Bv zd.extBut D.l1z) hx λAc e zi he=>?_);exact hE Ac e (λc o c1 _ c3 _ x=>zi _ _ c3 (zd.extBut _ _ c1 x)) he
  | some x =>
    have hy:ys[k]?=none:=by rcases CQ with h|h;rw[hx]at h;cases h;exact h
    refine V3 (bb_tupNext (IsTupleIter.but h1 zd.extBut D.i1z) (IsTuple.but Bv zd.extBut D.l1z) hx λAc BN zi=>Wa (Wa ?_));refine V3 (V3 (Xq ?_));show Ww _ _ (Xd (.ref i2) >>= _) _ _ _;refine V3 (bb_tupEnd hh (IsTupleIter.but (IsTupleIter.but h2 zd.extBut D.i2z) zi.extBut D.i12.symm) (IsTuple.but (IsTuple.but Ak zd.extBut D.l2z) zi.extBut D.l2i1) hy λzS e zF he=>?_);exact hE zS e (λc o c1 _ c3 c4 x=>zF _ _ c4 (zi.extBut _ _ c3 (zd.extBut _ _ c1 x))) he
theorem bb_zip_next{TI TO:V6}{k:Nat}{xs:Array V8}{x y:V8}{Q:Option V8->Wd->Prop}(S:ZSt xs ys z TI TO i1 i2 l1 l2 k s.1)(hx:xs[k]?=A? x)(hy:ys[k]?=A? y)
 (hQ:∀h',ZSt xs ys z TI TO i1 i2 l1 l2 (k+1) h'->YQ h' s.1.1.size x y->h'.objs.size=s.1.1.size+1 ->
  (∀c o,c∉[z,TO,i1,i2]->s.1.get? c=A? o->h'.get? c=A? o)->Q (A? (.ref s.1.1.size)) {s with heap:=h'}) :
 Ww (WN prog w) A (Y8 (.ref z)) Q E s:=by
 have hT:=S.typeIs;obtain⟨D,hz,hTI,⟨a,b,hTO⟩,h1,h2,Bv,Ak⟩:=S;have n1:s.1.1.size≠TO:=Y4 (WC hTO);unfold Y8;refine V3 (wpAny_attempt (Xi (name:=Wb "__next__") hT F.slot_zip_next (Xl F.slot_zip_next hT F.entry_zip_next ?_ (F.args_zip_next_1 _))));rcases hz with hz|⟨T,bb,u,v,hz,Fh,O4⟩
 .refine bb_zip_itemA D hz hTI hTO h1 h2 Bv Ak hx hy λh' a1 a2 a3 a4 a5 a6 a7=>Wa ?_;refine hQ h' ⟨D,.inr ⟨_,_,_,_,a1,a5,n1⟩,a7 _ _ D.TIz D.TITO D.TIi1 D.TIi2 hTI,⟨_,_,a2⟩,a3,a4,?_,?_⟩ a5 a6 λc o hc e=>a7 c o (λq=>hc (by simp[q])) (λq=>hc (by simp[q])) (λq=>hc (by simp[q])) (λq=>hc (by simp[q])) e
  .obtain⟨o,e,r⟩:=Bv;exact⟨o,a7 _ _ D.l1z D.l1TO D.l1i1 D.l1i2 e,r⟩
  .obtain⟨o,e,r⟩:=Ak;exact⟨o,a7 _ _ D.l2z D.l2TO D.l2i1 D.l2i2 e,r⟩
 .refine bb_zip_itemB D hz Fh hTI h1 h2 Bv Ak hx hy λh' a1 a3 a4 a5 a6 a7=>Wa ?_;have RD:T≠z:=by rintro rfl;exact g! (XZ (h! Obj.cls (Wi (hz.symm.trans Fh)))) (by decide)
  have Mi:T≠i1:=by rintro rfl;obtain⟨o,e,c,_⟩:=h1;have e2:=Wi (Fh.symm.trans e);rw[<-e2]at c;exact g! (XZ c) (by decide)
  have Mj:T≠i2:=by rintro rfl;obtain⟨o,e,c,_⟩:=h2;have e2:=Wi (Fh.symm.trans e);rw[<-e2]at c;exact g! (XZ c) (by decide)
  refine hQ h' ⟨D,.inr ⟨T,Bq,u,v,a1,a7 _ _ RD Mi Mj Fh,O4⟩,a7 _ _ D.TIz D.TIi1 D.TIi2 hTI,⟨a,b,a7 _ _ D.TOz D.TOi1 D.TOi2 hTO⟩,a3,a4,?_,?_⟩ a5 a6 λc o hc e=>a7 c o (λq=>hc (by simp[q])) (λq=>hc (by simp[q])) (λq=>hc (by simp[q])) e
  .obtain⟨o,e,r⟩:=Bv;exact⟨o,a7 _ _ D.l1z D.l1i1 D.l1i2 e,r⟩
  .obtain⟨o,e,r⟩:=Ak;exact⟨o,a7 _ _ D.l2z D.l2i1 D.l2i2 e,r⟩
theorem bb_zip_done{TI TO:V6}{k:Nat}{xs:Array V8}{Q:Option V8->Wd->Prop}(hh:A.handled=B?)(S:ZSt xs ys z TI TO i1 i2 l1 l2 k s.1)(CQ:xs[k]?=B?\/ys[k]?=B?)
 (hQ:∀h',(∀c o,c∉[z,TO,i1,i2]->s.1.get? c=A? o->h'.get? c=A? o)->Q B? {s with heap:=h'}):Ww (WN prog w) A (Y8 (.ref z)) Q E s:=by
 have hT:=S.typeIs;unfold Y8
 refine V3 (wpAny_attempt (Xi (name:=Wb "__next__") hT F.slot_zip_next
  (Xl F.slot_zip_next hT F.entry_zip_next (bb_zip_end hh S CQ λh' e hk he=>?_) (F.args_zip_next_1 _))))
 obtain⟨o,ho,hc⟩:=he;refine V3 (wpAny_isInstance (T:="StopIteration") (b:=Bq) ⟨o,ho,hc⟩ isSubtype_stop ?_);exact Wa (hQ _ λc o hc=>hk c o (λq=>hc (by simp[q])) (λq=>hc (by simp[q])) (λq=>hc (by simp[q])) (λq=>hc (by simp[q])))
theorem bb_zip_iter{TI TO:V6}{k:Nat}{xs:Array V8}(S:ZSt xs ys z TI TO i1 i2 l1 l2 k s.1)(h:Q (.ref z) s):Ww (WN prog w) A (pyIter (.ref z)) Q E s:=by
 have hT:=S.typeIs;refine Z2 hT F.slot_zip_iter (Xl F.slot_zip_iter hT F.entry_zip_iter ?_ (F.args_zip_iter_1 _));show Ww _ _ (ret (.ref z)) _ _ s;exact Wa ⟨_,rfl,"zip",_,hT,F.slot_zip_next.lookup,h⟩
open Sem (wp)
namespace F
theorem bb_nolen_zip:typeLookup (.type "zip") "__len__"=pure none:=by rw[typeLookup_type,builtinLookup_eq_fast];kernel_rfl
theorem bb_nohint_zip:typeLookup (.type "zip") "__length_hint__"=pure none:=by rw[typeLookup_type,builtinLookup_eq_fast];kernel_rfl
end F
def ZIt(xs ys:Array V8)(n0:Nat)(h:Xp)(acc:Array V8)(k:Nat):Prop:=acc.size=k/\∀(j:Nat)(v:V8),acc[j]?=A? v->∃(T:V6)(x y:V8),v=W3 T/\n0<=T/\YQ h T x y/\xs[j]?=A? x/\ys[j]?=A? y
section
variable{R:Result->Wd->Prop}
theorem bb_zip_loop{TI TO S:V6}{xs:Array V8}{n0:Nat}(hh:A.in1.handled=B?)(hn:n=min xs.size ys.size)(hz:n<=WD)(O5:S∉[z,TO,i1,i2])(hf:∀c∈[z,TO,i1,i2],c<n0)(res:V8) :
 ∀(k i:Nat)(s:Wd)(acc:Array V8)(c:Nat),n - i=k->i<=n->ZSt xs ys z TI TO i1 i2 l1 l2 i s.1->n0<=s.1.1.size->s.1.get? S=A? {cls:=.type "list",dict:=B?,data:=.seq acc c,slots:=#[]}->ZIt xs ys n0 s.1 acc i ->
 (∀h' An c',(∀b o,b≠S->b∉[z,TO,i1,i2]->s.1.get? b=A? o->h'.get? b=A? o)->h'.get? S=A? {cls:=.type "list",dict:=B?,data:=.seq An c',slots:=#[]}->ZIt xs ys n0 h' An n->R (.ok (.ret res)) {s with heap:=h'}) ->
 Zt (WN prog w) A (.builtin "list.extend.loop" ⟨[.ref S,.ref z,res],[]⟩) R s:=by
 intro k;have Fl:∀{T:V6},n0<=T->T∉[z,TO,i1,i2]:=λh m=>g! (hf _ m) (Nat.not_lt.mpr h);induction k with
 | zero =>
   intro i s acc c hk hi zM h0 hS zA hR;have z9:i=n:=by lia
   subst z9;refine Zn F.entry_extend_loop ?_;rw[Yx X8 _];show Ww _ A.in1 (Y8 (.ref z) >>= _) _ _ s
   have CQ:xs[i]?=B?\/ys[i]?=none:=by
    rcases Nat.le_total xs.size ys.size with h|h
    .exact .inl (ZT (by lia))
    .exact .inr (ZT (by lia))
   refine V3 (bb_zip_done hh zM CQ λh' zD=>Wa ?_);refine hR h' acc c (λb o _ hb e=>zD b o hb e) (zD _ _ O5 hS) ⟨zA.1,λj v hv=>?_⟩;obtain⟨T,x,y,e1,e2,e3,e4⟩:=zA.2 j v hv;exact⟨T,x,y,e1,e2,zD _ _ (Fl e2) e3,e4⟩
 | succ k ih =>
   intro i s acc c hk hi zM h0 hS zA hR;have zf:i<n:=by lia
   refine Zn F.entry_extend_loop ?_;rw[Yx X8 _];show Ww _ A.in1 (Y8 (.ref z) >>= _) _ _ s;have hx:xs[i]?=A? xs[i]:=YG (by lia);have hy:ys[i]?=A? ys[i]:=YG (by lia);refine V3 (bb_zip_next zM hx hy λh' DI hT hsz zD=>?_);have Ef:=zD S _ O5 hS;have Ml:S<s.1.1.size:=WC hS;show Ww _ A.in1 (updateSeq S (·.push (.ref s.1.1.size)) >>= _) _ _ _;refine V3 ?_;have Cz:∀b o,b≠S->h'.get? b=A? o->(h'.update S (Xs (·.push (W3 s.1.1.size)))).get? b=A? o:=λb o hb e=>(XE _ _ (Yc hb)).trans e
   refine X1 Ef rfl (Wa ⟨Y0 X8 _,ih (i+1) _ (acc.push (.ref s.1.1.size)) _ (by lia) zf (DI.frame λb o ho e=>Cz b o (λz=>?_) e) ?_ (Xr _ Ef rfl) ?_ λG' An c' F0 F1 DJ=>?_⟩)
    (by rw[zA.1];lia) (by show(acc.push _).size<=WD+1;rw[Array.size_push,zA.1];lia)
   .rw[z,Ef]at e;cases e;exact ho rfl
   .show n0<=(h'.update S _).objs.size;rw[Heap.size_update];lia
   .refine⟨by rw[Array.size_push,zA.1],λj v hv=>?_⟩;rw[Array.getElem?_push]at hv;split at hv
    .rename_i e
     rw[zA.1]at e;cases hv;subst e;exact⟨_,_,_,D?,h0,Cz _ _ (Y4 Ml) hT,hx,hy⟩
    .obtain⟨T,x,y,e1,e2,e3,e4⟩:=zA.2 j v hv
     have RE:T≠S:=by
      rintro rfl;exact g! (XZ (h! Obj.cls (Wi (e3.symm.trans hS)))) (by decide)
     exact⟨T,x,y,e1,e2,Cz _ _ RE (zD _ _ (Fl e2) e3),e4⟩
   .exact hR G' An c' (λb o hb hb2 e=>F0 b o hb hb2 (Cz b o hb (zD b o hb2 e))) F1 DJ
end
theorem bb_list_zip{TI TO:V6}{xs:Array V8}{n0:Nat}(hh:A.in1.in1.handled=B?)(zM:ZSt xs ys z TI TO i1 i2 l1 l2 0 s.1)(hn:n=min xs.size ys.size)(hz:n<=WD)(h0:n0<=s.1.1.size)(hf:∀c∈[z,TO,i1,i2],c<n0)
 (hQ:∀h' acc c,(∀b o,b∉[z,TO,i1,i2]->s.1.get? b=A? o->h'.get? b=A? o)->h'.get? s.1.1.size=A? {cls:=.type "list",dict:=B?,data:=.seq acc c,slots:=#[]}->ZIt xs ys n0 h' acc n->Q (.ref s.1.1.size) {s with heap:=h'}) :
 Ww (WN prog w) A (call (.type "list") [.ref z]) Q E s:=by
 have O6:s.1.1.size∉[z,TO,i1,i2]:=λhm=>g! (hf _ hm) (Nat.not_lt.mpr h0);have IE:s.1.1.size≠z:=λe=>O6 (by simp[e])
 refine callType_codes (Q₁:=λobj l'=>obj=.ref s.1.1.size/\l'={s with heap:=s.1.push {cls:=.type "list",data:=.seq #[]}}) F.called_list (F.typeCall_list_1 _) F.entry_list_init
  (code_list_new _ ⟨rfl,rfl⟩) λobj l' zk=>?_
 obtain⟨rfl,rfl⟩:=zk;have hS:(s.1.push {cls:=.type "list",data:=.seq #[]}).get? s.1.1.size=A? {cls:=.type "list",data:=.seq #[]}:=Wh _ rfl;refine⟨⟨_,hS,D?⟩,F.args_list_init_2 _ _,?_⟩;show Ww _ A.in1.in1 (do let old <-Z8 (.ref s.1.1.size);Builtin.List.listUpdate (.ref s.1.1.size) (λ_=>#[]);letGo old.toList.reverse;Zv (.ref s.1.1.size) (.ref z) .none) _ _ _;refine V3 ?_;unfold Z8;refine V3 (XM hS rfl (Wa ?_));refine V3 (X1 hS rfl ?_);have BO:=Xr (Xs (λ_=>(#[]:Array V8))) hS rfl;refine V3 (YU ?_);have CS:((s.1.push {cls:=.type "list",data:=.seq #[]}).update s.1.1.size (Xs (λ_=>(#[]:Array V8)))).objs.size=s.1.1.size+1:=by rw[Heap.size_update,Xw]
 generalize hH:(s.1.push {cls:=.type "list",data:=.seq #[]}).update s.1.1.size (Xs (λ_=>(#[]:Array V8)))=H2 at BO CS |-
 have old:∀b o,s.1.get? b=A? o->H2.get? b=A? o:=λb o e=>by
  rw[<-hH,XE _ _ (Yc (WT (WC e)))];exact V9 _ e
 obtain⟨c2,Fm⟩:∃c,H2.get? s.1.1.size=A? {cls:=.type "list",data:=.seq #[] c}:=⟨_,BO⟩;have EA:ZSt xs ys z TI TO i1 i2 l1 l2 0 H2:=zM.frame λb o _ e=>old b o e;have IF:({s with heap:=H2}:Wd).TypeIs (.ref z) "zip":=EA.typeIs;unfold Zv;refine V3 (Z0 IF ?_);have h1:ZS (.ref s.1.1.size) (.ref z)=false:=by simp[ZS,IE]
 have h2:(Zl "zip" == Zl "list")=false:=by decide
 have h3:(Zl "zip" == Zl "tuple")=false:=by decide
 simp only[h1,h2,h3,Bool.or_false,YF,if_false];refine V3 (bb_zip_iter EA ?_);refine V3 (Xq ?_);unfold Builtin.List.listLengthHint;refine V3 (wpAny_specialOf IF F.bb_nolen_zip ?_);show Ww _ _ (specialOf (W3 z) (Wb "__length_hint__") >>= _) _ _ _;refine V3 (wpAny_specialOf IF F.bb_nohint_zip ?_);refine Wa ?_
 have key:∀(h:Xp)(c₁:Nat),ZSt xs ys z TI TO i1 i2 l1 l2 0 h->n0<=h.objs.size->(∀b o,b≠s.1.1.size->H2.get? b=A? o->h.get? b=A? o)->h.get? s.1.1.size=A? {cls:=.type "list",data:=.seq #[] c₁} ->
  Zt (WN prog w) A.in1 (.builtin "list.extend.loop" ⟨[.ref s.1.1.size,.ref z,.none],[]⟩) (wants (λr zW=>r=.none/\Q (.ref s.1.1.size) zW) E) {s with heap:=h}:=by
  intro h c₁ hs Ma hk DK;refine bb_zip_loop hh hn hz O6 hf .none n 0 _ #[] c₁ rfl (WY _) hs Ma DK ⟨rfl,λj v e=>by simp at e⟩ λh' An c' hm Ef zA=>?_;exact⟨D?,hQ h' An c' (λb o hb e=>hm b o (WT (WC e)) hb (hk b o (WT (WC e)) (old b o e))) Ef zA⟩
 show Ww _ _ (rule "list.extend.makes-room" >>= λ_=>Builtin.List.listTouch (.ref s.1.1.size) >>= λ_=>again (.builtin "list.extend.loop" ⟨[.ref s.1.1.size,.ref z,.none],[]⟩)) _ _ _;refine V3 (wpAny_rule ?_);refine V3 ?_;show Ww _ _ (updateSeq s.1.1.size (·.push .none) >>= λ_=>updateSeq s.1.1.size (·.pop)) _ _ _;refine V3 (X1 Fm rfl ?_);have BP:=Xr (Xs (·.push XH)) Fm rfl;refine X1 (hz:=by seq_fits) BP rfl ?_;have DL:=Xr (Xs (·.pop)) BP rfl
 have Cz:∀b o,b≠s.1.1.size->H2.get? b=A? o->((H2.update s.1.1.size (Xs (·.push XH))).update s.1.1.size (Xs (·.pop))).get? b=A? o :=
  λb o hb e=>(XE _ _ (Yc hb)).trans ((XE _ _ (Yc hb)).trans e)
 refine Wa ⟨Y0 X8 _,key _ _ (EA.frame λb o ho e=>Cz b o (λq=>?_) e) ?_ Cz DL⟩
 .rw[q,Fm]at e;cases e;exact ho rfl
 .rw[Heap.size_update,Heap.size_update];show n0<=H2.objs.size;lia
end PySem
namespace L2
open PySem PySem.Spec PyProof.Rows
theorem Inv.laidAll{X:Cx}(I:Inv X Y σ H s)(k:∀b u,s.1.get? b=A? u->h'.get? b=A? u)
 (old:∀b,b<s.1.1.size->H' b=H b) (new:∀b u,s.1.1.size<=b->H' b=A? u->ObjOk X.prog X.w H' h' b u):Inv X Y σ H' {s with heap:=h',toks:=t'}:=by
 have sm:∀b u,H b=A? u->H' b=A? u:=λb u e=>by rw[old b (I.hok.lt e)];exact e
 refine I.un ⟨λb u q _ _ _=>k b u q,λb u q _ _ _=>⟨u.slots,k b u q⟩,λb u q n _=>by rw[old b (WC q)];exact n,λb u q _=>⟨u,k b u q⟩,λb xs q=>sm _ _ q,λb u xs q=>sm _ _ q,λb ps q=>⟨#[],by rw[sm _ _ q];simp⟩⟩ λb u q=>?_;by_cases hb:b<s.1.1.size
 .rw[old b hb]at q;exact(I.hok b u q).stay (λc v _ e=>k c v e) (λc e=>sm _ _ e) λc xs e=>sm _ _ e
 .exact new b u (Nat.not_lt.mp hb) q
def lW(H:Hp):List V6->List (V×V)->Hp
 |t::ts,p::ps=>upd (lW H ts ps) t (.tup [p.1,p.2])
 |_,_=>H
theorem kJ:∀{ts:List V6}{ps:List (V×V)},b∉ts->lW H ts ps b=H b
 | [],_,_=>rfl
 |_::_,[],_=>rfl
 | t::ts,p::ps,h=>by
   rw[lW,aj (λe=>h (by simp[e]))];exact kJ λm=>h (Wo _ m)
theorem oQ:∀{ts:List V6}{ps:List (V×V)}{b:V6}{u:HO},lW H ts ps b=A? u->H b=A? u\/∃(j:Nat)(p:V×V),ts[j]?=A? b/\ps[j]?=A? p/\u=.tup [p.1,p.2]
 | [],_,_,_,h=>.inl h
 |_::_,[],_,_,h=>.inl h
 | t::ts,p::ps,b,u,h=>by
   rw[lW]at h;by_cases e:b=t
   .subst e;rw[ac]at h;exact .inr ⟨0,p,rfl,rfl,(Wi h).symm⟩
   .rw[aj e]at h;rcases oQ h with q|⟨j,p',q1,q2,q3⟩
    .exact .inl q
    .exact .inr ⟨j+1,p',by simpa using q1,by simpa using q2,q3⟩
theorem oM{H:Hp}:∀{ts:List V6}{ps:List (V×V)}{t:V6},ts.length=ps.length->t∈ts->∃(i:Nat)(p:V×V),ts[i]?=A? t/\ps[i]?=A? p/\lW H ts ps t=A? (.tup [p.1,p.2])
 | [],_,_,_,h=>nomatch h
 |_::_,[],_,hl,_=>by simp at hl
 | u::ts,p::ps,t,hl,h=>by
   by_cases e:t=u
   .subst e;exact⟨0,p,D?,D?,by rw[lW,ac]⟩
   .obtain⟨i,p',q1,q2,q3⟩:=oM (H:=H) (ts:=ts) (ps:=ps) (t:=t) (by simpa using hl) (by
     rcases Wr.mp h with h|h
     .exact g! h e
     .exact h)
    exact⟨i+1,p',by simpa using q1,by simpa using q2,by rw[lW,aj e];exact q3⟩
theorem di{F:α->β->Prop}:∀{ps:List α}{ts:List β},ps.length=ts.length->(∀(j:Nat)p t,ps[j]?=A? p->ts[j]?=A? t->F p t)->WL F ps ts
 | [],[],_,_=>.nil
 | [],_::_,h,_=>by simp at h
 |_::_,[],h,_=>by simp at h
 |p::ps,t::ts,h,f=>.cons (f 0 p t rfl rfl) (di (by simpa using h) λj p' t' e1 e2=>f (j+1) p' t' (by simpa using e1) (by simpa using e2))
theorem qU{P:Nat->V6->Prop}:∀{vs:List V8}(n:Nat),(∀(j:Nat)v,vs[j]?=A? v->∃T,v=W3 T/\P (n+j) T)->∃ts:List V6,vs=ts.map W3/\∀(j:Nat)T,ts[j]?=A? T->P (n+j) T
 | [],n,_=>⟨[],rfl,λj T h=>by simp at h⟩
 | v::vs,n,h=>by
   obtain⟨T,e1,e2⟩:=h 0 v rfl
   obtain⟨ts,q1,q2⟩:=qU (P:=P) (vs:=vs) (n+1) λj v' hv=>by
    have:=h (j+1) v' (by simpa using hv);rw[show n+1+j=n+(j+1)by lia];exact this
   refine⟨T::ts,by rw[e1,q1];rfl,λj T' hT=>?_⟩;cases j with
   |zero=>simp at hT;subst hT;exact e2
   | succ j =>
     have:=q2 j T' (by simpa using hT);rw[show n+1+j=n+(j+1)by lia]at this;exact this
theorem xk{xs:List α}{ys:List β}{p:α×β}(h:(xs.zip ys)[j]?=A? p):xs[j]?=A? p.1/\ys[j]?=A? p.2:=by
 rw[X0]at h;exact h
def tI(K:Wf)(t:TA):TE:=λσ H Q=>t σ H λvs H2=>∃a b xs ys,vs=[.ref a,.ref b]/\SqT K H2 a xs/\SqT K H2 b ys /\
 ∀(l:V6)(ts:List V6)(H':Hp),Same H2 H'->H2 l=B?->H' l=A? (.lst (ts.map k!))->WL (λ(p:V×V)t=>H' t=A? (.tup [p.1,p.2])) (xs.zip ys) ts->Q (.ref l) H'
section
variable{X:Cx}{e1 e2:Xb}{t:TA}{p p2 zz:Zb}
theorem qd(hc:X.calm=Bq)(g1:Gl X "list")(m1:X.mg "list"=B?)(g2:Gl X "zip")(m2:X.mg "zip"=B?)(ha:PA X [e1,e2] t)
 (h1:W6 [.Call (.Name "zip" p2) [e1,e2] [] zz] X.env=[(C?,Yd (.Call (.Name "zip" p2) [e1,e2] [] zz) X.env)]:=by rfl) (h2:W6 [e1,e2] X.env=(C?,Yd e1 X.env)::W6 [e2] X.env:=by rfl) (h3:(Y1 zz (W6 [e2] X.env)).any (·.1)=false:=by rfl) :
 PE X (.Call (.Name "list" p) [.Call (.Name "zip" p2) [e1,e2] [] zz] [] pos) (tI X.K t):=by
 intro Y s σ H Q I h;refine Xz (d9 I g1 m1 boot_list (Xu ?_ h1 rfl));rw[h1];show Ww _ _ (spliced ((C?,Yd (.Call (.Name "zip" p2) [e1,e2] [] zz) X.env)::[])) _ _ s;refine Ye ?_;refine Xz (d9 I g2 m2 boot_zip ?_);refine Xu (thn (ha zz Y s σ H _ I h) λus s2⟨vs,H2,I2,r,a,b,xs,ys,ev,RF,RG,q⟩=>?_) h2 h3;subst ev;obtain⟨u1,u2,rfl,r1,r2⟩:=vals2 r;cases r1;cases r2;obtain⟨ia,O7,pa,Mm⟩:=I2.tuple RF;obtain⟨ib,O8,pb,Vm⟩:=I2.tuple RG;have EG:=O7.length;have Vn:=O8.length;have Ay:a<s2.1.1.size:=by obtain⟨o,e,_⟩:=pa;exact WC e
 have AW:b<s2.1.1.size:=by obtain⟨o,e,_⟩:=pb;exact WC e
 have hh:X.A.in1.in1.handled=none:=I2.ok.hd hc;refine bb_call_zip (show s2.1.IsTuple a ia.toArray from pa) (show s2.1.IsTuple b ib.toArray from pb) λh' z1 z2 z3 z4 z5 z6 z7=>YA ?_;have D:ZipApart (s2.1.1.size+4) (s2.1.1.size+2) (s2.1.1.size+3) s2.1.1.size (s2.1.1.size+1) a b:=zipApart_new Ay AW
 have st:ZSt ia.toArray ib.toArray (s2.1.1.size+4) (s2.1.1.size+2) (s2.1.1.size+3) s2.1.1.size (s2.1.1.size+1) a b 0 h':=by
  refine⟨D,.inl z1,z2,⟨_,_,z3⟩,z4,z5,?_,?_⟩
  .obtain⟨o,e,r⟩:=pa;exact⟨o,z7 _ _ e,r⟩
  .obtain⟨o,e,r⟩:=pb;exact⟨o,z7 _ _ e,r⟩
 have hf:∀c∈[s2.1.1.size+4,s2.1.1.size+3,s2.1.1.size,s2.1.1.size+1],s2.1.1.size<=c/\c<h'.objs.size:=λc hc=>by
  simp at hc;rw[z6];have z8:(c:Nat)=s2.1.1.size+4\/(c:Nat)=s2.1.1.size+3\/(c:Nat)=s2.1.1.size\/(c:Nat)=s2.1.1.size+1:=hc;constructor
  .show(s2.1.1.size:Nat)<=(c:Nat);lia
  .show(c:Nat)<s2.1.1.size+5;lia
 refine bb_list_zip (s:={s2 with heap:=h'}) hh st rfl (by rw[Wn,Wn];lia) (Wc _) (λc hc=>(hf c hc).2) λh2 acc c kp hS zA=>?_;replace hS:h2.get? h'.objs.size=A? {cls:=.type "list",dict:=B?,data:=.seq acc c,slots:=#[]}:=hS;have RH:∀b o,s2.1.get? b=A? o->h2.get? b=A? o:=λb o e=>kp b o (λm=>g! (WC e) (Nat.not_lt.mpr (hf b m).1)) (z7 b o e);obtain⟨hsz,hit⟩:=zA
 obtain⟨ts,et,ht⟩:=qU (P:=λj T=>h'.objs.size<=T/\∃x y,YQ h2 T x y/\ia.toArray[j]?=A? x/\ib.toArray[j]?=A? y) (vs:=acc.toList) 0 (λj v hv=>by
  obtain⟨T,x,y,g1,g2,g3,g4,g5⟩:=hit j v (by simpa using hv);rw[Nat.zero_add];exact⟨T,g1,g2,x,y,g3,g4,g5⟩)
 simp only[Nat.zero_add]at ht
 have zq:ts.length=(xs.zip ys).length:=by
  have e:=h! XG et;rw[V2,WO,hsz,Wn,Wn]at e;rw[ZD];lia
 have rel:∀(j:Nat)(p:V×V)(T:V6),(xs.zip ys)[j]?=A? p->ts[j]?=A? T->∃x y,YQ h2 T x y/\RelV p.1 x/\RelV p.2 y:=λj p T hp hT=>by
  obtain⟨_,x,y,g3,g4,g5⟩:=ht j T hT;obtain⟨Ar,zG⟩:=xk hp;obtain⟨x',k1,k2⟩:=O7.get Ar;obtain⟨y',k3,k4⟩:=O8.get zG
  have e1:x'=x:=by
   have:ia[j]?=A? x:=by simpa using g4
   rw[k1]at this;exact Wi this
  have e2:y'=y:=by
   have:ib[j]?=A? y:=by simpa using g5
   rw[k3]at this;exact Wi this
  subst e1 e2;exact⟨_,_,g3,k2,k4⟩
 have same:∀(i j:Nat)(p p':V×V)(T:V6),(xs.zip ys)[i]?=A? p->(xs.zip ys)[j]?=A? p'->ts[i]?=A? T->ts[j]?=A? T->p=p':=λi j p p' T h1 h2 h3 h4=>by
  obtain⟨x,y,g1,g2,g3⟩:=rel i p T h1 h3;obtain⟨x',y',k1,k2,k3⟩:=rel j p' T h2 h4;have e:=Wi (g1.symm.trans k1);have ed:=h! Obj.data e;injection ed with RI _;have el:=h! Array.toList RI;have ex:x=x':=(ZY el).1;have ey:y=y':=(ZY (ZY el).2).1;subst ex ey;obtain⟨p1,p2⟩:=p;obtain⟨q1,q2⟩:=p';have f1:p1=q1:=g2.inj k2;have f2:p2=q2:=g3.inj k3;rw[f1,f2]
 have IG:h'.objs.size∉ts:=λm=>by
  obtain⟨j,hj⟩:=List.getElem?_of_mem m;obtain⟨_,x,y,g3,_⟩:=ht j _ hj;exact g! (XZ (h! Obj.cls (Wi (g3.symm.trans hS)))) (by decide)
 have IH:s2.1.1.size<h'.objs.size:=by rw[z6];lia
 have II:∀T∈ts,h'.objs.size<=T:=λT m=>by
  obtain⟨j,hj⟩:=List.getElem?_of_mem m;exact(ht j _ hj).1
 have Au:∀b,s2.1.1.size<=b->H2 b=none:=λb hb=>I2.hok.fresh hb;have Ak:H2 h'.objs.size=none:=Au _ (Yi IH)
 have RJ:∀(j:Nat)(p:V×V)(T:V6),(xs.zip ys)[j]?=A? p->ts[j]?=A? T->lW H2 ts (xs.zip ys) T=A? (.tup [p.1,p.2]):=λj p T hp hT=>by
  obtain⟨i,p',k1,k2,k3⟩:=oM (H:=H2) zq (V5 hT);rw[k3,same i j p' p T k2 hp k1 hT]
 have I3:Inv X Y σ (upd (lW H2 ts (xs.zip ys)) h'.objs.size (.lst (ts.map k!))) {s2 with heap:=h2,toks:=s2.toks}:=by
  refine I2.laidAll RH (λb hb=>?_) λb u hb hu=>?_
  .rw[aj (WT (Zr hb IH)),kJ];exactλm=>g! (Zr hb IH) (Nat.not_lt.mpr (II b m))
  .by_cases e:b=h'.objs.size
   .subst e;rw[ac]at hu;cases hu;refine⟨by rw[V2,zq,ZD];lia,ts.map W3,c,?_,by rw[<-et];exact hS⟩
    exact di (by simp) λj p t e1 e2=>by
     rw[V7]at e1 e2;cases q:ts[j]? with
     |none=>rw[q]at e1;cases e1
     |some T=>rw[q]at e1 e2;cases e1;cases e2;rfl
   .rw[aj e]at hu;rcases oQ hu with q|⟨j,p,q1,q2,q3⟩
    .rw[Au b hb]at q;cases q
    .subst q3;obtain⟨x,y,g1,g2,g3⟩:=rel j p b q2 q1;exact⟨by show 2<=WD;decide,[x,y],0,.cons g2 (.cons g3 .nil),g1⟩
 refine⟨.ref h'.objs.size,_,I3,D?,q h'.objs.size ts _ (λb o e=>?_) Ak ac ?_⟩
 .have hb:=I2.hok.lt e;rw[aj (WT (Zr hb IH)),kJ]
  .exact e
  .exactλm=>g! (Zr hb IH) (Nat.not_lt.mpr (II b m))
 .refine di zq.symm λj p T hp hT=>?_;rw[aj (show T≠h'.objs.size fromλe=>IG (by rw[<-e];exact V5 hT))];exact RJ j p T hp hT
end
section
variable[DecidableEq κ]
def bz(kvs:List (κ×V))(k:κ):Option V:=(kvs.find? λkv=>decide (kv.1=k)).map (·.2)
def putK(kvs:List (κ×V))(k:κ)(v:V):List (κ×V) :=
 if(kvs.any λkv=>decide (kv.1=k))=Bq then kvs.map (λkv=>if kv.1=k then(kv.1,v)else kv)else kvs++[(k,v)]
theorem ce{p:κ×V}{r:List (κ×V)}{k:κ}(e:p.1=k):bz (p::r) k=A? p.2:=by simp[bz,ZF,e]
theorem b8{p:κ×V}{r:List (κ×V)}{k:κ}(e:¬p.1=k):bz (p::r) k=bz r k:=by simp[bz,ZF,e]
theorem jg(k:κ):∀kvs:List (κ×V),(kvs.any λkv=>decide (kv.1=k))=(bz kvs k).isSome
 | []=>rfl
 | p::r=>by
   rw[List.any_cons];by_cases e:p.1=k
   .simp only[ce e,d! e,Bool.true_or,Option.isSome_some]
   .rw[b8 e,c! e,Bool.false_or];exact jg k r
theorem ph(k j:κ)(y:V):∀kvs:List (κ×V),bz (kvs.map λkv=>if kv.1=k then(kv.1,y)else kv) j=(bz kvs j).map λx=>if j=k then y else x
 | []=>rfl
 | p::r=>by
   have ih:=ph k j y r;rw[WH];by_cases h:p.1=k
   .rw[b! h];by_cases e:p.1=j
    .rw[ce (p:=(p.1,y)) e,ce e,Option.map_some,b! (e.symm.trans h)]
    .rw[b8 (p:=(p.1,y)) e,b8 e,ih]
   .rw[a! h];by_cases e:p.1=j
    .rw[ce (p:=p) e,ce e,Option.map_some,a! (λz=>h (e.trans z))]
    .rw[b8 (p:=p) e,b8 e,ih]
theorem mz(k j:κ)(y:V):∀kvs:List (κ×V),bz kvs k=B?->bz (kvs++[(k,y)]) j=if j=k then A? y else bz kvs j
 | [],_=>by
   by_cases e:k=j
   .rw[b! e.symm];exact ce (p:=(k,y)) e
   .rw[a! (λz=>e z.symm)];exact b8 (p:=(k,y)) e
 | p::r,hn=>by
   rw[List.cons_append];have hk:¬p.1=k:=λz=>by rw[ce z]at hn;cases hn
   rw[b8 hk]at hn;have ih:=mz k j y r hn;by_cases e:p.1=j
   .rw[ce e,ce e,a! (λz=>hk (e.trans z))]
   .rw[b8 e,b8 e,ih]
theorem uH(kvs:List (κ×V))(k j:κ)(y:V):bz (putK kvs k y) j=if j=k then A? y else bz kvs j:=by
 unfold putK;by_cases a:(kvs.any λkv=>decide (kv.1=k))=Bq
 .rw[b! a,ph];rw[jg]at a;by_cases e:j=k
  .obtain⟨x,hx⟩:=Option.isSome_iff_exists.mp a;rw[b! e,e,hx,Option.map_some,b! rfl]
  .rw[a! e];cases bz kvs j with
   |none=>rfl
   |some x=>rw[Option.map_some,a! e]
 .rw[a! a];refine mz k j y kvs ?_;rw[jg]at a;cases q:bz kvs k with
  |none=>rfl
  |some x=>rw[q]at a;exact(a rfl).elim
theorem eL(kvs:List (κ×V))(k:κ)(v:V):(putK kvs k v).length<=kvs.length+1:=by
 unfold putK;split
 .rw[V2];lia
 .rw[Wk,Wq,Za];lia
theorem RelO.isSome_eq{o:Option V}{u:Option V8}(r:RelO o u):o.isSome=u.isSome:=by
 cases o with
 | none=>cases u with
   |none=>rfl
   |some _=>exact(show False from r).elim
 | some _=>cases u with
   |none=>exact(show False from r).elim
   |some _=>rfl
theorem RelO.getD{o:Option V}{u:Option V8}{d:V}{d':V8}(r:RelO o u)(rd:RelV d d'):RelV (o.getD d) (u.getD d'):=by
 cases o with
 | none=>cases u with
   |none=>exact rd
   |some _=>exact(show False from r).elim
 | some _=>cases u with
   |none=>exact(show False from r).elim
   |some _=>exact r
theorem KV.val{kvs:List (κ×V)}(r:KV kvs vs)(k:κ):RelO (bz kvs k) (valueAt vs k):=by
 unfold KV at r;induction r with
 |nil=>exact ZH
 | @cons p q ps qs h t ih =>
   obtain⟨h1,h2⟩:=h;by_cases e:p.1=k
   .have e':q.1=k:=h1.symm.trans e;have b:valueAt (q::qs) k=A? q.2:=by simp[valueAt,ZF,e']
    rw[ce e,b];exact h2
   .have e':¬q.1=k:=λz=>e (h1.trans z);have b:valueAt (q::qs) k=valueAt qs k:=by simp[valueAt,ZF,e']
    rw[b8 e,b];exact ih
theorem KV.any{kvs:List (κ×V)}(r:KV kvs vs)(k:κ):(kvs.any λkv=>decide (kv.1=k))=vs.any λkv=>decide (kv.1=k):=by
 unfold KV at r;induction r with
 |nil=>rfl
 |cons h t ih=>rw[List.any_cons,List.any_cons,ih,h.1]
theorem KV.repl{kvs:List (κ×V)}(r:KV kvs vs)(k:κ)(ry:RelV y u) :
 KV (kvs.map λkv=>if kv.1=k then(kv.1,y)else kv) (vs.map λkv=>if kv.1=k then(kv.1,u)else kv):=by
 unfold KV at r |-;induction r with
 |nil=>exact .nil
 | @cons p q ps qs h t ih =>
   rw[WH,WH];refine .cons ?_ ih;obtain⟨h1,h2⟩:=h;by_cases e:p.1=k
   .rw[b! e,b! (h1.symm.trans e)];exact⟨h1,ry⟩
   .rw[a! e,a! (λz=>e (h1.trans z))];exact⟨h1,h2⟩
theorem KV.put{kvs:List (κ×V)}(r:KV kvs vs)(k:κ)(ry:RelV y u):KV (putK kvs k y) (stored vs k u):=by
 unfold putK stored;rw[r.any k];by_cases e:(vs.any λkv=>decide (kv.1=k))=Bq
 .rw[b! e,b! e];exact r.repl k ry
 .rw[a! e,a! e];exact Paired.snoc r ⟨rfl,ry⟩
theorem KV.length{kvs:List (κ×V)}(r:KV kvs vs):kvs.length=vs.length:=Wx r
end
theorem mO{k:Key}(r:RelV (kV k) u):(bw P w).is k u=true:=by
 cases k with
 |inl i=>obtain⟨t,e⟩:=(show∃t,u=Value.int i t from r);subst e;exact o9 P w i t
 |inr x=>obtain⟨t,e⟩:=(show∃t,u=Value.str x t from r);subst e;exact ox P w x t
theorem mH:∀{ks:List Key}{us:List V8},Vals (ks.map kV) us->ItemsAre (bw P w) ks us
 | [],_,r=>by rw[Ym]at r;cases r;exact .nil
 | k::ks,_,r=>by
   rw[WH]at r;cases r with
   |cons h t=>exact .cons (mO h) (mH t)
abbrev KTd(H:Hp):List (List Key×V)->List (List Key×V6×V8)->Prop:=WL λp q=>p.1=q.1/\H q.2.1=A? (.tup (p.1.map kV))/\RelV p.2 q.2.2
theorem KTd.val{xs:List (List Key×V6×V8)}(r:KTd H kvs xs)(k:List Key):RelO (bz kvs k) ((atKey xs k).map (·.2)):=by
 induction r with
 |nil=>exact ZH
 | @cons p q ps qs h t ih =>
   obtain⟨h1,_,h2⟩:=h;by_cases e:p.1=k
   .have e':q.1=k:=h1.symm.trans e;have b:atKey (q::qs) k=A? q.2:=by simp[atKey,ZF,e']
    rw[ce e,b];exact h2
   .have e':¬q.1=k:=λz=>e (h1.trans z);have b:atKey (q::qs) k=atKey qs k:=by simp[atKey,ZF,e']
    rw[b8 e,b];exact ih
theorem KTd.repl{xs:List (List Key×V6×V8)}(r:KTd H kvs xs)(k:List Key)(ry:RelV y u) :
 KTd H (kvs.map λkv=>if kv.1=k then(kv.1,y)else kv) (xs.map (putAt k u)):=by
 induction r with
 |nil=>exact .nil
 | @cons p q ps qs h t ih =>
   rw[WH,WH];refine .cons ?_ ih;obtain⟨h1,h2,h3⟩:=h;unfold putAt;by_cases e:p.1=k
   .rw[b! e,b! (h1.symm.trans e)];exact⟨h1,h2,ry⟩
   .rw[a! e,a! (λz=>e (h1.trans z))];exact⟨h1,h2,h3⟩
theorem KTd.put{xs:List (List Key×V6×V8)}(r:KTd H kvs xs)(k:List Key)(hb:H b=A? (.tup (k.map kV)))(ry:RelV y u) :
 KTd H (putK kvs k y) (storedH xs k b u):=by
 have e:(kvs.any λkv=>decide (kv.1=k))=(atKey xs k).isSome:=by
  rw[jg,(r.val k).isSome_eq,Option.isSome_map]
 unfold putK storedH;rw[e];by_cases q:(atKey xs k).isSome=Bq
 .rw[b! q,b! q];exact r.repl k ry
 .rw[a! q,a! q];exact Paired.snoc r ⟨rfl,hb,ry⟩
theorem KTd.keeps{xs:List (List Key×V6×V8)}(r:KTd H kvs xs)(ht:∀b ys,H b=A? (.tup ys)->H' b=A? (.tup ys)):KTd H' kvs xs :=
 WL.mapP r λ_ _ z=>⟨z.1,ht _ _ z.2.1,z.2.2⟩
theorem wc{u:HO}(ok:HOk P w H h)(e:Rd H a u):ObjOk P w H h a u:=e.ok ok
theorem mj{kvs:List (Key×V)}(ok:HOk P w H h)(e:Rd H a (.dK kvs)):kvs.length<=WD/\(a == XY)=C?/\∃vs,KV kvs vs/\h.DictOf (bw P w) a vs :=
 show ObjOk P w H h a (.dK kvs)from wc ok e
theorem v5{kvs:List (Key×V)}(ok:HOk P w H h)(e:H a=A? (.dK kvs)):kvs.length<=WD/\(a == XY)=C?/\∃vs,KV kvs vs/\h.DictOf (bw P w) a vs:=mj ok (.inl e)
theorem jK{ks:List Key}(ok:HOk P w H h)(e:H a=A? (.tup (ks.map kV))):(tupleKind (bw P w)).is h ks a:=by
 obtain⟨_,its,n,r,h1⟩:=(show ObjOk P w H h a (.tup (ks.map kV))from ok a _ e);exact⟨_,its.toArray,n,h1,D?,D?,by simpa using mH r⟩
theorem mi(ok:HOk P w H h)(e:Rd H a (.dT kvs)):kvs.length<=WD/\(a == XY)=C? /\
 ∃xs,KTd H kvs xs/\h.DictOfH (tupleKind (bw P w)) a xs:=by
 obtain⟨z,y,xs,r,o,es,ep,h1,h2,h3,h4,h5⟩:=(show ObjOk P w H h a (.dT kvs)from wc ok e);refine⟨z,y,xs,r,o,es,ep,h1,h2,h3,h4,λx hx=>?_,h5⟩
 have all:∀{l:List (List Key×V)}{m:List (List Key×V6×V8)},KTd H l m->∀x∈m,(tupleKind (bw P w)).is h x.1 x.2.1:=by
  intro l m q;induction q with
  |nil=>intro x hx;exact nomatch hx
  | @cons p q ps qs hq t ih =>
    intro x hx;rcases Wr.mp hx with e|hx
    .subst e;exact jK ok (by rw[<-hq.1];exact hq.2.1)
    .exact ih x hx
 exact all r x hx
theorem rK(ok:HOk P w H h)(e:H a=A? (.dT kvs)):kvs.length<=WD/\(a == XY)=C? /\
 ∃xs,KTd H kvs xs/\h.DictOfH (tupleKind (bw P w)) a xs:=mi ok (.inl e)
def DGet(H:Hp)(a:V6)(y:V)(r:Option V):Prop :=
 (∃kvs k,Rd H a (.dK kvs)/\y=kV k/\r=bz kvs k)\/∃kvs k b,Rd H a (.dT kvs)/\y=.ref b/\H b=A? (.tup (k.map kV))/\r=bz kvs k
def DPut(H:Hp)(a:V6)(y v:V)(H':Hp):Prop :=
 (∃kvs k,H a=A? (.dK kvs)/\y=kV k/\kvs.length<WD/\H'=upd H a (.dK (putK kvs k v))) \/
 ∃kvs k b,H a=A? (.dT kvs)/\y=.ref b/\H b=A? (.tup (k.map kV))/\kvs.length<WD/\H'=upd H a (.dT (putK kvs k v))
theorem DGet.k{kvs:List (Key×V)}{k:Key}(e:H a=A? (.dK kvs)):DGet H a (kV k) (bz kvs k):=.inl ⟨kvs,k,.inl e,rfl,rfl⟩
theorem DGet.t{k:List Key}(e:H a=A? (.dT kvs))(eb:H b=A? (.tup (k.map kV))):DGet H a (.ref b) (bz kvs k):=.inr ⟨kvs,k,b,.inl e,rfl,eb,rfl⟩
theorem DPut.k{kvs:List (Key×V)}{k:Key}(e:H a=A? (.dK kvs))(hl:kvs.length<WD):DPut H a (kV k) v (upd H a (.dK (putK kvs k v))):=.inl ⟨kvs,k,e,rfl,hl,rfl⟩
theorem DPut.t{k:List Key}(e:H a=A? (.dT kvs))(eb:H b=A? (.tup (k.map kV)))(hl:kvs.length<WD) :
 DPut H a (.ref b) v (upd H a (.dT (putK kvs k v))):=.inr ⟨kvs,k,b,e,rfl,eb,hl,rfl⟩
section
variable{X:Cx}{r:V8}{o:Option V}
theorem Inv.big(I:Inv X Y σ H s):XY<s.1.1.size:=by
 have h:XO<s.1.1.size:=(I.mod.glob.keeps I.bk).lt;exact Zr (by decide) h
theorem si(hu:A.units+1<Zx)(I:Inv X Y σ H s)(g:DGet H a y (A? v))(ry:RelV y u)(h:∀w' s',Inv X Y σ H s'->RelV v w'->Q w' s') :
 Ww (WN X.prog X.w) A (Z3 (.ref a) u) Q E s:=by
 rcases g with⟨kvs,k,e,ey,l⟩|⟨kvs,k,b,e,ey,eb,l⟩
 .subst ey;obtain⟨z,hd,vs,rel,dd⟩:=mj I.hok e;obtain⟨w',hw,Dx⟩:=RelO.some_of (v:=v) (o:=valueAt vs k) (by rw[l];exact rel.val k);exact wpAny_getItem_of (mO ry) dd.mapOf hw (h w' _ (I.tok _) Dx)
 .subst ey;cases(show u=W3 b from ry);obtain⟨z,hd,xs,rel,dd⟩:=mi I.hok e;obtain⟨w',hw,Dx⟩:=RelO.some_of (v:=v) (o:=(atKey xs k).map (·.2)) (by rw[l];exact rel.val k);obtain⟨p,hp,zG⟩:=WA.mp hw;refine wpAny_getItem_heap (ZV hu) (jK I.hok eb) dd hp ?_;rw[zG];exact h w' _ (I.tok _) Dx
theorem vL(hu:A.units+1<Zx)(I:Inv X Y σ H s)(g:DGet H a y o)(ry:RelV y u)(h:∀s',Inv X Y σ H s'->Q (.bool (!o.isSome)) s') :
 Ww (WN X.prog X.w) A (Yk .NotIn u (.ref a)) Q E s:=by
 rcases g with⟨kvs,k,e,ey,l⟩|⟨kvs,k,b,e,ey,eb,l⟩
 .subst ey;obtain⟨z,hd,vs,rel,dd⟩:=mj I.hok e;refine wpAny_notIn_of (mO ry) hd dd.mapOf ?_;rw[<-(rel.val k).isSome_eq,<-l];exact h _ (I.tok _)
 .subst ey;cases(show u=W3 b from ry);obtain⟨z,hd,xs,rel,dd⟩:=mi I.hok e;refine wpAny_notIn_heap (ZV hu) (jK I.hok eb) hd dd ?_;have q:=(rel.val k).isSome_eq;rw[Option.isSome_map]at q;rw[<-q,<-l];exact h _ (I.tok _)
theorem kg{ob:HO}(I:Inv X Y σ H s)(mu:Mut (H a))(hs:XA a s.1 h')(he:∃q,h'.get? a=A? q)(new:ObjOk X.prog X.w (upd H a ob) h' a ob) :
 Inv X Y σ (upd H a ob) {s with heap:=h',toks:=t'} :=
 I.write (x:=a) (e:=a) mu (.inl rfl) (λb q hb z=>(hs.2 b hb).trans z) he new
theorem uf{kvs:List (Key×V)}{vs:List (Key×V8)}(z:kvs.length<=WD)(hd:(a == XY)=C?)(rel:KV kvs vs)(dd:h'.DictOf (bw P w) a vs) :
 ObjOk P w H' h' a (.dK kvs):=⟨z,hd,vs,rel,dd⟩
theorem rT{Q:Unit->Wd->Prop}(hu:A.units+1<Zx)(I:Inv X Y σ H s)(g:DPut H a y v H')(ry:RelV y u)(rv:RelV v r)(h:∀s',Inv X Y σ H' s'->Q () s') :
 Ww (WN X.prog X.w) A (setItem (.ref a) u r) Q E s:=by
 rcases g with⟨kvs,k,e,ey,l,eH⟩|⟨kvs,k,b,e,ey,eb,l,eH⟩
 .subst ey eH;obtain⟨z,hd,vs,rel,dd⟩:=v5 I.hok e;have hz:vs.length<=WD:=by rw[<-rel.length];exact z
  have hl:(putK kvs k v).length<=WD:=by have:=eL kvs k v;lia
  refine wpAny_setItem_pairs (hsz:=hz) (mO ry) dd λh' EH hs=>h _ ?_;have he:∃q,h'.get? a=A? q:=let⟨q,_,_,hq,_⟩:=EH;⟨q,hq⟩
  exact kg I (by rw[e];exact ZH) hs he (uf hl hd (rel.put k rv) EH)
 .subst ey eH;cases(show u=W3 b from ry);obtain⟨z,hd,xs,rel,dd⟩:=rK I.hok e;have hz:xs.length<=WD:=by rw[<-Wx rel];exact z
  have hl:(putK kvs k v).length<=WD:=by have:=eL kvs k v;lia
  refine wpAny_setItem_heap (hsz:=hz) (ZV hu) (jK I.hok eb) dd λh' EH hs=>h _ ?_;obtain⟨q,es,ep,hq,h2,h3,h4,_,h5⟩:=EH;refine kg I (by rw[e];exact ZH) hs ⟨q,hq⟩ ⟨hl,hd,_,(rel.put k eb rv).keeps λc ys ec=>?_,q,es,ep,hq,h2,h3,h4,h5⟩;rw[aj (aF ec e (λz=>nomatch z))];exact ec
end
section
variable{X:Cx}{kvs:List (Key×V)}{k:Key}
end
def yc(i:Xb):Prop:=∀ov iv,subscripted i C? ov iv=operate [ov,iv] (Z3 ov iv)
theorem vP{value slice:Xb}{T id:String}
 (hl:typeLookup (.type T) "__getitem__"=pure (A? (.builtin id))) (hs:yc slice)
 (h:Ww (WN prog w) A (Yd value env) (λo l'=>Ww (WN prog w) A (Yd slice env) (λi zW=>zW.TypeIs o T/\Ww (WN prog w) A (Z3 o i) Q E zW) E l') E s) :
 Ww (WN prog w) A (Yd (.Subscript value slice pos) env) Q E s:=by
 refine Subscript_ (XX h (λo l' zk=>XX zk (λi zW Ac=>?_) λ_ _ x=>x) λ_ _ x=>x);obtain⟨hT,Ac⟩:=Ac;unfold subscriptTail;refine V3 ?_;rw[getitemInPython_of_ne hT.not_modules];refine V3 (wpAny_specialOf hT hl ?_)
 have fin:Ww (WN prog w) A (subscripted slice C? o i) (λr Bt=>Ww (WN prog w) A (letTemporaryGo value o r >>= λ_=>pure r) Q E Bt) E zW:=by
  rw[hs o i];exact wpAny_operating (XX Ac (λr Bt BK=>V3 (wpAny_letTemporaryGo (Wa BK))) λ_ _ x=>x)
 first
  |exact Wa (V3 fin)
  |exact V3 (Wa (V3 fin))
  |exact V3 fin
theorem oP{X:Cx}{o:Option V}(I:Inv X Y σ H s)(g:DGet H a y o):s.TypeIs (.ref a) "dict":=by
 rcases g with⟨kvs,k,e,_,_⟩|⟨kvs,k,b,e,_,_,_⟩
 .obtain⟨_,_,vs,_,dd⟩:=mj I.hok e;exact dd.typeIs
 .obtain⟨_,_,xs,_,dd⟩:=mi I.hok e;exact dd.typeIs
def v9(td ty:TE):TE:=λσ H Q=>td σ H λx H1=>ty σ H1 λy H2=>∃a v,x=.ref a/\DGet H2 a y (A? v)/\Q v H2
def qF(ty td:TE):TE:=λσ H Q=>ty σ H λy H1=>td σ H1 λx H2=>∃a o,x=.ref a/\DGet H2 a y o/\Q (.bl (!o.isSome)) H2
def xN(td ty tv:TE):TS:=λD σ H=>tv σ H λv H1=>td σ H1 λx H2=>ty σ H2 λy H3=>∃a H4,x=.ref a/\DPut H3 a y v H4/\D.nx σ H4
section
variable{X:Cx}{o i value:Xb}{LY:Zb}{td ty tv:TE}
theorem fH(hu:X.A.units+1<Zx)(ho:PE X o td)(hi:PE X i ty)(hs:yc i):PE X (.Subscript o i pos) (v9 td ty):=by
 intro Y s σ H Q I h;refine vP PySem.F.slot_dict_getitem.lookup hs (thn (ho Y s σ H _ I h) λu s1⟨x,H1,I1,rx,q1⟩=>thn (hi Y s1 σ H1 _ I1 q1) λiv s2⟨y,H2,I2,ry,a,v,ex,g,q2⟩=>?_);subst ex;obtain rfl:u=W3 a:=rx;exact⟨oP I2 g,si hu I2 g ry λw' s3 I3 Dx=>⟨v,H2,I3,Dx,q2⟩⟩
theorem fh(hu:X.A.units+1<Zx)(hi:PE X i ty)(ho:PE X o td):PC X .NotIn i o (qF ty td):=by
 intro Y s σ H Q I h;refine thn (hi Y s σ H _ I h) λiv s1⟨y,H1,I1,ry,q1⟩=>thn (ho Y s1 σ H1 _ I1 q1) λu s2⟨x,H2,I2,rx,a,ov,ex,g,q2⟩=>?_;subst ex;obtain rfl:u=W3 a:=rx;exact vL hu I2 g ry λs3 I3=>⟨.bl (!ov.isSome),H2,I3,rfl,q2⟩
theorem gR(hu:X.A.units+1<Zx)(ho:PE X o td)(hi:PE X i ty)(hv:PE X value tv)(hs:swapsWith value (A? (.Subscript o i pos')) pos.line X.env=pure C?) :
 PS X (.Assign [.Subscript o i pos'] value pos) (xN td ty tv):=by
 intro Y s σ H D I h;refine wpAny_Assign_Subscript (thn (hv Y s σ H _ I h) λr s1⟨v,H1,I1,rv,q1⟩=>thn (ho Y s1 σ H1 _ I1 q1) λu s2⟨x,H2,I2,rx,q2⟩=>thn (hi Y s2 σ H2 _ I2 q2) λiv s3⟨y,H3,I3,ry,a,H4,ex,g,q3⟩=>?_) hs;subst ex;obtain rfl:u=W3 a:=rx;exact rT hu I3 g ry rv λs4 I4=>⟨σ,H4,I4,q3⟩
end
theorem oY(h:Xp)(hb:XY<h.objs.size):ObjOk P w H (h.push {cls:=.type "dict",data:=.dict #[]}) h.objs.size (.dK []) :=
 ⟨WY _,beq_eq_false_iff_ne.mpr (Yc (WT hb)),[],.nil,Heap.DictOf.new h⟩
theorem tD(h:Xp)(hb:XY<h.objs.size):ObjOk P w H (h.push {cls:=.type "dict",data:=.dict #[]}) h.objs.size (.dT []) :=
 ⟨WY _,beq_eq_false_iff_ne.mpr (Yc (WT hb)),[],.nil,_,#[],0,Wh _ rfl,⟨rfl,rfl,rfl⟩,rfl,rfl,YE⟩
def xi:TE:=λ_ H Q=>∀p,H p=B?->Q (.ref p) (upd H p (.dK []))
def tM:TE:=λ_ H Q=>∀p,H p=B?->Q (.ref p) (upd H p (.dT []))
section
variable{X:Cx}
theorem kB:PE X (.Dict [] [] pos) xi:=λY s σ H Q I h =>
 wpAny_Dict_empty ⟨.ref s.1.1.size,_,I.laid (a:=s.1.1.size) (o:=.dK []) (t':=s.toks) (λ_ _ q=>V9 _ q) (Wc _) (oY s.1 I.big),rfl,h _ (I.hok.fresh (Wc _))⟩
theorem d7:PE X (.Dict [] [] pos) tM:=λY s σ H Q I h =>
 wpAny_Dict_empty ⟨.ref s.1.1.size,_,I.laid (a:=s.1.1.size) (o:=.dT []) (t':=s.toks) (λ_ _ q=>V9 _ q) (Wc _) (tD s.1 I.big),rfl,h _ (I.hok.fresh (Wc _))⟩
end
def pH:List (TE×TE)->St->Hp->(List (V×V)->Hp->Prop)->Prop
 | [],_,H,Q=>Q [] H
 |(tk,tv)::r,σ,H,Q=>tk σ H λx H1=>tv σ H1 λy H2=>pH r σ H2 λps H3=>Q ((x,y)::ps) H3
abbrev VV:List (V×V)->List (V8×V8)->Prop:=WL λp q=>RelV p.1 q.1/\RelV p.2 q.2
def PPs(X:Cx)(pos:Zb)(keys:List (Option Xb))(values:List Xb)(EI:List (TE×TE)):Prop :=
 ∀(Y:List (V6×X6))(s:Wd)(σ:St)(H:Hp)(Q:List (V×V)->Hp->Prop),Inv X Y σ H s->pH EI σ H Q ->
   Ww (WN X.prog X.w) X.A (evalPairs (pairTrees keys values X.env pos)) (λvs s'=>∃ps H',Inv X Y σ H' s'/\VV ps vs/\Q ps H') X.xe s
theorem uV{X:Cx}:PPs X pos [] [] []:=λY s σ H Q I h=>pairTrees_nil_walk ⟨[],H,I,.nil,h⟩
theorem sX{X:Cx}{k v:Xb}{ks:List (Option Xb)}{vs:List Xb}{tk tv:TE}{EI:List (TE×TE)}(hk:PE X k tk)(hv:PE X v tv)(hr:PPs X pos ks vs EI) :
 PPs X pos (A? k::ks) (v::vs) ((tk,tv)::EI):=λY s σ H Q I h =>
 pairTrees_cons_walk (thn (hk Y s σ H _ I h) λu s1⟨x,H1,I1,rx,q1⟩=>thn (hv Y s1 σ H1 _ I1 q1) λw2 s2⟨y,H2,I2,ry,q2⟩ =>
  thn (hr Y s2 σ H2 _ I2 q2) λws s3⟨ps,H3,I3,rel,q3⟩=>⟨(x,y)::ps,H3,I3,.cons ⟨rx,ry⟩ rel,q3⟩)
def jw(kvs more:List (Key×V)):List (Key×V):=more.foldl (λacc kv=>putK acc kv.1 kv.2) kvs
theorem KV.merge:∀{more:List (Key×V)}{rs:List (Key×V8)}{kvs:List (Key×V)}{vs:List (Key×V8)},KV more rs->KV kvs vs->KV (jw kvs more) (merged vs rs):=by
 intro more rs kvs vs r;unfold KV at r;induction r generalizing kvs vs with
 |nil=>intro q;exact q
 | @cons p q ps qs h t ih =>
   intro r0
   have e:KV (putK kvs p.1 p.2) (stored vs q.1 q.2):=by
    have:=r0.put p.1 h.2;rw[<-h.1];exact this
   exact ih e
theorem io:∀(more kvs:List (Key×V)),(jw kvs more).length<=kvs.length+more.length
 | [],kvs=>by show kvs.length<=kvs.length+0;lia
 | p::r,kvs=>by
   have h1:=io r (putK kvs p.1 p.2);have h2:=eL kvs p.1 p.2;show(jw (putK kvs p.1 p.2) r).length<=_;rw[Wq];lia
theorem lD{P:WJ}{w:W0}:∀{kvs:List (Key×V)}{ws:List (V8×V8)},VV (kvs.map λkv=>(kV kv.1,kv.2)) ws->∃rs,Carries (bw P w) ws rs/\KV kvs rs
 | [],_,r=>by rw[Ym]at r;cases r;exact⟨[],ZH,.nil⟩
 | p::kvs,_,r=>by
   rw[WH]at r;cases r with
   | @cons a b as bs h t =>
     obtain⟨rs,c,q⟩:=lD (P:=P) (w:=w) t;obtain⟨b1,b2⟩:=b;exact⟨(p.1,b2)::rs,⟨mO h.1,D?,c⟩,.cons ⟨D?,h.2⟩ q⟩
def yr(EI:List (TE×TE)):TE:=λσ H Q=>∀p,H p=B?->pH EI σ (upd H p (.dK [])) λps H2=>H2 p=A? (.dK [])/\∃kvs:List (Key×V),ps=kvs.map (λkv=>(kV kv.1,kv.2))/\kvs.length<=15/\Q (.ref p) (upd H2 p (.dK (jw [] kvs)))
theorem ve{X:Cx}{keys:List (Option Xb)}{values:List Xb}{EI:List (TE×TE)}(h:PPs X pos keys values EI)(zc:keys.all (·.isSome)=Bq)(hl:keys.length=values.length)(h0:keys≠[])
 (RK:keys.length<=15):PE X (.Dict keys values pos) (yr EI):=by
 intro Y s σ H Q I q;have hn:=I.hok.fresh (Wc s.1.1.size);have I1:=I.laid (a:=s.1.1.size) (o:=.dK []) (h':=s.1.push {cls:=.type "dict",data:=.dict #[]}) (t':=s.toks) (λ_ _ q=>V9 _ q) (Wc _) (oY s.1 I.big);refine wpAny_Dict_walk (knd:=bw X.prog X.w) zc hl h0 RK (thn (h Y _ σ _ _ I1 (q _ hn)) λws s2⟨ps,H2,I2,rel,e,kvs,ep,lk,q2⟩=>?_);subst ep;obtain⟨rs,c,rk⟩:=lD (P:=X.prog) (w:=X.w) rel;obtain⟨z,hd,Vo,r0,dd⟩:=v5 I2.hok e;cases r0;refine⟨rs,c,dd,λh' EH hs=>⟨.ref s.1.1.size,_,?_,D?,q2⟩⟩
 have hz:(jw [] kvs).length<=WD:=by
  have h1:=io kvs [];rw[Za]at h1;rw[Zw];lia
 have he:∃q,h'.get? s.1.1.size=A? q:=let⟨q,_,_,hq,_⟩:=EH;⟨q,hq⟩
 exact kg I2 (by rw[e];exact ZH) hs he (uf hz hd (rk.merge .nil) EH)
structure M2(X:Cx)(o:Xb)(m:WE)(apos:Zb)(e f:Xb)(zo:Zb):Prop where
 base:ZN o m X.env (Yd o X.env)=Yd o X.env
 few:((Y1 zo (W6 [e,f] X.env)).all (λx=>!x.1) && (backToKw zo (keywordEach [] X.env)).all (λx=>x.1.isSome)
  && decide (([e,f]:List Xb).length+([]:List Keyword).length+(if([]:List Keyword).isEmpty then 0 else 1)<30))=Bq
 line:(apos.endLine == zo.line)=Bq
 trees:Y1 zo (W6 [e,f] X.env)=[(C?,Yd e X.env),(C?,Yd f X.env)]
def IsD(H:Hp)(a:V6):Prop:=(∃kvs,Rd H a (.dK kvs))\/∃kvs,Rd H a (.dT kvs)
theorem xG{X:Cx}(I:Inv X Y σ H s)(d:IsD H a) :
 s.TypeIs (.ref a) "dict"/\(∀b,W3 a=.ref b->∃ob,s.1.get? b=A? ob/\ob.dict=B?)/\(a == XY)=false:=by
 rcases d with⟨kvs,e⟩|⟨kvs,e⟩
 .obtain⟨_,hd,vs,_,dd⟩:=mj I.hok e;refine⟨dd.typeIs,λb q=>?_,hd⟩;cases q;obtain⟨ob,_,_,h1,h2,_⟩:=dd;exact⟨ob,h1,h2.2.1⟩
 .obtain⟨_,hd,xs,_,dd⟩:=mi I.hok e;refine⟨dd.typeIs,λb q=>?_,hd⟩;cases q;obtain⟨ob,_,_,h1,h2,_⟩:=dd;exact⟨ob,h1,h2.2.1⟩
section
variable{X:Cx}{d:V}{r:V8}{o:Option V}
theorem xl(hu:A.units+1<Zx)(I:Inv X Y σ H s)(g:DGet H a y o)(ry:RelV y u)(rd:RelV d r)(h:∀w' s',Inv X Y σ H s'->RelV (o.getD d) w'->Q w' s') :
 Ww (WN X.prog X.w) A (call (.builtin "dict.get") [.ref a,u,r]) Q E s:=by
 rcases g with⟨kvs,k,e,ey,l⟩|⟨kvs,k,b,e,ey,eb,l⟩
 .subst ey;obtain⟨z,hd,vs,rel,dd⟩:=mj I.hok e;refine call_meetsIn PySem.F.slot_dict_get dd.typeIs PySem.F.entry_dict_get (PySem.F.args_dict_get_3 _ _ _) (meets_dict_get_default (bw X.prog X.w) a (mO ry) hd r) ⟨_,dd.mapOf,h _ _ (I.tok _) ?_⟩;rw[l];exact(rel.val k).getD rd
 .subst ey;cases(show u=W3 b from ry);obtain⟨z,hd,xs,rel,dd⟩:=mi I.hok e;refine call_meetsIn PySem.F.slot_dict_get dd.typeIs PySem.F.entry_dict_get (PySem.F.args_dict_get_3 _ _ _) (meetsH_dict_get_default (tupleKind (bw X.prog X.w)) a b hd r) ⟨ZV hu,k,xs,jK I.hok eb,dd,h _ _ (I.tok _) ?_⟩;rw[l];exact(rel.val k).getD rd
end
def xA(td ty tx:TE):TE:=λσ H Q=>td σ H λx H1=>∃a,x=.ref a/\IsD H1 a/\ty σ H1 λy H2=>tx σ H2 λz H3=>∃o,DGet H3 a y o/\Q (o.getD z) H3
section
variable{X:Cx}{o f:Xb}{apos zo:Zb}{td ty tx:TE}
theorem oR(hu:X.A.units+1<Zx)(ho:PE X o td)(he:PE X e ty)(hf:PE X f tx)(m:M2 X o "get" apos e f zo):PE X (.Call (.Attribute o "get" apos) [e,f] [] zo) (xA td ty tx):=by
 intro Y s σ H Q I h;refine wpAny_Call_method m.base m.few m.line PySem.F.plainAttrs_dict PySem.F.slot_dict_get PySem.F.type_dict_get (thn (ho Y s σ H _ I h) λu s1⟨x,H1,I1,rx,a,ex,d,q1⟩=>?_);subst ex;obtain rfl:u=W3 a:=rx;obtain⟨t1,t2,_⟩:=xG I1 d;refine⟨t1,t2,?_⟩;rw[m.trees]
 refine Z7 rfl (Calls.evalArgs_plain (Ye (thn (he Y s1 σ H1 _ I1 q1) λiv s2⟨y,H2,I2,ry,q2⟩ =>
  Ye (thn (hf Y s2 σ H2 _ I2 q2) λfv s3⟨z,H3,I3,rz,ov,g,q3⟩=>YA ?_))))
 exact xl hu I3 g ry rz λw' s4 I4 Dx=>⟨_,H3,I4,Dx,q3⟩
end
section
variable{X:Cx}{kvs:List (Key×V)}
end
section
variable{X:Cx}
end
end L2
open L2.DGet renaming t->O!
namespace BB
open PySem L2
set_option genInjectivity true in
inductive Dv where
 |int (i:Int)
 |str (x:WE)
 |tup (ds:List Dv)
mutual
def Dv.deep:Dv->Nat
 |.int _=>0
 |.str _=>0
 |.tup ds=>gG ds+1
def gG:List Dv->Nat
 | []=>0
 |d::ds=>max d.deep (gG ds)
end
mutual
def Dv.tot:Dv->Nat
 |.int _=>1
 |.str _=>1
 |.tup ds=>u8 ds+1
def u8:List Dv->Nat
 | []=>0
 |d::ds=>d.tot+u8 ds
end
mutual
def DAt(H:Hp):Dv->V->Prop
 |.int i,v=>v=.int i
 |.str x,v=>v=.str x
 |.tup ds,v=>∃a vs,v=.ref a/\H a=A? (.tup vs)/\DAts H ds vs
def DAts(H:Hp):List Dv->List V->Prop
 | [],vs=>vs=[]
 |d::ds,vs=>∃v r,vs=v::r/\DAt H d v/\DAts H ds r
end
theorem DAts.length:∀{ds:List Dv}{vs:List V},DAts H ds vs->vs.length=ds.length
 | [],vs,h=>by rw[DAts]at h;subst h;rfl
 | d::ds,vs,h=>by
   rw[DAts]at h;obtain⟨v,r,rfl,h1,h2⟩:=h;rw[Wq,Wq,h2.length]
theorem DAts.at:∀{ds:List Dv}{vs:List V}{i:Nat}{d:Dv},DAts H ds vs->ds[i]?=A? d->∃v,vs[i]?=A? v/\DAt H d v
 | [],vs,i,d,h,e=>by simp at e
 | d0::ds,vs,i,d,h,e=>by
   rw[DAts]at h;obtain⟨v,r,rfl,h1,h2⟩:=h;cases i with
   |zero=>simp at e;subst e;exact⟨v,D?,h1⟩
   | succ i =>
     obtain⟨u,g1,g2⟩:=h2.at (i:=i) (by simpa using e);exact⟨u,by simpa using g1,g2⟩
theorem lz:∀{ds:List Dv}{i:Nat}{d:Dv},ds[i]?=A? d->d.deep<=gG ds
 | [],i,d,e=>by simp at e
 | d0::ds,i,d,e=>by
   rw[gG];cases i with
   |zero=>simp at e;subst e;lia
   | succ i =>
     have:=lz (ds:=ds) (i:=i) (by simpa using e);lia
theorem qH:∀{ds:List Dv}{i:Nat}{d:Dv},ds[i]?=A? d->d.tot<=u8 ds
 | [],i,d,e=>by simp at e
 | d0::ds,i,d,e=>by
   rw[u8];cases i with
   |zero=>simp at e;subst e;lia
   | succ i =>
     have:=qH (ds:=ds) (i:=i) (by simpa using e);lia
theorem Dv.tot_pos(d:Dv):1<=d.tot:=by
 cases d with
 |int i=>rw[Dv.tot];lia
 |str x=>rw[Dv.tot];lia
 |tup ds=>rw[Dv.tot];lia
theorem oy{ys:List V}{Q:VK}(ha:H a=A? (.tup xs))(hb:H b=A? (.tup ys))(hz:xs.length+ys.length<=1000000)(q:∀p H',j! H H'->H' p=A? (.tup (xs++ys))->Q (.ref p) H'):wd K (.ref a) (.ref b) H Q:=by
 refine⟨a,b,xs,ys,D?,D?,i! ha,i! hb,cF hz,λe=>?_,λ_ e=>?_,λ_ _ p hp=>?_⟩
 .exact q b H (.refl _) (by rw[e];exact hb)
 .exact q a H (.refl _) (by rw[e,ZG];exact ha)
 .exact q p _ (ao hp _) ac
theorem P2.reverse{F:α->β->Prop}:∀{a:List α}{b:List β},WL F a b->WL F a.reverse b.reverse
 |_,_,.nil=>.nil
 | _,_,.cons r t=>by
   rw[Xx,Xx];exact v! (P2.reverse t) (.cons r .nil)
theorem P2.snoc_inv{F:α->β->Prop}{a:List α}{b:List β}{y:β}(h:WL F a (b++[y])):∃us x,a=us++[x]/\WL F us b/\F x y:=by
 have r:=P2.reverse h;rw[Yw,Y5,Zf]at r;cases e:a.reverse with
 |nil=>rw[e]at r;cases r
 | cons x us =>
   rw[e]at r;cases r with
   | cons h1 h2 =>
     refine⟨us.reverse,x,?_,?_,h1⟩
     .rw[<-Xx,<-e,YM]
     .have:=P2.reverse h2;rw[YM]at this;exact this
theorem dm:∀{ts:List Th}{t:Th},t∈ts->t.size<=aq ts
 | u::ts,t,h=>by
   rw[aq];rcases Wr.mp h with rfl|h
   .lia
   .have:=dm h;lia
section
variable{ext:Th->List V}{t:Th}{ts:List Th}{es:List V6}
end
def Th.isCall:Th->Bool
 |.knot _ _=>C?
 |.call _ _=>Bq
def TK(K:Wf)(H:Hp)(a:V6)(xs:List V):Prop:=H a=A? (.tup xs)\/(xs=[.str (Wb "*")]/\∃(o:X6)(its:Array V8)(n:Nat),K.lookup a=A? o/\o.cls=.type "tuple"/\o.data=.seq its n/\its.size<=WD/\Vals xs its.toList)
theorem TK.of(h:H a=A? (.tup xs)):TK K H a xs:=.inl h
theorem TK.sq(h:TK K H a xs):SqT K H a xs:=by
 rcases h with h|h
 .exact i! h
 .exact .inr h.2
mutual
def DAtK(K:Wf)(H:Hp):Dv->V->Prop
 |.int i,v=>v=.int i
 |.str x,v=>v=.str x
 |.tup ds,v=>∃a vs,v=.ref a/\TK K H a vs/\DAtsK K H ds vs
def DAtsK(K:Wf)(H:Hp):List Dv->List V->Prop
 | [],vs=>vs=[]
 |d::ds,vs=>∃v r,vs=v::r/\DAtK K H d v/\DAtsK K H ds r
end
theorem DAtsK.length:∀{ds:List Dv}{vs:List V},DAtsK K H ds vs->vs.length=ds.length
 | [],vs,h=>by rw[DAtsK]at h;subst h;rfl
 | d::ds,vs,h=>by
   rw[DAtsK]at h;obtain⟨v,r,rfl,h1,h2⟩:=h;rw[Wq,Wq,h2.length]
theorem DAtsK.at:∀{ds:List Dv}{vs:List V}{i:Nat}{d:Dv},DAtsK K H ds vs->ds[i]?=A? d->∃v,vs[i]?=A? v/\DAtK K H d v
 | [],vs,i,d,h,e=>by simp at e
 | d0::ds,vs,i,d,h,e=>by
   rw[DAtsK]at h;obtain⟨v,r,rfl,h1,h2⟩:=h;cases i with
   |zero=>simp at e;subst e;exact⟨v,D?,h1⟩
   | succ i =>
     obtain⟨u,g1,g2⟩:=h2.at (i:=i) (by simpa using e);exact⟨u,by simpa using g1,g2⟩
mutual
theorem DAt.k:∀{d:Dv}{v:V},DAt H d v->DAtK K H d v
 |.int i,v,h=>by rw[DAt]at h;rw[DAtK];exact h
 |.str x,v,h=>by rw[DAt]at h;rw[DAtK];exact h
 | .tup ds,v,h=>by
   rw[DAt]at h;rw[DAtK];obtain⟨a,vs,e,h1,h2⟩:=h;exact⟨a,vs,e,.of h1,DAts.k h2⟩
theorem DAts.k:∀{ds:List Dv}{vs:List V},DAts H ds vs->DAtsK K H ds vs
 | [],vs,h=>by rw[DAts]at h;rw[DAtsK];exact h
 | d::ds,vs,h=>by
   rw[DAts]at h;rw[DAtsK];obtain⟨v,r,e,h1,h2⟩:=h;exact⟨v,r,e,DAt.k h1,DAts.k h2⟩
end
mutual
theorem DAtK.inj{X:Cx}(I:Inv X Y σ H s):∀{d e:Dv}{v:V},DAtK X.K H d v->DAtK X.K H e v->d=e
 |.int i,.int j,v,h,g=>by rw[DAtK]at h;rw[DAtK]at g;rw[h]at g;cases g;rfl
 |.int i,.str y,v,h,g=>by rw[DAtK]at h;rw[DAtK]at g;rw[h]at g;cases g
 |.int i,.tup es,v,h,g=>by rw[DAtK]at h;rw[DAtK]at g;obtain⟨a,vs,e,_⟩:=g;rw[h]at e;cases e
 |.str x,.int j,v,h,g=>by rw[DAtK]at h;rw[DAtK]at g;rw[h]at g;cases g
 |.str x,.str y,v,h,g=>by rw[DAtK]at h;rw[DAtK]at g;rw[h]at g;cases g;rfl
 |.str x,.tup es,v,h,g=>by rw[DAtK]at h;rw[DAtK]at g;obtain⟨a,vs,e,_⟩:=g;rw[h]at e;cases e
 |.tup ds,.int j,v,h,g=>by rw[DAtK]at h;rw[DAtK]at g;obtain⟨a,vs,e,_⟩:=h;rw[e]at g;cases g
 |.tup ds,.str y,v,h,g=>by rw[DAtK]at h;rw[DAtK]at g;obtain⟨a,vs,e,_⟩:=h;rw[e]at g;cases g
 | .tup ds,.tup es,v,h,g=>by
   rw[DAtK]at h;rw[DAtK]at g;obtain⟨a,vs,e1,h1,h2⟩:=h;obtain⟨b,ws,e2,g1,g2⟩:=g;rw[e1]at e2;cases e2;have e3:=I.tuple_inj h1.sq g1.sq;subst e3;rw[DAtsK.inj I h2 g2]
theorem DAtsK.inj{X:Cx}(I:Inv X Y σ H s):∀{ds es:List Dv}{vs:List V},DAtsK X.K H ds vs->DAtsK X.K H es vs->ds=es
 | [],[],vs,h,g=>rfl
 | [],e::es,vs,h,g=>by rw[DAtsK]at h;rw[DAtsK]at g;obtain⟨v,r,z,_⟩:=g;rw[h]at z;cases z
 |d::ds,[],vs,h,g=>by rw[DAtsK]at h;rw[DAtsK]at g;obtain⟨v,r,z,_⟩:=h;rw[g]at z;cases z
 | d::ds,e::es,vs,h,g=>by
   rw[DAtsK]at h;rw[DAtsK]at g;obtain⟨v,r,z,h1,h2⟩:=h;obtain⟨v',r',z',g1,g2⟩:=g;rw[z]at z';cases z';rw[DAtK.inj I h1 g1,DAtsK.inj I h2 g2]
end
end BB
open BB.Dv renaming int->A!,tup->M!
namespace L2
open PySem PySem.Spec PySem.SeqAt PyProof.Rows BB
open Classical in
theorem pU[DecidableEq α]{zu:List V8}{ds es:List α}(p1:s.1.IsTuple a its.toArray)(p2:s.1.IsTuple b zu.toArray)(l1:its.length=ds.length)(l2:zu.length=es.length)(hu:A.units<Zx)
 (ih:∀(j:Nat)(d e:α)(u v:V8),ds[j]?=A? d->es[j]?=A? e->its[j]?=A? u->zu[j]?=A? v->EqAt A.in1 s u v (decide (d=e))):RcAt A s (.ref a) (.ref b) (decide (ds=es)):=by
 have Mn:RcAt A s (.ref a) (.ref b) ((XS (min its.toArray.size zu.toArray.size)).all (λj=>decide (ds[j]?=es[j]?)) && its.toArray.size == zu.toArray.size):=by
  refine RcAt.tuples p1 p2 hu λj h1 h2=>?_;have O9:j<ds.length:=by rw[<-l1];simpa using h1
  have Pa:j<es.length:=by rw[<-l2];simpa using h2
  have e1:ds[j]?=A? ds[j]:=V4 O9;have e2:es[j]?=A? es[j]:=V4 Pa;have e3:decide (ds[j]?=es[j]?)=decide (ds[j]=es[j]):=by rw[e1,e2];simp
  have g1:its[j]?=A? its[j]:=V4 (by rw[l1];exact O9);have g2:zu[j]?=A? zu[j]:=V4 (by rw[l2];exact Pa);rw[e3];exact ih j ds[j] es[j] its[j] zu[j] e1 e2 g1 g2
 have e:decide (ds=es)=((XS (min its.toArray.size zu.toArray.size)).all (λj=>decide (ds[j]?=es[j]?)) && its.toArray.size == zu.toArray.size):=by
  rw[Wn,Wn,l1,l2];by_cases h:ds=es
  .subst h;rw[d! rfl];symm;simp
  .rw[c! h];symm;by_cases hl:ds.length=es.length
   .rw[hl,Nat.min_self]
    have:¬((XS es.length).all (λj=>decide (ds[j]?=es[j]?)))=true:=by
     intro z;apply h;apply Yp;intro j;by_cases hj:j<es.length
     .exact e! (Zs.mp z j (ZP.mpr hj))
     .rw[Xo (by lia),Xo (by lia)]
    rw[Bool.eq_false_iff.mpr this];rfl
   .have:(ds.length == es.length)=false:=by simpa using hl
    rw[this,Bool.and_false]
 rw[e];exact Mn
open Classical in
theorem rP{X:Cx}(I:Inv X Y σ H s){ds es:List Dv}{vs ws:List V}(ha:SqT X.K H a vs)(hb:SqT X.K H b ws)(KU:DAtsK X.K H ds vs)(Cj:DAtsK X.K H es ws)(hu:A.units<Zx)
 (ih:∀(j:Nat)(d e:Dv)(x y:V)(u v:V8),ds[j]?=A? d->DAtK X.K H d x->DAtK X.K H e y->RelV x u->RelV y v->EqAt A.in1 s u v (decide (d=e))):RcAt A s (.ref a) (.ref b) (decide (M! ds=M! es)):=by
 obtain⟨its,r1,p1,_⟩:=I.tuple ha;obtain⟨zu,r2,p2,_⟩:=I.tuple hb;rw[show decide (M! ds=M! es)=decide (ds=es)from decide_eq_decide.mpr ⟨λz=>Dv.tup.inj z,λz=>h! _ z⟩];refine pU (show s.1.IsTuple a its.toArray from p1) (show s.1.IsTuple b zu.toArray from p2) (by rw[<-r1.length,KU.length]) (by rw[<-r2.length,Cj.length]) hu λj d e u v e1 e2 e3 e4=>?_;obtain⟨x',BL,dx⟩:=KU.at e1;obtain⟨y',EC,dy⟩:=Cj.at e2;obtain⟨u',DM,Mo⟩:=r1.get BL;obtain⟨v',De,F2⟩:=r2.get EC;rw[DM]at e3;rw[De]at e4;cases e3;cases e4;exact ih j d e x' y' _ _ e1 dx dy Mo F2
open Classical in
theorem oV{X:Cx}(I:Inv X Y σ H s):∀(n:Nat)(d e:Dv),d.tot<=n->∀(x y:V)(u v:V8)(A:W5),DAtK X.K H d x->DAtK X.K H e y->RelV x u->RelV y v->A.units+d.deep<Zx->EqAt A s u v (decide (d=e))
 |0,d,e,hn,x,y,u,v,A,hd,he,ru,rv,hu=>by have:=d.tot_pos;lia
 | n+1,.int i,.int j,hn,x,y,u,v,A,hd,he,ru,rv,hu=>by
   rw[DAtK]at hd;rw[DAtK]at he;subst hd he;obtain⟨t,rfl⟩:=ru;obtain⟨t',rfl⟩:=rv
   have e:decide (A! i=A! j)=(i == j):=by
    by_cases h:i=j
    .subst h;simp
    .rw[c! (λz=>h (Dv.int.inj z))];simp[h]
   rw[e];exact EqAt.int_int i t j t'
 | n+1,.int i,.str b,hn,x,y,u,v,A,hd,he,ru,rv,hu=>by
   rw[DAtK]at hd;rw[DAtK]at he;subst hd he;obtain⟨t,rfl⟩:=ru;obtain⟨t',rfl⟩:=rv;rw[c! (λz=>by cases z)];exact EqAt.int_str i t b t'
 | n+1,.int i,.tup es,hn,x,y,u,v,A,hd,he,ru,rv,hu=>by
   rw[DAtK]at hd;rw[DAtK]at he;obtain⟨a,vs,rfl,ha,_⟩:=he;subst hd;obtain⟨t,rfl⟩:=ru;cases rv;obtain⟨its,_,p,_⟩:=I.tuple (ha.sq);rw[c! (λz=>by cases z)];exact EqAt.int_tuple i t (show s.1.IsTuple a its.toArray from p) (by lia)
 | n+1,.str b,.int j,hn,x,y,u,v,A,hd,he,ru,rv,hu=>by
   rw[DAtK]at hd;rw[DAtK]at he;subst hd he;obtain⟨t,rfl⟩:=ru;obtain⟨t',rfl⟩:=rv;rw[c! (λz=>by cases z)];exact EqAt.str_int b t j t'
 | n+1,.str b,.str c,hn,x,y,u,v,A,hd,he,ru,rv,hu=>by
   rw[DAtK]at hd;rw[DAtK]at he;subst hd he;obtain⟨t,rfl⟩:=ru;obtain⟨t',rfl⟩:=rv
   have e:decide (Dv.str b=Dv.str c)=(b == c):=by
    by_cases h:b=c
    .subst h;simp
    .rw[c! (λz=>h (Dv.str.inj z))];simp[h]
   rw[e];exact EqAt.str_str b t c t'
 | n+1,.str b,.tup es,hn,x,y,u,v,A,hd,he,ru,rv,hu=>by
   rw[DAtK]at hd;rw[DAtK]at he;obtain⟨a,vs,rfl,ha,_⟩:=he;subst hd;obtain⟨t,rfl⟩:=ru;cases rv;obtain⟨its,_,p,_⟩:=I.tuple (ha.sq);rw[c! (λz=>by cases z)];exact EqAt.str_tuple b t (show s.1.IsTuple a its.toArray from p) (by lia)
 | n+1,.tup ds,.int j,hn,x,y,u,v,A,hd,he,ru,rv,hu=>by
   rw[DAtK]at hd;rw[DAtK]at he;obtain⟨a,vs,rfl,ha,_⟩:=hd;subst he;cases ru;obtain⟨t,rfl⟩:=rv;obtain⟨its,_,p,_⟩:=I.tuple (ha.sq);rw[c! (λz=>by cases z)];exact EqAt.tuple_int j t (show s.1.IsTuple a its.toArray from p) (by lia)
 | n+1,.tup ds,.str b,hn,x,y,u,v,A,hd,he,ru,rv,hu=>by
   rw[DAtK]at hd;rw[DAtK]at he;obtain⟨a,vs,rfl,ha,_⟩:=hd;subst he;cases ru;obtain⟨t,rfl⟩:=rv;obtain⟨its,_,p,_⟩:=I.tuple (ha.sq);rw[c! (λz=>by cases z)];exact EqAt.tuple_str b t (show s.1.IsTuple a its.toArray from p) (by lia)
 | n+1,.tup ds,.tup es,hn,x,y,u,v,A,hd,he,ru,rv,hu=>by
   have RL:=hd;have Hf:=he;rw[DAtK]at hd;rw[DAtK]at he;obtain⟨a,vs,rfl,ha,KU⟩:=hd;obtain⟨b,ws,rfl,hb,Cj⟩:=he;cases ru;cases rv;by_cases Fn:a=b
   .subst Fn;rw[d! (DAtK.inj I RL Hf)];exact EqAt.same _
   rw[Dv.tot]at hn;rw[Dv.deep]at hu;refine EqAt.of_refs Fn (rP I ha.sq hb.sq KU Cj (by lia) λj d e x' y' u' v' e1 dx dy Mo F2=>?_);have q1:=qH e1;have q2:=lz e1;refine oV I n d e (by lia) x' y' u' v' A.in1 dx dy Mo F2 ?_;show A.units+1+_<Zx;lia
end L2
namespace BB
open PySem PySem.Spec PyProof.Rows L2
mutual
theorem DAt.inj:∀{d e:Dv}{v:V},DAt H d v->DAt H e v->d=e
 |.int i,.int j,v,h,g=>by rw[DAt]at h;rw[DAt]at g;rw[h]at g;cases g;rfl
 |.int i,.str y,v,h,g=>by rw[DAt]at h;rw[DAt]at g;rw[h]at g;cases g
 |.int i,.tup es,v,h,g=>by rw[DAt]at h;rw[DAt]at g;obtain⟨a,vs,e,_⟩:=g;rw[h]at e;cases e
 |.str x,.int j,v,h,g=>by rw[DAt]at h;rw[DAt]at g;rw[h]at g;cases g
 |.str x,.str y,v,h,g=>by rw[DAt]at h;rw[DAt]at g;rw[h]at g;cases g;rfl
 |.str x,.tup es,v,h,g=>by rw[DAt]at h;rw[DAt]at g;obtain⟨a,vs,e,_⟩:=g;rw[h]at e;cases e
 |.tup ds,.int j,v,h,g=>by rw[DAt]at h;rw[DAt]at g;obtain⟨a,vs,e,_⟩:=h;rw[e]at g;cases g
 |.tup ds,.str y,v,h,g=>by rw[DAt]at h;rw[DAt]at g;obtain⟨a,vs,e,_⟩:=h;rw[e]at g;cases g
 | .tup ds,.tup es,v,h,g=>by
   rw[DAt]at h;rw[DAt]at g;obtain⟨a,vs,e1,h1,h2⟩:=h;obtain⟨b,ws,e2,g1,g2⟩:=g;rw[e1]at e2;cases e2;rw[h1]at g1;cases g1;rw[DAts.inj h2 g2]
theorem DAts.inj:∀{ds es:List Dv}{vs:List V},DAts H ds vs->DAts H es vs->ds=es
 | [],[],vs,h,g=>rfl
 | [],e::es,vs,h,g=>by rw[DAts]at h;rw[DAts]at g;obtain⟨v,r,z,_⟩:=g;rw[h]at z;cases z
 |d::ds,[],vs,h,g=>by rw[DAts]at h;rw[DAts]at g;obtain⟨v,r,z,_⟩:=h;rw[g]at z;cases z
 | d::ds,e::es,vs,h,g=>by
   rw[DAts]at h;rw[DAts]at g;obtain⟨v,r,z,h1,h2⟩:=h;obtain⟨v',r',z',g1,g2⟩:=g;rw[z]at z';cases z';rw[DAt.inj h1 g1,DAts.inj h2 g2]
end
end BB
namespace L2
open PySem PySem.Spec PySem.SeqAt PyProof.Rows BB
open Classical in
theorem rh{X:Cx}(I:Inv X Y σ H s):∀(n:Nat)(d e:Dv),d.tot<=n->∀(x y:V)(u v:V8)(A:W5),DAt H d x->DAt H e y->RelV x u->RelV y v->A.units+d.deep<Zx->EqAt A s u v (decide (d=e)):=λn d e hn x y u v A hd he=>oV I n d e hn x y u v A hd.k he.k
end L2
namespace BB
open PySem L2
end BB
namespace PySem
theorem bb_extendT(l:V6)(items:Array V8)(n:Nat)(b:V6)(zj:Array V8)(n2:Nat)(dd:Option V6)(sl:Array (Option V8))(g0:¬(!items.isEmpty && Yt (items.size+zj.size))=Bq)(g1:items.size<=WD)(g2:items.size+zj.size<=WD+1) :
 Meets (Y6.«list.extend» ⟨[.ref l,.ref b],[]⟩) (λ_ R s=>s.1.get? l=A? {cls:=.type "list",dict:=B?,data:=.seq items n,slots:=#[]}/\s.1.get? b=A? {cls:=.type "tuple",dict:=dd,data:=.seq zj n2,slots:=sl}/\R (.ok (.ret XH)) {s with heap:=s.1.update l (Xs λx=>x++zj),toks:=s.toks}) :=
 .of_wp λprog w A R s h=>by
  obtain⟨hp,g,d,tk,os⟩:=s;obtain⟨hl,hb,h⟩:=h;have f1:=AutoSeq1.idx_int;have f2:=AutoSeq1.sub_tuple_tuple;have f3:=AutoSeq1.sub_list_list;have f4:=AutoSeq1.sub_tuple_list;have f5:=AutoSeq1.sub_list_tuple;have z2:(items++zj).size<=WD+1:=by rw[Array.size_append];exact g2
  wp_walk using(X1 hl rfl (hz:=g1) (_hz':=z2)),Yu hl,Yu hb
  exact⟨_,D?,h⟩
end PySem
namespace L2
open PySem PySem.Spec PyProof.Rows
section
variable{X:Cx}
def sY(K:Wf):V->List V->Hp->VK->Prop:=λx vs H Q=>∃l b xs zs,x=.ref l/\vs=[.ref b]/\H l=A? (.lst xs)/\SqT K H b zs/\xs.length+zs.length<=WD/\Q .non (upd H l (.lst (xs++zs)))
theorem ql:MtM X "list.extend" (sY X.K):=by
 intro Y s σ H x vs v us Q I rx rv h;obtain⟨l,b,xs,zs,rfl,rfl,hH,hB,hz,q⟩:=h;cases rx;obtain⟨u,rfl,ru⟩:=rv.one;cases ru;obtain⟨z,its,n,r,hl,e⟩:=I.lstM hH;obtain⟨zu,r2,p2,_⟩:=I.tuple hB;have Ak:=r2.length;obtain⟨⟨EB,Cu,data2,Cv⟩,e2,Bj,n2,hd2⟩:=p2;simp only at Bj hd2;subst Bj hd2;have hsz:its.toArray.size+zu.toArray.size<=WD:=by rw[Wn,Wn];lia
 have BJ:¬(!its.toArray.isEmpty && Yt (its.toArray.size+zu.toArray.size))=true:=by
  rw[kF hsz,Bool.and_false];exact Wz
 refine call_meets F.slot_list_extend ⟨_,e,rfl⟩ F.entry_list_extend (F.args_list_extend_2 _ _)
  (bb_extendT l its.toArray n b zu.toArray n2 Cu Cv BJ (by rw[Wn];lia) (by lia)) ⟨e,e2,?_⟩
 refine⟨.non,_,I.lset (its':=its++zu) hH e (by simp) (r.append r2) ?_,D?,q⟩;rw[Wk];lia
theorem sj{bs:List Bool}(r:Vals (bs.map V.bl) its){v:V8}(h:its[i]?=A? v):∃b,bs[i]?=A? b/\v=.bool b:=by
 have hl:=r.length;have hi:i<its.length:=(glE h);rw[V2]at hl;obtain⟨u,hu,ru⟩:=r.get (i:=i) (x:=.bl bs[i]) (by rw[V7,V4 (by lia)];rfl);rw[h]at hu;cases hu;cases ru;exact⟨_,V4 (by lia),D?⟩
def yP(K:Wf):List V->Hp->VK->Prop:=λxs H Q=>∃(p:V6)(bs:List Bool),xs=[.ref p]/\SqL K H p (bs.map V.bl)/\Q (.bl (bs.all id)) H
theorem tO(hc:X.calm=Bq):hX X (.builtin "all") (yP X.K):=by
 intro Y s σ H xs us Q I r h;obtain⟨p,bs,rfl,hl,q⟩:=h;obtain⟨u,rfl,rx⟩:=vals1 r;cases rx;obtain⟨its,rv,pl,_⟩:=I.list hl;have hlen:=rv.length;rw[V2]at hlen;have zf:p<s.1.1.size:=by obtain⟨_,_,e,_⟩:=pl;exact WC e
 refine call_all_walk (wpAny_pyIter_list pl.isList ?_);refine⟨s.1.1.size,[s.1.1.size,p],[s.1.1.size],its.toArray.size,_,_,λi=>(bs[i]?).getD Bq,D?,Walks.list (A:=X.A.in1) (I.ok.hd hc) _ p (WT zf) its.toArray,⟨⟨_,Wh _ rfl,D?,D?⟩,pl.isList.push _⟩,λi v s' Q' E' hP hQ=>?_,λh' tk hk=>?_⟩
 .obtain⟨b,e,rfl⟩:=sj rv (i:=i) (v:=v) (by simpa using hP);simp only[e,Option.getD_some]at hQ;exact Yy hQ
 .have e:((XS its.toArray.size).all λi=>(bs[i]?).getD Bq)=bs.all id:=by
   rw[Wn,<-hlen];exact LSm.range_all bs
  rw[e];exact⟨.bl (bs.all id),H,I.kept (LSm.kept_iter hk),D?,q⟩
end
end L2
namespace BB
open PySem L2
theorem mB{w:WE}{n:Int}(h0:0<=n)(h:n+1<=(w.length:Int)):(fG w B? (A? (n+1))).length=n.toNat+1:=by
 rw[li]
 have e1:q! w.length w.length (A? (n+1))=n.toNat+1:=by
  show(if n+1<0 then _ else min (n+1).toNat w.length)=_;rw[a! (by lia)];lia
 have e2:q! w.length 0 B?=0:=rfl;rw[e1,e2];lia
theorem uO{A B:WE}{c d:Nat}(h:A++⟨#[c]⟩++B=A++⟨#[d]⟩++B):c=d:=by
 have h1:(A.cps++#[c]++B.cps)=(A.cps++#[d]++B.cps):=h! Str.cps h;have h2:=h! Array.toList h1;simp at h2;exact h2
theorem qy{base i j:Int}(hi:0<=i)(RM:i<8)(hj:0<=j)(Vp:j<8)(h:nameOf base i=nameOf base j):i=j:=by
 unfold nameOf at h;split at h
 .have h1:=h! Str.length h;rw[mB hi (by rw[dU];lia),mB hj (by rw[dU];lia)]at h1;lia
 .have h1:=uO h;unfold lK at h1;have a1:=W2 (((((base / 112) / 26 ^ (nAt base).toNat)%26).toNat:Int)+i) (by decide:(26:Int)≠0);have a2:=W2 (((((base / 112) / 26 ^ (nAt base).toNat)%26).toNat:Int)+j) (by decide:(26:Int)≠0);generalize((((base / 112) / 26 ^ (nAt base).toNat)%26).toNat:Int)=l at h1 a1 a2;lia
end BB
namespace PySem
open Sem (wp)
namespace F
end F
section
variable{xs:Array V8}{k:Nat}
end
end PySem
namespace L2
open PySem PySem.Spec PyProof.Rows BB
section
variable{X:Cx}
end
end L2
namespace BB
open PySem L2
end BB
namespace HT
open PySem PySem.Spec PyProof.Rows
theorem getItem_tuple_whole{t:V6}(ht:IsTup s.1 t items)(hs:s.1.IsSliceOf sl vl vu .none)(pl:IsPart vl lo)(pu:IsPart vu hi)
 (hw:sIx items.size 0 lo=0/\sIx items.size items.size hi=items.size) (h:Q (.ref t) s):Ww (WN prog w) A (Z3 (.ref t) (.ref sl)) Q E s:=by
 obtain⟨os,BI,Fc,AU⟩:=id hs;have Ih:s.TypeIs (.ref sl) "slice":=⟨os,BI,Fc⟩;have hT:s.TypeIs (.ref t) "tuple":=ht.typeIs;unfold Z3
 try with_reducible refine Xq ?_
 first|refine V3 (Wa ?_)|skip
 refine V3 (wpAny_sequenceKey ht.typeIs (by decide) ?_)
 refine V3 (Xi (name:=Wb "__getitem__") ht.typeIs Xg
  (Xl Xg ht.typeIs entry_tuple_getitem ?_ (args_tuple_getitem _ _)))
 show Ww _ _ (Builtin.Tuple.tupleItemsOf (.ref t) >>= _) _ _ s;refine V3 (tupleItemsOf_ ht ?_);refine V3 (Z0 Ih ?_);rw[b! (by decide)];refine V3 (sliceApplied_gen hs pl pu ?_)
 have Mp:(((sIx items.size 0 lo:Nat):Int) == 0 && (1:Int) == 1 && (sIx items.size items.size hi - sIx items.size 0 lo) == items.size)=true:=by
  rw[hw.1,hw.2];simp
 show Ww _ _ (if(((sIx items.size 0 lo:Nat):Int) == 0 && (1:Int) == 1 && (sIx items.size items.size hi - sIx items.size 0 lo) == items.size)=Bq then _ else _) _ _ s;rw[b! Mp];refine V3 (m:=Builtin.Tuple.tupleIsExact _) ?_;unfold Builtin.Tuple.tupleIsExact;refine V3 (Z0 hT (Wa ?_));rw[b! (by decide)];exact V3 (wpAny_rule (Wa ⟨_,rfl,Wa h⟩))
end HT
namespace L2
open PySem PySem.Spec PyProof.Rows
inductive v6(x:V)(lo:Option Int)(hi:Option Int)(H:Hp)(Q:VK):Prop
 |mk (a:_) (xs:_) (Br:x=.ref a) (Bs:H a=A? (.tup xs)) (CN:∀p H',Same H H'->H' p=A? (.tup (d8 xs lo hi))->Q (.ref p) H'):v6  x lo hi H Q
def yZ:V->Option Int->Option Int->Hp->VK->Prop:=v6
theorem rH{X:Cx}:SlR X yZ:=by
 intro Y s σ H x v vl vu lo hi sl Q I rx hs pl pu h;obtain⟨a,xs,rfl,ha,q⟩:=h;by_cases hw:q! xs.length 0 lo=0/\q! xs.length xs.length hi=xs.length
 .obtain⟨its,r,p1,hz⟩:=I.tuple (i! (K:=X.K) ha);have hl:=r.length;cases rx
  have e:d8 xs lo hi=xs:=by
   unfold d8;rw[hw.1,hw.2,ZR,Nat.sub_zero,XU]
  refine⟨"tuple",_,Xg.lookup,p1.typeIs,HT.getItem_tuple_whole p1 hs pl pu (by rw[Wn,<-hl];exact hw) ⟨.ref a,H,I,D?,q a H (.refl _) (by rw[e];exact ha)⟩⟩
 .exact cQ Y s σ H _ v vl vu lo hi sl Q I rx hs pl pu ⟨a,xs,rfl,i! ha,hw,λp hp=>q p _ (ao hp _) ac⟩
end L2
namespace PySem
open Sem (wp)
section
variable{od:X6}{es:Array DictEntry}
theorem bb_keyNext{en:DictEntry}{Q:Option V8->Wd->Prop}(g:s.1.IsKeyIter it d i es.size ep)(g1:s.1.get? d=A? od)(g2:od.data=.dict es ep)(hx:es[i]?=A? en)
 (fin:∀h',h'.IsKeyIter it d (i+1) es.size ep->XA it s.1 h'->Q (A? en.key) {s with heap:=h'}):Ww (WN prog w) A (Y8 (.ref it)) Q E s:=by
 obtain⟨o,q1,q2,q3⟩:=id g;unfold Y8;refine V3 (wpAny_attempt (Xi (name:=Wb "__next__") g.typeIs YB (Xl YB g.typeIs F.entry_dict_keyiterator_next ?_ (F.args_dict_keyiterator_next_1 _))));refine V3 (Wa ?_);refine V3 ?_;refine V3 ?_
 first|refine V3 (Zh g.typeIs (Wa ?_))|refine V3 (ZM g.typeIs (Wa ?_))
 refine V3 (wpAny_fieldsOf q1 q3 ?_);have own:YC "dict_keyiterator"=false:=by decide
 simp only[own,YF,if_false];show Ww _ _ (if(W3 d == XH)=Bq then _ else _) _ _ s;rw[a! (show¬((W3 d == XH)=Bq)from Wz)];refine V3 (Wa ?_);refine V3 (Yz g1 g2 ?_);rw[a! (by simp)];refine V3 (Wa ?_);refine V3 (ZU g1 g2 ?_);rw[a! (by simp)];refine Wa ?_;have lt:i<es.size:=(Zq.mp hx).1;have ee:es[i]=en:=(Zq.mp hx).2;simp only[show¬((i:Int)<0)from by lia,if_false,Wl,YG lt];refine V3 ?_
 first|refine V3 (Zh g.typeIs (Wa ?_))|refine V3 (ZM g.typeIs (Wa ?_))
 refine V3 (wpAny_isOneOf_keyiter g.typeIs ?_);show Ww _ _ (setField (.ref it) 1 (Yv ((i:Int)+1)) >>= _) _ _ s;refine V3 (wpAny_setField q1 q3 (by simp) ?_);have g':(s.1.update it (Obj.mapFields (·.setIfInBounds 1 (Yv ((i:Int)+1))))).IsKeyIter it d (i+1) es.size ep:=⟨_,Xr _ q1 (Obj.isFreed_of_fields (Obj.data_mapFields q3 _)),(Obj.cls_mapFields ..).trans q2,by rw[Obj.data_mapFields q3];simp[Yv]⟩;refine V3 (Xq ?_);refine V3 (wpAny_isOneOf_keyiter (s:={s with heap:=s.1.update it (Obj.mapFields (·.setIfInBounds 1 (Yv ((i:Int)+1))))}) g'.typeIs ?_);show Ww _ _ (pure es[i].key) _ _ _;rw[ee];exact Wa (Wa ⟨_,rfl,Wa (fin _ g' (XJ ..))⟩)
theorem bb_keyEnd{Q:Option V8->Wd->Prop}(calm:A.handled=B?)(g:s.1.IsKeyIter it d i es.size ep)(g1:s.1.get? d=A? od)(g2:od.data=.dict es ep)(hx:es.size<=i)
 (fin:∀h',Heap.ExtBut it s.1 h'->Q B? {s with heap:=h'}):Ww (WN prog w) A (Y8 (.ref it)) Q E s:=by
 obtain⟨o,q1,q2,q3⟩:=id g;unfold Y8;refine V3 (wpAny_attempt (Xi (name:=Wb "__next__") g.typeIs YB (Xl YB g.typeIs F.entry_dict_keyiterator_next ?_ (F.args_dict_keyiterator_next_1 _))));refine V3 (Wa ?_);refine V3 ?_;refine V3 ?_
 first|refine V3 (Zh g.typeIs (Wa ?_))|refine V3 (ZM g.typeIs (Wa ?_))
 refine V3 (wpAny_fieldsOf q1 q3 ?_);have own:YC "dict_keyiterator"=false:=by decide
 simp only[own,YF,if_false];show Ww _ _ (if(W3 d == XH)=Bq then _ else _) _ _ s;rw[a! (show¬((W3 d == XH)=Bq)from Wz)];refine V3 (Wa ?_);refine V3 (Yz g1 g2 ?_);rw[a! (by simp)];refine V3 (Wa ?_);refine V3 (ZU g1 g2 ?_);rw[a! (by simp)];refine Wa ?_;simp only[show¬((i:Int)<0)from by lia,if_false,Wl,ZT hx];refine V3 ?_
 first|refine V3 (Zh g.typeIs (Wa ?_))|refine V3 (ZM g.typeIs (Wa ?_))
 show Ww _ _ (setField (.ref it) 0 .none >>= _) _ _ s;refine V3 (wpAny_setField q1 q3 (by simp) ?_);show Ww _ _ (newExc (.type "StopIteration") [] >>= _) _ _ _;refine V3 ?_;simp only[newExc,newTuple];refine V3 (Xc ?_ (by size_fits));refine V3 (m:=Z4 _ _) (wpAny_of_eq (a:=XH) (by first|rfl|(simp only[Z4];rfl)) ?_);refine Xc ?_ (by size_fits);simp only[raiseNew];refine V3 (wpAny_handled ?_)
 first|rw[show A.in1.handled=B? from calm]|rw[calm]
 refine V3 (Wa (wpAny_throw ?_));refine V3 (wpAny_isInstance (T:="StopIteration") (b:=Bq) ⟨_,Wh _ rfl,rfl⟩ isSubtype_stop ?_);exact Wa (fin _ (((XJ ..).extBut.push _).push _))
theorem bb_keyIter(ns:(d == XY)=C?)(g1:s.1.get? d=A? od)(gc:od.cls=.type "dict")(g2:od.data=.dict es ep)
 (fin:Q (.ref s.1.1.size) {s with heap:=s.1.push {cls:=.type "dict_keyiterator",data:=.fields #[.ref d,.int 0 0,.int es.size 0,.int ep 0]}}):Ww (WN prog w) A (pyIter (.ref d)) Q E s:=by
 have gT:s.TypeIs (.ref d) "dict":=⟨_,g1,gc⟩;refine Z2 gT F.slot_dict_iter (Xl F.slot_dict_iter gT F.entry_dict_iter ?_ (F.args_dict_iter_1 _));unfold Y6.«dict.__iter__»;refine V3 ?_;unfold Builtin.Dict.dictSlotNone;refine V3 (wpAny_notOrdered_dict gT ?_);show Ww _ _ (pure (W3 d)) _ _ s;refine Wa ?_;show Ww _ _ (Builtin.Dict.showsAll d >>= _) _ _ s;unfold Builtin.Dict.showsAll;rw[a! (by rw[ns];exact Wz)];refine V3 (Wa ?_);refine V3 (Yz g1 g2 ?_);refine V3 (ZU g1 g2 ?_);refine V3 (Xc (Wa ⟨_,rfl,"dict_keyiterator",_,⟨_,Wh _ rfl,rfl⟩,YB.lookup,?_⟩));simpa[Yv]using fin
end
end PySem
namespace L2
open PySem PySem.Spec PyProof.Rows
theorem Inv.freeze{X:Cx}{o:X6}(I:Inv X Y σ H s)(ha:H a=A? (.dT kvs))(ho:s.1.get? a=A? o):Inv X Y σ (upd H a (.frz o (.dT kvs))) s:=by
 have ne:∀b u,H b=A? u->u≠.dT kvs->b≠a:=λb u e d z=>by rw[z,ha]at e;exact d (Wi e).symm
 have ht:∀b xs,H b=A? (.tup xs)->upd H a (.frz o (.dT kvs)) b=A? (.tup xs):=λb xs e=>by rw[aj (ne b _ e (by intro z;cases z))];exact e
 have hw:∀c b,H b=A? (.own c)->upd H a (.frz o (.dT kvs)) b=A? (.own c):=λc b e=>by rw[aj (ne b _ e (by intro z;cases z))];exact e
 have st:∀b u,H b=A? u->ObjOk X.prog X.w (upd H a (.frz o (.dT kvs))) s.1 b u:=λb u e=>(I.hok b u e).stay (λ_ _ _ q=>q) (hw b) ht;refine I.step (g':=s.gens) (d':=s.drawn) (t':=s.toks) (ch:=[]) (λ_ z=>nomatch z) (λb ob _ _ _ e _=>e) (λb ob _ _ _ e _=>⟨ob.slots,e⟩) (λb ob _ e n=>?_) (λb ob _ e=>⟨ob,e⟩) ht (λb ob u e=>?_) (λb ps e=>⟨#[],?_⟩) (λm hm=>hm) (λb u e=>?_) I.bare
 .rw[aj (λz=>by rw[z,ha]at n;cases n)];exact n
 .rw[aj (ne b _ e (by intro z;cases z))];exact e
 .rw[aj (ne b _ e (by intro z;cases z)),e];simp
 .by_cases hb:b=a
  .subst hb;rw[ac]at e;cases e;exact⟨ho,st _ _ ha⟩
  .rw[aj hb]at e;exact st b u e
section
variable{X:Cx}{te:TE}
end
end L2
namespace BB
open PySem L2
inductive Top where
 |nm (n:WE) (m:Nat)
 |th (t:Th)
def bl:List Top->List Th
 | []=>[]
 |.nm n m::S=>.knot n ((bl S).take m)::(bl S).drop m
 |.th t::S=>t::bl S
def TopsOk:List Top->Prop
 | []=>True
 |.nm _ m::S=>m<=(bl S).length/\TopsOk S
 |.th _::S=>TopsOk S
theorem TopsOk.drop:∀{l:List Top}(i:Nat),TopsOk l->TopsOk (l.drop i)
 |l,0,h=>by rw[ZR];exact h
 | [],i+1,h=>by rw[List.drop_nil];exact h
 | .nm n m::S,i+1,h=>by
   rw[TopsOk]at h;rw[List.drop_succ_cons];exact TopsOk.drop i h.2
 | .th t::S,i+1,h=>by
   rw[TopsOk]at h;rw[List.drop_succ_cons];exact TopsOk.drop i h
theorem pJ:∀l:List Top,(bl l).length<=l.length
 | []=>Wc _
 | .nm n m::S=>by
   have:=pJ S;rw[bl,Wq,Wq,Xm];lia
 | .th t::S=>by
   have:=pJ S;rw[bl,Wq,Wq];lia
mutual
def Th.fill(f:Int->Int->Th):Th->Th
 |.knot n ks=>.knot n (fills f ks)
 |.call s k=>f s k
def fills(f:Int->Int->Th):List Th->List Th
 | []=>[]
 |t::ts=>t.fill f::fills f ts
end
theorem jv(f:Int->Int->Th):∀ts:List Th,(fills f ts).length=ts.length
 | []=>by rw[fills]
 |t::ts=>by rw[fills,Wq,Wq,jv f ts]
mutual
theorem qX:∀t:Th,t.fill r!=t
 |.knot n ks=>by rw[Th.fill,oz ks]
 |.call s k=>by rw[Th.fill]
theorem oz:∀ts:List Th,fills r! ts=ts
 | []=>by rw[fills]
 |t::ts=>by rw[fills,qX t,oz ts]
end
def db(f:Int->Int->Th):Th->Top
 |.knot n ks=>.nm n ks.length
 |.call s k=>.th (f s k)
theorem ji(f:Int->Int->Th):∀(n:Nat)(ts:List Th),aq ts<=n->∀S,bl ((walks ts).map (db f)++S)=fills f ts++bl S/\(TopsOk S->TopsOk ((walks ts).map (db f)++S))
 |_,[],_,S=>by rw[walks,fills];exact⟨D?,λh=>h⟩
 | 0,t::ts,hn,S=>by
   have:=t.size_pos;rw[aq]at hn;lia
 | n+1,t::ts,hn,S=>by
   have hs:=t.size_eq;rw[aq]at hn;have h2:=ji f n ts (by lia) S;have e:(walks (t::ts)).map (db f)++S=db f t::((walks t.kids).map (db f)++((walks ts).map (db f)++S)):=by rw[walks,t.walk_eq];simp
   have h1:=ji f n t.kids (by lia) ((walks ts).map (db f)++S);rw[e];cases t with
   | knot nm ks =>
     simp only[Th.kids]at h1 |-;refine⟨?_,λhS=>?_⟩
     .show bl (.nm nm ks.length::_)=_;rw[bl,h1.1,h2.1,<-jv f ks,List.take_left,List.drop_left,fills,Th.fill];rfl
     .show TopsOk (.nm nm ks.length::_);rw[TopsOk];refine⟨?_,h1.2 (h2.2 hS)⟩;rw[h1.1,Wk,jv];exact Nat.le_add_right _ _
   | call s k =>
     simp only[Th.kids,walks,Ym,List.nil_append]at h1 |-;refine⟨?_,λhS=>?_⟩
     .show bl (.th (f s k)::_)=_;rw[bl,h2.1,fills,Th.fill];rfl
     .show TopsOk (.th (f s k)::_);rw[TopsOk];exact h2.2 hS
theorem vE(f:Int->Int->Th)(t:Th):bl (t.walk.map (db f))=[t.fill f]/\TopsOk (t.walk.map (db f)):=by
 have h:=ji f _ [t] (Wc _) [];have e:walks [t]=t.walk:=by simp[walks]
 rw[e,ZG]at h;refine⟨?_,h.2 (by rw[TopsOk];trivial)⟩;rw[h.1,fills,fills,bl];rfl
theorem qV(x:V)(xs:List V):d8 (x::xs) B? (A? 1)=[x]:=by
 unfold d8;rw[show(A? (1:Int))=A? ((1:Nat):Int)from rfl,w!,HT.sIx_none,Wq,Nat.min_eq_left (by lia)];rfl
end BB
open BB.Th renaming fill->C!
namespace PySem
open Sem (wp)
end PySem
namespace L2
open PySem PySem.Spec PyProof.Rows BB
end L2
namespace BB
open PySem L2
theorem tJ{k:Nat}(hr:L2.Room k A):A.units+150+2<Zx:=by
 have:=hr.un;lia
end BB
namespace L2
open PySem PySem.Spec PySem.SeqAt PyProof.Rows BB
end L2
namespace BB
open PySem L2
theorem P2.mapl{γ:Type}{R:β->γ->Prop}(f:α->β):∀{xs:List α}{cs:List γ},WL (λx c=>R (f x) c) xs cs->WL R (xs.map f) cs
 |_,_,.nil=>.nil
 |_,_,.cons r h=>.cons r (P2.mapl f h)
end BB
namespace L2
open PySem PySem.Spec PySem.SeqAt PyProof.Rows BB
end L2
namespace BB
open PySem L2
end BB
namespace L2
open PySem PySem.Spec PyProof.Rows BB
end L2
namespace BB
open PySem L2
end BB
namespace L2
open PySem PySem.Spec PySem.Calls PyProof.Rows PySem.W
structure vc(K:Frag)(C:V6):Prop where
 exc:excIn K C [.type "ValueError",.type "Exception",.type "BaseException",.type "object"] "ValueError.__new__"=Bq
 ga:findIn K (.ref C) "__getattribute__"=A? (A? (.builtin "BaseException.__getattribute__"))
 gt:findIn K (.ref C) "__getattr__"=A? B?
 cl:findIn K (.ref C) "__class__"=A? (A? (.builtin "object.__class__"))
 mo:mroIn K C (.type "object")=A? Bq
 mb:mroIn K C (.type "BaseException")=A? Bq
section
variable{g:Array GenState}{d:Drawn}{t:Nat}{os:OsState}{o:X6}{K:Frag}
end
theorem ObjOk.there(x:ObjOk P w H h a o):∃ob,h.get? a=A? ob:=by
 cases o with
 |lst xs=>obtain⟨_,_,_,_,e⟩:=x;exact⟨_,e⟩
 |tup xs=>obtain⟨_,_,_,_,e⟩:=x;exact⟨_,e⟩
 |dK kvs=>obtain⟨_,_,_,_,o,_,_,e,_⟩:=x;exact⟨_,e⟩
 |dT kvs=>obtain⟨_,_,_,_,o,_,_,e,_⟩:=x;exact⟨_,e⟩
 |set S n=>obtain⟨o,_,_,_,e,_⟩:=x;exact⟨_,e⟩
 |ins C dx fs=>obtain⟨_,_,_,e,_⟩:=x;exact⟨_,e⟩
 |own y=>obtain⟨_,e⟩:=x;exact⟨_,e⟩
 |xd fs=>obtain⟨_,⟨_,_,_,e,_⟩,_⟩:=x;exact⟨_,e⟩
 |rng lo hi=>obtain⟨_,_,_,e⟩:=x;exact⟨_,e⟩
 |frz ob u=>obtain⟨e,_⟩:=x;exact⟨_,e⟩
 |tbl ps=>exact⟨_,(show h.get? a=A? _ from x)⟩
 |met f y=>exact⟨_,(show h.get? a=A? _ from x)⟩
 |ext φ=>obtain⟨_,⟨_,e⟩,_⟩:=x;exact⟨_,e⟩
def CX1(P:WJ)(w:W0):CXT:=λouter H s E e s'=>∃(ea C:V6)(a0:V8)(B:Xp)(H':Hp),
 e=.ref ea/\s'.os=s.os/\AllBare s'.gens/\Un (frs outer) [] H H' s.1 s'.1/\HOk P w H' s'.1/\Heap.FlyingW B outer ea (.ref C) a0 s'.1 /\
 (∀b o,s.1.get? b=A? o->b∉frs outer->∃o',B.get? b=A? o'/\(H b=B?->o'=o))/\(∀b u,H' b=A? u->∃o',B.get? b=A? o')/\E (.ref C) B? H'
theorem oi{B:Xp}(hok:HOk P w H' h)(k1:B.StaysIn h)(k2:B.StaysIn h')(b2:∀b u,H' b=A? u->∃o',B.get? b=A? o'):HOk P w H' h':=λa o e =>
 (hok a o e).stay (λb u hb q=>by
  have ht:∃v,H' b=A? v:=by
   rcases hb with rfl|hb
   .exact⟨_,e⟩
   .exact⟨_,hb⟩
  obtain⟨v,hv⟩:=ht;obtain⟨o',BC⟩:=b2 b v hv;have:=k1 b o' BC;rw[q]at this;cases this;exact k2 b _ BC) (λ_ q=>q) λ_ _ q=>q
theorem qt{fs:List V6}{h1 h2:Xp}{l:List V6}{B:Xp}(u1:Un fs [] H H1 h h1)(u2:Un l [] H1 H' h1 h2)(hl:∀b o,h.get? b=A? o->b∈l->b∈fs)
 (b1:∀b o,h1.get? b=A? o->b∉l->∃o',B.get? b=A? o'/\(H1 b=B?->o'=o)) (st:B.StaysIn h') (up:h2.UpToSlots h')
 (hf:∀b∈fs,H b=B?/\∃o,h.get? b=A? o/\∀vs,o.data≠.fields vs) :
 Un fs [] H H' h h'/\∀b o,h.get? b=A? o->b∉fs->∃o',B.get? b=A? o'/\(H b=B?->o'=o):=by
 have nx:∀b:V6,b∉([]:List V6):=λb=>by simp
 have bb:∀b o,h.get? b=A? o->b∉fs->∃o',B.get? b=A? o'/\(H b=B?->o'=o):=λb o q nf=>by
  obtain⟨o1,e1⟩:=u1.there b o q (nx b);obtain⟨o',e',g⟩:=b1 b o1 e1 λz=>nf (hl b o q z);refine⟨o',e',λn=>?_⟩;have:=u1.keep b o q n nf (nx b);rw[e1]at this;cases this;exact g (u1.free b _ q n (nx b))
 have sl:∀b o,h.get? b=A? o->H b=B?->b∈fs->∃sl,h'.get? b=A? {o with slots:=sl}:=λb o q n m=>by
  obtain⟨s1,e1⟩:=u1.slot b o q n m (nx b);obtain⟨s2,e2⟩:=u2.any e1 (u1.free b o q n (nx b)) (nx b);obtain⟨_,o0,q0,nf⟩:=hf b m;rw[q]at q0;cases q0;obtain⟨s3,e3⟩:=up b _ e2 nf;exact⟨s3,e3⟩
 refine⟨⟨λb o q n nf _=>?_,λb o q n m _=>sl b o q n m,λb o q n _=>?_,λb o q _=>?_,λb xs q=>u2.tups b xs (u1.tups b xs q),λb o u q=>u2.frzs b o u (u1.frzs b o u q),λb ps q=>?_⟩,bb⟩
 .obtain⟨o',e',g⟩:=bb b o q nf;rw[<-g n];exact st b o' e'
 .obtain⟨o1,e1⟩:=u1.there b o q (nx b);exact u2.free b o1 e1 (u1.free b o q n (nx b)) (nx b)
 .by_cases m:b∈fs
  .obtain⟨n,_⟩:=hf b m;obtain⟨s3,e3⟩:=sl b o q n m;exact⟨_,e3⟩
  .obtain⟨o',e',_⟩:=bb b o q m;exact⟨o',st b o' e'⟩
 .obtain⟨m1,e1⟩:=u1.tbls b ps q;obtain⟨m2,e2⟩:=u2.tbls b _ e1;exact⟨m1++m2,by rw[e2,Array.append_assoc]⟩
section
variable{cd:V8}{E:XK}
theorem qh{l:List Env}{L:V6}(hf:env.frame=A? L):frs (env::l)=L::frs l:=by unfold frs;rw[YT,hf]
theorem pC:Passes (CX1 P w) (kb (CX1 P w) P w K mg base N qual scope f cd A outer s H E) E:=by
 intro Y σ H1 s1 e s2 I h;obtain⟨ea,C,a0,B,H',rfl,BI,DN,un,hok,Eg,b1,b2,q⟩:=h;show Ww _ _ (leaving _ _) _ _ s2;refine wpAny_leaves_onW (E:=λe' Ia=>CX1 P w outer H s E e' Ia) I.ok.frames rfl Eg λh' F3 up=>?_
 obtain⟨U,Mq⟩:=qt (fs:=frs outer) (H:=H) (h:=s.1) (l:=frs (YZ qual scope s.1.1.size f cd::outer)) (B:=B) (h':=h') I.base un (λb o hb z=>by
  rw[qh (L:=s.1.1.size) rfl]at z;rcases Wr.mp z with rfl|z
  .exact g! (WC hb) (Xy _)
  .exact z) b1 F3.1 up (λb hb=>⟨I.ok.frf b hb,(I.ok.funs.mem hb).2⟩)
 exact⟨ea,C,a0,B,H',D?,BI.trans I.os,DN,U,oi hok Eg.1 F3.1 b2,F3,Mq,b2,q⟩
def wK(te:TE)(C:V6)(E:XK):TS:=λ_ σ H=>te σ H λ_ H1=>E (.ref C) B? H1
theorem vk(X:K.In h)(F:vc K C)(hm:mg x=A? (.ref C)):OwnCls x C [.type "ValueError",.type "Exception",.type "BaseException",.type "object"] "ValueError.__new__" mg h:=by
 have q:=F.exc;refine⟨hm,?_⟩;unfold excIn at q;split at q
 .rename_i dd cd sl ho
  split at q
  .rename_i C' bm k0 k1 k2 k3 n k5 hm hs
   simp only[Yl,beq_iff_eq,Bool.not_eq_true']at q;obtain⟨⟨⟨⟨⟨rfl,rfl⟩,IJ⟩,ht⟩,hok⟩,KW⟩:=q;obtain⟨nm,bs,mro,ns,qn,hd,sn,sub,ab,col,del⟩:=cd;dsimp only at hm IJ hok KW;subst hm IJ
   have F4:sl=#[k0,k1,k2,k3,A? (.builtin "ValueError.__new__"),k5]:=by
    obtain⟨l⟩:=sl;simp only at hs;rw[hs]
   subst F4;exact⟨bm,ns,nm,qn,bs,hd,sn,sub,ab,col,dd,k0,k1,k2,k3,k5,_,X _ _ ho,.of_isNs (isNs_of_in X hok),nsMap_none_of_in X hok KW,tail_of_in X ht⟩
  .cases q
 .cases q
theorem ux{e0:Xb}{te:TE}{np zo:Zb}(F:vc K C)(hm:mg x=A? (.ref C))(he:PE (kb (CX1 P w) P w K mg base N qual scope f cd A outer s H E) e0 te)
 (hx:(YZ qual scope s.1.1.size f cd).kindOf x=A? .globalImplicit:=by rfl)
 (zM:W6 [e0] (YZ qual scope s.1.1.size f cd)=[(C?,Yd e0 (YZ qual scope s.1.1.size f cd))]:=by rfl) (hd:(x == ("__debug__":WE))=false:=by decide) :
 PS (kb (CX1 P w) P w K mg base N qual scope f cd A outer s H E) (.Raise (A? (.Call (.Name x np) [e0] [] zo)) B? pos) (wK te C E):=by
 intro Y s1 σ H1 D I h;obtain⟨tl,N',nm,q,bs,hdct,sn,sub,ab,col,dd,k0,k1,k2,k3,k5,mN,hC,hN,KW,T⟩:=(vk I.mod.kin F hm).obj
 refine wpAny_Raise_call_subT (C:=C) (nm:=nm) (q:=q) (N:=N') (bs:=bs) (bm:=tl) (hdct:=hdct) (sn:=sn) (sub:=sub) (ab:=ab) (col:=col) (dd:=dd) (k0:=k0) (k1:=k1) (k2:=k2) (k3:=k3) (k5:=k5)
  PySem.F.excBase_ValueError (mN:=mN) (T.hasType PySem.F.excBase_ValueError.hasBase) (I.ok.hd rfl) (by show(Y1 zo (W6 [e0] (YZ qual scope s.1.1.size f cd))).any (·.1)=C?;rw[zM];rfl) KW (iL I hx hm ⟨rfl,?_⟩ hd)
 show Ww _ _ (evalArgs _ Bq (Y1 zo (W6 [e0] (YZ qual scope s.1.1.size f cd))) []) _ _ _;rw[zM];refine Calls.evalArgs_plain (Ye (thn (he Y s1 σ H1 _ I h) λv s2⟨y,H2,I2,r2,q2⟩=>YA ⟨rfl,by show 1<=WD;decide,I2.bk _ _ hC,hN.keeps I2.bk,T.keeps I2.bk,λh' e hx=>?_⟩));show Ww _ _ (leaving _ _) _ _ _;have FF:=I2.stack;have hl:∀env∈YZ qual scope s.1.1.size f cd::outer,∀a,env.frame=A? a->a∈frs (YZ qual scope s.1.1.size f cd::outer):=λenv he a ha=>List.mem_filterMap.mpr ⟨env,he,ha⟩;refine wpAny_leaves_madeW (base:=hideAll s2.1 (frs (YZ qual scope s.1.1.size f cd::outer))) (h:=s2.1) I.ok.frames rfl (λb o z=>of_hideAll _ z) (funFrames_hide FF hl) hx λh2 t Eg tup tn up=>?_;have nf:∀b u,H2 b=A? u->b∉frs (YZ qual scope s.1.1.size f cd::outer):=λb u e z=>by rw[I2.stkFree b z]at e;cases e
 obtain⟨U,Mq⟩:=qt (fs:=frs outer) (H:=H) (H1:=H2) (H':=H2) (h:=s.1) (h1:=s2.1) (h2:=h') (l:=frs (YZ qual scope s.1.1.size f cd::outer)) (B:=hideAll s2.1 (frs (YZ qual scope s.1.1.size f cd::outer))) (h':=h2) I2.base (Un.kept hx.keeps) (λb o hb z=>by
  rw[qh (L:=s.1.1.size) rfl]at z;rcases Wr.mp z with rfl|z
  .exact g! (WC hb) (Xy _)
  .exact z) (λb o hb z=>⟨o,hideAll_get _ hb z,λ_=>rfl⟩) Eg.1 up (λb hb=>⟨I.ok.frf b hb,(I.ok.funs.mem hb).2⟩)
 have b2:∀b u,H2 b=A? u->∃o',(hideAll s2.1 (frs (YZ qual scope s.1.1.size f cd::outer))).get? b=A? o':=λb u e=>by
  obtain⟨o,ho⟩:=(I2.hok b u e).there;exact⟨o,hideAll_get _ ho (nf b u e)⟩
 exact⟨e,C,.ref t,_,H2,D?,I2.os,I2.bare,U,oi I2.hok (λb o z=>of_hideAll _ z) Eg.1 b2,Eg,Mq,b2,q2⟩
end
section
variable{X:Cx}
def Cx.tryB(X:Cx)(Y:List (V6×X6))(R:St->V8->Hp->Prop):Cx:={ X with
 pn:=X.pn++Y
 xe:=λe s'=>∃zC H1 s1,Inv X Y zC H1 s1/\CX1 X.prog X.w X.stack H1 s1 (λc _ H'=>R zC c H') e s' }
def Cx.suite(X:Cx)(ea:V6)(oe:X6):Cx:={ X with
 A:=X.A.mark (A? (.ref ea))
 calm:=C?
 pn:=X.pn++[(ea,oe)]
 xe:=λ_ _=>False }
theorem Inv.tryB(I:Inv X Y σ H s)(R:St->V8->Hp->Prop):Inv (X.tryB Y R) [] σ H s :=
 ⟨⟨I.ok.mod,I.ok.kind,I.ok.glob,I.ok.blt,I.ok.above,I.ok.inj,I.ok.has,I.ok.cab,I.ok.hd,I.ok.frames,I.ok.stk,I.ok.exf,I.ok.bs,I.ok.bsz,I.ok.noex,I.ok.exfs,I.ok.funs,I.ok.frf⟩,
   I.os,I.bare,I.base,I.loc,I.cell,I.free,I.freeC,λp hp=>I.pin p (by simpa[Cx.tryB]using hp),I.hok,I.len⟩
theorem Inv.untryB{Bh:List (V6×X6)}(I:Inv (X.tryB Y R) Bh σ H s):Inv X Y σ H s :=
 ⟨⟨I.ok.mod,I.ok.kind,I.ok.glob,I.ok.blt,I.ok.above,I.ok.inj,I.ok.has,I.ok.cab,I.ok.hd,I.ok.frames,I.ok.stk,I.ok.exf,I.ok.bs,I.ok.bsz,I.ok.noex,I.ok.exfs,I.ok.funs,I.ok.frf⟩,
   I.os,I.bare,I.base,I.loc,I.cell,I.free,I.freeC,λp hp=>I.pin p (Wt _ hp),I.hok,I.len⟩
theorem Inv.suite{ea:V6}{oe:X6}(I:Inv X Y σ H s)(h:s.1.get? ea=A? oe/\H ea=B?/\ea≠X.env.locals/\ea∉X.fs/\∀v,oe.data≠.cell v):Inv (X.suite ea oe) Y σ H s :=
 ⟨⟨I.ok.mod,I.ok.kind,I.ok.glob,I.ok.blt,I.ok.above,I.ok.inj,I.ok.has,I.ok.cab,(λz=>nomatch z),I.ok.frames,I.ok.stk,I.ok.exf,I.ok.bs,I.ok.bsz,I.ok.noex,I.ok.exfs,I.ok.funs,I.ok.frf⟩,
   I.os,I.bare,I.base,I.loc,I.cell,I.free,I.freeC,λp hp=>by
    have hp:p∈(X.pn++[(ea,oe)])++Y:=hp;rcases Wm.mp hp with hp|hp
    .rcases Wm.mp hp with hp|hp
     .exact I.pin p (Wt _ hp)
     .obtain rfl:=We.mp hp;exact h
    .exact I.pin p (WK _ hp),I.hok,I.len⟩
theorem Inv.unsuite{ea:V6}{oe:X6}(I:Inv (X.suite ea oe) Y σ H s)(hd:X.calm=Bq->X.A.handled=B?):Inv X Y σ H s :=
 ⟨⟨I.ok.mod,I.ok.kind,I.ok.glob,I.ok.blt,I.ok.above,I.ok.inj,I.ok.has,I.ok.cab,hd,I.ok.frames,I.ok.stk,I.ok.exf,I.ok.bs,I.ok.bsz,I.ok.noex,I.ok.exfs,I.ok.funs,I.ok.frf⟩,
   I.os,I.bare,I.base,I.loc,I.cell,I.free,I.freeC,λp hp=>I.pin p (by
    show p∈(X.pn++[(ea,oe)])++Y;rcases Wm.mp hp with hp|hp
    .exact Wt _ (Wt _ hp)
    .exact WK _ hp),I.hok,I.len⟩
end
structure Hit(K:Frag)(C Ch:V6):Prop where
 exc:vc K C
 hit:exmOne K (.ref C) (.ref Ch)=A? Bq
theorem SP.untryB{X:Cx}{f:Flow}(h:SP (X.tryB Y R) [] D f s'):SP X Y D f s':=by
 cases f with
 |next=>obtain⟨i',H',I,q⟩:=h;exact⟨i',H',I.untryB,q⟩
 |brk=>obtain⟨i',H',I,q⟩:=h;exact⟨i',H',I.untryB,q⟩
 |cont=>obtain⟨i',H',I,q⟩:=h;exact⟨i',H',I.untryB,q⟩
 |ret u=>obtain⟨v,i',H',I,r,q⟩:=h;exact⟨v,i',H',I.untryB,r,q⟩
theorem Fun.ok1{k:Nat}(F:Fun K x qual st f fd)(S:bX N ps (aC st))(len:∀vs H Q E,sp vs H Q E->vs.length=ps.length)
 (zN:∀(zh:V8)(A:W5)(outer:List Env)(s:Wd)(H:Hp)(vs:List V)(Q:VK)(E:XK),Room k (A.deeper (YZ qual (aC st) s.1.1.size f zh))->sp vs H Q E ->
  ∃t,PSs (kb (CX1 P w) P w K mg base N qual (aC st) f zh A outer s H E) (bY st) t/\t {nx:=λ_ H'=>Q .non H',rt:=Q} (start N vs) H):bp P w K mg base (CX1 P w) (k+1) f fd ps sp:=by
 obtain⟨oc,od,kV,doc,pm,an,zh,ct,Ed,rfl,lk,AD⟩:=F.ex;exact t4 lk AD S len λA outer s H vs Q E hr Bb=>zN zh A outer s H vs Q E hr Bb
def pV(sp:Sp)(Aj:List V)(R:St->V8->Hp->Prop)(t:TA):TE:=λσ H Q=>t σ H λvs H1=>sp (vs++Aj) H1 Q λc _ H'=>R σ c H'
theorem oX{X:Cx}{k:Nat}{Aj:List V}{ds:List V8}{p:Zb}{es:List Xb}{t:TA}
 (F:bp X.prog X.w X.K X.mg X.base (CX1 X.prog X.w) k f fd ps sp) (hr:Room k X.A) (hg:Gl X x) (hm:X.mg x=A? (.ref f)) (hk:YW X.K (.ref f)=Bq) (hb:Binds X.K fd ps ds) (hd:Vals Aj ds)
 (ha:PA (X.tryB Y R) (e::es) t) (Dw:(x == ("__debug__":WE))=false:=by decide) (he:W6 (e::es) X.env=(C?,Yd e X.env)::W6 es X.env:=by rfl) (Ax:(Y1 pos (W6 es X.env)).any (·.1)=false:=by rfl) :
 PE (X.tryB Y R) (.Call (.Name x p) (e::es) [] pos) (pV sp Aj R t):=by
 intro Bh s σ H Q I h;refine Xz (iL I hg hm ?_ Dw);refine PySem.W.callWith_K (h₀:=X.base) I.ok.mod.kin hk (thn (ha pos Bh s σ H _ I h) λus s1⟨vs,H1,I1,r,q⟩=>⟨I1.kIn,?_⟩) he Ax;have r2:Vals (vs++Aj) (us++ds):=r.append hd;have hl:(us++ds).length=ps.length:=by rw[<-r2.length];exact F.len _ _ _ _ q
 refine wpAny_call (codeAny_mono (F.run X.A X.stack s1 H1 ⟨us,[]⟩ (us++ds) (vs++Aj) Q _ hr I1.env0 (hb s1 us I1.kIn hl) r2 q) λr s' hq=>?_);cases r with
 |error e=>exact⟨σ,H1,s1,I1.untryB,hq⟩
 | ok fl =>
   cases fl with
   |ret u=>exact I1.after hq
   |next=>exact X9 hq
   |brk=>exact X9 hq
   |cont=>exact X9 hq
open PySem.SeqAt
end L2
namespace BB
open PySem
end BB
namespace L2
open PySem PySem.Spec PySem.Calls PyProof.Rows BB
section
variable{R:Result->Wd->Prop}
end
end L2
namespace PySem
end PySem
namespace L2
open PySem PySem.Spec PySem.Calls PyProof.Rows BB
section
variable{X:Cx}
end
end L2
namespace BB
open PySem L2
theorem rB{g:TG}{te:TE}(zs:List α)(f:α->V)(hz:zs.length=xs.length)(hn:xs.length<=1000000)
 (FV:∀i H2,j! H H2->i<xs.length->J.go i H2) (AJ:∀H2,j! H H2->J.stop xs.length H2) (Ci:∀(i:Nat)H2 x H3,j! H H2->i<xs.length->J.yld i H2 x H3->H3=H2/\xs[i]?=A? x)
 (hb:∀(i:Nat)x z H2(R:VK)(W':Hp->Prop),xs[i]?=A? x->zs[i]?=A? z->j! H H2->(∀H3,j! H2 H3->R (f z) H3)->g x (cσ js σ) H2 λzl H3=>tt zl H3 λb H4=>if b=Bq then te zl H4 R else W' H4)
 (zX:∀D H',H D=B?->j! H H'->H' D=A? (.lst (zs.map f))->fin D H') :
 ∀D,H D=B?->∃(n:Nat)(W:Nat->Hp->Prop),W 0 (upd H D (.lst []))/\fV js g tt te σ J D n W λH'=>fin D H':=by
 intro D hD;refine⟨xs.length,λi H'=>i<=xs.length/\j! H H'/\H' D=A? (.lst ((zs.take i).map f)),⟨WY _,ao hD _,by rw[ac];rfl⟩,?_⟩;rintro i H' ⟨hi,s1,e1⟩;by_cases zf:i<xs.length
 .refine .inr ⟨zf,FV i H' s1 zf,λv H1 hy=>?_⟩;obtain⟨e,hx⟩:=Ci i H' v H1 s1 zf hy;subst e;obtain⟨z,DH⟩:∃z,zs[i]?=A? z:=⟨_,V4 (by lia)⟩;refine hb i v z _ _ _ hx DH s1 λH3 s3=>⟨_,s3 _ _ e1,?_,zf,aM (s1.trans s3) hD,?_⟩
  .rw[V2,W9];have:WD=16777216:=Zw;lia
  .rw[ac,take_snoc DH,WB];rfl
 .have BM:i=xs.length:=by lia
  subst BM;refine .inl ⟨AJ _ s1,zX D H' hD s1 ?_⟩;rw[e1,Xv (by lia)]
theorem cb{g:TG}{te:TE}(zs:List α)(f:α->V)(hS:SqT K H a xs)(hz:zs.length=xs.length)(hn:xs.length<=1000000)
 (hb:∀(i:Nat)x z H2(R:VK)(W':Hp->Prop),xs[i]?=A? x->zs[i]?=A? z->j! H H2->(∀H3,j! H2 H3->R (f z) H3)->g x (cσ js σ) H2 λzl H3=>tt zl H3 λb H4=>if b=Bq then te zl H4 R else W' H4)
 (zX:∀D H',H D=B?->j! H H'->H' D=A? (.lst (zs.map f))->fin D H') :
 ∀D,H D=B?->∃(n:Nat)(W:Nat->Hp->Prop),W 0 (upd H D (.lst []))/\fV js g tt te σ (Itt K a) D n W λH'=>fin D H' :=
 rB zs f hz hn (λi H2 s hi=>⟨xs,xs[i],s.seqT hS,V4 hi⟩) (λH2 s=>⟨xs,s.seqT hS,Wc _⟩) (λi H2 x H3 s hi hy=>⟨hy.1,hy.2 xs (s.seqT hS)⟩) hb zX
theorem iQ{g:TG}{te:TE}(zs:List α)(f:α->V)(hS:SqL K H a xs)(hz:zs.length=xs.length)(hn:xs.length<=1000000)
 (hb:∀(i:Nat)x z H2(R:VK)(W':Hp->Prop),xs[i]?=A? x->zs[i]?=A? z->j! H H2->(∀H3,j! H2 H3->R (f z) H3)->g x (cσ js σ) H2 λzl H3=>tt zl H3 λb H4=>if b=Bq then te zl H4 R else W' H4)
 (zX:∀D H',H D=B?->j! H H'->H' D=A? (.lst (zs.map f))->fin D H') :
 ∀D,H D=B?->∃(n:Nat)(W:Nat->Hp->Prop),W 0 (upd H D (.lst []))/\fV js g tt te σ (Itl K a) D n W λH'=>fin D H' :=
 rB zs f hz hn (λi H2 s hi=>⟨xs,xs[i],s.seq hS,V4 hi⟩) (λH2 s=>⟨xs,s.seq hS,Wc _⟩) (λi H2 x H3 s hi hy=>⟨hy.1,hy.2 xs (s.seq hS)⟩) hb zX
end BB
namespace HT
open PySem PySem.Spec PyProof.Rows
theorem adjust_back(n:Nat):YR B? B? (-1) (n:Int)=((n:Int) - 1,-1):=rfl
theorem places_back(n:Nat):XR ((n:Int) - 1) (-1) (-1)=n:=by
 unfold XR;have h1:¬((-1:Int) > 0):=by lia
 simp only[h1,if_false];by_cases h:n=0
 .subst h;decide
 .have h2:((n:Int) - 1) > -1:=by lia
  simp only[h2,if_true];rw[show(- -1:Int)=1 by decide,Int.ediv_one];lia
theorem pick_back(xs:Array V8):((XS xs.size).filterMap λ(m:Nat)=>xs[(((xs.size:Nat):Int) - 1+(m:Int) * (-1)).toNat]?).toArray=xs.toList.reverse.toArray:=by
 congr 1
 have e:∀m∈XS xs.size,xs[(((xs.size:Nat):Int) - 1+(m:Int) * (-1)).toNat]?=xs.toList.reverse[m]?:=by
  intro m hm;have Mr:=ZP.mp hm;rw[List.getElem?_reverse (by rw[WO];exact Mr),Zg,WO];congr 1;lia
 have f:∀(l:List Nat)(f g:Nat->Option V8),(∀m∈l,f m=g m)->l.filterMap f=l.filterMap g:=by
  intro l f g;induction l with
  |nil=>intro _;rfl
  | cons y ys ih =>
    intro h;rw[YT,YT,h y (by simp),ih (λm hm=>h m (by simp[hm]))]
 rw[f _ _ _ e]
 have gl:∀(ys:List V8),(XS ys.length).filterMap (λm=>ys[m]?)=ys:=by
  intro ys;have:=pick_run ys.toArray 0 ys.length;simp only[List.filterMap_map]at this
  have e3:((λx=>ys.toArray[x]?) ∘ λx=>0+x)=λm=>ys[m]?:=by
   funext m;simp
  rw[e3]at this;rw[this];simp
 have:=gl xs.toList.reverse;rw[YS,WO]at this;exact this
theorem sliceApplied_back{t:Tok}{Q:Int×Int×Nat->Wd->Prop}(hs:s.1.IsSliceOf sl .none .none (.int (-1) t))
 (h:Q ((n:Int) - 1,-1,n) s):Ww (WN prog w) A (Zz (.ref sl) (pure (n:Int))) Q E s:=by
 obtain⟨os,BI,Fc,AU⟩:=id hs;unfold Zz Builtin.Slice.sliceFields;refine V3 (V3 (Xe BI AU (x:=.none) rfl (V3 (Xe BI AU (x:=.none) rfl (V3 (Xe BI AU (x:=.int (-1) t) rfl (Wa ?_)))))));refine V3 (slicePart_int ?_);show Ww _ _ (if((-1:Int) == 0)=Bq then _ else _) _ _ s;rw[a! (by decide)];refine V3 (slicePart_none (V3 (slicePart_none (V3 (Wa ?_)))));show Ww _ _ (match YR B? B? (-1) (n:Int)with|(lo,hi)=>pure (lo,(-1:Int),XR lo hi (-1))) _ _ s;rw[adjust_back n];show Ww _ _ (pure ((n:Int) - 1,(-1:Int),XR ((n:Int) - 1) (-1) (-1))) _ _ s;rw[places_back];exact Wa h
theorem getItem_tuple_back{t:V6}{tk:Tok}(ht:IsTup s.1 t items)(hs:s.1.IsSliceOf sl .none .none (.int (-1) tk))
 (h:Q (.ref s.1.1.size) {s with heap:=s.1.push {cls:=.type "tuple",data:=.seq items.toList.reverse.toArray}})
 (hsz:items.size<=WD):Ww (WN prog w) A (Z3 (.ref t) (.ref sl)) Q E s:=by
 have Ag:sizeOk (.seq items.toList.reverse.toArray):=by
  show items.toList.reverse.toArray.size<=WD;rw[Wn,YS,WO];exact hsz
 obtain⟨os,BI,Fc,AU⟩:=id hs;have Ih:s.TypeIs (.ref sl) "slice":=⟨os,BI,Fc⟩;unfold Z3
 try with_reducible refine Xq ?_
 first|refine V3 (Wa ?_)|skip
 refine V3 (wpAny_sequenceKey ht.typeIs (by decide) ?_)
 refine V3 (Xi (name:=Wb "__getitem__") ht.typeIs Xg
  (Xl Xg ht.typeIs entry_tuple_getitem ?_ (args_tuple_getitem _ _)))
 show Ww _ _ (Builtin.Tuple.tupleItemsOf (.ref t) >>= _) _ _ s;refine V3 (tupleItemsOf_ ht ?_);refine V3 (Z0 Ih ?_);rw[b! (by decide)];refine V3 (sliceApplied_back hs ?_)
 have zt:¬((((items.size:Nat):Int) - 1 == 0 && (-1:Int) == 1 && items.size == items.size)=Bq):=by
  simp
 show Ww _ _ (if(((items.size:Nat):Int) - 1 == 0 && (-1:Int) == 1 && items.size == items.size)=Bq then _ else _) _ _ s;rw[a! zt,pick_back]
 first
  |exact V3 (m:=XT _) (Xc (Wa ⟨_,rfl,Wa h⟩) Ag)
  |exact V3 (m:=XT _) (Xc (V3 (Wa (Wa ⟨_,rfl,Wa h⟩))) Ag)
  |exact V3 (V3 (m:=XT _) (Xc (Wa (Wa ⟨_,rfl,Wa h⟩)) Ag))
  |exact V3 (V3 (m:=XT _) (Xc (Wa ⟨_,rfl,Wa h⟩) Ag))
end HT
namespace L2
open PySem PySem.Spec PyProof.Rows
section
variable{X:Cx}{te:TE}{p2 p3 p4:Zb}
def BkR(X:Cx)(r:V->Hp->VK->Prop):Prop :=
 ∀(Y:List (V6×X6))(s:Wd)(σ:St)(H:Hp)(x:V)(v:V8)(t:Tok)(sl:V6)(Q:VK),Inv X Y σ H s->RelV x v->s.1.IsSliceOf sl .none .none (.int (-1) t)->r x H Q ->
   ∃T id,typeLookup (.type T) "__getitem__"=pure (A? (.builtin id))/\s.TypeIs v T/\Ww (WN X.prog X.w) X.A (Z3 v (.ref sl)) (EP X Y σ Q) X.xe s
def tBk(r:V->Hp->VK->Prop)(te:TE):TE:=λσ H Q=>te σ H λx H1=>r x H1 Q
theorem uR{r:V->Hp->VK->Prop}(hr:BkR X r)(he:PE X e te):PE X (.Subscript e (.Slice B? B? (A? (.UnaryOp .USub (.Constant (.int 1) 0 p3) p4)) p2) pos) (tBk r te):=by
 intro Y s σ H Q I h;refine Subscript_ (thn (he Y s σ H _ I h) λv s1⟨x,H1,I1,r1,q1⟩=>?_);refine wpAny_Slice ?_;rw[evalPart_none];refine Wa ?_;refine Wa ?_;have KY:PO X (A? (.UnaryOp .USub (.Constant (.int 1) 0 p3) p4)) (wk (tUn (rU λi=>.int (-i)) (tC (.int 1)))):=bv (oA nh ae);refine thn (KY Y s1 σ H1 (λo H'=>o=A? (-1)/\r x H' Q) I1 ⟨1,rfl,_,rfl,rfl,q1⟩) λvs s2⟨o,H2,I2,ps,ho,q2⟩=>?_;subst ho;cases ps with
 | int i t =>
   have I4:Inv X Y σ H2 {s2 with heap:=s2.1.push {cls:=.type "slice",data:=.fields #[.none,.none,.int (-1) t]}}:=I2.kept (t':=s2.toks) λb ob q=>V9 _ q;obtain⟨T,id,hT,ht,hg⟩:=hr Y {s2 with heap:=s2.1.push {cls:=.type "slice",data:=.fields #[.none,.none,.int (-1) t]}} σ H2 x v t s2.1.1.size Q I4 r1 (Heap.IsSliceOf.new ..) q2;show Ww (WN X.prog X.w) X.A (subscriptTail e (.Slice B? B? (A? (.UnaryOp .USub (.Constant (.int 1) 0 p3) p4)) p2) v (.ref s2.1.1.size)) (EP X Y σ Q) X.xe {s2 with heap:=s2.1.push {cls:=.type "slice",data:=.fields #[.none,.none,.int (-1) t]}};exact tail_any (ops:=[v,.ref s2.1.1.size]) ht hT hg (by with_unfolding_all rfl)
def yU(K:Wf):V->Hp->VK->Prop:=λx H Q=>∃a xs,x=.ref a/\SqT K H a xs/\∀p,H p=B?->Q (.ref p) (upd H p (.tup xs.reverse))
theorem Vals.rev(r:Vals xs us):Vals xs.reverse us.reverse:=by
 induction r with
 |nil=>exact .nil
 |cons r1 r2 ih=>rw[Xx,Xx];exact ih.append (.cons r1 .nil)
theorem wP:BkR X (yU X.K):=by
 intro Y s σ H x v t sl Q I rx hs h;obtain⟨a,xs,rfl,hx,q⟩:=h;cases rx;obtain⟨its,r,ht,hz⟩:=I.tuple hx;have hlen:its.toArray.size=xs.length:=by rw[Wn];exact r.length.symm
 refine⟨"tuple",_,Xg.lookup,ht.typeIs,?_⟩;refine HT.getItem_tuple_back ht hs ?_ (by rw[hlen];exact hz);refine⟨.ref s.1.1.size,_,I.laid (t':=s.toks) (o:=.tup xs.reverse) (λb ob q=>V9 _ q) (Wc _) ?_,D?,q _ (I.hok.fresh (Wc _))⟩;exact⟨by rw[YS];exact hz,_,0,r.rev,Wh _ rfl⟩
end
open PySem.Calls
section
variable{X:Cx}
end
section
variable{X:Cx}
def isStr(z:WE):V8->Bool
 |.str y _=>y == z
 |_=>C?
def uT(K:Wf):V->List V->Hp->VK->Prop:=λx vs H Q=>∃(l:V6)(zs:List WE)(z:WE)(j:Nat),x=.ref l/\vs=[.str z]/\SqL K H l (zs.map B!)/\zs[j]?=A? z/\(∀i,i<j->zs[i]?≠A? z)/\zs.length<=100000/\Q (.int (j:Nat)) H
theorem mw:MtM X "list.index" (uT X.K):=by
 intro Y s σ H x vs v us Q I rx rv h;obtain⟨l,zs,z,j,rfl,rfl,hS,hj,zt,hz,q⟩:=h;cases rx;obtain⟨u,rfl,t,rfl⟩:=rv.one;obtain⟨its,r,pl,_⟩:=I.list hS;have hlen:=r.length;rw[V2]at hlen;obtain⟨⟨cls,dd,data,sl⟩,ho,hc,n,hd⟩:=pl.isList;simp only at hc hd;subst hc hd;have Dg:j<zs.length:=(glE hj)
 have get:∀m,m<zs.length->∃y t',its[m]?=A? (.str y t')/\zs[m]?=A? y:=λm hm=>by
  obtain⟨v,hv,rv⟩:=r.get (i:=m) (x:=.str zs[m]) (by rw[V7,V4 hm];rfl);obtain⟨t',rfl⟩:=rv;exact⟨_,t',hv,V4 hm⟩
 refine call_meets PySem.F.slot_list_index ⟨_,ho,rfl⟩ PySem.F.entry_list_index (PySem.F.args_list_index_2 _ _)
  (SeqAt.list_indexAt l its.toArray n dd sl (.str z t) (isStr z) j (by rw[Wn];lia) (by lia) ?_ ?_) ⟨ho,λy hy=>?_,⟨.int (j:Nat),H,I.tok _,⟨_,rfl⟩,q⟩⟩
 .obtain⟨y,t',h1,h2⟩:=get j Dg;rw[hj]at h2;cases h2
  have h3:its.toArray[j]'(by rw[Wn];lia)=.str z t':=by
   rw[V4 (by lia)]at h1;simpa using h1
  rw[h3];show(z == z)=Bq;simp
 .intro m hm zf;obtain⟨y,t',h1,h2⟩:=get m (by lia)
  have h3:its.toArray[m]'hm=.str y t':=by
   rw[V4 (by lia)]at h1;simpa using h1
  rw[h3];show(y == z)=C?;refine Bool.eq_false_iff.mpr λe=>zt m zf ?_;rw[h2,beq_iff_eq.mp e]
 .have EC:y∈its:=by simpa using hy
  obtain⟨m,hm,rfl⟩:=List.getElem_of_mem EC;obtain⟨y,t',h1,h2⟩:=get m (by lia);rw[V4 hm]at h1;have h3:=Wi h1;rw[h3];exact SeqAt.EqAt.str_str _ _ _ _
end
end L2
namespace BB
open PySem L2
structure GoodN(ks:List (WE×Int)):Prop where
 ne:1<=ks.length
 le:ks.length<=8
 low:∀k∈ks,Low k.1/\k.1.length<=8
 num:∀k∈ks,0<=k.2/\k.2<=3
 zero:∃k∈ks,k.2=0
 nd:∀(i j:Nat)(k l:WE×Int),ks[i]?=A? k->ks[j]?=A? l->k.1=l.1->i=j
mutual
def Th.FitS(ks:List (WE×Int))(S C:Int):Th->Prop
 |.knot n ts=>(n,(ts.length:Int))∈ks/\FitSs ks S C ts
 |.call s k=>0<=s/\s<S/\0<=k/\k<C
def FitSs(ks:List (WE×Int))(S C:Int):List Th->Prop
 | []=>True
 |t::ts=>t.FitS ks S C/\FitSs ks S C ts
end
theorem FitSs.of{ks:List (WE×Int)}{S C:Int}:∀{ts:List Th},(∀t∈ts,t.FitS ks S C)->FitSs ks S C ts
 | [],_=>by rw[FitSs];trivial
 | t::ts,h=>by
   rw[FitSs];exact⟨h t (Wj ..),FitSs.of λu hu=>h u (Wo _ hu)⟩
theorem m7{ts:List Th}(h:∀t∈ts,t.tall<=n):bD ts<=n:=by
 induction ts with
 |nil=>rw[bD];exact WY _
 | cons t ts ih =>
   rw[bD];have h1:=h t (Wj ..);have h2:=ih λu hu=>h u (Wo _ hu);lia
def SameB(l:V6)(H H':Hp):Prop:=∀b o,b≠l->H b=A? o->H' b=A? o
theorem SameB.refl:SameB l H H:=λ_ _ _ e=>e
theorem SameB.trans{A B C:Hp}(h:SameB l A B)(k:SameB l B C):SameB l A C:=λb o hb e=>k b o hb (h b o hb e)
theorem SameB.of(h:j! H H'):SameB l H H':=λb o _ e=>h b o e
theorem SameB.set:SameB l H (upd H l o):=λb o hb e=>by rw[aj hb];exact e
theorem SameB.kt(h:SameB l H H')(e:H l=A? (.lst xs)):KT H H':=λb ys eb=>h b _ (aF eb e (by intro z;cases z)) eb
def RowAt(H:Hp)(row:List Th)(a:V6):Prop:=∃as:List V6,H a=A? (.tup (as.map k!))/\Ats H row as
theorem RowAt.mono(k:KT H H')(h:RowAt H row a):RowAt H' row a:=by
 obtain⟨as,h1,h2⟩:=h;exact⟨as,k _ _ h1,h2.mono k⟩
structure BookAt(H:Hp)(ins outs:List (WE×Int))(head:Th)(rows:List (List Th))(r ia oa ha ra:V6)(zy zK zH:List V6):Prop where
 bk:H r=A? (.tup [.ref ia,.ref oa,.ref ha,.ref ra])
 inE:H ia=A? (.tup (zy.map k!))
 inK:KsAt H ins zy
 outE:H oa=A? (.tup (zK.map k!))
 outK:KsAt H outs zK
 hd:At H head ha
 rl:H ra=A? (.tup (zH.map k!))
 rw:WL (RowAt H) rows zH
theorem BookAt.mono(k:KT H H'){r ia oa ha ra:V6}{zy zK zH:List V6}(b:BookAt H ins outs head rows r ia oa ha ra zy zK zH):BookAt H' ins outs head rows r ia oa ha ra zy zK zH :=
 ⟨k _ _ b.bk,k _ _ b.inE,b.inK.mono k,k _ _ b.outE,b.outK.mono k,b.hd.mono k,k _ _ b.rl,t! (λ_ _ e=>e.mono k) b.rw⟩
theorem fC{ks:List (WE×Int)}:∀{ts:List Th},Fits ks ts->∀t∈ts,t.Fit ks
 | [],_,t,ht=>by cases ht
 | a::ts,h,t,ht=>by
   rw[Fits]at h;rcases Wr.mp ht with rfl|ht
   .exact h.1
   .exact fC h.2 t ht
def Bk(H:Hp)(ins outs:List (WE×Int))(head:Th)(rows:List (List Th))(r:V6):Prop:=∃ia oa ha ra zy zK zH,BookAt H ins outs head rows r ia oa ha ra zy zK zH
theorem Bk.mono(k:KT H H'){r:V6}(b:Bk H ins outs head rows r):Bk H' ins outs head rows r:=by
 obtain⟨ia,oa,ha,ra,zy,zK,zH,b⟩:=b;exact⟨ia,oa,ha,ra,zy,zK,zH,b.mono k⟩
end BB
open BB.SameB renaming of->y!,set->z!
open BB.Th renaming FitS->H!
namespace L2
open PySem PySem.Spec PySem.Calls PyProof.Rows PySem.SeqAt
end L2
namespace BB
open PySem L2
end BB
namespace L2
open PySem PySem.Spec PyProof.Rows
section
variable{X:Cx}{te:TE}{p p2 zz:Zb}
end
end L2
namespace BB
open PySem L2
theorem gP{F:Hp->α->V6->Prop}{g:TG}{te:TE}(zs:List α)(hF:∀H1 H2 z p,KT H1 H2->F H1 z p->F H2 z p)(hz:zs.length=xs.length)(hn:xs.length<=1000000)
 (FV:∀i H2,j! H H2->i<xs.length->J.go i H2) (AJ:∀H2,j! H H2->J.stop xs.length H2) (Ci:∀(i:Nat)H2 x H3,j! H H2->i<xs.length->J.yld i H2 x H3->H3=H2/\xs[i]?=A? x)
 (hb:∀(i:Nat)x z H2(R:VK)(W':Hp->Prop),xs[i]?=A? x->zs[i]?=A? z->j! H H2->(∀H3 p,j! H2 H3->F H3 z p->R (.ref p) H3)->g x (cσ js σ) H2 λzl H3=>tt zl H3 λb H4=>if b=Bq then te zl H4 R else W' H4)
 (zX:∀D H' as,H D=B?->j! H H'->H' D=A? (.lst (as.map k!))->WL (F H') zs as->fin D H') :
 ∀D,H D=B?->∃(n:Nat)(W:Nat->Hp->Prop),W 0 (upd H D (.lst []))/\fV js g tt te σ J D n W λH'=>fin D H':=by
 intro D hD;refine⟨xs.length,λi H'=>i<=xs.length/\j! H H'/\∃as:List V6,H' D=A? (.lst (as.map k!))/\WL (F H') (zs.take i) as,⟨WY _,ao hD _,[],by rw[ac];rfl,.nil⟩,?_⟩;rintro i H' ⟨hi,s1,as,e1,hp⟩;by_cases zf:i<xs.length
 .refine .inr ⟨zf,FV i H' s1 zf,λv H1 hy=>?_⟩;obtain⟨e,hx⟩:=Ci i H' v H1 s1 zf hy;subst e;obtain⟨z,DH⟩:∃z,zs[i]?=A? z:=⟨_,V4 (by lia)⟩;have hl:(zs.take i).length=as.length:=Wx hp;rw[W9]at hl;refine hb i v z _ _ _ hx DH s1 λH3 p s3 Mt=>⟨_,s3 _ _ e1,?_,zf,aM (s1.trans s3) hD,as++[p],?_,?_⟩
  .rw[V2];have:WD=16777216:=Zw;lia
  .rw[ac,WB];rfl
  .have kt:KT H3 (upd H3 D (.lst (as.map k!++[.ref p]))):=cL (s3 _ _ e1);rw[take_snoc DH];exact v! (t! (λx y e=>hF _ _ _ _ ((n! s3).trans kt) e) hp) (.cons (hF _ _ _ _ kt Mt) .nil)
 .have BM:i=xs.length:=by lia
  subst BM;refine .inl ⟨AJ _ s1,zX D H' as hD s1 e1 ?_⟩;rw[Xv (by lia)]at hp;exact hp
theorem qZ{F:Hp->α->V6->Prop}{g:TG}{te:TE}(zs:List α)(hF:∀H1 H2 z p,KT H1 H2->(∀o,H1 p=A? o->H2 p=A? o)->F H1 z p->F H2 z p)(hz:zs.length=xs.length)(hn:xs.length<=1000000)
 (FV:∀i H2,j! H H2->i<xs.length->J.go i H2) (AJ:∀H2,j! H H2->J.stop xs.length H2) (Ci:∀(i:Nat)H2 x H3,j! H H2->i<xs.length->J.yld i H2 x H3->H3=H2/\xs[i]?=A? x)
 (hb:∀(i:Nat)x z H2(R:VK)(W':Hp->Prop),xs[i]?=A? x->zs[i]?=A? z->j! H H2->(∀H3 p,j! H2 H3->H2 p=B?->F H3 z p->R (.ref p) H3)->g x (cσ js σ) H2 λzl H3=>tt zl H3 λb H4=>if b=Bq then te zl H4 R else W' H4)
 (zX:∀D H' as,H D=B?->j! H H'->H' D=A? (.lst (as.map k!))->WL (F H') zs as->fin D H') :
 ∀D,H D=B?->∃(n:Nat)(W:Nat->Hp->Prop),W 0 (upd H D (.lst []))/\fV js g tt te σ J D n W λH'=>fin D H':=by
 intro D hD;refine⟨xs.length,λi H'=>i<=xs.length/\j! H H'/\∃as:List V6,H' D=A? (.lst (as.map k!))/\WL (λz a=>F H' z a/\a≠D) (zs.take i) as,⟨WY _,ao hD _,[],by rw[ac];rfl,.nil⟩,?_⟩;rintro i H' ⟨hi,s1,as,e1,hp⟩;by_cases zf:i<xs.length
 .refine .inr ⟨zf,FV i H' s1 zf,λv H1 hy=>?_⟩;obtain⟨e,hx⟩:=Ci i H' v H1 s1 zf hy;subst e;obtain⟨z,DH⟩:∃z,zs[i]?=A? z:=⟨_,V4 (by lia)⟩;have hl:(zs.take i).length=as.length:=Wx hp;rw[W9]at hl;refine hb i v z _ _ _ hx DH s1 λH3 p s3 np Mt=>⟨_,s3 _ _ e1,?_,zf,aM (s1.trans s3) hD,as++[p],?_,?_⟩
  .rw[V2];have:WD=16777216:=Zw;lia
  .rw[ac,WB];rfl
  .have kt:KT H3 (upd H3 D (.lst (as.map k!++[.ref p]))):=cL (s3 _ _ e1);have B4:p≠D:=λz=>by rw[z,e1]at np;cases np
   rw[take_snoc DH];exact v! (t! (λx y e=>⟨hF _ _ _ _ ((n! s3).trans kt) (λo ho=>by rw[aj e.2];exact s3 _ _ ho) e.1,e.2⟩) hp) (.cons ⟨hF _ _ _ _ kt (λo ho=>by rw[aj B4];exact ho) Mt,B4⟩ .nil)
 .have BM:i=xs.length:=by lia
  subst BM;refine .inl ⟨AJ _ s1,zX D H' as hD s1 e1 ?_⟩;rw[Xv (by lia)]at hp;exact t! (λ_ _ e=>e.1) hp
end BB
namespace L2
open PySem PySem.Spec PyProof.Rows
theorem us1:∀{us:List α},us.length=1->∃a,us=[a]
 | [a],_=>⟨a,rfl⟩
theorem us2:∀{us:List α},us.length=2->∃a b,us=[a,b]
 | [a,b],_=>⟨a,b,rfl⟩
theorem us3:∀{us:List α},us.length=3->∃a b c,us=[a,b,c]
 | [a,b,c],_=>⟨a,b,c,rfl⟩
theorem us4:∀{us:List α},us.length=4->∃a b c d,us=[a,b,c,d]
 | [a,b,c,d],_=>⟨a,b,c,d,rfl⟩
theorem us5:∀{us:List α},us.length=5->∃a b c d e,us=[a,b,c,d,e]
 | [a,b,c,d,e],_=>⟨a,b,c,d,e,rfl⟩
end L2
namespace PySem
open Sem (wp)
section
variable{K:Type}[DecidableEq K]{knd:HeapKind prog w K}
end
end PySem
namespace L2
open PySem PySem.Spec PyProof.Rows BB
end L2
namespace BB
open PySem L2
end BB
namespace PySem
open Sem (wp)
section
variable{I:V6}{wr:List V6}{G:Array GenState->Array GenState->Prop}{P:Nat->V8->Prop}{St:Nat->Wd->Prop}
end
end PySem
namespace L2
open PySem PySem.Spec PyProof.Rows
section
variable{X:Cx}{o:Xb}{to te:TE}{p2 zz apos zo:Zb}
end
end L2
namespace PySem
open Sem (wp)
namespace F
end F
section
variable{xs:Array V8}{k:Nat}
end
end PySem
namespace L2
open PySem PySem.Spec PyProof.Rows
section
variable{X:Cx}
end
end L2
namespace BB
open PySem L2
end BB
namespace PySem
end PySem
namespace L2
open PySem PySem.Spec PyProof.Rows
section
variable{X:Cx}{e1 e2:Xb}{t:TA}{p2 zz:Zb}
end
end L2
namespace BB
open PySem L2
noncomputable section
local instance:DecidableEq Th:=λ_ _=>Classical.propDecidable _
mutual
def post:Th->List Th->List Th
 |.knot n ks,L=>if p! n ks∈aP ks L then aP ks L else aP ks L++[.knot n ks]
 |.call s k,L=>if r! s k∈L then L else L++[.call s k]
def aP:List Th->List Th->List Th
 | [],L=>L
 |t::ts,L=>aP ts (post t L)
end
theorem post_eq(t:Th)(L:List Th):post t L=if t∈aP t.kids L then aP t.kids L else aP t.kids L++[t]:=by
 cases t with
 |knot n ks=>rw[post];rfl
 |call s k=>rw[post,Th.kids,aP]
theorem dL:∀(a b:List Th)(L:List Th),aP (a++b) L=aP b (aP a L)
 | [],b,L=>by rw[List.nil_append,aP]
 |t::a,b,L=>by rw[List.cons_append,aP,aP,dL a b]
def bZ(L:List Th):Prop:=∀t∈L,∀u∈t.kids,u∈L
theorem ut{t u:Th}(h:u∈t.kids):u.size<t.size:=by
 rw[t.size_eq]
 have:∀ts:List Th,u∈ts->u.size<=aq ts:=by
  intro ts;induction ts with
  |nil=>intro h;cases h
  | cons x ts ih =>
    intro h;rw[aq];rcases Wr.mp h with rfl|h
    .lia
    .have:=ih h;lia
 have:=this _ h;lia
theorem tP:∀(n:Nat),(∀(t:Th)(L:List Th),t.size<=n->bZ L->L.Nodup->(∃M,post t L=L++M/\∀u∈M,u.size<=t.size)/\bZ (post t L)/\(post t L).Nodup/\t∈post t L) /\
 (∀(ts:List Th)(L:List Th),aq ts<=n->bZ L->L.Nodup->(∃M,aP ts L=L++M/\∀u∈M,u.size<=aq ts)/\bZ (aP ts L)/\(aP ts L).Nodup/\∀t∈ts,t∈aP ts L):=by
 intro n;induction n with
 | zero =>
   refine⟨λt L h=>?_,λts L h hc hn=>?_⟩
   .have:=t.size_eq;lia
   .cases ts with
    |nil=>rw[aP];exact⟨⟨[],by simp,λu hu=>by cases hu⟩,hc,hn,λt ht=>by cases ht⟩
    | cons t ts =>
      rw[aq]at h;have:=t.size_eq;lia
 | succ n ih =>
   have hT:∀(t:Th)(L:List Th),t.size<=n+1->bZ L->L.Nodup->(∃M,post t L=L++M/\∀u∈M,u.size<=t.size)/\bZ (post t L)/\(post t L).Nodup/\t∈post t L:=by
    intro t L h hc hn;have hs:=t.size_eq;obtain⟨⟨M,hM,KZ⟩,h2,h3,h4⟩:=ih.2 t.kids L (by lia) hc hn;rw[post_eq];by_cases hm:t∈aP t.kids L
    .rw[b! hm];exact⟨⟨M,hM,λu hu=>by have:=KZ u hu;lia⟩,h2,h3,hm⟩
    .rw[a! hm];refine⟨⟨M++[t],by rw[hM,YN],λu hu=>?_⟩,λx hx u hu=>?_,?_,WK _ (Wj ..)⟩
     .rcases Wm.mp hu with hu|hu
      .have:=KZ u hu;lia
      .rw[We.mp hu];exact Wc _
     .rcases Wm.mp hx with hx|hx
      .exact Wt _ (h2 x hx u hu)
      .rw[We.mp hx]at hu;exact Wt _ (h4 u hu)
     .rw[XI];refine⟨h3,by simp,λa ha b hb=>?_⟩;rw[We.mp hb];exactλz=>hm (z ▸ ha)
   refine⟨hT,λts=>?_⟩;induction ts with
   |nil=>intro L _ hc hn;rw[aP];exact⟨⟨[],by simp,λu hu=>by cases hu⟩,hc,hn,λt ht=>by cases ht⟩
   | cons t ts IK =>
     intro L h hc hn;rw[aq]at h;obtain⟨⟨M,hM,KZ⟩,h2,h3,h4⟩:=hT t L (by lia) hc hn;obtain⟨⟨N,hN,RN⟩,g2,g3,g4⟩:=IK (post t L) (by lia) h2 h3;rw[aP];refine⟨⟨M++N,by rw[hN,hM,YN],λu hu=>?_⟩,g2,g3,λx hx=>?_⟩
     .rw[aq];rcases Wm.mp hu with hu|hu
      .have:=KZ u hu;lia
      .have:=RN u hu;lia
     .rcases Wr.mp hx with rfl|hx
      .rw[hN];exact Wt _ h4
      .exact g4 x hx
theorem g7(t:Th)(hc:bZ L)(hn:L.Nodup):(∃M,post t L=L++M/\∀u∈M,u.size<=t.size)/\bZ (post t L)/\(post t L).Nodup/\t∈post t L:=(tP t.size).1 t L (Wc _) hc hn
theorem jW:∀(n:Nat),(∀(t:Th)(L:List Th),t.size<=n->bZ L->t∈L->post t L=L)/\(∀(ts:List Th)(L:List Th),aq ts<=n->bZ L->(∀t∈ts,t∈L)->aP ts L=L):=by
 intro n;induction n with
 | zero =>
   refine⟨λt L h=>?_,λts L h hc hm=>?_⟩
   .have:=t.size_eq;lia
   .cases ts with
    |nil=>rw[aP]
    | cons t ts =>
      rw[aq]at h;have:=t.size_eq;lia
 | succ n ih =>
   have hT:∀(t:Th)(L:List Th),t.size<=n+1->bZ L->t∈L->post t L=L:=by
    intro t L h hc hm;have hs:=t.size_eq;rw[post_eq,ih.2 t.kids L (by lia) hc (hc t hm),b! hm]
   refine⟨hT,λts=>?_⟩;induction ts with
   |nil=>intro L _ _ _;rw[aP]
   | cons t ts IK =>
     intro L h hc hm;rw[aq]at h;rw[aP,hT t L (by lia) hc (hm t (Wj ..))];exact IK L (by lia) hc λx hx=>hm x (Wo _ hx)
theorem vp{t:Th}(hc:bZ L)(h:t∈L):post t L=L:=(jW t.size).1 t L (Wc _) hc h
theorem lB{ts:List Th}(hc:bZ L)(h:∀t∈ts,t∈L):aP ts L=L:=(jW (aq ts)).2 ts L (Wc _) hc h
theorem sS{t c:Th}{pre rest:List Th}(hc:bZ L)(hn:L.Nodup)(hk:t.kids=pre++c::rest)(hp:∀u∈pre,u∈L):post t L=post t (post c L):=by
 obtain⟨⟨M,hM,_⟩,h2,h3,h4⟩:=g7 c hc hn;have e1:aP t.kids L=aP rest (post c L):=by rw[hk,dL,lB hc hp,aP]
 have e2:aP t.kids (post c L)=aP rest (post c L):=by
  rw[hk,dL,lB h2 (λu hu=>by rw[hM];exact Wt _ (hp u hu)),aP,vp h2 h4]
 rw[post_eq,post_eq t (post c L),e1,e2]
theorem sf{t:Th}(hc:bZ L)(hk:∀u∈t.kids,u∈L)(h:t∉L):post t L=L++[t]:=by
 rw[post_eq,lB hc hk,a! h]
def finish:List Th->List Th->List Th
 | [],L=>L
 |t::ts,L=>finish ts (post t L)
end
end BB
namespace PySem
open Sem (wp)
section
variable{K:Type}[DecidableEq K]{knd:HeapKind prog w K}
theorem bb_setDefault_heap{xs:List (K×V6×V8)}{k:K}{v:V8}(hu:knd.room A)(Bu:knd.is s.1 k a)(hm:s.1.DictOfH knd d xs)
 (F5:∀p,atKey xs k=A? p->Q p.2 {s with toks:=s.toks+knd.draws k})
 (FR:atKey xs k=B?->∀h',h'.DictOfH knd d (storedH xs k a v)->XA d s.1 h'->Q v {s with heap:=h',toks:=s.toks+knd.draws k})
 (hsz:xs.length<=WD):Ww (WN prog w) A (dictSetDefault d (.ref a) v) Q E s:=by
 obtain⟨o,es,ep,ho,hc,hd,he,K0,hn⟩:=hm;unfold dictSetDefault
 try with_reducible refine Xq ?_
 refine V3 (knd.pyHash hu Bu ?_);refine V3 (wpAny_dictFind_heap (s:={s with toks:=s.toks+knd.draws k}) hu Bu ho hd he K0 hn ?_ ?_)
 .intro zt;have Mu:k∉xs.map (·.1):=not_mem_keys_of_get zt
  refine V3 (wpAny_rule (V3 (wpAny_updateDictKeys (hz:=by have e:=size_of_entries he;lia) (s:={s with toks:=s.toks+knd.draws k}) ho hd (Wa (FR (atKey_none_of_get zt) _ ⟨_,_,ep+1,Xr _ ho (Obj.isFreed_of_dict (Obj.data_mapDictKeys hd _)),
   hc.mapDictKeys _,Obj.data_mapDictKeys hd _,?_,?_,?_⟩ (XJ ..))))))
  .rw[storedH_new (atKey_none_of_get zt)];simp[he,entryOfKey]
  .rw[storedH_new (atKey_none_of_get zt)];intro x hx;rcases Wm.mp hx with hx|hx
   .exact knd.keeps (K0 x hx) ho hd (XJ ..)
   .simp only[We]at hx;subst hx;exact knd.keeps Bu ho hd (XJ ..)
  .rw[storedH_new (atKey_none_of_get zt)];rw[WB,XI];refine⟨hn,by simp,?_⟩;intro x hx y hy;simp only[WH,Ym,We]at hy;subst hy;exactλe=>Mu (e ▸ hx)
 .intro j p hj;have h1:=F5 _ (atKey_of_get hn hj);refine V3 (Yz (s:={s with toks:=s.toks+knd.draws k}) ho hd ?_);rw[entry_at he j,hj];exact V3 (wpAny_rule (Wa h1))
theorem bb_meets_setdefault(knd:HeapKind prog w K)(d a:V6)(dflt:V8)(hd:(d == XY)=C?) :
 MeetsIn prog w (Y6.«dict.setdefault» ⟨[.ref d,.ref a,dflt],[]⟩) (λA R s=>knd.room A.in1/\∃k xs,knd.is s.1 k a/\s.1.DictOfH knd d xs/\xs.length<=WD /\
  (∀p,atKey xs k=A? p->R (.ok (.ret p.2)) {s with toks:=s.toks+knd.draws k}) /\
  (atKey xs k=B?->∀h',h'.DictOfH knd d (storedH xs k a dflt)->XA d s.1 h'->R (.ok (.ret dflt)) {s with heap:=h',toks:=s.toks+knd.draws k})) :=
 .of_wp λA R s⟨hu,k,xs,Bu,hm,hz,h1,h2⟩=>by
  unfold Y6.«dict.setdefault»;refine V3 ?_;unfold Builtin.Dict.keyAndDefault;have hT:s.TypeIs (.ref d) "dict":=hm.typeIs;refine V3 (wpAny_notOrdered_dict hT ?_);show Ww _ _ (pure (d,W3 a,A? dflt)) _ _ s;refine Wa ?_;show Ww _ _ (if(d == XY)=Bq then _ else(dictSetDefault d (.ref a) dflt >>= _)) _ _ s;rw[a! (by rw[hd];exact Wz)];exact V3 (bb_setDefault_heap hu Bu hm (λp hp=>Wa ⟨_,rfl,h1 p hp⟩) (λhn h' Mr Bl=>Wa ⟨_,rfl,h2 hn h' Mr Bl⟩) hz)
end
end PySem
namespace L2
open PySem PySem.Spec PyProof.Rows
def vx:V->List V->Hp->VK->Prop:=λx vs H Q=>∃(a b:V6)(v:V)(k:List Key)(kvs:List (List Key×V)),x=.ref a/\vs=[.ref b,v]/\H a=A? (.dT kvs)/\H b=A? (.tup (k.map kV))/\kvs.length<WD /\
 (∀u,bz kvs k=A? u->Q u H)/\(bz kvs k=B?->Q v (upd H a (.dT (putK kvs k v))))
theorem ip{X:Cx}(hu:X.A.units+1<Zx):MtM X "dict.setdefault" vx:=by
 intro Y s σ H x vs v us Q I rx rv h;obtain⟨a,b,y,k,kvs,rfl,rfl,e,eb,l,q1,q2⟩:=h;cases rx;cases rv with
 |cons r1 rv =>
 cases rv with
 |cons r2 rv =>
 cases rv;cases r1;obtain⟨z,hd,xs,rel,dd⟩:=rK I.hok e;have hz:xs.length<=WD:=by rw[<-Wx rel];exact z
 have hl:(putK kvs k y).length<=WD:=by have:=eL kvs k y;lia
 have hT:s.TypeIs (.ref a) "dict":=dd.typeIs;refine call_meetsIn Z9 hT PySem.F.entry_dict_setdefault (PySem.F.args_dict_setdefault_3 _ _ _) (bb_meets_setdefault (tupleKind (bw X.prog X.w)) a b _ hd) ⟨ZV hu,k,xs,jK I.hok eb,dd,hz,λp hp=>?_,λhn h' EH hs=>?_⟩
 .have hr:=rel.val k;rw[hp]at hr;cases hv:bz kvs k with
  |none=>rw[hv]at hr;exact hr.elim
  | some u =>
    rw[hv]at hr;exact⟨u,H,I.tok _,hr,q1 u hv⟩
 .have hr:=rel.val k;rw[hn]at hr;cases hv:bz kvs k with
  |some u=>rw[hv]at hr;exact hr.elim
  | none =>
    refine⟨y,_,?_,r2,q2 hv⟩;obtain⟨q,es,ep,hq,h2,h3,h4,_,h5⟩:=EH;refine kg I (by rw[e];exact ZH) hs ⟨q,hq⟩ ⟨hl,hd,_,(rel.put k eb r2).keeps λc ys ec=>?_,q,es,ep,hq,h2,h3,h4,h5⟩;rw[aj (aF ec e (λz=>nomatch z))];exact ec
end L2
namespace PySem
open Sem (wp)
section
variable{R:Result->Wd->Prop}
theorem bb_key_loop{S:V6}{es:Array DictEntry}{od:X6}(hh:A.in1.handled=B?)(hz:es.size<=WD)(F6:S≠it)(IL:S≠d)(RO:d≠it)(g2:od.data=.dict es ep)(res:V8) :
 ∀(k i:Nat)(s:Wd)(acc:Array V8)(c:Nat),es.size - i=k->i<=es.size->s.1.IsKeyIter it d i es.size ep->s.1.get? d=A? od->s.1.get? S=A? {cls:=.type "list",dict:=B?,data:=.seq acc c,slots:=#[]}->acc.toList=(es.toList.take i).map (·.key) ->
 (∀h' An c',(∀b o,b≠S->b≠it->s.1.get? b=A? o->h'.get? b=A? o)->h'.get? S=A? {cls:=.type "list",dict:=B?,data:=.seq An c',slots:=#[]}->An.toList=es.toList.map (·.key)->R (.ok (.ret res)) {s with heap:=h'}) ->
 Zt (WN prog w) A (.builtin "list.extend.loop" ⟨[.ref S,.ref it,res],[]⟩) R s:=by
 intro k;induction k with
 | zero =>
   intro i s acc c hk hi hit hd hS zA hR;have z9:i=es.size:=by lia
   subst z9;refine Zn F.entry_extend_loop ?_;rw[Yx X8 _];show Ww _ A.in1 (Y8 (.ref it) >>= _) _ _ s;refine V3 (bb_keyEnd hh hit hd g2 (Wc _) λh' zD=>Wa ?_);refine hR h' acc c (λb o _ hb e=>zD b o hb e) (zD _ _ F6 hS) ?_;rw[zA,Xv (by rw[WO];lia)]
 | succ k ih =>
   intro i s acc c hk hi hit hd hS zA hR;have zf:i<es.size:=by lia
   refine Zn F.entry_extend_loop ?_;rw[Yx X8 _];show Ww _ A.in1 (Y8 (.ref it) >>= _) _ _ s;have hx:es[i]?=A? es[i]:=YG zf
   have Ay:acc.size=i:=by
    have:=h! XG zA;rw[WO,V2,W9,WO]at this;lia
   refine V3 (bb_keyNext hit hd g2 hx λh' Mv zD=>?_);have Ef:=(zD.2 S F6).trans hS;have HV:=(zD.2 d RO).trans hd;show Ww _ A.in1 (updateSeq S (·.push es[i].key) >>= _) _ _ _;refine V3 ?_;have Cz:∀b o,b≠S->h'.get? b=A? o->(h'.update S (Xs (·.push es[i].key))).get? b=A? o:=λb o hb e=>(XE _ _ (Yc hb)).trans e
   refine X1 Ef rfl (Wa ⟨Y0 X8 _,ih (i+1) _ (acc.push es[i].key) _ (by lia) zf (Mv.at λo e=>Cz _ _ (Yc F6) e) (Cz _ _ (Yc IL) HV) (Xr _ Ef rfl) ?_ λG' An c' F0 F1 DJ=>?_⟩)
    (by rw[Ay];lia) (by show(acc.push _).size<=WD+1;rw[Array.size_push,Ay];lia)
   .rw[Array.toList_push,zA,X4,V4 (by rw[WO];exact zf),WB];simp
   .exact hR G' An c' (λb o hb hb2 e=>F0 b o hb hb2 (Cz b o hb ((zD.2 b hb2).trans e))) F1 DJ
end
theorem bb_list_keys{es:Array DictEntry}{od:X6}(hh:A.in1.in1.handled=B?)(ns:(d == XY)=C?)(hd:s.1.get? d=A? od)(gc:od.cls=.type "dict")(g2:od.data=.dict es ep)(hz:es.size<=WD)
 (hQ:∀h' acc c,(∀b o,s.1.get? b=A? o->h'.get? b=A? o)->h'.get? s.1.1.size=A? {cls:=.type "list",dict:=B?,data:=.seq acc c,slots:=#[]}->acc.toList=es.toList.map (·.key)->Q (.ref s.1.1.size) {s with heap:=h'}) :
 Ww (WN prog w) A (call (.type "list") [.ref d]) Q E s:=by
 have Dh:=WC hd;have IL:s.1.1.size≠d:=Y4 Dh
 refine callType_codes (Q₁:=λobj l'=>obj=.ref s.1.1.size/\l'={s with heap:=s.1.push {cls:=.type "list",data:=.seq #[]}}) F.called_list (F.typeCall_list_1 _) F.entry_list_init
  (code_list_new _ ⟨rfl,rfl⟩) λobj l' zk=>?_
 obtain⟨rfl,rfl⟩:=zk;have hS:(s.1.push {cls:=.type "list",data:=.seq #[]}).get? s.1.1.size=A? {cls:=.type "list",data:=.seq #[]}:=Wh _ rfl;refine⟨⟨_,hS,D?⟩,F.args_list_init_2 _ _,?_⟩;show Ww _ A.in1.in1 (do let old <-Z8 (.ref s.1.1.size);Builtin.List.listUpdate (.ref s.1.1.size) (λ_=>#[]);letGo old.toList.reverse;Zv (.ref s.1.1.size) (.ref d) .none) _ _ _;refine V3 ?_;unfold Z8;refine V3 (XM hS rfl (Wa ?_));refine V3 (X1 hS rfl ?_);have BO:=Xr (Xs (λ_=>(#[]:Array V8))) hS rfl;refine V3 (YU ?_);have CS:((s.1.push {cls:=.type "list",data:=.seq #[]}).update s.1.1.size (Xs (λ_=>(#[]:Array V8)))).objs.size=s.1.1.size+1:=by rw[Heap.size_update,Xw]
 generalize hH:(s.1.push {cls:=.type "list",data:=.seq #[]}).update s.1.1.size (Xs (λ_=>(#[]:Array V8)))=H2 at BO CS |-
 have old:∀b o,s.1.get? b=A? o->H2.get? b=A? o:=λb o e=>by
  rw[<-hH,XE _ _ (Yc (WT (WC e)))];exact V9 _ e
 obtain⟨c2,Fm⟩:∃c,H2.get? s.1.1.size=A? {cls:=.type "list",data:=.seq #[] c}:=⟨_,BO⟩;have hd2:=old _ _ hd;have IF:({s with heap:=H2}:Wd).TypeIs (.ref d) "dict":=⟨_,hd2,gc⟩;unfold Zv;refine V3 (Z0 IF ?_);have h1:ZS (.ref s.1.1.size) (.ref d)=false:=by simp[ZS,IL]
 have h2:(Zl "dict" == Zl "list")=false:=by decide
 have h3:(Zl "dict" == Zl "tuple")=false:=by decide
 simp only[h1,h2,h3,Bool.or_false,YF,if_false];refine V3 (bb_keyIter (s:={s with heap:=H2}) ns hd2 gc g2 ?_);refine V3 (Xq ?_);have F7:(H2.push {cls:=.type "dict_keyiterator",data:=.fields #[.ref d,.int 0 0,.int es.size 0,.int ep 0]}).IsKeyIter H2.objs.size d 0 es.size ep:=⟨_,Wh _ rfl,rfl,rfl⟩;have K1:∀b o,H2.get? b=A? o->(H2.push {cls:=.type "dict_keyiterator",data:=.fields #[.ref d,.int 0 0,.int es.size 0,.int ep 0]}).get? b=A? o:=λb o e=>V9 _ e;have IM:s.1.1.size≠H2.objs.size:=by rw[CS];lia
 have Mw:d≠H2.objs.size:=by rw[CS];exact WT (Nat.lt_succ_of_lt Dh)
 show Ww _ _ _ _ _ ({s with heap:=H2.push {cls:=.type "dict_keyiterator",data:=.fields #[.ref d,.int 0 0,.int es.size 0,.int ep 0]}}:Wd);generalize H2.push {cls:=.type "dict_keyiterator",data:=.fields #[.ref d,.int 0 0,.int es.size 0,.int ep 0]}=H3 at F7 K1 |-;have Pd:=K1 _ _ hd2;have IP:=K1 _ _ Fm;have Mx:({s with heap:=H3}:Wd).TypeIs (.ref d) "dict":=⟨_,Pd,gc⟩
 have key:∀(h:Xp)(c₁:Nat),h.IsKeyIter H2.objs.size d 0 es.size ep->(∀b o,b≠s.1.1.size->H3.get? b=A? o->h.get? b=A? o)->h.get? s.1.1.size=A? {cls:=.type "list",data:=.seq #[] c₁} ->
  Zt (WN prog w) A.in1 (.builtin "list.extend.loop" ⟨[.ref s.1.1.size,.ref H2.objs.size,.none],[]⟩) (wants (λr zW=>r=.none/\Q (.ref s.1.1.size) zW) E) {s with heap:=h}:=by
  intro h c₁ hit hk DK;refine bb_key_loop hh hz IM IL Mw g2 .none es.size 0 _ #[] c₁ rfl (WY _) hit (hk _ _ (Yc IL) Pd) DK rfl λh' An c' hm Ef zA=>?_;refine⟨D?,hQ h' An c' (λb o e=>?_) Ef zA⟩;have hb:=WT (WC e);exact hm b o hb (by rw[CS];exact WT (Nat.lt_succ_of_lt (WC e))) (hk b o hb (K1 b o (old b o e)))
 unfold Builtin.List.listLengthHint;refine V3 (wpAny_specialOf Mx F.slot_dict_len.lookup ?_);generalize hid:("dict.__len__":String)=RP
 wp_delta
 rw[show splitId RP=A? ("dict","__len__")from by subst hid;decide +kernel];subst hid;refine V3 (wpAny_isInstance (T:="dict") (b:=Bq) Mx (by rw[isSubtype_type];kernel_rfl) ?_);refine wpAny_ite_split (λFn=>g! Fn (by decide)) (λ_=>?_);refine wpAny_ite_split (λ_=>?_) (λFn=>g! (by decide +kernel) Fn);refine V3 (Z0 Mx ?_);refine Wa ?_;refine wpAny_ite_split (λ_=>?_) (λ_=>Wa ⟨Y0 X8 _,key _ c2 F7 (λb o _ e=>e) IP⟩);refine V3 (wpAny_rule ?_);refine V3 ?_;show Ww _ _ (updateSeq s.1.1.size (·.push .none) >>= λ_=>updateSeq s.1.1.size (·.pop)) _ _ _;refine V3 (X1 IP rfl ?_);have BP:=Xr (Xs (·.push XH)) IP rfl;refine X1 (hz:=by seq_fits) BP rfl ?_;have DL:=Xr (Xs (·.pop)) BP rfl
 have Cz:∀b o,b≠s.1.1.size->H3.get? b=A? o->((H3.update s.1.1.size (Xs (·.push XH))).update s.1.1.size (Xs (·.pop))).get? b=A? o :=
  λb o hb e=>(XE _ _ (Yc hb)).trans ((XE _ _ (Yc hb)).trans e)
 exact Wa ⟨Y0 X8 _,key _ _ (F7.at λo e=>Cz _ _ (Yc IM) e) Cz DL⟩
end PySem
namespace L2
open PySem PySem.Spec PyProof.Rows
def xJ:List V->Hp->VK->Prop:=λxs H Q=>∃(a:V6)(kvs:List (List Key×V)),xs=[.ref a]/\H a=A? (.dT kvs)/\∀(l:V6)(bs:List V6),H l=B?->WL (λkv b=>H b=A? (.tup (kv.1.map kV))) kvs bs->Q (.ref l) (upd H l (.lst (bs.map k!)))
theorem uz{ys:List (List Key×V6×V8)}(rel:KTd H kvs ys):WL (λkv b=>H b=A? (.tup (kv.1.map kV))) kvs (ys.map λy=>y.2.1):=by
 induction rel with
 |nil=>exact .nil
 |cons h t ih=>exact .cons h.2.1 ih
theorem ll{X:Cx}(hc:X.calm=Bq):hX X (.type "list") xJ:=by
 intro Y s σ H xs us Q I r h;obtain⟨a,kvs,rfl,e,q⟩:=h;obtain⟨u,rfl,rx⟩:=vals1 r;cases rx;obtain⟨z,hd,ys,rel,dd⟩:=rK I.hok e;have hT:=dd.typeIs;obtain⟨o,es,ep,ho,Vr,Fo,he,K0,hn⟩:=dd;obtain⟨o',BC,zm⟩:=hT;have eo:o'=o:=Wi (BC.symm.trans ho);subst eo;have hl:kvs.length=ys.length:=Wx rel
 have Ck:es.toList.map (·.key)=ys.map λy=>W3 y.2.1:=by
  rw[he,WR];rfl
 have hsz:es.size<=WD:=by
  have:=h! XG Ck;rw[V2,V2,WO]at this;lia
 have hh:X.A.in1.in1.handled=none:=I.ok.hd hc;refine bb_list_keys hh hd BC zm Fo hsz λh' acc c hk hS zA=>?_;have hp:WL (λkv b=>H b=A? (.tup (kv.1.map kV))) kvs (ys.map λy=>y.2.1):=uz rel;refine⟨.ref s.1.1.size,upd H s.1.1.size (.lst ((ys.map λy=>y.2.1).map k!)),?_,D?,q _ _ I.fresh hp⟩;refine I.laid (t':=s.toks) hk (Wc _) ⟨by rw[V2,V2];lia,acc.toList,c,?_,hS⟩;rw[zA,Ck];clear hn K0 he Ck zA hS hl z rel hp q;induction ys with
 |nil=>exact .nil
 |cons y ys ih=>exact .cons rfl ih
open BB
theorem yu{es:List Dv}{ws:List V}(r1:Vals ws its)(Cj:DAts H es ws)(j:Nat)(z:V8)(hz:its[j]?=A? z):∃e y',es[j]?=A? e/\DAt H e y'/\RelV y' z:=by
 have hj:j<its.length:=(glE hz);have l1:=r1.length;have l2:=Cj.length;have Eh:j<es.length:=by lia
 obtain⟨y',EC,dy⟩:=Cj.at (V4 Eh);obtain⟨v',De,F2⟩:=r1.get EC;rw[hz]at De;cases De;exact⟨_,y',V4 Eh,dy,F2⟩
theorem wy{z:V8}{e e':Dv}{y' K2:V}(h1:DAt H e y')(h2:RelV y' z)(h3:DAt H e' K2)(h4:RelV K2 z):e=e':=by
 have:=h2.inj h4;subst this;exact h1.inj h3
def qY(K:Wf)(B:Nat):R2:=λx y H Q=>∃b ws d es,y=.ref b/\SqL K H b ws/\DAt H d x/\DAts H es ws/\gG es<=B/\∀r:Bool,(r=Bq↔d∉es)->Q (.bl r) H
open Classical in
theorem sN{X:Cx}{B:Nat}(hu:X.A.units+B+2<Zx):OpR X (Yk .NotIn) (qY X.K B):=by
 intro Y s σ H x y v u Q I rx ry h;obtain⟨b,ws,d,es,rfl,hb,hd,Cj,hB,q⟩:=h;cases ry;obtain⟨its,r1,p1,_⟩:=I.list hb;have l1:=r1.length;have l2:=Cj.length;refine SeqAt.notIn_listAt (λz=>decide (∃y',DAt H d y'/\RelV y' z)) p1.isList (λz hz=>?_) ⟨.bl _,H,I,rfl,q _ ?_⟩
 .obtain⟨j,hj⟩:=Wg.mp (show z∈its by simpa using hz);obtain⟨e,y',he,dy,ry⟩:=yu r1 Cj j z hj;have hq:=lz he
  have e3:decide (∃y',DAt H d y'/\RelV y' z)=decide (e=d):=by
   by_cases h:e=d
   .rw[d! h,d! ⟨y',h ▸ dy,ry⟩]
   .rw[c! h,c!];rintro⟨K2,h1,h2⟩;exact h (wy dy ry h1 h2)
  rw[e3];refine rh I _ e d (Wc _) y' x z v X.A.in1 dy hd ry rx ?_;show X.A.units+1+_<Zx;lia
 .rw[Bool.not_eq_true',<-Bool.not_eq_true];refine not_congr ?_;constructor
  .intro z;obtain⟨v',h1,h2⟩:=Array.any_eq_true'.mp z;obtain⟨j,hj⟩:=Wg.mp (show v'∈its by simpa using h1);obtain⟨e,y',he,dy,ry⟩:=yu r1 Cj j v' hj;obtain⟨K2,h3,h4⟩:=e! h2;rw[<-wy dy ry h3 h4];exact V5 he
  .intro z;obtain⟨j,hj⟩:=Wg.mp z;obtain⟨y',EC,dy⟩:=Cj.at hj;obtain⟨v',De,F2⟩:=r1.get EC;refine Array.any_eq_true'.mpr ⟨v',?_,d! ⟨y',dy,F2⟩⟩;have:=V5 De;simpa using this
end L2
namespace PySem
open Sem (wp)
section
variable{K:Type}[DecidableEq K](knd:HeapKind prog w K)(d:V6)
theorem bb_meets_len(hd:(d == XY)=C?) :
 MeetsIn prog w (Y6.«dict.__len__» ⟨[.ref d],[]⟩) (λ_ R s=>∃xs,s.1.DictOfH knd d xs/\R (.ok (.ret (.int xs.length s.toks))) {s with toks:=s.toks+1}) :=
 .of_wp λA R s⟨xs,hm,h⟩=>by
  obtain⟨o,es,ep,ho,hc,My,he,hp,hn⟩:=hm;show Ww _ _ (dictSize d >>= _) _ _ s;unfold dictSize;refine V3 (V3 (Yz ho My (Wa ?_)));show Ww _ _ (Builtin.Dict.pendingCount d >>= _) _ _ s;refine V3 (wpAny_pendingCount_other hd ?_);refine wpAny_ret_mkInt ?_
  have:es.size=xs.length:=by
   have:=h! XG he;rw[V2,WO]at this;exact this
  rw[Nat.add_zero,this];exact h
end
section
variable{K:Type}[DecidableEq K]{knd:HeapKind prog w K}
theorem bb_call_len{xs:List (K×V6×V8)}(hd:(d == XY)=C?)(hm:s.1.DictOfH knd d xs)(zR:(xs.length:Int)<2 ^ 63)
 (h:Q (.int xs.length (s.toks+1)) {s with toks:=s.toks+1+1}):Ww (WN prog w) A (call (.builtin "len") [.ref d]) Q E s:=by
 refine Calls.call_function_entry kind_len plain_len entry_len (args_len1 _) ?_;unfold Y6.«len»;refine V3 (m:=oneArg "len" _) (Wa ?_)
 refine V3 (m:=callSpecial? (.ref d) (Wb "__len__")) (Xi (name:=Wb "__len__") hm.typeIs F.slot_dict_len
  (call_meetsIn F.slot_dict_len hm.typeIs F.entry_dict_len (F.args_dict_len_1 _) (bb_meets_len knd d hd) ⟨xs,hm,?_⟩))
 show Ww _ _ _ _ _ {s with toks:=s.toks+1};refine V3 (Xq (Wa ?_));refine V3 (YU ?_);show Ww _ _ (if((xs.length:Nat):Int)<0 then _ else _) _ _ _;rw[a! (by lia)];show Ww _ _ (if((xs.length:Nat):Int) >= 2 ^ 63 then _ else _) _ _ _;rw[a! (by lia)];exact V3 (wpAny_mkInt (Wa ⟨_,rfl,h⟩))
end
end PySem
namespace L2
open PySem PySem.Spec PyProof.Rows
def yi:List V->Hp->VK->Prop:=λxs H Q=>∃(a:V6)(kvs:List (List Key×V)),xs=[.ref a]/\H a=A? (.dT kvs)/\Q (.int kvs.length) H
theorem gJ{X:Cx}:hX X (.builtin "len") yi:=by
 intro Y s σ H xs us Q I r h;obtain⟨a,kvs,rfl,e,q⟩:=h;obtain⟨u,rfl,rx⟩:=vals1 r;cases rx;obtain⟨z,hd,ys,rel,dd⟩:=rK I.hok e;have hl:kvs.length=ys.length:=Wx rel;refine bb_call_len hd dd (by rw[Zw]at z;lia) ?_;rw[<-hl];exact⟨.int kvs.length,H,I.tok _,⟨_,D?⟩,q⟩
end L2
namespace BB
open PySem L2
def dJ(e:WE×List Nat):List Key:=.inr e.1::e.2.map λ(i:Nat)=>(WQ ((i:Nat):Int):Key)
theorem uJ{e f:WE×List Nat}(h:dJ e=dJ f):e=f:=by
 obtain⟨n,is⟩:=e;obtain⟨m,js⟩:=f;unfold dJ at h;obtain⟨h1,h2⟩:=ZY h
 have h3:is=js:=by
  clear h h1;induction is generalizing js with
  | nil=>cases js with
    |nil=>rfl
    |cons j js=>cases h2
  | cons i is ih=>cases js with
    |nil=>cases h2
    | cons j js =>
      rw[WH,WH]at h2;obtain⟨g1,g2⟩:=ZY h2;have g3:=Sum.inl.inj g1;rw[ih js g2,show i=j by lia]
 rw[h3];cases Sum.inr.inj h1;rfl
def kvsOf(E:List (WE×List Nat)):List (List Key×V):=E.zipIdx.map λz=>(dJ z.1,o! (z.2:Nat))
theorem fq(E:List (WE×List Nat)):(kvsOf E).length=E.length:=by unfold kvsOf;rw[V2,List.length_zipIdx]
theorem qp(E:List (WE×List Nat))(e:WE×List Nat):kvsOf (E++[e])=kvsOf E++[(dJ e,o! (E.length:Nat))]:=by
 unfold kvsOf;rw[List.zipIdx_append,WB];simp
theorem mh{E:List (WE×List Nat)}{p:List Key×V}(h:p∈kvsOf E):∃i e,p=(dJ e,o! (i:Nat))/\E[i]?=A? e:=by
 unfold kvsOf at h;obtain⟨z,hz,rfl⟩:=Wv.mp h;exact⟨z.2,z.1,D?,Y9.mp hz⟩
theorem kR{E:List (WE×List Nat)}{e:WE×List Nat}{u:V}(h:bz (kvsOf E) (dJ e)=A? u):∃i:Nat,u=.int (i:Nat)/\E[i]?=A? e:=by
 unfold bz at h;obtain⟨p,hp,rfl⟩:=WA.mp h;obtain⟨i,f,rfl,hf⟩:=mh (List.mem_of_find?_eq_some hp);have hq:=List.find?_some hp;have:=e! (show decide (dJ f=dJ e)=Bq from hq);rw[uJ this]at hf;exact⟨i,D?,hf⟩
theorem iC{E:List (WE×List Nat)}{e:WE×List Nat}(h:bz (kvsOf E) (dJ e)=B?):e∉E/\putK (kvsOf E) (dJ e) (.int (E.length:Nat))=kvsOf (E++[e]):=by
 unfold bz at h;have h1:=Option.map_eq_none_iff.mp h;rw[List.find?_eq_none]at h1;refine⟨λhm=>?_,?_⟩
 .obtain⟨i,hi⟩:=Wg.mp hm;refine h1 (dJ e,o! (i:Nat)) ?_ (d! rfl);unfold kvsOf;exact Wv.mpr ⟨(e,i),Y9.mpr hi,rfl⟩
 .rw[qp];unfold putK;rw[a!];intro z;obtain⟨p,hp,zG⟩:=ZX.mp z;exact h1 p hp zG
structure Cl(E:List (WE×List Nat))(Ts:List Th):Prop where
 len:E.length=Ts.length
 nd:Ts.Nodup
 ent:∀(i:Nat)(e:WE×List Nat),E[i]?=A? e->∃kids,Ts[i]?=A? (.knot e.1 kids)/\WL (λid u=>id<i/\Ts[id]?=A? u) e.2 kids
theorem dq{l:List α}(h:l.Nodup){x:α}(hi:l[i]?=A? x)(hj:l[j]?=A? x):i=j:=by
 obtain⟨h1,e1⟩:=XN.mp hi;obtain⟨h2,e2⟩:=XN.mp hj;rcases Nat.lt_trichotomy i j with z|z|z
 .exact g! (e1.trans e2.symm) (List.pairwise_iff_getElem.mp h i j h1 h2 z)
 .exact z
 .exact g! (e2.trans e1.symm) (List.pairwise_iff_getElem.mp h j i h2 h1 z)
theorem rm(h:Ts.Nodup):∀{ids js:List Nat}{kids:List Th},WL (λid u=>Ts[id]?=A? u) ids kids->WL (λid u=>Ts[id]?=A? u) js kids->ids=js
 |_,_,_,.nil,.nil=>rfl
 |_,_,_,.cons a b,.cons c d=>by rw[dq h a c,rm h b d]
theorem pA:∀{ids:List Nat}{ks js:List Th},WL (λid u=>Ts[id]?=A? u) ids ks->WL (λid u=>Ts[id]?=A? u) ids js->ks=js
 |_,_,_,.nil,.nil=>rfl
 | _,_,_,.cons a b,.cons c d=>by
   rw[a]at c;cases c;rw[pA b d]
theorem Cl.found{E:List (WE×List Nat)}(c:Cl E Ts){n:WE}{kids:List Th}(h:E[i]?=A? (n,ids))(hp:WL (λid u=>Ts[id]?=A? u) ids kids):Ts[i]?=A? (.knot n kids):=by
 obtain⟨ks,h1,h2⟩:=c.ent i _ h;rw[pA hp (t! (λ_ _ z=>z.2) h2)];exact h1
theorem Cl.snoc{E:List (WE×List Nat)}(c:Cl E Ts){n:WE}{kids:List Th}(hn:(n,ids)∉E)(hp:WL (λid u=>Ts[id]?=A? u) ids kids):Cl (E++[(n,ids)]) (Ts++[.knot n kids]):=by
 have up:∀{id:Nat}{u:Th},Ts[id]?=A? u->(Ts++[p! n kids])[id]?=A? u:=λ{id u}h=>by
  rw[WS (glE h)];exact h
 refine⟨by rw[Wk,Wk,c.len];rfl,?_,λi e he=>?_⟩
 .rw[XI];refine⟨c.nd,by simp,λa ha b hb z=>?_⟩;rw[We.mp hb]at z;subst z;obtain⟨i,hi⟩:=Wg.mp ha;have Ah:i<E.length:=by rw[c.len];exact(glE hi)
  obtain⟨ks,h1,h2⟩:=c.ent i _ (V4 Ah);rw[hi]at h1;have h3:=Wi h1;injection h3 with h4 h5;subst h5;have h6:=rm c.nd hp (t! (λ_ _ z=>z.2) h2);refine hn ?_;have:(n,ids)=E[i]:=Prod.ext h4 h6;rw[this];exact Xn Ah
 .by_cases hi:i<E.length
  .rw[WS hi]at he;obtain⟨ks,h1,h2⟩:=c.ent i e he;exact⟨ks,up h1,t! (λ_ _ z=>⟨z.1,up z.2⟩) h2⟩
  .rw[W4 (by lia)]at he
   have h0:i - E.length=0:=by
    have:=(glE he);simp at this;lia
   rw[h0]at he;cases he;have Mz:i=Ts.length:=by have:=c.len;lia
   subst Mz;refine⟨kids,by simp,t! (λid u z=>⟨(glE z),up z⟩) hp⟩
def fkv(F:List Nat):List (Key×V):=F.zipIdx.map λz=>((WQ ((z.1:Nat):Int):Key),o! (z.2:Nat))
theorem u5(F:List Nat):(fkv F).length=F.length:=by unfold fkv;rw[V2,List.length_zipIdx]
theorem tN(F:List Nat)(i:Nat):fkv (F++[i])=fkv F++[((WQ ((i:Nat):Int):Key),o! (F.length:Nat))]:=by
 unfold fkv;rw[List.zipIdx_append,WB];simp
theorem vq{F:List Nat}{p:Key×V}(h:p∈fkv F):∃i id,p=((WQ ((id:Nat):Int):Key),o! (i:Nat))/\F[i]?=A? id:=by
 unfold fkv at h;obtain⟨z,hz,rfl⟩:=Wv.mp h;exact⟨z.2,z.1,D?,Y9.mp hz⟩
theorem vF{a b:Nat}(h:(WQ ((a:Nat):Int):Key)=WQ ((b:Nat):Int)):a=b:=by
 have:=Sum.inl.inj h;lia
theorem iY{F:List Nat}{id:Nat}{u:V}(h:bz (fkv F) (WQ ((id:Nat):Int):Key)=A? u):∃i:Nat,u=.int (i:Nat)/\F[i]?=A? id:=by
 unfold bz at h;obtain⟨p,hp,rfl⟩:=WA.mp h;obtain⟨i,f,rfl,hf⟩:=vq (List.mem_of_find?_eq_some hp);have hq:=List.find?_some hp;have:=e! (show decide ((WQ ((f:Nat):Int):Key)=WQ ((id:Nat):Int))=Bq from hq);rw[vF this]at hf;exact⟨i,D?,hf⟩
theorem jo{F:List Nat}{id:Nat}(h:bz (fkv F) (WQ ((id:Nat):Int):Key)=B?):id∉F/\∀v,putK (fkv F) (WQ ((id:Nat):Int):Key) v=fkv F++[(WQ ((id:Nat):Int),v)]:=by
 unfold bz at h;have h1:=Option.map_eq_none_iff.mp h;rw[List.find?_eq_none]at h1;refine⟨λhm=>?_,λv=>?_⟩
 .obtain⟨i,hi⟩:=Wg.mp hm;refine h1 (WQ ((id:Nat):Int),o! (i:Nat)) ?_ (d! rfl);unfold fkv;exact Wv.mpr ⟨(id,i),Y9.mpr hi,rfl⟩
 .unfold putK;rw[a!];intro z;obtain⟨p,hp,zG⟩:=ZX.mp z;exact h1 p hp zG
theorem uN{F:List Nat}{id:Nat}(h:id∉F):bz (fkv F) (WQ ((id:Nat):Int):Key)=none:=by
 cases hv:bz (fkv F) (WQ ((id:Nat):Int):Key)with
 |none=>rfl
 | some u =>
   obtain⟨i,_,hi⟩:=iY hv;exact g! (V5 hi) h
theorem qm(F:List Nat)(id:Nat):(bz (fkv F) (WQ ((id:Nat):Int):Key)).isSome=decide (id∈F):=by
 cases hv:bz (fkv F) (WQ ((id:Nat):Int):Key)with
 |none=>rw[c! (jo hv).1];rfl
 | some u =>
   obtain⟨i,_,hi⟩:=iY hv;rw[d! (V5 hi)];rfl
def unt(N:Nat)(F:List Nat):Nat:=((XS N).filter λi=>decide (i∉F)).length
theorem xh{N:Nat}{F:List Nat}{a:Nat}(h1:a<N)(h2:a∉F):unt N (F++[a])<unt N F:=by
 unfold unt
 have e:((XS N).filter λi=>decide (i∉F++[a]))=(((XS N).filter λi=>decide (i∉F)).filter λi=>decide (i≠a)):=by
  rw[List.filter_filter];congr 1;funext i;simp only[Wm,We,not_or];by_cases h3:i∈F <;> by_cases h4:i=a <;> simp[h3,h4]
 rw[e];refine List.length_filter_lt_length_iff_exists.mpr ⟨a,?_,by simp⟩;exact X7.mpr ⟨ZP.mpr h1,d! h2⟩
theorem fT:∀(n:Nat),(∀(t:Th)(L:List Th),t.size<=n->L.length<=(post t L).length/\(post t L).length<=L.length+t.size)/\(∀(ts:List Th)(L:List Th),aq ts<=n->L.length<=(aP ts L).length/\(aP ts L).length<=L.length+aq ts):=by
 intro n;induction n with
 | zero =>
   refine⟨λt L h=>?_,λts L h=>?_⟩
   .have:=t.size_eq;lia
   .cases ts with
    |nil=>rw[aP,aq];exact⟨Wc _,Wc _⟩
    | cons t ts =>
      rw[aq]at h;have:=t.size_eq;lia
 | succ n ih =>
   have hT:∀(t:Th)(L:List Th),t.size<=n+1->L.length<=(post t L).length/\(post t L).length<=L.length+t.size:=by
    intro t L h;have hs:=t.size_eq;obtain⟨h1,h2⟩:=ih.2 t.kids L (by lia);rw[post_eq];split
    .lia
    .rw[Wk];show L.length<=_+1/\_+1<=_;lia
   refine⟨hT,λts=>?_⟩;induction ts with
   |nil=>intro L _;rw[aP,aq];exact⟨Wc _,Wc _⟩
   | cons t ts IK =>
     intro L h;rw[aq]at h;obtain⟨h1,h2⟩:=hT t L (by lia);obtain⟨h3,h4⟩:=IK (post t L) (by lia);rw[aP,aq];lia
theorem t8(t:Th)(L:List Th):L.length<=(post t L).length/\(post t L).length<=L.length+t.size:=(fT t.size).1 t L (Wc _)
mutual
theorem m5:∀t:Th,t.tall<=t.size
 |.knot n ts=>by rw[x!,K!];have:=j1 ts;lia
 |.call _ _=>by rw[x!,K!];lia
theorem j1:∀ts:List Th,bD ts<=aq ts
 | []=>by rw[bD,aq];lia
 |t::ts=>by rw[bD,aq];have:=m5 t;have:=j1 ts;lia
end
open PySem.Builtin PySem.Builtin.Str
end BB
namespace L2
open PySem PySem.Spec PySem.Calls PyProof.Rows BB
section
variable{X:Cx}{σ:List (Option V)}
end
open PySem.Builtin PySem.Builtin.Str
variable{X:Cx}
end L2
namespace BB
open PySem L2
section
variable{t:Th}{ts:List Th}{es:List V6}
end
end BB
namespace L2
open PySem PySem.Spec PyProof.Rows BB
variable{X:Cx}
end L2
namespace L2
open PySem PySem.Spec PyProof.Rows PySem.W
def uk(K:Frag)(Ch:V6)(ts:TS)(D:Ends):St->V8->Hp->Prop:=λzC c H'=>∃C,c=.ref C/\Hit K C Ch/\ts D zC H'
def wj(K:Frag)(Ch:V6)(tb:(St->V8->Hp->Prop)->TS)(ts:TS):TS:=λD σ H=>tb (uk K Ch ts D) D σ H
theorem lq{K:Frag}{Ch:V6}{tb:(St->V8->Hp->Prop)->TS}{ts:TS}(R:St->V8->Hp->Prop)(h1:∀R':St->V8->Hp->Prop,(∀zC c H',R zC c H'->R' zC c H')->tb R' D σ H)
 (h2:∀zC c H',R zC c H'->uk K Ch ts D zC c H'):wj K Ch tb ts D σ H:=h1 _ h2
theorem rA{X:Cx}{Ch:V6}{cx:WE}{np Ad:Zb}{suite:List Z5}{b0:Z5}{tb:(St->V8->Hp->Prop)->TS}{ts:TS}
 (hb:∀Y R,PSs (X.tryB Y R) body (tb R)) (hs:∀ea oe,PSs (X.suite ea oe) (b0::suite) ts)
 (zM:X.stack=X.env::X.outer) (EJ:X.env.frame=A? X.env.locals) (hg:Gl X cx) (hm:X.mg cx=A? (.ref Ch))
 (hd:(cx == ("__debug__":WE))=false:=by decide) :
 PS X (.Try body [.ExceptHandler (A? (.Name cx np)) B? (b0::suite) Ad] [] [] pos) (wj X.K Ch tb ts):=by
 intro Y s σ H D I h;refine wpAny_Try_except ?_;have zN:=hb Y (uk X.K Ch ts D) [] s σ H D (I.tryB _) h;refine XX zN (λf s1 q=>?_) λe s1 q=>?_
 .have q':=SP.untryB q;cases f with
  |next=>exact wpAny_execs_nil q'
  |brk=>exact q'
  |cont=>exact q'
  |ret u=>exact q'
 .obtain⟨zC,H1,s0,I1,ea,C,a0,B,H',rfl,BI,DN,un,hok,Eg,b1,b2,C',L9,hit,q⟩:=q;cases L9;rw[zM]at Eg;have MA:X.A.frames=A? (X.env::X.outer):=by rw[<-zM];exact I1.ok.frames
  have inv:∀(h6:Xp)(tk:Nat),Heap.FlyingW B (X.env::X.outer) ea (.ref C) a0 h6->s1.1.UpToSlots h6->Inv X Y zC H' {s1 with heap:=h6}:=λh6 tk Cm up=>by
   obtain⟨U,_⟩:=qt (fs:=frs X.stack) (H:=H1) (H1:=H1) (h:=s0.1) (h1:=s0.1) (h':=h6) (l:=frs X.stack) (B:=B) Un.refl un (λb o _ z=>z) b1 Cm.1 up (λb hb=>⟨I1.stkFree b hb,(I1.stack.mem hb).2⟩);exact I1.call' (s':={s1 with heap:=h6}) (ch:=[]) BI U (oi hok Eg.1 Cm.1 b2) DN λ_ z=>nomatch z
  refine wpAny_looks_onW MA EJ Eg λh4 IQ RQ=>?_;refine wpAny_landsW IQ λh5 F8 RR=>?_;have IT:=RQ.trans RR;have I5:=inv h5 0 F8 IT;obtain⟨o5,RS,MB⟩:=F8.there;refine wpAny_handleBy_cons (codeAny_handlers_test ?_) (by intro q;cases q);have Vs:Inv (X.wish X.xe) Y zC H' {s1 with heap:=h5}:=I5;refine Calls.Name_function_global I5.ok.kind hg (Calls.loadGlobal_global (by rw[I5.ok.glob];exact I5.mod.glob.keeps I5.bk) hm ?_) hd;refine(exm_one (M:=WN X.prog X.w) (h:=h5) I5.kIn (MB ▸ (Looks.ld RS).andThen .now) hit.hit).here ?_;refine codeAny_handlers_suite ?_;refine lands_againW (s:={s1 with heap:=h5}) F8 λh6 Cm RT=>?_;have I6:=inv h6 0 Cm (IT.trans RT);obtain⟨oe,vs,Ee,E9,EK,_⟩:=Cm.first
  have Au:H' ea=none:=by
   cases z:H' ea with
   |none=>rfl
   | some u =>
     obtain⟨o',BC⟩:=b2 ea u z;rw[Cm.2.1]at BC;cases BC
  have F9:ea∉frs (X.env::X.outer):=λz=>by
   obtain⟨_,o,ho,nf⟩:=Cm.2.2.1.mem z;rw[Ee]at ho;cases ho;exact nf vs EK
  rw[qh EJ]at F9;have IS:Inv (X.suite ea oe) Y zC H' {s1 with heap:=h6}:=I6.suite ⟨Ee,Au,λz=>F9 (z ▸ Wj),λz=>F9 (Wo _ z),λv z=>by rw[EK]at z;cases z⟩;refine XX (hs ea oe Y _ _ H' D IS q) (λf s8 q8=>?_) λ_ _ z=>X9 z;cases f with
  |next=>obtain⟨FU,H8,J,q⟩:=q8;exact⟨_,H8,J.unsuite I1.ok.hd,q⟩
  |brk=>obtain⟨FU,H8,J,q⟩:=q8;exact⟨_,H8,J.unsuite I1.ok.hd,q⟩
  |cont=>obtain⟨FU,H8,J,q⟩:=q8;exact⟨_,H8,J.unsuite I1.ok.hd,q⟩
  |ret u=>obtain⟨v,FU,H8,J,r,q⟩:=q8;exact⟨v,_,H8,J.unsuite I1.ok.hd,r,q⟩
open BB
variable{X:Cx}
end L2
namespace L2
open PySem PySem.Spec PySem.Calls PyProof.Rows PySem.W
end L2
namespace BB
open PySem L2 PySem.Builtin PySem.Builtin.Str
end BB
namespace L2
open PySem PySem.Spec PySem.Calls PyProof.Rows PySem.Builtin PySem.Builtin.Str BB
variable{X:Cx}
end L2
namespace L2
open PySem PySem.Spec PyProof.Rows
end L2
namespace BB
open PySem L2
end BB
namespace L2
open PySem PySem.Spec PyProof.Rows
open PySem.Calls
structure sH(P:WJ)(w:W0)(K:Wf)(mg:WE->Option V8)(base:Xp)(CX:CXT)(k:Nat)(f:V6)(sp:Sp):Prop where
 fn:∀(A:W5)(outer:List Env)(s:Wd)(H:Hp)(vs:List V)(Q:VK)(E:XK),Env0 P w K mg base A outer s H->sp vs H Q E->PySem.W.FnAt f s.1
 run:∀(A:W5)(outer:List Env)(s:Wd)(H:Hp)(us:List V8)(vs:List V)(Q:VK)(E:XK),Room k A->Env0 P w K mg base A outer s H->Vals vs us->sp vs H Q E ->
  Zt (WN P w) A (.call (.ref f) ⟨us,[]⟩) (CR CX outer P w H s Q E) s
section
variable{X:Cx}{k:Nat}{E:XK}{p:Zb}{es:List Xb}{t:TA}
end
def fgt(S:List V6)(H:Hp):Hp:=λb=>if b∈S then B? else H b
def rst(S:List V6)(H H':Hp):Hp:=λb=>if b∈S then H b else H' b
theorem kU(h:b∈S):fgt S H b=none:=b! h
theorem eQ(h:b∉S):fgt S H b=H b:=a! h
theorem xo(h:b∈S):rst S H H' b=H b:=b! h
theorem fL(h:b∉S):rst S H H' b=H' b:=a! h
theorem ui(h:fgt S H b=A? o):b∉S/\H b=A? o:=by
 by_cases hb:b∈S
 .rw[kU hb]at h;cases h
 .exact⟨hb,by rw[eQ hb]at h;exact h⟩
def Exts(S:List V6)(H:Hp):Prop:=∀b∈S,∃φ,H b=A? (.ext φ)
theorem Exts.out(x:Exts S H)(e:H b=A? o)(n:∀φ,o≠.ext φ):b∉S:=λz=>by
 obtain⟨φ,h⟩:=x b z;rw[e]at h;exact n φ (Wi h)
theorem HOk.fgt(x:HOk P w H h)(hS:Exts S H):HOk P w (fgt S H) h:=λa o e=>by
 obtain⟨ha,e'⟩:=ui e;exact(x a o e').stay (λ_ _ _ q=>q) (λb q=>by rw[eQ (hS.out q (by intro φ z;cases z))];exact q) λb xs q=>by rw[eQ (hS.out q (by intro φ z;cases z))];exact q
theorem HOk.rst(x:HOk P w H h)(x':HOk P w H' h')(hS:Exts S H)(hk:∀b∈S,∀o,h.get? b=A? o->h'.get? b=A? o)(hn:∀b∈S,H' b=B?):HOk P w (rst S H H') h':=λa o e=>by
 by_cases ha:a∈S
 .rw[xo ha]at e;obtain⟨φ,RU⟩:=hS a ha;have e2:=RU;rw[e]at e2;cases e2;obtain⟨p,⟨ob,q⟩,st⟩:=x a _ e;exact⟨st _ _ p (λo z=>hk a ha o z),⟨ob,hk a ha ob q⟩,st⟩
 .rw[fL ha]at e;have out:∀b u,H' b=A? u->b∉S:=λb u q z=>by rw[hn b z]at q;cases q
  exact(x' a o e).stay (λ_ _ _ q=>q) (λb q=>by rw[fL (out b _ q)];exact q) λb xs q=>by rw[fL (out b _ q)];exact q
def CellAt(H:Hp)(c:V6)(v:V):Prop:=∃φ,H c=A? (.ext φ)/\∀h:Xp,φ h->∃u,RelV v u/\h.IsCell c (A? u)
def CodeAt(H:Hp)(c:V6)(qual:WE):Prop:=∃φ,H c=A? (.ext φ)/\∀h:Xp,φ h->h.CodeRec (.ref c) qual
def uQ(H:Hp)(cl:List (WE×V6))(ns:List WE)(ws:List V):Prop:=WL (λ(x:WE)(v:V)=>∃c,cl.lookup x=A? c/\CellAt H c v) ns ws
def LamAt(H:Hp)(f c':V6)(name qual:WE)(params:Arguments)(body:Xb)(scope:Y2)(cl:List (WE×V6)):Prop:=∃φ,H f=A? (.ext φ)/\∀h:Xp,φ h->∃pm BQ,h.get? f=A? (YH name qual params body scope cl pm c' BQ)
theorem CodeAt.mono(s:Same H H'){q:WE}(h:CodeAt H c q):CodeAt H' c q:=by
 obtain⟨φ,h1,h2⟩:=h;exact⟨φ,s _ _ h1,h2⟩
theorem LamAt.mono(s:Same H H'){c':V6}{body:Xb}(h:LamAt H f c' name qual params body scope cl):LamAt H' f c' name qual params body scope cl:=by
 obtain⟨φ,h1,h2⟩:=h;exact⟨φ,s _ _ h1,h2⟩
theorem CellAt.now(x:HOk P w H h)(z:CellAt H c v):∃u,RelV v u/\h.IsCell c (A? u):=by
 obtain⟨φ,h1,h2⟩:=z;exact h2 h (x c _ h1).1
def cxL(P:WJ)(w:W0)(K:Wf)(mg:WE->Option V8)(base:Xp)(N:List WE)(qual:WE)(scope:Y2)(f:V6)(cd:V8)(cl:List (WE×V6))(A:W5)(outer:List Env)(s:Wd)(H:Hp):Cx where
 prog:=P
 w:=w
 K:=K
 mg:=mg
 base:=base
 A:=A.deeper (PySem.W.envX qual scope s.1.1.size f cd cl)
 N:=N
 s₀:=s
 H₀:=fgt (cl.map (·.2)) H
 env:=PySem.W.envX qual scope s.1.1.size f cd cl
 outer:=outer
 stack:=PySem.W.envX qual scope s.1.1.size f cd cl::outer
 ex:=[]
 calm:=Bq
 fn:=λ_=>C?
 pn:=[]
 xe:=λ_ _=>False
structure pk(N ps:List WE)(cl:List (WE×V6))(sc:Y2):Prop where
 kind:sc.kind=.function
 co:sc.isCoroutine=C?
 gen:sc.isGenerator=C?
 nocell:∀x∈sc.names,x.2≠.cell
 nd:N.Nodup
 pre:N.take ps.length=ps
 par:∀x∈ps,sc.names.lookup x=A? .local
 fre:∀x∈N.drop ps.length,sc.names.lookup x=A? .free
 has:∀x,sc.names.lookup x=A? .free->∃c,cl.lookup x=A? c
 inj:∀x y c,cl.lookup x=A? c->cl.lookup y=A? c->x=y
theorem oG(h:cl.lookup x=A? c):c∈cl.map (·.2):=Wv.mpr ⟨(x,c),X2 h,rfl⟩
theorem mJ:∀{l:List (WE×V8)}{x:WE}{u:V8},(l.map (·.1)).Nodup->(x,u)∈l->l.lookup x=A? u
 | [],_,_,_,h=>by cases h
 | (y,v)::l,x,u,nd,h=>by
   rw[WH,Xf]at nd;rw[XW];rcases Wr.mp h with e|e
   .cases e;rw[beq_self_eq_true]
   .have zp:(x == y)=false:=by
     rw[beq_eq_false_iff_ne];intro z;subst z;exact nd.1 (Wv.mpr ⟨_,e,rfl⟩)
    rw[zp];exact mJ nd.2 e
theorem oU(nd:ps.Nodup)(hl:us.length=ps.length)(h1:ps[i]?=A? x)(h2:us[i]?=A? u):(ps.zip us).reverse.lookup x=A? u:=by
 refine mJ ?_ ?_
 .rw[List.map_reverse,List.map_fst_zip (by lia)];exact(List.pairwise_reverse.mpr (nd.imp λh z=>h z.symm))
 .rw[List.mem_reverse];exact V5 (X0.mpr ⟨h1,h2⟩)
theorem xc{k:Nat}{c':V6}{body:Xb}
 (S:pk N ps cl scope) (bind:∀(pm BQ:V8)(us:List V8),us.length=ps.length->bindArgs (PySem.W.kla_fn name qual params body scope cl pm (.ref c') BQ) ⟨us,[]⟩=pure (ps.zip us))
 (Bb:∀vs H Q E,sp vs H Q E->vs.length=ps.length/\LamAt H f c' name qual params body scope cl/\CodeAt H c' qual/\Exts (cl.map (·.2)) H/\∀x c,cl.lookup x=A? c->∃v,CellAt H c v)
 (zN:∀(A:W5)(outer:List Env)(s:Wd)(H:Hp)(vs:List V)(Q:VK)(E:XK),Room k (A.deeper (PySem.W.envX qual scope s.1.1.size f (.ref c') cl))->sp vs H Q E ->
  ∃t ws,uQ H cl (N.drop ps.length) ws/\PE (cxL P w K mg base N qual scope f (.ref c') cl A outer s H) body t/\t (vs.map A?++ws.map A?) (fgt (cl.map (·.2)) H) λv H'=>Q v (rst (cl.map (·.2)) H H')) :
 sH P w K mg base CX0 (k+1) f sp where
 fn:=λA outer s H vs Q E e0 h=>by
  obtain⟨_,⟨φ,h1,h2⟩,_⟩:=Bb _ _ _ _ h;obtain⟨pm,BQ,e⟩:=h2 _ (e0.hok f _ h1).1;exact⟨_,_,_,_,e⟩
 run:=λA outer s H us vs Q E hr e0 r h=>by
  obtain⟨hl,⟨φ,h1,h2⟩,⟨ψ,g1,g2⟩,hx,RV⟩:=Bb _ _ _ _ h;obtain⟨pm,BQ,ef⟩:=h2 _ (e0.hok f _ h1).1;have RW:=g2 _ (e0.hok c' _ g1).1;have FQ:us.length=ps.length:=by rw[<-r.length];exact hl
  have MC:∀y∈ps.zip us,scope.names.lookup y.1=A? .local:=λ⟨n,v⟩hy=>S.par n (ZC hy).1;refine PySem.W.kla_callFunE hr.depth ef rfl S.co S.gen rfl RW ?_;rw[show bindArgs _ _=_ from bind pm BQ us FQ];refine Wa (wpAny_newFunctionEnv S.nocell MC (λzk AV Bc=>?_) S.kind);have BR:∀b o,s.1.get? b=A? o->zk.get? b=A? o:=λb o e=>Bc.extBut b o (WT (WC e)) (V9 _ e);refine⟨e0.mod.nolimit.keeps λb o e=>BR b o (e0.bs b o e).1,?_⟩;show Zt _ _ (.expr body (PySem.W.envX qual scope s.1.1.size f (.ref c') cl)) _ _;obtain⟨t,ws,Cj,ht,hq⟩:=zN A outer s H vs Q E (hr.deeper _) h;have Cc:(N.drop ps.length).length=ws.length:=Wx Cj;have Ax:ps.length<=N.length:=by have:=h! XG S.pre;rw[W9]at this;lia
  have zm:∀x c,cl.lookup x=A? c->c∈cl.map (·.2):=λx c e=>oG e
  have zf:∀c∈cl.map (·.2),c<s.1.1.size:=λc hc=>by
   obtain⟨Hh,e⟩:=hx c hc;exact e0.hok.lt e
  have Ga:∀x c,cl.lookup x=A? c->∃v,zk.IsCell c v:=λx c e=>by
   obtain⟨v,hv⟩:=RV x c e;obtain⟨u,_,o,ho,hd⟩:=hv.now e0.hok;exact⟨_,o,BR _ _ ho,hd⟩
  have Hi:∀b,H b=B?->fgt (cl.map (·.2)) H b=none:=λb e=>by
   by_cases hb:b∈cl.map (·.2)
   .exact kU hb
   .rw[eQ hb];exact e
  have KP:ps.Nodup:=by rw[<-S.pre];exact S.nd.sublist (List.take_sublist _ _)
  have I:Inv (cxL P w K mg base N qual scope f (.ref c') cl A outer s H) [] (vs.map A?++ws.map A?) (fgt (cl.map (·.2)) H) {s with heap:=zk,toks:=s.toks+(ps.zip us).length}:=by
   refine⟨⟨e0.mod,S.kind,D?,D?,Wc _,S.inj,λx hx=>?_,λx c hf _=>(by cases hf),λ_=>hr.hd,Around.frames_deeper e0.frames,.inr ⟨rfl,rfl⟩,λb z=>(by cases z),λb o e=>⟨(e0.bs b o e).1,?_⟩,e0.bsz,λb _ _ z=>(by cases z),λb z=>(by cases z),e0.funs,λb hb=>?_⟩,
    rfl,e0.bare,Un.kept BR,⟨_,AV,λi x v e1 e2 e3=>?_⟩,Ga,?_,λx c e=>kU (zm x c e),λp hp=>(by cases hp),?_,?_⟩
   .have BL:scope.names.lookup x=A? .cell\/scope.names.lookup x=A? .free:=hx;rcases BL with z|z
    .exact g! rfl (S.nocell _ (X2 z))
    .exact S.has x z
   .exact Hi b (e0.bs b o e).2
   .exact Hi b (e0.frf b hb)
   .by_cases hi:i<vs.length
    .rw[WS (by rw[V2];exact hi),V7]at e2;obtain⟨v',De,e4⟩:=WA.mp e2;cases e4;obtain⟨u,hu,rv⟩:=r.get De
     have hp:ps[i]?=A? x:=by
      rw[<-S.pre,List.getElem?_take_of_lt (by lia)];exact e1
     exact⟨u,rv,.inl ⟨S.par x (V5 hp),oU KP FQ hp hu⟩⟩
    .rw[W4 (by rw[V2];lia),V7,V2]at e2;obtain⟨v',De,e4⟩:=WA.mp e2;cases e4
     have hd:(N.drop ps.length)[i - vs.length]?=A? x:=by
      rw[List.getElem?_drop,hl,show ps.length+(i - ps.length)=i by lia];exact e1
     obtain⟨w',Bm,c,hc,Bi⟩:=u! Cj hd;rw[De]at Bm;cases Bm;obtain⟨u,ru,o,ho,hdc⟩:=Bi.now e0.hok;exact⟨u,ru,.inr ⟨.inr (S.fre x (V5 hd)),c,hc,o,BR _ _ ho,hdc⟩⟩
   .exact Hi _ (e0.hok.fresh (Wc _))
   .exact(e0.hok.fgt hx).kept BR
   .show(vs.map A?++ws.map A?).length=N.length;rw[Wk,V2,V2,<-Cc,Xm];lia
  refine PySem.W.kla_codeExpr (XX (ht [] _ _ _ _ I hq) (λu s' Dc=>?_) λe s' z=>z.elim);obtain⟨v,H',I',rv,q'⟩:=Dc;have un:Un (frs outer) [] (fgt (cl.map (·.2)) H) H' s.1 s'.1:=I'.base
  have kS:∀b∈cl.map (·.2),∀o,s.1.get? b=A? o->s'.1.get? b=A? o:=λb hb o e=>un.keep b o e (kU hb) (λz=>by
   obtain⟨Hh,e'⟩:=hx b hb;rw[e0.frf b z]at e';cases e') (by simp)
  have RX:∀b∈cl.map (·.2),H' b=none:=λb hb=>by
   obtain⟨Hh,e'⟩:=hx b hb;obtain⟨_,⟨o,ho⟩,_⟩:=e0.hok b _ e';exact un.free b o ho (kU hb) (by simp)
  have nS:∀b,H b=B?->b∉cl.map (·.2):=λb e hb=>by
   obtain⟨Hh,e'⟩:=hx b hb;rw[e]at e';cases e'
  refine⟨v,rst (cl.map (·.2)) H H',I'.os,I'.bare,⟨λb o e n hb BL=>un.keep b o e (Hi b n) hb BL,λb o e n hb BL=>un.slot b o e (Hi b n) hb BL,λb o e n BL=>?_,λb o e BL=>un.there b o e BL,λb xs e=>?_,λb o u' e=>?_,λb pp e=>?_⟩,HOk.rst e0.hok I'.hok hx kS RX,rv,q'⟩
  .rw[fL (nS b n)];exact un.free b o e (Hi b n) BL
  .have hb:=hx.out e (by intro Hh z;cases z);rw[fL hb];exact un.tups b xs (by rw[eQ hb];exact e)
  .have hb:=hx.out e (by intro Hh z;cases z);rw[fL hb];exact un.frzs b o u' (by rw[eQ hb];exact e)
  .have hb:=hx.out e (by intro Hh z;cases z);rw[fL hb];exact un.tbls b pp (by rw[eQ hb];exact e)
structure Lam(mg:WE->Option V8)(base:Xp)(c P:V6):Prop where
 hd:PySem.W.CodeHd base c P
 bl:base.BuiltinsAt mg P
def SameT(P:V6)(H H':Hp):Prop:=∀b o,b≠P->H b=A? o->H' b=A? o
def tabOf(pos:Zb)(c':V6):Array V8:=#[Yv pos.line,Yv pos.col,.ref c']
def TabSt(H:Hp)(P:V6)(pos:Zb)(qual:WE):Prop:=H P=A? (.tbl #[])\/∃c',H P=A? (.tbl (tabOf pos c'))/\CodeAt H c' qual
theorem TabSt.mono(s:Same H H'){P:V6}(h:TabSt H P pos qual):TabSt H' P pos qual:=by
 rcases h with h|⟨c',h1,h2⟩
 .exact .inl (s _ _ h)
 .exact .inr ⟨c',s _ _ h1,h2.mono s⟩
theorem SameT.trans{P:V6}(a:SameT P H H1)(b:SameT P H1 H2):SameT P H H2:=λc o n e=>b c o n (a c o n e)
theorem Same.t(s:Same H H')(P:V6):SameT P H H':=λb o _ e=>s b o e
theorem tX(pos:Zb)(c':V6):TriplesOk (tabOf pos c').toList:=trivial
theorem sk(pos:Zb)(c':V6):codeAmong pos (tabOf pos c').toList=A? (.ref c'):=by
 show codeAmong pos [Yv pos.line,Yv pos.col,.ref c']=_;simp[codeAmong,Yv]
def yT(X:Cx)(P:V6)(pos:Zb)(params:Arguments)(body:Xb)(scope:Y2)(cl:List (WE×V6)):TE:=λ_ H Q=>TabSt H P pos (X.env.qual++"<lambda>") /\
 ∀f c' H',SameT P H H'->H' P=A? (.tbl (tabOf pos c'))->CodeAt H' c' (X.env.qual++"<lambda>")->LamAt H' f c' "<lambda>" (X.env.qual++"<lambda>") params body scope cl->H f=B?->Q (.ref f) H'
theorem xx{X:Cx}{P:V6}{body:Xb}(L:Lam X.mg X.base c P)(hc:X.env.code=.ref c)(zm:closureFor scope X.env=pure cl)(MD:defaultsOf params X.env=([],[]):=by rfl) :
 PE X (.Lambda params body scope pos) (yT X P pos params body scope cl):=by
 intro Y s σ H Q I h;obtain⟨tab,q⟩:=h;have ME:s.1.Ns XO X.mg:=I.mod.glob.keeps I.bk;have C:PySem.W.CodeHd s.1 c P:=L.hd.keeps I.bk
 have hb:s.1.BuiltinsAt X.mg P:=by
  obtain⟨bm,o,h1,h2,h3,h4,h5,h6⟩:=L.bl;exact⟨bm,o,h1,h2,h3,h4,I.bk _ _ h5,h6⟩
 refine PySem.W.kla_eval MD ?_;rcases tab with hP|⟨c',hP,Ez⟩
 .have K3:s.1.get? P=A? (PySem.W.tabObj #[]):=I.hok P _ hP
  have RY:XO≠P:=λz=>by
   obtain⟨o,es,ep,e,d,_⟩:=ME;rw[z,K3]at e;cases e;cases d
  refine PySem.W.kla_makeFunction zm I.ok.glob ME hc C K3 trivial rfl RY hb λc' BQ h' tk hx Hj zf IU IV=>?_;have hsz:s.1.1.size<=h'.objs.size:=Xa Hj (Yi zf);have Pe:H c'=none:=I.hok.fresh Hj;have nf:H h'.objs.size=none:=I.hok.fresh hsz;have RZ:c'≠h'.objs.size:=WT zf;have R0:P≠c':=λz=>by rw[z,Pe]at hP;cases hP
  have R1:P≠h'.objs.size:=λz=>by rw[z,nf]at hP;cases hP
  have kp:∀b o,b≠P->s.1.get? b=A? o->(h'.push (YH "<lambda>" (X.env.qual++"<lambda>") params body scope cl ((X.mg "__name__").getD .none) c' BQ)).get? b=A? o:=λb o n e=>V9 _ (hx b o n e);obtain⟨H',K4⟩:∃H',H'=upd (upd (upd H P (.tbl (tabOf pos c'))) c' (.ext λh=>h.CodeRec (.ref c') (X.env.qual++"<lambda>"))) h'.objs.size (.ext λh=>h.get? h'.objs.size=A? (YH "<lambda>" (X.env.qual++"<lambda>") params body scope cl ((X.mg "__name__").getD .none) c' BQ)):=⟨_,rfl⟩;have eP:H' P=A? (.tbl (tabOf pos c')):=by rw[K4,aj R1,aj R0,ac]
  have ec:H' c'=A? (.ext λh=>h.CodeRec (.ref c') (X.env.qual++"<lambda>")):=by rw[K4,aj RZ,ac]
  have ef:H' h'.objs.size=A? (.ext λh=>h.get? h'.objs.size=A? (YH "<lambda>" (X.env.qual++"<lambda>") params body scope cl ((X.mg "__name__").getD .none) c' BQ)):=by rw[K4,ac]
  have eo:∀b,b≠P->b≠c'->b≠h'.objs.size->H' b=H b:=λb n1 n2 n3=>by rw[K4,aj n3,aj n2,aj n1]
  have es:∀b o,H b=A? o->b≠P->H' b=A? o:=λb o e n=>by rw[eo b n (λz=>by rw[z,Pe]at e;cases e) (λz=>by rw[z,nf]at e;cases e)];exact e
  have un:Un X.fs [] H H' s.1 (h'.push (YH "<lambda>" (X.env.qual++"<lambda>") params body scope cl ((X.mg "__name__").getD .none) c' BQ)):=by
   have nP:∀b,H b=B?->b≠P:=λb n z=>by rw[z,hP]at n;cases n
   refine⟨λb o e n _ _=>kp b o (nP b n) e,λb o e n _ _=>⟨o.slots,kp b o (nP b n) e⟩,λb o e n _=>?_,λb o e _=>?_,λb xs e=>es b _ e (λz=>by rw[z,hP]at e;cases e),λb o u e=>es b _ e (λz=>by rw[z,hP]at e;cases e),λb pp e=>?_⟩
   .rw[eo b (nP b n) (WT (W8 (WC e) Hj)) (WT (W8 (WC e) hsz))];exact n
   .by_cases hb:b=P
    .exact⟨_,by rw[hb];exact V9 _ IV⟩
    .exact⟨o,kp b o hb e⟩
   .by_cases hb:b=P
    .subst hb;rw[hP]at e;cases e;exact⟨tabOf pos c',by rw[eP];simp⟩
    .exact⟨#[],by rw[es b _ e hb];simp⟩
  have hok:HOk X.prog X.w H' (h'.push (YH "<lambda>" (X.env.qual++"<lambda>") params body scope cl ((X.mg "__name__").getD .none) c' BQ)):=λa o e=>by
   by_cases ha:a=P
   .subst ha;rw[eP]at e;cases e;exact V9 _ IV
   by_cases z8:a=c'
   .subst z8;rw[ec]at e;cases e;refine⟨IU.push _,?_,λh1 h2 z k=>?_⟩
    .obtain⟨_,oc,_,_,e1,e2,_⟩:=IU;cases e1;exact⟨oc,V9 _ e2⟩
    .obtain⟨_,oc,vs,t,e1,e2,e3⟩:=z;cases e1;exact⟨_,oc,vs,t,D?,k _ e2,e3⟩
   by_cases Di:a=h'.objs.size
   .subst Di;rw[ef]at e;cases e;exact⟨Wh _ rfl,⟨_,Wh _ rfl⟩,λh1 h2 z k=>k _ z⟩
   rw[eo a ha z8 Di]at e;refine(I.hok a o e).stay (λb u hb z=>kp b u ?_ z) (λb z=>es b _ z (λy=>by rw[y,hP]at z;cases z)) λb xs z=>es b _ z (λy=>by rw[y,hP]at z;cases z);rcases hb with hb|hb
   .rw[hb];exact ha
   .exactλy=>by rw[y,hP]at hb;cases hb
  refine⟨.ref h'.objs.size,H',I.un un hok,D?,q _ c' H' (λb o n e=>es b o e n) eP ⟨_,ec,λ_ z=>z⟩ ⟨_,ef,λ_ z=>⟨_,_,z⟩⟩ nf⟩
 .have K3:s.1.get? P=A? (PySem.W.tabObj (tabOf pos c')):=I.hok P _ hP;refine PySem.W.kla_makeFunctionHit zm I.ok.glob ME hc C K3 (tX pos c') (sk pos c') hb λBQ h' tk hk hsz=>?_;have nf:H h'.objs.size=none:=I.hok.fresh hsz
  have I':=I.laid (h':=h'.push {cls:=.type "function",data:=.func (PySem.W.kla_fn "<lambda>" (X.env.qual++"<lambda>") params body scope cl ((X.mg "__name__").getD .none) (.ref c') BQ)}) (a:=h'.objs.size) (t':=tk)
   (o:=.ext λh=>h.get? h'.objs.size=A? (YH "<lambda>" (X.env.qual++"<lambda>") params body scope cl ((X.mg "__name__").getD .none) c' BQ)) (λb u e=>V9 _ (hk b u e)) hsz ⟨Wh _ rfl,⟨_,Wh _ rfl⟩,λh1 h2 z k=>k _ z⟩
  have sm:Same H (upd H h'.objs.size (.ext λh=>h.get? h'.objs.size=A? (YH "<lambda>" (X.env.qual++"<lambda>") params body scope cl ((X.mg "__name__").getD .none) c' BQ))):=ao nf _;exact⟨.ref h'.objs.size,_,I',D?,q _ c' _ (sm.t P) (sm _ _ hP) (Ez.mono sm) ⟨_,ac,λ_ z=>⟨_,_,z⟩⟩ nf⟩
section
variable{X:Cx}{k:Nat}{p:Zb}{es:List Xb}{t:TA}
end
theorem sI{mb:WE->Option V8}{k:Nat}{fa T:V6}{l':Wd}{vs:List V8}
 (KX:K.In l'.heap) (AV:l'.heap.Ns XO mg) (hb:l'.heap.Ns builtinsNs mb) (R3:∀x:WE,x≠"__name__"->mb x=bootBuiltins x) (MF:l'.heap.NoLimit) (hg:l'.gens=#[])
 (ha:l'.heap.get? a=A? {cls:=.type "list",data:=.seq vs.toArray}) (hi:IntsAre vs ns) (hl:ns.length<=WD) (hr:Room k callerA)
 (hC:PySem.W.CodeHd l'.heap c T) (hT:l'.heap.get? T=A? (PySem.W.tabObj #[])) (AW:l'.heap.BuiltinsAt mg T) (MG:K.lookup T=B?)
 (F:∀base:Xp,K.In base->base.Ns XO mg->Lam mg base c T->bp P w K mg base CX k fa fd [x] sp) (IW:∀(s:Wd)(u:V8),BindsTo s fd ⟨[u],[]⟩ [(x,u)])
 (Bb:∀H:Hp,SqL K H a (ns.map o!)->H T=A? (.tbl #[])->sp [.ref a] H (λv _=>v=.bl Bq) λ_ _ _=>False)
 (MH:∀H e s',CX [] H l' (λ_ _ _=>False) e s'->False) :
 Zt (WN P w) callerA (.call (.ref fa) ⟨[.ref a],[]⟩) (λr s'=>r=.ok (.ret (.bool Bq))/\OldK l'.heap s'.1/\s'.os=l'.os/\AllBare s'.gens) l':=by
 have rv:=mZ hi;have MI:=hi.length;have Pf:a≠T:=λz=>by rw[z,hT]at ha;cases ha
 have core:∀H:Hp,(∀b,H b=B?\/(∃o xs,H b=A? (.frz o (.lst xs)))\/(b=T/\H b=A? (.tbl #[])))->H T=A? (.tbl #[])->SqL K H a (ns.map o!)->HOk P w H l'.heap->(∀b,H b≠B?->b=a\/b=T)->(H a≠B?->K.lookup a=B?) ->
  Zt (WN P w) callerA (.call (.ref fa) ⟨[.ref a],[]⟩) (λr s'=>r=.ok (.ret (.bool Bq))/\OldK l'.heap s'.1/\s'.os=l'.os/\AllBare s'.gens) l':=by
  intro H hO MJ hS hok hA hK;have AE:∀{b:V6}{o:X6},l'.heap.get? b=A? o->H b=B?->(lZ l'.heap H).get? b=A? o:=λe n=>uq e n
  have MK:∀{b:V6}{o:X6},l'.heap.get? b=A? o->(∀xs n,o.data≠.seq xs n)->(∀xs,o.data≠.fields xs\/o.cls≠.none)->H b=none:=λ{b o}e d1 d2=>by
   cases q:H b with
   |none=>rfl
   | some u =>
     rcases hA b (by rw[q];simp)with e'|e'
     .subst e';rw[ha]at e;cases e;exact g! rfl (d1 _ _)
     .subst e';rw[hT]at e;cases e;rcases d2 #[]with z|z
      .exact g! rfl z
      .exact g! rfl z
  have K5:∀{b:V6}{m:WE->Option V8},l'.heap.Ns b m->(lZ l'.heap H).Ns b m:=λ{b m}⟨o,es,ep,e,d,r⟩=>⟨o,es,ep,AE e (MK e (λxs n=>by rw[d];exactλz=>nomatch z) (λxs=>.inl (by rw[d];exactλz=>nomatch z))),d,r⟩
  have Pg:K.In (lZ l'.heap H):=λb o e=>AE (KX b o e) (by
   cases q:H b with
   |none=>rfl
   | some u =>
     rcases hA b (by rw[q];simp)with e'|e'
     .subst e';rw[hK (by rw[q];simp)]at e;cases e
     .subst e';rw[MG]at e;cases e)
  have hM:Mod K mg (lZ l'.heap H):=⟨Pg,K5 AV,⟨mb,K5 hb,R3⟩,let⟨mc,h1,h2⟩:=MF;⟨mc,K5 h1,h2⟩⟩
  have hL:Lam mg (lZ l'.heap H) c T:=by
   refine⟨?_,?_⟩
   .obtain⟨o,R4,file,tf,flags,tg,R5,text,tt,e1,r1,r2,r3⟩:=hC;exact⟨o,R4,file,tf,flags,tg,R5,text,tt,AE e1 (MK e1 (λxs n=>by rw[r2];exactλz=>nomatch z) (λxs=>.inr (by rw[r1];exactλz=>nomatch z))),r1,r2,r3⟩
   .obtain⟨bm,o,h1,h2,h3,h4,h5,h6,h7,h8⟩:=AW;exact⟨bm,o,h1,h2,h3,h4,AE h5 (MK h5 (λxs n=>by rw[h8];exactλz=>nomatch z) (λxs=>.inl (by rw[h8];exactλz=>nomatch z))),h6,h7,h8⟩
  have e0:Env0 P w K mg (lZ l'.heap H) callerA [] l' H:=⟨rfl,hM,λb o e=>vB e,Nat.le_of_eq (sK _ _),trivial,λb hb=>g! (show b∈([]:List V6)from hb) (by simp),hok,.of_eq hg⟩;refine codeAny_mono ((F _ Pg (K5 AV) hL).run callerA [] l' H ⟨[.ref a],[]⟩ [.ref a] [.ref a] _ _ hr e0 (IW l' (.ref a)) (.cons rfl .nil) (Bb H hS MJ)) λr s' h=>?_;cases r with
  |error e=>exact(MH H e s' h).elim
  | ok fl =>
    cases fl with
    |next=>exact X9 h
    |brk=>exact X9 h
    |cont=>exact X9 h
    | ret u =>
      obtain⟨v,H',os,bare,un,IX,r',q⟩:=h;have q':v=.bl true:=q;subst q';obtain rfl:u=Value.bool true:=r';refine⟨D?,⟨λb o e=>?_,λb o e=>un.there b o e (by simp)⟩,os,bare⟩;cases q:H b with
      |none=>exact .inl (un.keep b o e q (by intro z;exact g! (show b∈([]:List V6)from z) (by simp)) (by simp))
      | some u =>
        rcases hO b with z|⟨ob,xs,z⟩|⟨rfl,z⟩
        .rw[q]at z;cases z
        .have z2:=un.frzs b ob _ z;obtain⟨e1,_⟩:=hok b _ z;obtain⟨e2,_⟩:=IX b _ z2;rw[e]at e1;cases e1;exact .inl e2
        .obtain⟨more,z2⟩:=un.tbls b _ z;have e2:s'.1.get? b=A? {cls:=.none,data:=.fields (#[]++more)}:=IX b _ z2;rw[hT]at e;cases e;exact .inr (.inl ⟨(hC.tab hT).isCodeTable,rfl,#[],more,rfl,e2⟩)
 have Ph:∀H:Hp,ObjOk P w H l'.heap T (.tbl #[]):=λ_=>hT;cases hk:K.lookup a with
 | some o =>
   have e:=KX a o hk;rw[ha]at e;cases e;refine core (λb=>if b=T then A? (.tbl #[])else B?) (λb=>?_) (b! rfl) (.inr ⟨_,vs.toArray,_,hk,rfl,rfl,rfl,by rw[Wn,MI];exact hl,by simpa using rv⟩) (λb u z=>?_) (λb z=>?_) λz=>g! (a! Pf) z
   .by_cases hb:b=T
    .exact .inr (.inr ⟨hb,b! hb⟩)
    .exact .inl (a! hb)
   .by_cases hb:b=T
    .have z':=(b! hb).symm.trans z;cases z';rw[hb];exact Ph _
    .have z':=(a! hb).symm.trans z;cases z'
   .by_cases hb:b=T
    .exact .inr hb
    .exact g! (a! hb) z
 | none =>
   refine core (λb=>if b=T then A? (.tbl #[])else if b=a then A? (.frz {cls:=.type "list",data:=.seq vs.toArray} (.lst (ns.map o!)))else B?) (λb=>?_) (b! rfl) (.inl (.inr ⟨{cls:=.type "list",data:=.seq vs.toArray},(a! Pf).trans (b! rfl)⟩)) (λb u z=>?_) (λb z=>?_) λ_=>hk
   .by_cases hb:b=T
    .exact .inr (.inr ⟨hb,b! hb⟩)
    .by_cases zJ:b=a
     .exact .inr (.inl ⟨_,_,(a! hb).trans (b! zJ)⟩)
     .exact .inl ((a! hb).trans (a! zJ))
   .by_cases hb:b=T
    .have z':=(b! hb).symm.trans z;cases z';rw[hb];exact Ph _
    .have z':=(a! hb).symm.trans z;by_cases zJ:b=a
     .have z2:=(b! zJ).symm.trans z';cases z2;subst zJ;exact⟨ha,by rw[V2];exact hl,vs,_,rv,ha⟩
     .have z2:=(a! zJ).symm.trans z';cases z2
   .by_cases hb:b=T
    .exact .inr hb
    .by_cases zJ:b=a
     .exact .inl zJ
     .exact g! ((a! hb).trans (a! zJ)) z
def tabAt(o:X6):Option V6:=match o.data with
 | .fields vs=>(match(vs[11]?:Option V8)with
   |some (.ref P)=>A? P
   |_=>B?)
 |_=>B?
end L2
namespace BB
open PySem L2
theorem df(f:Int->Int->Th):∀ts:List Th,fills f ts=ts.map (·.fill f)
 | []=>rfl
 |t::ts=>by rw[fills,df f ts];rfl
end BB
namespace L2
open PySem PySem.Spec PySem.SeqAt PyProof.Rows
section
variable{X:Cx}{o i value:Xb}{td ty tv:TE}
end
end L2
namespace BB
open PySem L2
mutual
def cnT:Th->Nat
 |.knot _ ks=>pq ks
 |.call _ _=>1
def pq:List Th->Nat
 | []=>0
 |t::ts=>cnT t+pq ts
end
section
variable{mid:List (WE×Int)}{S1 S2:Int}{DO DQ:Th}{DR DS:List (List Th)}
end
end BB
namespace L2
open PySem PySem.Spec PySem.Calls PyProof.Rows
end L2
namespace BB
open PySem L2
mutual
def lc:Th->Nat
 |.call _ _=>1
 |.knot _ ks=>if lcs ks=0 then 0 else lcs ks+1
def lcs:List Th->Nat
 | []=>0
 |t::ts=>max (lc t) (lcs ts)
end
mutual
theorem jE{ks:List (WE×Int)}{S C:Int}(g:GoodN ks):∀t:Th,t.FitS ks S C->2 * t.size+1<=3 ^ t.tall/\3 * cnT t<=3 ^ lc t
 | .call _ _,_=>by
   rw[K!,x!,cnT,lc];exact⟨by decide,by decide⟩
 | .knot n ts,h=>by
   rw[H!]at h;obtain⟨h1,h2⟩:=lr g ts h.2
   have hw:ts.length<=3:=by
    have:=(g.num _ h.1).2;have h2:((ts.length:Nat):Int)<=3:=this;lia
   rw[K!,x!,cnT,lc];refine⟨?_,?_⟩
   .rw[Nat.pow_succ];have hp:1<=3 ^ bD ts:=Nat.pow_pos (by decide);have:ts.length * (3 ^ bD ts - 1)<=3 * (3 ^ bD ts - 1):=YL _ hw;lia
   .have:ts.length * 3 ^ lcs ts<=3 * 3 ^ lcs ts:=YL _ hw;split
    .rename_i hz
     rw[hz]at h2 this;have h3:=mU g ts h.2 hz;lia
    .rw[Nat.pow_succ];lia
theorem lr{ks:List (WE×Int)}{S C:Int}(g:GoodN ks):∀ts:List Th,FitSs ks S C ts->2 * aq ts<=ts.length * (3 ^ bD ts - 1)/\3 * pq ts<=ts.length * 3 ^ lcs ts
 | [],_=>by
   rw[aq,pq];exact⟨WY _,WY _⟩
 | t::ts,h=>by
   rw[FitSs]at h;obtain⟨h1,h2⟩:=jE g t h.1;obtain⟨h3,h4⟩:=lr g ts h.2;rw[aq,pq,bD,lcs,Wq];have a1:3 ^ t.tall<=3 ^ max t.tall (bD ts):=Yb (by decide) (Nat.le_max_left ..);have a2:3 ^ bD ts<=3 ^ max t.tall (bD ts):=Yb (by decide) (Nat.le_max_right ..);have b1:3 ^ lc t<=3 ^ max (lc t) (lcs ts):=Yb (by decide) (Nat.le_max_left ..);have b2:3 ^ lcs ts<=3 ^ max (lc t) (lcs ts):=Yb (by decide) (Nat.le_max_right ..);have a3:ts.length * (3 ^ bD ts - 1)<=ts.length * (3 ^ max t.tall (bD ts) - 1):=Nat.mul_le_mul_left _ (by lia);have b3:ts.length * 3 ^ lcs ts<=ts.length * 3 ^ max (lc t) (lcs ts):=Nat.mul_le_mul_left _ b2;rw[Nat.add_mul,Nat.add_mul];lia
theorem mU{ks:List (WE×Int)}{S C:Int}(g:GoodN ks):∀ts:List Th,FitSs ks S C ts->lcs ts=0->pq ts=0
 | [],_,_=>by rw[pq]
 | t::ts,h,hz=>by
   rw[FitSs]at h;rw[lcs]at hz;have h1:=(jE g t h.1).2;rw[show lc t=0 by lia]at h1;rw[pq,mU g ts h.2 (by lia)];lia
end
theorem m9(f:Int->Int->Th)(ts:List Th):(fills f ts).length=ts.length:=by rw[df,V2]
mutual
theorem kA{ks:List (WE×Int)}{S C S' C':Int}(f:Int->Int->Th)(hf:∀s c,0<=s->s<S->0<=c->c<C->(f s c).FitS ks S' C'):∀t:Th,t.FitS ks S C->(t.fill f).FitS ks S' C'
 | .call s c,h=>by
   rw[H!]at h;rw[C!];exact hf s c h.1 h.2.1 h.2.2.1 h.2.2.2
 | .knot n ts,h=>by
   rw[H!]at h;rw[C!,H!,m9];exact⟨h.1,l6 f hf ts h.2⟩
theorem l6{ks:List (WE×Int)}{S C S' C':Int}(f:Int->Int->Th)(hf:∀s c,0<=s->s<S->0<=c->c<C->(f s c).FitS ks S' C'):∀ts:List Th,FitSs ks S C ts->FitSs ks S' C' (fills f ts)
 | [],_=>by rw[fills,FitSs];trivial
 | t::ts,h=>by
   rw[FitSs]at h;rw[fills,FitSs];exact⟨kA f hf t h.1,l6 f hf ts h.2⟩
end
section
variable{mid:List (WE×Int)}{S1 S2:Int}{DO DQ:Th}{DR DS:List (List Th)}{R6 R7 R8 R9 Sa Sb Sd:Nat}
end
end BB
namespace L2
open PySem PySem.Spec PySem.Calls PyProof.Rows
end L2
namespace BB
open PySem L2
section
variable{k0 k1 k2 k3:List (WE×Int)}{SA SB SC:Int}{a0 b0 c0:Th}{Pj Pk Pl:List (List Th)}
end
section
variable{mid:List (WE×Int)}{S1 S2:Int}{DO DQ:Th}{DR DS:List (List Th)}{R6 R7 R8 R9 Sa Sb Sd:Nat}
end
theorem hid{G:Prop}(k:∀F:Prop,(G->F)->F):G:=k G id
inductive Ex1{A0:Type}(p:A0->Prop):Prop
 |mk (x0:A0) (h:p x0):Ex1 p
inductive Ex2{A0 A1:Type}(p:A0->A1->Prop):Prop
 |mk (x0:A0) (x1:A1) (h:p x0 x1):Ex2 p
inductive Ex3{A0 A1 A2:Type}(p:A0->A1->A2->Prop):Prop
 |mk (x0:A0) (x1:A1) (x2:A2) (h:p x0 x1 x2):Ex3 p
inductive Ex4{A0 A1 A2 A3:Type}(p:A0->A1->A2->A3->Prop):Prop
 |mk (x0:A0) (x1:A1) (x2:A2) (x3:A3) (h:p x0 x1 x2 x3):Ex4 p
inductive Ex5{A0 A1 A2 A3 A4:Type}(p:A0->A1->A2->A3->A4->Prop):Prop
 |mk (x0:A0) (x1:A1) (x2:A2) (x3:A3) (x4:A4) (h:p x0 x1 x2 x3 x4):Ex5 p
inductive Ex6{A0 A1 A2 A3 A4 A5:Type}(p:A0->A1->A2->A3->A4->A5->Prop):Prop
 |mk (x0:A0) (x1:A1) (x2:A2) (x3:A3) (x4:A4) (x5:A5) (h:p x0 x1 x2 x3 x4 x5):Ex6 p
inductive Ex7{A0 A1 A2 A3 A4 A5 A6:Type}(p:A0->A1->A2->A3->A4->A5->A6->Prop):Prop
 |mk (x0:A0) (x1:A1) (x2:A2) (x3:A3) (x4:A4) (x5:A5) (x6:A6) (h:p x0 x1 x2 x3 x4 x5 x6):Ex7 p
inductive Ex8{A0 A1 A2 A3 A4 A5 A6 A7:Type}(p:A0->A1->A2->A3->A4->A5->A6->A7->Prop):Prop
 |mk (x0:A0) (x1:A1) (x2:A2) (x3:A3) (x4:A4) (x5:A5) (x6:A6) (x7:A7) (h:p x0 x1 x2 x3 x4 x5 x6 x7):Ex8 p
inductive Ex9{A0 A1 A2 A3 A4 A5 A6 A7 A8:Type}(p:A0->A1->A2->A3->A4->A5->A6->A7->A8->Prop):Prop
 |mk (x0:A0) (x1:A1) (x2:A2) (x3:A3) (x4:A4) (x5:A5) (x6:A6) (x7:A7) (x8:A8) (h:p x0 x1 x2 x3 x4 x5 x6 x7 x8):Ex9 p
inductive yy{A0 A1 A2 A3 A4 A5 A6 A7 A8 A9:Type}(p:A0->A1->A2->A3->A4->A5->A6->A7->A8->A9->Prop):Prop
 |mk (x0:A0) (x1:A1) (x2:A2) (x3:A3) (x4:A4) (x5:A5) (x6:A6) (x7:A7) (x8:A8) (x9:A9) (h:p x0 x1 x2 x3 x4 x5 x6 x7 x8 x9):yy p
inductive An2(a0 a1:Prop):Prop
 |mk (h0:a0) (h1:a1):An2 a0 a1
inductive An3(a0 a1 a2:Prop):Prop
 |mk (h0:a0) (h1:a1) (h2:a2):An3 a0 a1 a2
inductive An4(a0 a1 a2 a3:Prop):Prop
 |mk (h0:a0) (h1:a1) (h2:a2) (h3:a3):An4 a0 a1 a2 a3
inductive An5(a0 a1 a2 a3 a4:Prop):Prop
 |mk (h0:a0) (h1:a1) (h2:a2) (h3:a3) (h4:a4):An5 a0 a1 a2 a3 a4
inductive An6(a0 a1 a2 a3 a4 a5:Prop):Prop
 |mk (h0:a0) (h1:a1) (h2:a2) (h3:a3) (h4:a4) (h5:a5):An6 a0 a1 a2 a3 a4 a5
inductive An7(a0 a1 a2 a3 a4 a5 a6:Prop):Prop
 |mk (h0:a0) (h1:a1) (h2:a2) (h3:a3) (h4:a4) (h5:a5) (h6:a6):An7 a0 a1 a2 a3 a4 a5 a6
inductive An8(a0 a1 a2 a3 a4 a5 a6 a7:Prop):Prop
 |mk (h0:a0) (h1:a1) (h2:a2) (h3:a3) (h4:a4) (h5:a5) (h6:a6) (h7:a7):An8 a0 a1 a2 a3 a4 a5 a6 a7
inductive An9(a0 a1 a2 a3 a4 a5 a6 a7 a8:Prop):Prop
 |mk (h0:a0) (h1:a1) (h2:a2) (h3:a3) (h4:a4) (h5:a5) (h6:a6) (h7:a7) (h8:a8):An9 a0 a1 a2 a3 a4 a5 a6 a7 a8
inductive xD(a0 a1 a2 a3 a4 a5 a6 a7 a8 a9 Pm Pn Po Pp:Prop):Prop
 |mk (h0:a0) (h1:a1) (h2:a2) (h3:a3) (h4:a4) (h5:a5) (h6:a6) (h7:a7) (h8:a8) (h9:a9) (Vt:Pm) (Vu:Pn) (Pq:Po) (Vv:Pp):xD a0 a1 a2 a3 a4 a5 a6 a7 a8 a9 Pm Pn Po Pp
end BB
namespace L2
open PySem PySem.Spec PyProof.Rows
end L2
namespace BB
open PySem L2
section
variable{S:Int}{d:Nat}
end
end BB
namespace L2
open PySem PySem.Spec PyProof.Rows
def Thaws(H H1 H2:Hp):Prop:=∀b,H2 b=H1 b\/∃o u,H1 b=A? (.frz o u)/\H b=A? u/\H2 b=A? u
theorem Thaws.refl(H H1:Hp):Thaws H H1 H1:=λ_=>.inl rfl
theorem xL{o:X6}{u:HO}(h:u=.frz o u):False:=by
 have:=h! sizeOf h;simp at this
theorem Inv.thaw{X:Cx}{zC:St}{s1:Wd}(I:Inv X Y σ H s)(I1:Inv X Y zC H1 s1)(h:Thaws H H1 H2):Inv X Y zC H2 s1:=by
 have keep:∀b u,H1 b=A? u->(∀o v,u≠.frz o v)->H2 b=A? u:=λb u e n=>by
  rcases h b with z|⟨o,v,z,_⟩
  .rw[z];exact e
  .rw[e]at z;cases z;exact g! rfl (n o v)
 have non:∀b,H1 b=B?->H2 b=none:=λb e=>by
  rcases h b with z|⟨o,v,z,_⟩
  .rw[z];exact e
  .rw[e]at z;cases z
 have ht:∀b xs,H1 b=A? (.tup xs)->H2 b=A? (.tup xs):=λb xs e=>keep b _ e (λ_ _ z=>nomatch z);have hw:∀c b,H1 b=A? (.own c)->H2 b=A? (.own c):=λc b e=>keep b _ e (λ_ _ z=>nomatch z);refine⟨I1.ok,I1.os,I1.bare,⟨I1.base.keep,I1.base.slot,λb o e n x=>non b (I1.base.free b o e n x),I1.base.there,λb xs e=>ht b xs (I1.base.tups b xs e),λb o u e=>?_,λb ps e=>?_⟩,I1.loc,I1.cell,non _ I1.free,λx c e=>non _ (I1.freeC x c e),λp hp=>?_,λb u e=>?_,I1.len⟩
 .have e1:=I1.base.frzs b o u e;have e2:=I.base.frzs b o u e;rcases h b with z|⟨o',v,z,z2,_⟩
  .rw[z];exact e1
  .rw[e1]at z;cases z;rw[e2]at z2;exact(xL (Wi z2).symm).elim
 .obtain⟨more,e1⟩:=I1.base.tbls b ps e;exact⟨more,keep b _ e1 (λ_ _ z=>nomatch z)⟩
 .obtain⟨a1,a2,a3⟩:=I1.pin p hp;exact⟨a1,non _ a2,a3⟩
 .rcases h b with z|⟨o,v,z,_,z3⟩
  .rw[z]at e;exact(I1.hok b u e).stay (λ_ _ _ q=>q) (hw b) ht
  .rw[z3]at e;cases e;obtain⟨_,k⟩:=(show ObjOk X.prog X.w H1 s1.1 b (.frz o u)from I1.hok b _ z);exact k.stay (λ_ _ _ q=>q) (hw b) ht
def yk(t:TS):TS:=λD σ H=>t {D with nx:=λzC H1=>∃H2,Thaws H H1 H2/\D.nx zC H2} σ H
theorem gK{X:Cx}{t:TS}(h:PS X st t):PS X st (yk t):=λY s σ H D I q=>thn (h Y s σ H _ I q) λf s' r=>by
 cases f with
 | next =>
   obtain⟨zC,H1,I1,H2,th,q2⟩:=r;exact⟨zC,H2,I.thaw I1 th,q2⟩
 |brk=>exact r
 |cont=>exact r
 |ret u=>exact r
def kT(t:TE):TE:=λσ H Q=>t σ H λv H1=>∃H2,Thaws H H1 H2/\Q v H2
theorem vh{X:Cx}{t:TE}(h:PE X e t):PE X e (kT t):=λY s σ H Q I q=>thn (h Y s σ H _ I q) λv s' r=>by
 obtain⟨x,H1,I1,rv,H2,th,q2⟩:=r;exact⟨x,H2,I.thaw I1 th,rv,q2⟩
theorem eO:entryFor table "dict_itemiterator.__iter__"=A? Y6.«dict_keyiterator.__iter__»:=entryFor_alias (id':="dict_keyiterator.__iter__") (by kernel_rfl) rfl (by decide +kernel) (by kernel_rfl)
theorem Inv.freezeK{X:Cx}{kvs:List (Key×V)}{o:X6}(I:Inv X Y σ H s)(ha:H a=A? (.dK kvs))(ho:s.1.get? a=A? o):Inv X Y σ (upd H a (.frz o (.dK kvs))) s:=by
 have ne:∀b u,H b=A? u->u≠.dK kvs->b≠a:=λb u e d z=>by rw[z,ha]at e;exact d (Wi e).symm
 have ht:∀b xs,H b=A? (.tup xs)->upd H a (.frz o (.dK kvs)) b=A? (.tup xs):=λb xs e=>by rw[aj (ne b _ e (by intro z;cases z))];exact e
 have hw:∀c b,H b=A? (.own c)->upd H a (.frz o (.dK kvs)) b=A? (.own c):=λc b e=>by rw[aj (ne b _ e (by intro z;cases z))];exact e
 have st:∀b u,H b=A? u->ObjOk X.prog X.w (upd H a (.frz o (.dK kvs))) s.1 b u:=λb u e=>(I.hok b u e).stay (λ_ _ _ q=>q) (hw b) ht;refine I.step (g':=s.gens) (d':=s.drawn) (t':=s.toks) (ch:=[]) (λ_ z=>nomatch z) (λb ob _ _ _ e _=>e) (λb ob _ _ _ e _=>⟨ob.slots,e⟩) (λb ob _ e n=>?_) (λb ob _ e=>⟨ob,e⟩) ht (λb ob u e=>?_) (λb ps e=>⟨#[],?_⟩) (λm hm=>hm) (λb u e=>?_) I.bare
 .rw[aj (λz=>by rw[z,ha]at n;cases n)];exact n
 .rw[aj (ne b _ e (by intro z;cases z))];exact e
 .rw[aj (ne b _ e (by intro z;cases z)),e];simp
 .by_cases hb:b=a
  .subst hb;rw[ac]at e;cases e;exact⟨ho,st _ _ ha⟩
  .rw[aj hb]at e;exact st b u e
theorem rp{o:X6}{es:Array DictEntry}{kvs:List (Key×V)}(hd:o.data=.dict es ep)(k:ObjOk P w H h a (.frz o (.dK kvs))) :
 ∃vs,KV kvs vs/\h.DictAt (bw P w) a vs ep/\vs.length=kvs.length:=by
 obtain⟨e0,z,y,vs,rel,o',G0,G1,h1,h2,h3,h4⟩:=k;rw[e0]at h1;cases h1;rw[hd]at h3;cases h3;exact⟨vs,rel,⟨o,es,e0,h2,hd,h4⟩,(Wx rel).symm⟩
theorem vm{k:Key}{v:V8}(h:(bw P w).is k v=Bq):RelV (kV k) v:=by
 rcases bS h with⟨i,tk,e1,e2⟩|⟨x,tk,e1,e2⟩
 .rw[e1];exact⟨tk,e2⟩
 .rw[e1];exact⟨tk,e2⟩
def ItI(a:V6)(o:X6)(kvs:List (Key×V)):It :=
 ⟨λi H=>H a=A? (.frz o (.dK kvs))/\i<kvs.length,
  λi H v H'=>∃p kv,H p=B?/\v=.ref p/\H'=upd H p (.tup [kV kv.1,kv.2])/\kvs[i]?=A? kv,
  λi H=>H a=A? (.frz o (.dK kvs))/\kvs.length<=i⟩
theorem pF{k1}(a it:V6)(o:X6)(es:Array DictEntry)(ep:Nat)(kvs:List (Key×V))(hd:o.data=.dict es ep) :
 Turn P w K (.Tuple elts k1 pos) (ItI a o kvs) [it] it (λi h=>∃ok ov,IsItemIter h it a i kvs.length ep ok ov) where
 mem:=by simp
 obj:=λi h st b hb=>by
  obtain⟨ok,ov,e⟩:=st;have eb:b=it:=by simpa using hb
  subst eb;exact⟨_,e,λv z=>by cases z⟩
 keep:=λi h h' st k=>by
  obtain⟨ok,ov,e⟩:=st;exact⟨ok,ov,k it (by simp) _ e⟩
 item:=by
  intro X hP hw hK hc i Y s σ H E I hf st hg;subst hP hw hK;obtain⟨hq,zf⟩:=hg;obtain⟨ok,ov,hit⟩:=st;obtain⟨vs,rel,dat,hlen⟩:=rp hd (I.hok a _ hq);obtain⟨kv,Aa⟩:∃kv,kvs[i]?=A? kv:=⟨_,V4 zf⟩;obtain⟨xv,Se,r1,r2⟩:=u! rel Aa;rw[<-hlen]at hit;have Ah:it<s.1.1.size:=WC hit;obtain⟨f0,f1,f2,f3,f4,f5⟩:=hf it (by simp);refine wpAny_pyNext_items_item hit dat (k:=xv.1) (v:=xv.2) Se λkey h1 Bu Gb BS hsz DT=>?_;refine⟨_,D?,wpAny_letOwnedTupleGo_items Gb λh2 g1 sb=>?_⟩;replace sb:XA it h1 h2:=sb;have FY:H s.1.1.size=none:=I.hok.fresh (Wc _)
  have IA:Inv X Y σ (upd H s.1.1.size (.tup [kV kv.1,kv.2])) {s with heap:=s.1.push {cls:=.type "tuple",data:=.seq #[key,xv.2]},toks:=s.toks} :=
   I.laid (o:=.tup [kV kv.1,kv.2]) (λb ob q=>V9 _ q) (Wc _) ⟨by show 2<=WD;decide,[key,xv.2],0,.cons (by rw[r1];exact vm Bu) (.cons r2 .nil),Wh _ rfl⟩
  refine⟨.ref s.1.1.size,upd H s.1.1.size (.tup [kV kv.1,kv.2]),?_,D?,⟨_,kv,FY,D?,D?,Aa⟩,⟨_,_,by rw[<-hlen];exact g1⟩,λc hc=>?_⟩
  .refine Inv.turnedL (s:={s with heap:=s.1.push {cls:=.type "tuple",data:=.seq #[key,xv.2]},toks:=s.toks}) (h':=h2) (fp:=[it]) (t':=s.toks) IA (λc oc hc q=>?_) λc hc=>?_
   .have n1:c≠it:=λe=>hc (by simp[e]);rw[sb.2 c n1];by_cases hb2:c=s.1.1.size
    .subst hb2;have q':(s.1.push {cls:=.type "tuple",data:=.seq #[key,xv.2]}).get? s.1.1.size=A? oc:=q;rw[Wh _ rfl]at q';rw[<-q'];exact BS
    .have q':(s.1.push {cls:=.type "tuple",data:=.seq #[key,xv.2]}).get? c=A? oc:=q;rw[Heap.get?_push_ne _ _ _ hb2]at q';exact DT c oc n1 q'
   .have e:c=it:=by simpa using hc
    subst e;exact⟨by rw[aj (WT Ah)];exact f0,f1,f2,f3,f4,f5⟩
  .have e:c=it:=by simpa using hc
   subst e;rw[aj (WT Ah)];exact f0
 done:=by
  intro X hP hw hK hc i Y s σ H E I hf st hg;subst hP hw hK;obtain⟨hq,Hj⟩:=hg;obtain⟨ok,ov,hit⟩:=st;obtain⟨vs,rel,dat,hlen⟩:=rp hd (I.hok a _ hq);rw[<-hlen]at hit;obtain⟨f0,f1,f2,f3,f4,f5⟩:=hf it (by simp);exact wpAny_pyNext_items_end (I.ok.hd hc) hit dat (Xo (by lia)) λh' eb=>⟨rfl,I.turned (t':=s.toks) (λb ob hb e=>eb b ob hb e) f0 f1 f3 f4 f5⟩
 self:=by
  intro A i s Q E st h;obtain⟨ok,ov,e⟩:=st;have hT:s.TypeIs (.ref it) "dict_itemiterator":=⟨_,e,rfl⟩;refine Z2 hT Zj (Xl Zj hT eO ?_ (F.args_dict_itemiterator_iter_1 _));exact Wa ⟨_,rfl,"dict_itemiterator",_,hT,XQ.lookup,h⟩
section
variable{X:Cx}{te:TE}{apos zo:Zb}
def wJ(tl:TE):TI:=λσ H R=>tl σ H λx H1=>∃a kvs,x=.ref a/\H1 a=A? (.dK kvs)/\∀o,R (ItI a o kvs) (upd H1 a (.frz o (.dK kvs)))
theorem kC{k1}(he:PE X e te)(AH:ZN e "items" X.env (Yd e X.env)=Yd e X.env:=by rfl)(AI:(apos.endLine == zo.line)=true:=by rfl) :
 PI X (.Tuple elts k1 pos) (.Call (.Attribute e "items" apos) [] [] zo) (wJ te):=by
 intro Y s σ H R I h;refine wpAny_Call_method0_late AH AI (thn (he Y s σ H _ I h) λv s1⟨x,H1,I1,r1,a,kvs,ex,ha,q⟩=>?_);subst ex;cases r1;obtain⟨z,y,vs,rel,dd⟩:=(show ObjOk X.prog X.w H1 s1.1 a (.dK kvs)from I1.hok a _ ha);obtain⟨o,es,ep,h1,h2,h3,h4⟩:=id dd;have hlen:kvs.length=vs.length:=Wx rel;have dat:s1.1.DictAt (bw X.prog X.w) a vs ep:=⟨o,es,h1,h2,h3,h4⟩;refine⟨"dict","dict.items",F.plainAttrs_dict,F.slot_dict_items,F.type_dict_items,dd.typeIs,dd.mapOf.noDict,?_⟩;refine method_meetsIn F.slot_dict_items F.entry_dict_items rfl (PySem.evalArgs_none ⟨rfl,dd.typeIs,F.args_dict_items_1 _,_,meets_dict_items (bw X.prog X.w) a y,⟨vs,dd⟩,?_⟩);have I2:=I1.freezeK ha h1;refine wpAny_pyIter_items (kvs:=vs) (ep:=ep) ⟨_,Wh _ rfl,rfl,rfl⟩ (dat.push _) ?_;generalize hN:((s1.1.push {cls:=.type "dict_items",data:=.fields #[.ref a]}).objs.size)=n;have hn:n=s1.1.1.size+1:=by rw[<-hN,Xw]
 have kept:∀b ob,s1.1.get? b=A? ob->((s1.1.push {cls:=.type "dict_items",data:=.fields #[.ref a]}).push {cls:=.type "dict_itemiterator",data:=.fields #[.none,.bool C?,.ref a,.int 0 0,.int vs.length 0,.int ep 0,.none,.none]}).get? b=A? ob:=λb ob e=>V9 _ (V9 _ e);have hz:s1.1.1.size<=n:=by lia
 refine⟨n,[n],_,_,upd H1 a (.frz o (.dK kvs)),D?,I2.kept (t':=s1.toks) kept,pF a n o es ep kvs h3,⟨.none,.none,?_⟩,λb hb=>?_,q o⟩
 .rw[<-hN,hlen];exact Wh _ rfl
 .have e:b=n:=by simpa using hb
  subst e;exact I2.fpOk hz (I2.hok.fresh hz)
theorem jI{o:X6}{kvs:List (Key×V)}{g:TG}(Pv:Nat->St->Hp->Prop)(h0:Pv 0 σ H)(hl:∀i σ H,i<=kvs.length->Pv i σ H->H a=A? (.frz o (.dK kvs)))
 (hs:∀i kv p σ H,kvs[i]?=A? kv->H p=B?->Pv i σ H->g (.ref p) σ (upd H p (.tup [kV kv.1,kv.2])) λzl H2=>tb {D with nx:=Pv (i+1),ct:=Pv (i+1),bk:=D.nx} zl H2) (hd:∀σ H,Pv kvs.length σ H->D.nx σ H) :
 ∃W:Nat->Nat->St->Hp->Prop,(∃m,W 0 m σ H)/\∀i m σ H,W i m σ H ->
   ((ItI a o kvs).stop i H/\D.nx σ H)\/((ItI a o kvs).go i H/\∃N:St->Hp->Prop,(∀i' H',N i' H'->∃m',m'<m/\W (i+1) m' i' H')/\∀x H',(ItI a o kvs).yld i H x H'->g x σ H' λzl H2=>tb {D with nx:=N,ct:=N,bk:=D.nx} zl H2):=by
 refine⟨λi m σ H=>m=kvs.length - i/\i<=kvs.length/\Pv i σ H,⟨kvs.length,by simp,WY _,h0⟩,?_⟩;rintro i m σ H ⟨rfl,hi,p⟩;have q:=hl i σ H hi p;by_cases zf:i<kvs.length
 .refine .inr ⟨⟨q,zf⟩,Pv (i+1),λi' H' p'=>⟨kvs.length - (i+1),by lia,rfl,zf,p'⟩,λx H' y=>?_⟩;obtain⟨pa,kv,hp,rfl,rfl,Aa⟩:=y;exact hs i kv pa σ H Aa hp p
 .have e:i=kvs.length:=by lia
  subst e;exact .inl ⟨⟨q,Wc _⟩,hd σ H p⟩
end
section
variable{X:Cx}{te:TE}{apos zo:Zb}
end
end L2
namespace PySem
open Sem (wp)
section
variable{od:X6}{es:Array DictEntry}{ok ov:V8}
theorem bb_put{vs:Array V8}{x:V8}{Q:Unit->Wd->Prop}(e:s.1.get? it=A? {cls:=.type "dict_itemiterator",dict:=B?,data:=.fields vs,slots:=#[]})(hj:j<vs.size)
 (k:∀h',h'.get? it=A? {cls:=.type "dict_itemiterator",dict:=B?,data:=.fields (vs.setIfInBounds j x),slots:=#[]}->XA it s.1 h'->Q () {s with heap:=h'}):Ww (WN prog w) A (setField (.ref it) j x) Q E s :=
 Yn e hj λh' e' sb=>k h' e' sb
theorem bb_itemNextT{en:DictEntry}{Q:Option V8->Wd->Prop}(g:IsItemIter s.1 it d i es.size ep ok ov)(g1:s.1.get? d=A? od)(g2:od.data=.dict es ep)(hx:es[i]?=A? en)
 (fin:∀h',IsItemIterOut h' it d (i+1) es.size ep en.key en.val s.1.1.size->h'.get? s.1.1.size=A? {cls:=.type "tuple",data:=.seq #[en.key,en.val]}->(∀b o,b≠it->s.1.get? b=A? o->h'.get? b=A? o)->Q (A? (.ref s.1.1.size)) {s with heap:=h'}) :
 Ww (WN prog w) A (Y8 (.ref it)) Q E s:=by
 obtain⟨h0,gn,dr,tk,os⟩:=s;have gT:Shared.TypeIs ⟨h0,gn,dr,tk,os⟩ (.ref it) "dict_itemiterator":=⟨_,g,rfl⟩;have own:YC "dict_itemiterator"=true:=by decide
 have lt:i<es.size:=(Zq.mp hx).1;have ee:es[i]=en:=(Zq.mp hx).2;have Ah:it<h0.objs.size:=WC g;unfold Y8;refine V3 (wpAny_attempt (Xi (name:=Wb "__next__") gT XQ (Xl XQ gT F.entry_dict_itemiterator_next ?_ (F.args_dict_itemiterator_next_1 _))));refine V3 (Wa (V3 (V3 ?_)));first|refine V3 (Y7 gT (Wa ?_))|refine V3 (ZJ gT (Wa ?_))
 refine V3 (wpAny_fieldsOf g rfl ?_);simp only[own,if_true];show Ww _ _ (if(W3 d == XH)=Bq then _ else _) _ _ _;rw[a! (show¬((W3 d == XH)=Bq)from Wz)];refine V3 (Wa (V3 (Yz g1 g2 ?_)));rw[a! (by simp)];refine V3 (Wa (V3 (ZU g1 g2 ?_)));rw[a! (by simp)];refine Wa ?_;simp only[show¬((i:Int)<0)from by lia,if_false,Wl,YG lt];rw[ee];refine V3 ?_;first|refine V3 (Y7 gT (Wa ?_))|refine V3 (ZJ gT (Wa ?_))
 refine V3 (wpAny_isOneOf_itemiter gT ?_);show Ww _ _ (setField (.ref it) 3 (Yv ((i:Int)+1)) >>= _) _ _ _;refine V3 (bb_put g (by simp) λh1 e1 K6=>?_);replace K6:XA it h0 h1:=K6
 replace e1:IsItemIter h1 it d (i+1) es.size ep ok ov:=by
  have e:((i+1:Nat):Int)=(i:Int)+1:=by lia
  unfold IsItemIter;rw[e];simpa[Yv]using e1
 have Pr:Shared.TypeIs ⟨h1,gn,dr,tk,os⟩ (.ref it) "dict_itemiterator":=⟨_,e1,rfl⟩;refine V3 (Xq (V3 (wpAny_isOneOf_itemiter Pr (V3 (wpAny_isOneOf_itemiter Pr ?_)))));show Ww _ _ (Builtin.Dict_items.pairFromOwner (.ref it) 6 en.key en.val) _ _ ⟨h1,gn,dr,tk,os⟩;unfold Builtin.Dict_items.pairFromOwner;refine V3 (wpAny_newTuple ?_);have z1:h1.objs.size=h0.objs.size:=K6.1;have e2:IsItemIter (h1.push {cls:=.type "tuple",data:=.seq #[en.key,en.val]}) it d (i+1) es.size ep ok ov:=V9 _ e1;have t2:(h1.push {cls:=.type "tuple",data:=.seq #[en.key,en.val]}).get? h0.objs.size=A? {cls:=.type "tuple",data:=.seq #[en.key,en.val]}:=by rw[<-z1];exact Wh _ rfl
 have k2:∀b o,b≠it->h0.get? b=A? o->(h1.push {cls:=.type "tuple",data:=.seq #[en.key,en.val]}).get? b=A? o:=λb o hb q=>V9 _ (K6.extBut b o hb q);rw[z1];generalize h1.push {cls:=.type "tuple",data:=.seq #[en.key,en.val]}=h2 at e2 t2 k2 |-;show Ww _ _ (Builtin.Dict_items.ownedTupleIsFree (.ref it) >>= _) _ _ ⟨h2,gn,dr,tk,os⟩;refine V3 ?_;unfold Builtin.Dict_items.ownedTupleIsFree;refine V3 (Xe e2 rfl (x:=.none) rfl (Wa ?_));simp only[if_true];refine V3 (Xe e2 rfl (x:=ok) rfl (V3 (Xe e2 rfl (x:=ov) rfl ?_)));refine V3 (bb_put e2 (by simp) λh3 e3 MM=>?_);replace MM:XA it h2 h3:=MM;refine V3 (bb_put e3 (by simp) λh4 e4 DU=>?_);replace DU:XA it h3 h4:=DU;refine V3 (bb_put e4 (by simp) λh5 e5 Hk=>?_);replace Hk:XA it h4 h5:=Hk;refine V3 (bb_put e5 (by simp) λh6 e6 MN=>?_);replace MN:XA it h5 h6:=MN;have up:∀b o,b≠it->h2.get? b=A? o->h6.get? b=A? o:=λb o hb q=>MN.extBut b o hb (Hk.extBut b o hb (DU.extBut b o hb (MM.extBut b o hb q)));exact V3 (YU (Wa (Wa ⟨_,rfl,Wa (fin h6 (by unfold IsItemIterOut;simpa[Yv]using e6) (up _ _ (Y4 Ah) t2) λb o hb q=>up b o hb (k2 b o hb q))⟩)))
theorem bb_itemEndT{Q:Option V8->Wd->Prop}(calm:A.handled=B?)(g:IsItemIter s.1 it d i es.size ep ok ov)(g1:s.1.get? d=A? od)(g2:od.data=.dict es ep)(hx:es.size<=i)
 (fin:∀h',Heap.ExtBut it s.1 h'->Q B? {s with heap:=h'}):Ww (WN prog w) A (Y8 (.ref it)) Q E s:=by
 have gT:s.TypeIs (.ref it) "dict_itemiterator":=⟨_,g,rfl⟩;have own:YC "dict_itemiterator"=true:=by decide
 unfold Y8;refine V3 (wpAny_attempt (Xi (name:=Wb "__next__") gT XQ (Xl XQ gT F.entry_dict_itemiterator_next ?_ (F.args_dict_itemiterator_next_1 _))));refine V3 (Wa (V3 (V3 ?_)));first|refine V3 (Y7 gT (Wa ?_))|refine V3 (ZJ gT (Wa ?_))
 refine V3 (wpAny_fieldsOf g rfl ?_);simp only[own,if_true];show Ww _ _ (if(W3 d == XH)=Bq then _ else _) _ _ s;rw[a! (show¬((W3 d == XH)=Bq)from Wz)];refine V3 (Wa (V3 (Yz g1 g2 ?_)));rw[a! (by simp)];refine V3 (Wa (V3 (ZU g1 g2 ?_)));rw[a! (by simp)];refine Wa ?_;simp only[show¬((i:Int)<0)from by lia,if_false,Wl,ZT hx];refine V3 ?_;first|refine V3 (Y7 gT (Wa ?_))|refine V3 (ZJ gT (Wa ?_))
 show Ww _ _ (setField (.ref it) 2 .none >>= _) _ _ s;refine V3 (wpAny_setField g rfl (by simp) ?_);show Ww _ _ (newExc (.type "StopIteration") [] >>= _) _ _ _;refine V3 ?_;simp only[newExc,newTuple];refine V3 (Xc ?_ (by size_fits));refine V3 (m:=Z4 _ _) (wpAny_of_eq (a:=XH) (by first|rfl|(simp only[Z4];rfl)) ?_);refine Xc ?_ (by size_fits);simp only[raiseNew];refine V3 (wpAny_handled ?_);rw[show A.in1.handled=B? from calm];refine V3 (Wa (wpAny_throw ?_));refine V3 (wpAny_isInstance (T:="StopIteration") (b:=Bq) ⟨_,Wh _ rfl,rfl⟩ isSubtype_stop ?_);exact Wa (fin _ (((XJ ..).extBut.push _).push _))
theorem bb_itemsT(ns:(d == XY)=C?)(gT:s.TypeIs (.ref d) "dict")(fin:Q (.ref s.1.1.size) {s with heap:=s.1.push {cls:=.type "dict_items",data:=.fields #[.ref d]}}):Ww (WN prog w) A (call (.builtin "dict.items") [.ref d]) Q E s:=by
 refine Xl F.slot_dict_items gT F.entry_dict_items ?_ (F.args_dict_items_1 _);unfold Y6.«dict.items»;refine V3 ?_;unfold Builtin.Dict.noArgs;refine V3 (wpAny_notOrdered_dict gT ?_);show Ww _ _ (pure d) _ _ s;refine Wa ?_;show Ww _ _ (Builtin.Dict.showsAll d >>= _) _ _ s;unfold Builtin.Dict.showsAll;rw[a! (by rw[ns];exact Wz)];exact V3 (Wa (V3 (Xc (Wa ⟨_,rfl,fin⟩))))
theorem bb_itemsIterT{v:V6}(hv:s.1.IsItemsView v d)(g1:s.1.get? d=A? od)(g2:od.data=.dict es ep)
 (fin:Q (.ref s.1.1.size) {s with heap:=s.1.push {cls:=.type "dict_itemiterator",data:=.fields #[.none,.bool C?,.ref d,.int 0 0,.int es.size 0,.int ep 0,.none,.none]}}):Ww (WN prog w) A (pyIter (.ref v)) Q E s:=by
 obtain⟨o,e1,e2,e3⟩:=id hv;have own:YC "dict_itemiterator"=true:=by decide
 refine Z2 hv.typeIs F.slot_dict_items_iter (Xl F.slot_dict_items_iter hv.typeIs F.entry_dict_items_iter ?_ (F.args_dict_items_iter_1 _));unfold Y6.«dict_items.__iter__»;refine V3 (Wa (V3 ?_));unfold Builtin.Dict_items.dictOf;refine V3 (Xe e1 e3 (x:=.ref d) rfl (Wa ?_));refine V3 ?_;unfold Builtin.Dict_items.newIterator;refine V3 (Yz g1 g2 (V3 (ZU g1 g2 ?_)));simp only[own,if_true];refine Xc (Wa ⟨_,rfl,"dict_itemiterator",_,⟨_,Wh _ rfl,rfl⟩,XQ.lookup,?_⟩) (by simp only[sizeOk,Builtin.Dict_items.ownedTupleFields,Wn,Wk,Wq,Za,Zw];lia);simpa[Yv,Builtin.Dict_items.ownedTupleFields]using fin
end
end PySem
namespace L2
open PySem PySem.Spec PyProof.Rows
def tT(a:V6)(o:X6)(kvs:List (List Key×V)):It :=
 ⟨λi H=>H a=A? (.frz o (.dT kvs))/\i<kvs.length,
  λi H v H'=>∃p b kv,H p=B?/\v=.ref p/\H'=upd H p (.tup [.ref b,kv.2])/\kvs[i]?=A? kv/\H b=A? (.tup (kv.1.map kV)),
  λi H=>H a=A? (.frz o (.dT kvs))/\kvs.length<=i⟩
theorem pB{k1}(a it:V6)(o:X6)(es:Array DictEntry)(ep:Nat)(kvs:List (List Key×V))(hd:o.data=.dict es ep) :
 Turn P w K (.Tuple elts k1 pos) (tT a o kvs) [it] it (λi h=>∃ok ov,IsItemIter h it a i es.size ep ok ov) where
 mem:=by simp
 obj:=λi h st b hb=>by
  obtain⟨ok,ov,e⟩:=st;have eb:b=it:=by simpa using hb
  subst eb;exact⟨_,e,λv z=>by cases z⟩
 keep:=λi h h' st k=>by
  obtain⟨ok,ov,e⟩:=st;exact⟨ok,ov,k it (by simp) _ e⟩
 item:=by
  intro X hP hw hK hc i Y s σ H E I hf st hg;subst hP hw hK;obtain⟨hq,zf⟩:=hg;obtain⟨ok,ov,hit⟩:=st;obtain⟨e0,z,y,xs,r,o',G0,G1,h1,h2,h3,h4,h5⟩:=(show ObjOk X.prog X.w H s.1 a (.frz o (.dT kvs))from I.hok a _ hq);rw[e0]at h1;cases h1;rw[hd]at h3;cases h3;obtain⟨kv,Aa⟩:∃kv,kvs[i]?=A? kv:=⟨_,V4 zf⟩;obtain⟨q',AS,hr⟩:=u! r Aa;have Dj:es[i]?=A? (entryOfKey (tupleKind (bw X.prog X.w)) q'):=by rw[<-Zg,h4,V7,AS];rfl
  have Ah:it<s.1.1.size:=WC hit;obtain⟨f0,f1,f2,f3,f4,f5⟩:=hf it (by simp);refine bb_itemNextT hit e0 hd Dj λh1 Gb BS DT=>?_;refine⟨_,D?,wpAny_letOwnedTupleGo_items Gb λh2 g1 sb=>?_⟩;replace sb:XA it h1 h2:=sb;have FY:H s.1.1.size=none:=I.hok.fresh (Wc _)
  have IA:Inv X Y σ (upd H s.1.1.size (.tup [.ref q'.2.1,kv.2])) {s with heap:=s.1.push {cls:=.type "tuple",data:=.seq #[.ref q'.2.1,q'.2.2]},toks:=s.toks} :=
   I.laid (o:=.tup [.ref q'.2.1,kv.2]) (λb ob q=>V9 _ q) (Wc _) ⟨by show 2<=WD;decide,[.ref q'.2.1,q'.2.2],0,.cons rfl (.cons hr.2.2 .nil),Wh _ rfl⟩
  refine⟨.ref s.1.1.size,upd H s.1.1.size (.tup [.ref q'.2.1,kv.2]),?_,D?,⟨_,q'.2.1,kv,FY,D?,D?,Aa,hr.2.1⟩,⟨_,_,g1⟩,λc hc=>?_⟩
  .refine Inv.turnedL (s:={s with heap:=s.1.push {cls:=.type "tuple",data:=.seq #[.ref q'.2.1,q'.2.2]},toks:=s.toks}) (h':=h2) (fp:=[it]) (t':=s.toks) IA (λc oc hc q=>?_) λc hc=>?_
   .have n1:c≠it:=λe=>hc (by simp[e]);rw[sb.2 c n1];by_cases hb2:c=s.1.1.size
    .subst hb2;have q2:(s.1.push {cls:=.type "tuple",data:=.seq #[.ref q'.2.1,q'.2.2]}).get? s.1.1.size=A? oc:=q;rw[Wh _ rfl]at q2;rw[<-q2];exact BS
    .have q2:(s.1.push {cls:=.type "tuple",data:=.seq #[.ref q'.2.1,q'.2.2]}).get? c=A? oc:=q;rw[Heap.get?_push_ne _ _ _ hb2]at q2;exact DT c oc n1 q2
   .have e:c=it:=by simpa using hc
    subst e;exact⟨by rw[aj (WT Ah)];exact f0,f1,f2,f3,f4,f5⟩
  .have e:c=it:=by simpa using hc
   subst e;rw[aj (WT Ah)];exact f0
 done:=by
  intro X hP hw hK hc i Y s σ H E I hf st hg;subst hP hw hK;obtain⟨hq,Hj⟩:=hg;obtain⟨ok,ov,hit⟩:=st;obtain⟨e0,z,y,xs,r,o',G0,G1,h1,h2,h3,h4,h5⟩:=(show ObjOk X.prog X.w H s.1 a (.frz o (.dT kvs))from I.hok a _ hq);rw[e0]at h1;cases h1;rw[hd]at h3;cases h3;have hl:=Wx r
  have Ak:es.size=xs.length:=by
   have:=h! XG h4;rw[V2,WO]at this;exact this
  obtain⟨f0,f1,f2,f3,f4,f5⟩:=hf it (by simp);exact bb_itemEndT (I.ok.hd hc) hit e0 hd (by lia) λh' eb=>⟨rfl,I.turned (t':=s.toks) (λb ob hb e=>eb b ob hb e) f0 f1 f3 f4 f5⟩
 self:=by
  intro A i s Q E st h;obtain⟨ok,ov,e⟩:=st;have hT:s.TypeIs (.ref it) "dict_itemiterator":=⟨_,e,rfl⟩;refine Z2 hT Zj (Xl Zj hT eO ?_ (F.args_dict_itemiterator_iter_1 _));exact Wa ⟨_,rfl,"dict_itemiterator",_,hT,XQ.lookup,h⟩
section
variable{X:Cx}{te:TE}{apos zo:Zb}
def nQ(tl:TE):TI:=λσ H R=>tl σ H λx H1=>∃a kvs,x=.ref a/\H1 a=A? (.dT kvs)/\∀o,R (tT a o kvs) (upd H1 a (.frz o (.dT kvs)))
theorem gW{k1}(he:PE X e te)(AH:ZN e "items" X.env (Yd e X.env)=Yd e X.env:=by rfl)(AI:(apos.endLine == zo.line)=true:=by rfl) :
 PI X (.Tuple elts k1 pos) (.Call (.Attribute e "items" apos) [] [] zo) (nQ te):=by
 intro Y s σ H R I h;refine wpAny_Call_method0_late AH AI (thn (he Y s σ H _ I h) λv s1⟨x,H1,I1,r1,a,kvs,ex,ha,q⟩=>?_);subst ex;cases r1;obtain⟨z,y,xs,r,dd⟩:=(show ObjOk X.prog X.w H1 s1.1 a (.dT kvs)from I1.hok a _ ha);obtain⟨o,es,ep,h1,h2,h3,h4,h5⟩:=id dd;have gT:s1.TypeIs (.ref a) "dict":=⟨_,h1,h2.1⟩;refine⟨"dict","dict.items",F.plainAttrs_dict,F.slot_dict_items,F.type_dict_items,gT,λc e=>by cases e;exact⟨_,h1,h2.2.1⟩,?_⟩;refine Z7 rfl (PySem.evalArgs_none (bb_itemsT y gT ?_));have I2:=I1.freeze ha h1;refine bb_itemsIterT (d:=a) (od:=o) (es:=es) (ep:=ep) ⟨_,Wh _ rfl,rfl,rfl⟩ (V9 _ h1) h3 ?_;generalize hN:((s1.1.push {cls:=.type "dict_items",data:=.fields #[.ref a]}).objs.size)=n;have hn:n=s1.1.1.size+1:=by rw[<-hN,Xw]
 have hz:s1.1.1.size<=n:=by lia
 refine⟨n,[n],_,_,upd H1 a (.frz o (.dT kvs)),D?,I2.kept (t':=s1.toks) (λb ob e=>V9 _ (V9 _ e)),pB a n o es ep kvs h3,⟨.none,.none,?_⟩,λb hb=>?_,q o⟩
 .rw[<-hN];exact Wh _ rfl
 .have e:b=n:=by simpa using hb
  subst e;exact I2.fpOk hz (I2.hok.fresh hz)
end
section
variable{X:Cx}{e1 e2:Xb}{t:TA}{p2 zz:Zb}
end
section
variable{X:Cx}
end
end L2
namespace BB
open PySem L2
def ky(c:Int×Int):List Key:=[WQ c.1,WQ c.2]
theorem qa{a b:Int×Int}(h:ky a=ky b):a=b:=by
 obtain⟨a1,a2⟩:=a;obtain⟨b1,b2⟩:=b;simp only[ky,List.cons.injEq,Sum.inl.injEq,and_true]at h;rw[h.1,h.2]
abbrev CLs:=List ((Int×Int)×Int)
def dE(es:CLs):List (List Key×V):=es.map λe=>(ky e.1,o! e.2)
def eE(es:CLs)(k:Int×Int)(v:Int):CLs:=if k∈es.map (·.1)then es.map (λe=>if e.1=k then(e.1,v)else e)else es++[(k,v)]
def dC:CLs->Int×Int->Option Int
 | [],_=>B?
 |e::es,k=>if e.1=k then A? e.2 else dC es k
theorem i9(k:Int×Int):∀es:CLs,bz (dE es) (ky k)=(dC es k).map o!
 | []=>rfl
 | e::es=>by
   show bz ((ky e.1,o! e.2)::dE es) (ky k)=_;rw[dC];by_cases h:e.1=k
   .rw[b! h,ce (by rw[h])];rfl
   .rw[a! h,b8 (λz=>h (qa z)),i9 k es]
theorem wQ(k:Int×Int)(es:CLs):((dE es).any λkv=>decide (kv.1=ky k))=decide (k∈es.map (·.1)):=by
 rw[Bool.eq_iff_iff,ZX,decide_eq_true_iff];constructor
 .rintro⟨x,hx,hk⟩;obtain⟨e,he,rfl⟩:=Wv.mp hx;exact Wv.mpr ⟨e,he,qa (e! hk)⟩
 .intro h;obtain⟨e,he,rfl⟩:=Wv.mp h;exact⟨_,Wv.mpr ⟨e,he,D?⟩,d! rfl⟩
theorem nH(es:CLs)(k:Int×Int)(v:Int):putK (dE es) (ky k) (.int v)=dE (eE es k v):=by
 unfold putK eE;rw[wQ];by_cases h:k∈es.map (·.1)
 .rw[b! (d! h),b! h];unfold dE;rw[WR,WR];refine List.map_congr_left λe he=>?_;simp only[Function.comp];by_cases g:e.1=k
  .rw[b! (by rw[g]),b! g]
  .rw[a! (λz=>g (qa z)),a! g]
 .rw[a! (λz=>h (e! z)),a! h];unfold dE;rw[WB];rfl
theorem gj{es:CLs}{k:Int×Int}{v:Int}(h:dC es k=A? v):(k,v)∈es:=by
 induction es with
 |nil=>cases h
 | cons e es ih =>
   rw[dC]at h;by_cases g:e.1=k
   .rw[b! g]at h;cases h;rw[<-g];exact Wj ..
   .rw[a! g]at h;exact Wo _ (ih h)
theorem rR{es:CLs}{k:Int×Int}(h:dC es k=B?):k∉es.map (·.1):=by
 induction es with
 |nil=>intro z;cases z
 | cons e es ih =>
   rw[dC]at h;by_cases g:e.1=k
   .rw[b! g]at h;cases h
   .rw[a! g]at h;intro z;rcases Wr.mp z with z|z
    .exact g z.symm
    .exact ih h z
theorem qS{es:CLs}(nd:(es.map (·.1)).Nodup){e:(Int×Int)×Int}(h:e∈es):dC es e.1=A? e.2:=by
 induction es with
 |nil=>cases h
 | cons x es ih =>
   rw[WH,Xf]at nd;rw[dC];rcases Wr.mp h with rfl|h
   .rw[b! rfl]
   .rw[a! (λz=>nd.1 (by rw[z];exact Wv.mpr ⟨e,h,rfl⟩))];exact ih nd.2 h
theorem sL(es:CLs)(k:Int×Int)(v:Int):(eE es k v).map (·.1)=if k∈es.map (·.1)then es.map (·.1)else es.map (·.1)++[k]:=by
 unfold eE;by_cases h:k∈es.map (·.1)
 .rw[b! h,b! h,WR];refine List.map_congr_left λe he=>?_;simp only[Function.comp];by_cases g:e.1=k
  .rw[b! g]
  .rw[a! g]
 .rw[a! h,a! h,WB];rfl
theorem lC{es:CLs}(nd:(es.map (·.1)).Nodup)(k:Int×Int)(v:Int):((eE es k v).map (·.1)).Nodup:=by
 rw[sL];by_cases h:k∈es.map (·.1)
 .rw[b! h];exact nd
 .rw[a! h,XI];refine⟨nd,by simp,λa ha b hb=>?_⟩;rw[We.mp hb];exactλz=>h (z ▸ ha)
theorem i5{es:CLs}{k:Int×Int}{v:Int}{e:(Int×Int)×Int}(h:e∈eE es k v):e=(k,v)\/(e∈es/\e.1≠k):=by
 unfold eE at h;by_cases g:k∈es.map (·.1)
 .rw[b! g]at h;obtain⟨x,hx,rfl⟩:=Wv.mp h;by_cases e:x.1=k
  .rw[b! e,e];exact .inl rfl
  .rw[a! e];exact .inr ⟨hx,e⟩
 .rw[a! g]at h;rcases Wm.mp h with h|h
  .exact .inr ⟨h,λz=>g (z ▸ Wv.mpr ⟨e,h,rfl⟩)⟩
  .exact .inl (We.mp h)
theorem uv(es:CLs)(k:Int×Int)(v:Int):(k,v)∈eE es k v:=by
 unfold eE;by_cases g:k∈es.map (·.1)
 .rw[b! g];obtain⟨x,hx,hk⟩:=Wv.mp g;exact Wv.mpr ⟨x,hx,by rw[b! hk,hk]⟩
 .rw[a! g];exact WK _ (We.mpr rfl)
theorem rO{es:CLs}{k:Int×Int}{v:Int}{e:(Int×Int)×Int}(h:e∈es)(hk:e.1≠k):e∈eE es k v:=by
 unfold eE;by_cases g:k∈es.map (·.1)
 .rw[b! g];exact Wv.mpr ⟨e,h,a! hk⟩
 .rw[a! g];exact Wt _ h
theorem oF(es:CLs)(k:Int×Int)(v:Int):(eE es k v).length<=es.length+1:=by
 unfold eE;split
 .rw[V2];lia
 .rw[Wk];exact Wc _
end BB
variable{es:BB.CLs}
namespace BB
open PySem L2
def FrB(S:List V6)(H H':Hp):Prop:=∀b o,b∉S->H b=A? o->H' b=A? o
theorem FrB.refl:FrB S H H:=λ_ _ _ e=>e
theorem FrB.of(h:j! H H'):FrB S H H':=λb o _ e=>h b o e
theorem FrB.trans{A B C:Hp}(h:FrB S A B)(k:FrB S B C):FrB S A C:=λb o hb e=>k b o hb (h b o hb e)
theorem FrB.more{R:List V6}{A B:Hp}(h:FrB S A B)(k:∀b∈S,b∈R):FrB R A B:=λb o hb e=>h b o (λz=>hb (k b z)) e
theorem FrB.set(h:a∈S):FrB S H (upd H a o):=λb u hb e=>by rw[aj (show b≠a fromλz=>hb (by rw[z];exact h))];exact e
theorem fz:∀{l m:List α},l.Nodup->(∀a∈l,a∈m)->l.length<=m.length
 | [],m,_,_=>WY _
 | a::l,m,h,hs=>by
   rw[Xf]at h;obtain⟨m1,m2,rfl⟩:=List.append_of_mem (hs a (Wj ..))
   have:l.length<=(m1++m2).length:=fz h.2 λb hb=>by
    rcases Wm.mp (hs b (Wo _ hb))with z|z
    .exact Wt _ z
    .rcases Wr.mp z with z|z
     .exact g! (z ▸ hb) h.1
     .exact WK _ z
   rw[Wk,Wq]at*;rw[Wq];lia
end BB
open BB.FrB renaming of->J!,set->L!
namespace L2
open PySem
theorem ug{g:TG}(Pv:Nat->St->Hp->Prop)(h0:Pv 0 σ H)(hl:∀i σ H,i<=xs.length->Pv i σ H->SqT K H a xs)
 (hs:∀i x p σ H,xs[i]?=A? x->H p=B?->Pv i σ H->g (.ref p) σ (upd H p (.tup [.int (i:Nat),x])) λzl H2=>tb {D with nx:=Pv (i+1),ct:=Pv (i+1),bk:=D.nx} zl H2) (hd:∀σ H,Pv xs.length σ H->D.nx σ H) :
 ∃W:Nat->Nat->St->Hp->Prop,(∃m,W 0 m σ H)/\∀i m σ H,W i m σ H ->
   ((Ite K a).stop i H/\D.nx σ H)\/((Ite K a).go i H/\∃N:St->Hp->Prop,(∀i' H',N i' H'->∃m',m'<m/\W (i+1) m' i' H')/\∀x H',(Ite K a).yld i H x H'->g x σ H' λzl H2=>tb {D with nx:=N,ct:=N,bk:=D.nx} zl H2):=by
 refine⟨λi m σ H=>m=xs.length - i/\i<=xs.length/\Pv i σ H,⟨xs.length,by simp,WY _,h0⟩,?_⟩;rintro i m σ H ⟨rfl,hi,p⟩;have q:=hl i σ H hi p;by_cases zf:i<xs.length
 .refine .inr ⟨⟨xs,xs[i],q,by simp[zf]⟩,Pv (i+1),λi' H' p'=>⟨xs.length - (i+1),by lia,rfl,zf,p'⟩,λx H' y=>?_⟩;obtain⟨pa,y,hp,rfl,rfl,hy⟩:=y;exact hs i y pa σ H (hy xs q) hp p
 .have e:i=xs.length:=by lia
  subst e;exact .inl ⟨⟨xs,q,rfl⟩,hd σ H p⟩
end L2
namespace BB
open PySem L2
theorem nF[DecidableEq κ]{kvs:List (κ×V)}{k:κ}(h:bz kvs k=A? v):(k,v)∈kvs:=by
 induction kvs with
 |nil=>cases h
 | cons p r ih =>
   by_cases e:p.1=k
   .rw[ce e]at h;cases h;rw[<-e];exact Wj ..
   .rw[b8 e]at h;exact Wo _ (ih h)
theorem map_set(f:α->β){l:List α}{a b:α}(h:l[i]?=A? a)(e:f b=f a):(l.set i b).map f=l.map f:=by
 rw[List.map_set];refine Yp λj=>?_;rw[List.getElem?_set];split
 .rename_i z
  subst z;rw[V2,b! (glE h),V7,h,e];rfl
 .rfl
theorem mem_set{l:List α}{b x:α}(h:x∈l.set i b):x=b\/∃j,j≠i/\l[j]?=A? x:=by
 obtain⟨j,hj⟩:=Wg.mp h;rw[List.getElem?_set]at hj;split at hj
 .split at hj
  .exact .inl (Wi hj).symm
  .cases hj
 .rename_i z
  exact .inr ⟨j,λe=>z e.symm,hj⟩
section
variable{Dp:DP}{ok:Th->Prop}{L:Lv}{n:Nd}{B:Lv}{Hg:Hp}{B':Lv}{sp:List (Key×V)}
end
theorem Ats.get'{ts:List Th}(h:Ats H ts as){t:Th}(hi:ts[i]?=A? t):∃a,as[i]?=A? a/\At H t a:=by
 have hl:=h.length;have zf:=(glE hi);obtain⟨a,ha⟩:∃a,as[i]?=A? a:=⟨_,V4 (by lia)⟩;obtain⟨t',ht,hA⟩:=h.get ha;rw[hi]at ht;cases ht;exact⟨a,ha,hA⟩
section
variable{Dp:DP}{ok:Th->Prop}{H0:Hp}{L B:Lv}{L' B':Lv}
end
theorem jt:∀(n:Nat)(ts:List Th),aq ts<=n->∀(i:Nat)(p:Th),(walks ts)[i]?=A? p->∃rest,(walks ts).drop i=p.walk++rest
 |_,[],_,i,p,h=>by cases h
 | 0,t::ts,hn,i,p,h=>by
   have:=t.size_pos;rw[aq]at hn;lia
 | n+1,t::ts,hn,i,p,h=>by
   rw[aq]at hn;rw[walks]at h |-;by_cases hi:i<t.walk.length
   .rw[WS hi]at h;rw[List.drop_append_of_le_length (Yi hi)];rw[t.walk_eq]at h |-;cases i with
    | zero =>
      cases h;rw[ZR,<-t.walk_eq];exact⟨_,D?⟩
    | succ i =>
      rw[ZL]at h;rw[List.drop_succ_cons];have hk:aq t.kids<=n:=by have:=t.size_eq;lia
      obtain⟨r,hr⟩:=jt n t.kids hk i p h;exact⟨r++walks ts,by rw[hr,YN]⟩
   .rw[W4 (by lia)]at h;have:=t.size_pos;obtain⟨r,hr⟩:=jt n ts (by lia) _ p h;refine⟨r,?_⟩;rw[List.drop_append,List.drop_eq_nil_of_le (by lia),List.nil_append];exact hr
theorem uP(g:Int->Int->Th)(t:Th)(h:t.walk[i]?=A? p):∃S,bl ((t.walk.map (db g)).drop i)=p.fill g::S:=by
 have e:walks [t]=t.walk:=by simp[walks]
 obtain⟨r,hr⟩:=jt _ [t] (Wc _) i p (by rw[e];exact h);rw[e]at hr;rw[<-List.map_drop,hr,WB];have h2:=(ji g _ [p] (Wc _) (r.map (db g))).1;have e2:walks [p]=p.walk:=by simp[walks]
 rw[e2]at h2;exact⟨_,h2⟩
end BB
namespace L2
open PySem
end L2
namespace BB
open PySem L2
end BB
namespace L2
open PySem PySem.Spec PyProof.Rows PySem.W
end L2
namespace BB
open PySem L2
end BB
namespace L2
open PySem PySem.Spec PySem.Calls PyProof.Rows PySem.W
theorem Fun.okT1{k:Nat}(F:Fun K x qual st f fd)(hc:fd.code=.ref c)(S:bX N ps (aC st))(len:∀vs H Q E,sp vs H Q E->vs.length=ps.length)
 (zN:∀(A:W5)(outer:List Env)(s:Wd)(H:Hp)(vs:List V)(Q:VK)(E:XK),Room k (A.deeper (YZ qual (aC st) s.1.1.size f (.ref c)))->sp vs H Q E ->
  ∃t,PSs (kb (CX1 P w) P w K mg base N qual (aC st) f (.ref c) A outer s H E) (bY st) t/\t {nx:=λ_ H'=>Q .non H',rt:=Q} (start N vs) H):bp P w K mg base (CX1 P w) (k+1) f fd ps sp:=by
 obtain⟨oc,od,kV,doc,pm,an,zh,ct,Ed,rfl,lk,AD⟩:=F.ex;have z8:zh=.ref c:=hc;subst z8;exact t4 lk AD S len λA outer s H vs Q E hr Bb=>zN A outer s H vs Q E hr Bb
end L2
namespace BB
open PySem L2
theorem cu(n:Nat):((2 ^ n:Nat):Int)=2 ^ n:=by exact_mod_cast rfl
def bt(x:Int)(i:Nat):Bool:=x.toNat.testBit i
theorem uX{x y:Int}(hx:0<=x)(hy:0<=y):Xk x y=((x.toNat &&& y.toNat:Nat):Int):=by
 unfold Xk;rw[d! hx,d! hy]
theorem nn(x:Int):XF (XF x)=x:=by unfold XF;lia
theorem wX{x y:Int}(hx:0<=x)(hy:0<=y):Ys x y=((x.toNat |||y.toNat:Nat):Int):=by
 have h1:¬0<=XF x:=by unfold XF;lia
 have h2:¬0<=XF y:=by unfold XF;lia
 unfold Ys Xk;rw[c! h1,c! h2];dsimp only;rw[nn,nn,nn]
theorem wF{x y:Int}(hx:0<=x)(hy:0<=y):0<=Xk x y/\∀i,bt (Xk x y) i=(bt x i && bt y i):=by
 rw[uX hx hy];refine⟨Int.natCast_nonneg _,λi=>?_⟩;unfold bt;rw[Wl,Nat.testBit_and]
theorem wo{x y:Int}(hx:0<=x)(hy:0<=y)(lx:x<2 ^ n)(ly:y<2 ^ n):0<=Ys x y/\Ys x y<2 ^ n/\∀i,bt (Ys x y) i=(bt x i ||bt y i):=by
 rw[wX hx hy];refine⟨Int.natCast_nonneg _,?_,λi=>?_⟩
 .have:=Nat.or_lt_two_pow (x:=x.toNat) (y:=y.toNat) (n:=n) (by have:=cu n;lia) (by have:=cu n;lia)
  exact_mod_cast this
 .unfold bt;rw[Wl,Nat.testBit_or]
def ones(n:Nat):Int:=2 ^ n - 1
theorem rq(n:Nat):0<=ones n:=by
 have:=Nat.two_pow_pos n;have:=cu n;unfold ones;lia
theorem vM(n i:Nat):bt (ones n) i=decide (i<n):=by
 have h0:=Nat.two_pow_pos n
 have e:(ones n).toNat=2 ^ n - 1:=by
  have:=cu n;unfold ones;lia
 unfold bt;rw[e,Nat.testBit_two_pow_sub_one]
theorem qo(n i:Nat):bt (1 * 2 ^ (n:Int).toNat) i=decide (n=i):=by
 rw[Int.one_mul,Wl,<-cu];unfold bt;rw[Wl,Nat.testBit_two_pow]
theorem u9{y:Int}(hy:0<=y)(ly:y<2 ^ n):0<=Xk (ones n) (XF y)/\∀i,bt (Xk (ones n) (XF y)) i=(decide (i<n) && !bt y i):=by
 have h0:=Nat.two_pow_pos n;have hc:=cu n;have Pt:y.toNat<2 ^ n:=by lia
 have e:(ones n).toNat=2 ^ n - 1:=by unfold ones;lia
 have h2:¬0<=XF y:=by unfold XF;lia
 have e2:Xk (ones n) (XF y)=((2 ^ n - (y.toNat+1):Nat):Int):=by
  unfold Xk;rw[d! (rq n),c! h2];dsimp only;rw[nn,e,Nat.and_comm,Nat.and_two_pow_sub_one_eq_mod,Nat.mod_eq_of_lt Pt];unfold ones;lia
 rw[e2];refine⟨Int.natCast_nonneg _,λi=>?_⟩;unfold bt;rw[Wl,Nat.testBit_two_pow_sub_succ Pt]
theorem ni(i:Nat):bt 0 i=false:=by unfold bt;exact Nat.zero_testBit i
theorem wR{x:Int}(hx:0<=x)(i:Nat):decide (Xk (x / 2 ^ ((i:Nat):Int).toNat) 1=1)=bt x i:=by
 rw[PyProof.Rows.bitAnd_m1,Wl,<-cu];unfold bt;rw[Nat.testBit_eq_decide_div_mod_eq];congr 1;have:x=(x.toNat:Int):=by lia
 rw[this];rw[Wl];generalize x.toNat=m;apply propext;constructor
 .intro h;exact_mod_cast h
 .intro h;exact_mod_cast h
structure Cand where
 b:Int
 n:Int
 ks:List Nat
structure Least(S:Cand->Prop)(D:List Cand):Prop where
 nd:(D.map (·.b)).Nodup
 sub:∀e∈D,S e
 le:∀c,S c->∃e∈D,e.b=c.b/\e.n<=c.n
theorem Least.congr{S S':Cand->Prop}{D:List Cand}(h:Least S D)(e:∀c,S c↔S' c):Least S' D:=⟨h.nd,λx hx=>(e x).mp (h.sub x hx),λc hc=>h.le c ((e c).mpr hc)⟩
theorem Least.nil:Least (λ_=>False) []:=⟨by simp,(by intro e h;cases h),(by intro c h;exact h.elim)⟩
theorem Least.one(c:Cand):Least (λx=>x=c) [c]:=⟨by simp,(by intro e h;exact We.mp h),(by intro x h;exact⟨c,by simp,by rw[h],by rw[h];exact Int.le_refl _⟩)⟩
theorem Least.add{S:Cand->Prop}{D:List Cand}{c:Cand}(h:Least S D)(hn:c.b∉D.map (·.b)):Least (λx=>S x\/x=c) (D++[c]):=by
 refine⟨?_,λe he=>?_,λx hx=>?_⟩
 .rw[WB,XI];refine⟨h.nd,by simp,λa ha b hb z=>hn ?_⟩;rw[List.map_singleton,We]at hb;rw[<-hb,<-z];exact ha
 .rcases Wm.mp he with he|he
  .exact .inl (h.sub e he)
  .exact .inr (We.mp he)
 .rcases hx with hx|rfl
  .obtain⟨e,he,h1⟩:=h.le x hx;exact⟨e,Wt _ he,h1⟩
  .exact⟨x,by simp,D?,Int.le_refl _⟩
theorem Least.keep{S:Cand->Prop}{D:List Cand}{c e:Cand}(h:Least S D)(he:e∈D)(hb:e.b=c.b)(hn:e.n<=c.n):Least (λx=>S x\/x=c) D :=
 ⟨h.nd,λx hx=>.inl (h.sub x hx),λx hx=>by
  rcases hx with hx|rfl
  .exact h.le x hx
  .exact⟨e,he,hb,hn⟩⟩
theorem Least.set{S:Cand->Prop}{D:List Cand}{c:Cand}{i:Nat}{e:Cand}(h:Least S D)(he:D[i]?=A? e)(hb:e.b=c.b)(hn:c.n<=e.n):Least (λx=>S x\/x=c) (D.set i c):=by
 have hi:=(glE he);refine⟨by rw[map_set (λx:Cand=>x.b) he hb.symm];exact h.nd,λx hx=>?_,λx hx=>?_⟩
 .rcases mem_set hx with rfl|⟨j,_,hj⟩
  .exact .inr rfl
  .exact .inl (h.sub x (V5 hj))
 .have hc:c∈D.set i c:=V5 (i:=i) (by rw[XC hi]);rcases hx with hx|rfl
  .obtain⟨y,hy,h1,h2⟩:=h.le x hx;obtain⟨j,hj⟩:=Wg.mp hy;by_cases z:i=j
   .subst z;rw[he]at hj;cases hj;exact⟨c,hc,hb.symm.trans h1,by lia⟩
   .exact⟨y,V5 (i:=j) (by rw[XD z];exact hj),h1,h2⟩
  .exact⟨x,hc,D?,Int.le_refl _⟩
def Cand.ext(ag sz:List Int)(e:Cand)(n:Nat):Cand:=⟨Xk e.b (ag.getD n 0),e.n+sz.getD n 0,e.ks++[n]⟩
theorem Least.trans{S:Cand->Prop}{D D':List Cand}{ag sz:List Int}{ns:List Nat}(h:Least S D)(h':Least (λx=>∃e∈D,∃n∈ns,x=e.ext ag sz n) D'):Least (λx=>∃e,S e/\∃n∈ns,x=e.ext ag sz n) D':=by
 refine⟨h'.nd,λx hx=>?_,λc hc=>?_⟩
 .obtain⟨e,he,g⟩:=h'.sub x hx;exact⟨e,h.sub e he,g⟩
 .obtain⟨e,he,n,hn,rfl⟩:=hc;obtain⟨d,hd,h1,h2⟩:=h.le e he;obtain⟨x,hx,g1,g2⟩:=h'.le (d.ext ag sz n) ⟨d,hd,n,hn,rfl⟩;refine⟨x,hx,?_,?_⟩
  .rw[g1];show Xk d.b _=Xk e.b _;rw[h1]
  .have:(d.ext ag sz n).n=d.n+sz.getD n 0:=rfl;have:(e.ext ag sz n).n=e.n+sz.getD n 0:=rfl;lia
def cnd(AG:List (List Int))(sz:List Int)(all:Int)(ks:List Nat):Cand:=ks.zipIdx.foldl (λc p=>c.ext (AG.getD p.2 []) sz p.1) ⟨all,0,[]⟩
theorem gH(AG:List (List Int))(sz:List Int)(all:Int)(ks:List Nat)(n:Nat):cnd AG sz all (ks++[n])=(cnd AG sz all ks).ext (AG.getD ks.length []) sz n:=by
 unfold cnd;rw[List.zipIdx_append,List.foldl_append];simp
theorem snoc_ind{P:List Nat->Prop}(h0:P [])(hs:∀l a,P l->P (l++[a])):∀l,P l:=λl=>by
 have:∀r:List Nat,P r.reverse:=by
  intro r;induction r with
  |nil=>exact h0
  |cons a r ih=>rw[Xx];exact hs _ _ ih
 have:=this l.reverse
 rwa [YM]at this
theorem xz(AG:List (List Int))(sz:List Int)(all:Int):∀ks,(cnd AG sz all ks).ks=ks:=snoc_ind rfl λl a ih=>by
 rw[gH];show(cnd AG sz all l).ks++[a]=_;rw[ih]
theorem xw{AG:List (List Int)}{sz:List Int}{N L:Nat}(Sf:∀j n,j<AG.length->n<L->0<=(AG.getD j []).getD n 0):∀ks:List Nat,ks.length<=AG.length->(∀n∈ks,n<L) ->
 0<=(cnd AG sz (ones N) ks).b/\∀i,bt (cnd AG sz (ones N) ks).b i=Bq↔i<N/\∀j n,ks[j]?=A? n->bt ((AG.getD j []).getD n 0) i=true:=by
 refine snoc_ind (λ_ _=>⟨rq N,λi=>?_⟩) λl a ih hl hL=>?_
 .show bt (ones N) i=Bq↔_;rw[vM,decide_eq_true_iff];exact⟨λh=>⟨h,λj n e=>by simp at e⟩,λh=>h.1⟩
 .rw[Wk,WM]at hl;obtain⟨h0,h1⟩:=ih (by lia) λn hn=>hL n (Wt _ hn);have ha:=Sf l.length a (by lia) (hL a (by simp));obtain⟨g0,g1⟩:=wF h0 ha;rw[gH];refine⟨g0,λi=>?_⟩;show bt (Xk _ _) i=Bq↔_;rw[g1,Yl,h1];constructor
  .rintro⟨⟨h2,h3⟩,h4⟩;refine⟨h2,λj n e=>?_⟩;by_cases z:j<l.length
   .rw[WS z]at e;exact h3 j n e
   .have hj:j=l.length:=by
     have:=(glE e);rw[Wk,WM]at this;lia
    subst hj;rw[W4 (Wc _),Y3]at e;cases e;exact h4
  .rintro⟨h2,h3⟩;refine⟨⟨h2,λj n e=>h3 j n ?_⟩,h3 l.length a ?_⟩
   .rw[WS (glE e)];exact e
   .rw[W4 (Wc _),Y3];rfl
def InB(lo hi:Nat->Nat)(ks:List Nat):Prop:=∀j n,ks[j]?=A? n->lo j<=n/\n<hi j
theorem InB.snoc{lo hi:Nat->Nat}{ks:List Nat}:InB lo hi (ks++[n])↔InB lo hi ks/\lo ks.length<=n/\n<hi ks.length:=by
 constructor
 .intro h;refine⟨λj m e=>h j m ?_,h ks.length n ?_⟩
  .rw[WS (glE e)];exact e
  .rw[W4 (Wc _),Y3];rfl
 .rintro⟨h1,h2⟩ j m e;by_cases z:j<ks.length
  .rw[WS z]at e;exact h1 j m e
  .have hj:j=ks.length:=by
    have:=(glE e);rw[Wk,WM]at this;lia
   subst hj;rw[W4 (Wc _),Y3]at e;cases e;exact h2
def SrcP(AG:List (List Int))(sz:List Int)(all:Int)(lo hi:Nat->Nat)(p:Nat)(x:Cand):Prop:=∃ks:List Nat,ks.length=p/\InB lo hi ks/\x=cnd AG sz all ks
theorem SrcP.zero(AG:List (List Int))(sz:List Int)(all:Int)(lo hi:Nat->Nat)(x:Cand):x=⟨all,0,[]⟩↔SrcP AG sz all lo hi 0 x:=by
 constructor
 .rintro rfl;exact⟨[],D?,λj n e=>by simp at e,D?⟩
 .rintro⟨ks,h,_,rfl⟩;cases ks with
  |nil=>rfl
  |cons a l=>simp at h
theorem SrcP.succ(AG:List (List Int))(sz:List Int)(all:Int)(lo hi:Nat->Nat)(p:Nat)(ns:List Nat)(AV:∀n,n∈ns↔lo p<=n/\n<hi p)(x:Cand) :
 (∃e,SrcP AG sz all lo hi p e/\∃n∈ns,x=e.ext (AG.getD p []) sz n)↔SrcP AG sz all lo hi (p+1) x:=by
 constructor
 .rintro⟨e,⟨ks,h1,h2,rfl⟩,n,hn,rfl⟩;refine⟨ks++[n],by simp[h1],InB.snoc.mpr ⟨h2,by rw[h1];exact(AV n).mp hn⟩,?_⟩;rw[gH,h1]
 .rintro⟨ks,h1,h2,rfl⟩;have zp:ks≠[]:=λz=>by rw[z]at h1;simp at h1
  obtain⟨l,a,rfl⟩:∃l a,ks=l++[a]:=⟨_,_,(Yr zp).symm⟩;rw[Wk,WM]at h1;obtain⟨h3,h4⟩:=InB.snoc.mp h2;have hl:l.length=p:=by lia
  exact⟨_,⟨l,hl,h3,D?⟩,a,(AV a).mpr (by rw[<-hl];exact h4),by rw[gH,hl]⟩
def loF(last first p:Nat):Nat:=if p=first then last else 0
def hiF(last first p:Nat):Nat:=if p<first then last else last+1
theorem lH{last:Nat}{ks:List Nat}(hl:ks.length=m):(∃first,first<m/\InB (loF last first) (hiF last first) ks)↔(∀n∈ks,n<=last)/\last∈ks:=by
 constructor
 .rintro⟨f,hf,h⟩;obtain⟨n,hn⟩:∃n,ks[f]?=A? n:=⟨_,V4 (by lia)⟩;have h1:=h f n hn;unfold loF hiF at h1;rw[b! rfl,a! (Xy _)]at h1;refine⟨λa ha=>?_,?_⟩
  .obtain⟨j,hj⟩:=Wg.mp ha;have h2:=(h j a hj).2;unfold hiF at h2;split at h2 <;> lia
  .have:n=last:=by lia
   rw[<-this];exact V5 hn
 .rintro⟨h1,h2⟩;refine⟨ks.idxOf last,by rw[<-hl];exact List.idxOf_lt_length_of_mem h2,λj n e=>?_⟩;have hn:=h1 n (V5 e);unfold loF hiF;have hj:=(glE e);refine⟨?_,?_⟩
  .split
   .rename_i z
    have h3:=List.findIdx_getElem (p:=λx=>x == last) (xs:=ks) (w:=List.idxOf_lt_length_of_mem h2)
    have h4:ks[ks.idxOf last]?=A? last:=by
     rw[V4 (List.idxOf_lt_length_of_mem h2)];exact h! A? (eq_of_beq h3)
    rw[<-z,e]at h4;cases h4;exact Wc _
   .exact WY _
  .split
   .rename_i z
    have:n≠last:=λy=>by
     have h3:=List.not_of_lt_findIdx (p:=λx=>x == last) (xs:=ks) (i:=j) z;rw[V4 hj]at e;cases e;simp[y]at h3
    lia
   .lia
end BB
namespace HT
open PySem PyProof.Rows PySem.SeqAt
open PySem.AutoSeq1 (wpAny_loadPart')
open PySem.MeetsSeq PySem.MeetsSeq2 PySem.MeetsSeq3
theorem tuple_lt_two(l b:V6)(v1 v2 w1 w2:V8)(n n2:Nat)(dd Cu:Option V6)(sl Cv:Array (Option V8))(e1 e2 b1 b2:Bool) :
 Meets (Y6.«tuple.__lt__» ⟨[.ref l,.ref b],[]⟩)
  (λA R s=>s.1.get? l=A? {cls:=.type "tuple",dict:=dd,data:=.seq #[v1,v2] n,slots:=sl}/\s.1.get? b=A? {cls:=.type "tuple",dict:=Cu,data:=.seq #[w1,w2] n2,slots:=Cv} /\
   EqAt A.in1 s v1 w1 e1/\EqAt A.in1 s v2 w2 e2/\(e1=C?->∀prog w E Q,Q (.bool b1) s->Ww (WN prog w) A.in1 (richCompare .Lt v1 w1) Q E s)/\(e2=C?->∀prog w E Q,Q (.bool b2) s->Ww (WN prog w) A.in1 (richCompare .Lt v2 w2) Q E s) /\
   R (.ok (.ret (.bool (if e1=Bq then(if e2=Bq then C? else b2)else b1)))) s) :=
 .of_wp λprog w A R s h=>by
  obtain⟨hp,g,d,tk,os⟩:=s;obtain⟨hl,hb,q1,q2,r1,r2,h⟩:=h;have f2:=AutoSeq1.sub_tuple_tuple
  wp_walk using wpAny_loadPart' hl,wpAny_loadPart' hb,wpAny_forIn_list _ (λrest b s'=>b.1=B?/\s'=⟨hp,g,d,tk,os⟩/\((rest=[(v1,w1),(v2,w2)]/\R (.ok (.ret (.bool (if e1=Bq then(if e2=Bq then C? else b2)else b1)))) ⟨hp,g,d,tk,os⟩)\/(rest=[(v2,w2)]/\R (.ok (.ret (.bool (if e2=Bq then C? else b2)))) ⟨hp,g,d,tk,os⟩)\/(rest=[]/\R (.ok (.ret (.bool C?))) ⟨hp,g,d,tk,os⟩))) _
  case turn =>
   rintro⟨y,x⟩ rest b s' ⟨zJ,rfl,⟨hz,hR⟩|⟨hz,hR⟩|⟨hz,hR⟩⟩
   .injection hz with Ic BH;injection Ic with hy hx;subst hy hx;refine V3 (q1 prog w _ _ ?_);cases e1 with
    | true =>
      rw[b! rfl]at hR
      wp_walk
      exact⟨D?,D?,.inr (.inl ⟨BH,hR⟩)⟩
    | false =>
      rw[a! Wz]at hR;have Ig:=r1 rfl prog w
      wp_walk using Ig
      exact⟨_,D?,by simpa using hR⟩
   .injection hz with Ic BH;injection Ic with hy hx;subst hy hx;refine V3 (q2 prog w _ _ ?_);cases e2 with
    | true =>
      rw[b! rfl]at hR
      wp_walk
      exact⟨D?,D?,.inr (.inr ⟨BH,hR⟩)⟩
    | false =>
      rw[a! Wz]at hR;have Ig:=r2 rfl prog w
      wp_walk using Ig
      exact⟨_,D?,by simpa using hR⟩
   .cases hz
  case fin =>
   rintro⟨c1,c2⟩ s' ⟨zJ,rfl,⟨hz,hR⟩|⟨hz,hR⟩|⟨hz,hR⟩⟩
   .cases hz
   .cases hz
   simp only at zJ;subst zJ
   wp_walk
   exact⟨_,D?,by simpa[Builtin.Tuple.tupleCompareSizes]using hR⟩
  case h =>
   exact⟨D?,D?,.inl ⟨D?,h⟩⟩
end HT
namespace L2
open PySem PySem.Spec PySem.Calls PyProof.Rows PySem.SeqAt
def lU(H:Hp)(κ:V6)(k:Int×List Int):Prop:=∃na,H κ=A? (.tup [.int k.1,.ref na])/\H na=A? (.tup (k.2.map o!))
def keyLt(a b:Int×List Int):Bool:=if a.1=b.1 then G! a.2 b.2 else decide (a.1<b.1)
theorem jL:∀l:List Int,G! l l=C?
 | []=>rfl
 |x::l=>by rw[N!,b! rfl,jL l]
theorem gM:∀ns:List Int,BB.DAts H (ns.map A!) (ns.map o!)
 | []=>by rw[Ym,Ym,BB.DAts]
 |n::ns=>by rw[WH,WH,BB.DAts];exact⟨_,_,D?,by rw[BB.DAt],gM ns⟩
theorem lm:∀{a b:List Int},a.map A!=b.map A!->a=b
 | [],[],_=>rfl
 | [],_::_,h=>by cases h
 |_::_,[],h=>by cases h
 | x::a,y::b,h=>by
   rw[WH,WH]at h;injection h with h1 h2;injection h1 with h1;rw[h1,lm h2]
theorem iz:∀ns:List Int,BB.gG (ns.map A!)<=1
 | []=>by rw[Ym,BB.gG];lia
 | n::ns=>by
   have:=iz ns;rw[WH,BB.gG,BB.Dv.deep];lia
open Classical in
theorem w6{X:Cx}(I:Inv X Y σ H s){k m:Int×List Int}(ha:lU H a k)(hb:lU H b m)(hu:A.units+4<Zx)(q:Q (.bool (keyLt k m)) s) :
 Ww (WN X.prog X.w) A (richCompare .Lt (.ref a) (.ref b)) Q E s:=by
 obtain⟨na,ea,en⟩:=ha;obtain⟨ma,eb,em⟩:=hb;obtain⟨its,r1,p1,_⟩:=I.tuple (i! (K:=X.K) ea);obtain⟨zu,r2,p2,_⟩:=I.tuple (i! (K:=X.K) eb);obtain⟨u1,u2,rfl,⟨t,rfl⟩,q2⟩:=vals2 r1;obtain⟨w1,w2,rfl,⟨t',rfl⟩,q3⟩:=vals2 r2;obtain rfl:u2=W3 na:=q2;obtain rfl:w2=W3 ma:=q3;obtain⟨⟨cls,dd,data,sl⟩,ho,hc,n,hd⟩:=id p1;obtain⟨⟨EB,Cu,data2,Cv⟩,CO,Bj,n2,hd2⟩:=id p2;simp only at hc hd Bj hd2;subst hc hd Bj hd2
 have h2:=rh I _ (.tup (k.2.map A!)) (.tup (m.2.map A!)) (Wc _) (.ref na) (.ref ma) (.ref na) (.ref ma) A.in1 (by rw[BB.DAt];exact⟨na,_,D?,en,gM _⟩) (by rw[BB.DAt];exact⟨ma,_,D?,em,gM _⟩) rfl rfl (by
  have:=iz k.2;rw[BB.Dv.deep];show A.units+1+_<Zx;lia)
 obtain⟨Sg,r3,p3,_⟩:=I.tuple (i! (K:=X.K) en);obtain⟨Sh,r4,p4,_⟩:=I.tuple (i! (K:=X.K) em);obtain⟨e1,g1,g2⟩:=HT.eqAt_int A.in1 s k.1 t m.1 t';refine richCompare_meets_room (op:=.Lt) ⟨_,ho,rfl⟩ ⟨_,CO,rfl⟩ PySem.F.slot_tuple_lt PySem.F.entry_tuple_lt (PySem.F.args_tuple_lt_2 _ _) (HT.tuple_lt_two a b (.int k.1 t) (.ref na) (.int m.1 t') (.ref ma) n n2 dd Cu sl Cv e1 (decide (M! (k.2.map A!)=M! (m.2.map A!))) (decide (k.1<m.1)) (G! k.2 m.2)) ?_ (by lia);refine⟨ho,CO,g1,h2,λ_ prog w E Q h=>HT.rcLt_int _ s _ _ _ _ prog w E Q h,λ_ prog w E Q h=>(HT.lt_tupInts p3 p4 (intsAre_of r3) (intsAre_of r4) (show A.units+1<Zx by lia) h:Ww (WN prog w) A.in1 (Yk .Lt (.ref na) (.ref ma)) Q E s),(λx=>nomatch x),?_⟩
 have e:keyLt k m=(if e1=Bq then(if decide (M! (k.2.map A!)=M! (m.2.map A!))=Bq then C? else G! k.2 m.2)else decide (k.1<m.1)):=by
  unfold keyLt;by_cases h1:k.1=m.1
  .rw[b! h1,b! (g2.mpr h1)];by_cases h3:k.2=m.2
   .rw[h3,jL,b! (d! rfl)]
   .rw[a!];intro z;exact h3 (lm (BB.Dv.tup.inj (e! z)))
  .rw[a! h1,a! (λz=>h1 (g2.mp z))]
 rw[<-e];exact q
theorem j4:∀{a b c:List Int},G! a b=Bq->G! b c=Bq->G! a c=Bq
 | [],[],_,h,_=>by cases h
 |_::_,[],_,h,_=>by cases h
 | [],_::_,[],_,h=>by cases h
 | [],_::_,_::_,_,_=>rfl
 |_::_,_::_,[],_,h=>by cases h
 | x::a,y::b,z::c,h,g=>by
   rw[N!]at h g |-;by_cases e:x=y
   .rw[b! e]at h;subst e;by_cases e2:x=z
    .rw[b! e2]at g |-;exact j4 h g
    .rw[a! e2]at g |-;exact g
   .rw[a! e]at h;have h:=e! h;by_cases e2:y=z
    .subst e2;rw[a! e];exact d! h
    .rw[a! e2]at g;have g:=e! g;rw[a! (by lia)];exact d! (by lia)
theorem keyLt_trans{a b c:Int×List Int}(h:keyLt a b=Bq)(g:keyLt b c=Bq):keyLt a c=true:=by
 unfold keyLt at h g |-;by_cases e:a.1=b.1
 .rw[b! e]at h;by_cases e2:b.1=c.1
  .rw[b! e2]at g;rw[b! (e.trans e2)];exact j4 h g
  .rw[a! e2]at g;rw[a! (by lia),e];exact g
 .rw[a! e]at h;have h:=e! h;by_cases e2:b.1=c.1
  .rw[a! (by lia),<-e2];exact d! h
  .rw[a! e2]at g;have g:=e! g;rw[a! (by lia)];exact d! (by lia)
theorem fA(a:Int×List Int):keyLt a a=false:=by
 unfold keyLt;rw[b! rfl,jL]
section
variable{X:Cx}{H0:Hp}{q I S:V6}{ws:List V}{key:Nat->Int×List Int}{k:Nat}{R:Result->Wd->Prop}
structure xT(X:Cx)(Y:List (V6×X6))(σ:St)(H0:Hp)(l I S:V6)(ws:List V)(key:Nat->Int×List Int)(H:Hp)(s:Wd)(j i:Nat)(vb:V8)(κ:V6)(c:Nat):Prop where
 inv:Inv X Y σ H s
 fI:FpOk X Y H I
 fS:FpOk X Y H S
 it:s.1.IsListIter I l j
 st:s.1.get? S=A? (seqObj "list" #[vb,.ref κ] c)
 sm:Same H0 H
 rv:∃x,ws[i]?=A? x/\RelV x vb
 ky:lU H κ (key i)
theorem FpOk.of(f:FpOk X Y H b)(h:H' b=B?):FpOk X Y H' b:=⟨h,f.2⟩
theorem oC(hc:X.calm=Bq)(hr:Room (k+1) X.A)(F:sH X.prog X.w X.K X.mg X.base CX0 k q sp)(I1:Inv X Y σ H s)(fI:FpOk X Y H I)(fS:FpOk X Y H S){oI oS:X6}(gI:s.1.get? I=A? oI)(gS:s.1.get? S=A? oS)
 (cI:∀v,oI.data≠.cell v) (cS:∀v,oS.data≠.cell v) {x:V} {v:V8} (rx:RelV x v) {m:Int×List Int} (h:sp [x] H (λr H'=>∃κ,r=.ref κ/\Same H H'/\lU H' κ m) E0)
 (hQ:∀κ H' s',Inv X Y σ H' s'->FpOk X Y H' I->FpOk X Y H' S->s'.1.get? I=A? oI->s'.1.get? S=A? oS->Same H H'->lU H' κ m->Q (.ref κ) s') :
 Ww (WN X.prog X.w) X.A.in1 (call (.ref q) [v]) Q E s:=by
 have hf:∀b∈[I,S],FpOk X Y H b:=λb hb=>by
  rcases Wr.mp hb with rfl|hb
  .exact fI
  .rw[We.mp hb];exact fS
 have hp:=I1.pinned hf λb hb=>by
  rcases Wr.mp hb with rfl|hb
  .exact⟨_,gI,cI⟩
  .rw[We.mp hb];exact⟨_,gS,cS⟩
 refine wpAny_call (codeAny_mono (F.run X.A.in1 X.stack s H [v] [x] _ _ hr.in1 hp.env0.in1 (.cons rx .nil) h) λr s' hq=>?_);cases r with
 |error e=>exact hq.elim
 | ok fl =>
   cases fl with
   |next=>exact hq.elim
   |brk=>exact hq.elim
   |cont=>exact hq.elim
   | ret u =>
     obtain⟨y,H',I2,ry,κ,rfl,sm,ky⟩:=hp.after hq;obtain rfl:u=W3 κ:=ry;have pI:=I2.pin _ (WK _ (WK _ (dk (Wj ..) gI)));have pS:=I2.pin _ (WK _ (WK _ (dk (Wo _ (Wj ..)) gS)));exact hQ κ H' s' I2.unpinned (fI.of pI.2.1) (fS.of pS.2.1) pI.1 pS.1 sm ky
theorem tm(hc:X.calm=Bq)(hr:Room (k+1) X.A)(MO:I≠S)(hl:H0 l=A? (.lst ws))(F:sH X.prog X.w X.K X.mg X.base CX0 k q sp)
 (turn:∀i x H,ws[i]?=A? x->Same H0 H->sp [x] H (λr H'=>∃κ,r=.ref κ/\Same H H'/\lU H' κ (key i)) E0)
 (hR:∀i x vb H s,Inv X Y σ H s->Same H0 H->ws[i]?=A? x->RelV x vb->(∀j,j<ws.length->keyLt (key j) (key i)=C?)->R (.ok (.ret vb)) s) :
 ∀(r j i:Nat)(H:Hp)(s:Wd)(vb:V8)(κ:V6)(c:Nat),ws.length - j=r->j<=ws.length->xT X Y σ H0 l I S ws key H s j i vb κ c->(∀j',j'<j->keyLt (key j') (key i)=C?) ->
   Zt (WN X.prog X.w) X.A (.builtin "min.loop" ⟨[.ref I,.ref q,.ref S],[]⟩) R s:=by
 have BU:(toString "min"++toString ".loop":String)="min.loop":=by decide
 have hh:=X.A.handled;intro r;induction r with
 | zero =>
   intro j i H s vb κ c Bn hj M hb;obtain⟨its,rv,pl,_⟩:=M.inv.list (l! (M.sm _ _ hl));have W:=Walks.list (prog:=X.prog) (w:=X.w) (A:=X.A.in1) hr.hd I l (λz=>by have:=M.fI.1;rw[<-z,M.sm _ _ hl]at this;cases this) its.toArray;have hsz:its.toArray.size=j:=by rw[Wn,<-rv.length];lia
   refine Zn PySem.F.entry_min_loop ?_;rw[Yx Yh _];show Ww _ X.A.in1 (seqItems? (.ref S) >>= _) _ _ _;refine V3 (XM M.st rfl ?_);show Ww _ X.A.in1 (tryCatch (Y8 (.ref I)) _ >>= _) _ _ _;refine V3 (Z1 (W.done _ _ _ ⟨by rw[hsz];exact M.it,pl.isList⟩ λh' IY zD=>?_));have I2:=M.inv.turned (h':=h') (t':=IY) (it:=I) (λb o zJ e=>zD b o (by simpa using zJ) e) M.fI.1 M.fI.2.1 M.fI.2.2.2.1 M.fI.2.2.2.2.1 M.fI.2.2.2.2.2;have gS:=zD S _ (by simpa using MO.symm) M.st;show Ww _ X.A.in1 (updateSeq S (λ_=>#[]) >>= _) _ _ _;refine V3 ?_;refine X1 gS rfl (V3 (YU (Wa ?_)));obtain⟨x,hx,rx⟩:=M.rv;refine hR i x vb H _ (I2.turned (it:=S) (λb o zJ e=>?_) M.fS.1 M.fS.2.1 M.fS.2.2.2.1 M.fS.2.2.2.2.1 M.fS.2.2.2.2.2) M.sm hx rx λj' Fp=>hb j' (by lia);exact(XJ h' S (Xs λ_=>(#[]:Array V8))).2 b zJ |>.trans e
 | succ r ih =>
   intro j i H s vb κ c Bn hj M hb;obtain⟨its,rv,pl,_⟩:=M.inv.list (l! (M.sm _ _ hl));have W:=Walks.list (prog:=X.prog) (w:=X.w) (A:=X.A.in1) hr.hd I l (λz=>by have:=M.fI.1;rw[<-z,M.sm _ _ hl]at this;cases this) its.toArray;have hlen:=rv.length;have zf:j<its.toArray.size:=by rw[Wn];lia
   refine Zn PySem.F.entry_min_loop ?_;rw[Yx Yh _];show Ww _ X.A.in1 (seqItems? (.ref S) >>= _) _ _ _;refine V3 (XM M.st rfl ?_);show Ww _ X.A.in1 (tryCatch (Y8 (.ref I)) _ >>= _) _ _ _;refine V3 (Z1 (W.item j _ _ _ zf ⟨M.it,pl.isList⟩ λv h' IY hP DI zD=>?_));have hv:its[j]?=A? v:=by simpa using hP
   obtain⟨x,hx,rx⟩:∃x,ws[j]?=A? x/\RelV x v:=by
    obtain⟨x,hx⟩:∃x,ws[j]?=A? x:=⟨_,V4 (by lia)⟩;obtain⟨v',h1,h2⟩:=rv.get hx;rw[hv]at h1;cases h1;exact⟨x,hx,h2⟩
   have I2:=M.inv.turned (h':=h') (t':=IY) (it:=I) (λb o zJ e=>zD b o (by simpa using zJ) e) M.fI.1 M.fI.2.1 M.fI.2.2.2.1 M.fI.2.2.2.2.1 M.fI.2.2.2.2.2;have gS:=zD S _ (by simpa using MO.symm) M.st;obtain⟨oI,MP,E9,EK⟩:=id DI.1;show Ww _ X.A.in1 (tryCatch (holding [v] (call (.ref q) [v])) _ >>= _) _ _ _;refine V3 (Z1 (Xq (oC hc hr F I2 M.fI M.fS MP gS (λz e=>by rw[EK]at e;cases e) (λz e=>by cases e) rx (turn j x H hx M.sm) λCA H2 s2 I3 K7 CB K8 Hl IZ K9=>?_)));have Pu:=M.sm.trans IZ
   have Pw:lU H2 κ (key i):=by
    obtain⟨na,e1,e2⟩:=M.ky;exact⟨na,IZ _ _ e1,IZ _ _ e2⟩
   show Ww _ X.A.in1 (tryCatch (holding [v,.ref CA] (richCompare .Lt (.ref CA) (.ref κ) >>= _)) _ >>= _) _ _ _;refine V3 (Z1 (Xq (V3 (w6 I3 K9 Pw (by have:=hr.units;show X.A.units+1+4<Zx;lia) ?_))));refine V3 (Xq (Yy ?_));refine V3 (YU (Wa ?_));have Si:s2.1.IsListIter I l (j+1):=⟨oI,K8,E9,EK⟩;by_cases zJ:keyLt (key j) (key i)=Bq
   .simp only[zJ,if_true];obtain⟨c2,Bj⟩:∃c2,(s2.1.update S (Xs λ_=>#[v,.ref CA])).get? S=A? (seqObj "list" #[v,.ref CA] c2):=⟨_,get?_update_seq Hl λ_=>#[v,.ref CA]⟩;have sb:=XJ s2.1 S (Xs λ_=>#[v,.ref CA]);refine V3 ?_;refine X1 Hl rfl (V3 (YU ?_));rw[BU];refine Wa ⟨Y0 Yh _,ih (j+1) j H2 _ v CA c2 (by lia) (by lia) ⟨I3.turned (it:=S) (λb o hn e=>(sb.2 b hn).trans e) CB.1 CB.2.1 CB.2.2.2.1 CB.2.2.2.2.1 CB.2.2.2.2.2,K7,CB,⟨oI,(sb.2 I MO).trans K8,E9,EK⟩,Bj,Pu,⟨x,hx,rx⟩,K9⟩ λj' Fp=>?_⟩;by_cases e:j'=j
    .rw[e];exact fA _
    .have h1:=hb j' (by lia);cases h2:keyLt (key j') (key j)with
     |false=>rfl
     |true=>rw[keyLt_trans h2 zJ]at h1;cases h1
   .simp only[zJ,if_false];refine V3 (YU ?_);rw[BU];refine Wa ⟨Y0 Yh _,ih (j+1) i H2 _ vb κ c (by lia) (by lia) ⟨I3,K7,CB,Si,Hl,Pu,M.rv,Pw⟩ λj' Fp=>?_⟩;by_cases e:j'=j
    .rw[e];cases h2:keyLt (key j) (key i)with
     |false=>rfl
     |true=>exact g! h2 zJ
    .exact hb j' (by lia)
theorem uW(hc:X.calm=Bq)(hr:Room (k+1) X.A)(hl:H0 l=A? (.lst ws))(zp:0<ws.length)(F:sH X.prog X.w X.K X.mg X.base CX0 k q sp)(I0:Inv X Y σ H0 s)
 (turn:∀i x H,ws[i]?=A? x->Same H0 H->sp [x] H (λr H'=>∃κ,r=.ref κ/\Same H H'/\lU H' κ (key i)) E0)
 (hR:∀i x vb H s,Inv X Y σ H s->Same H0 H->ws[i]?=A? x->RelV x vb->(∀j,j<ws.length->keyLt (key j) (key i)=C?)->Q vb s) :
 Ww (WN X.prog X.w) X.A (call (.builtin "min") [.ref l] [(Wb "key",.ref q)]) Q E s:=by
 have BU:(toString "min"++toString ".loop":String)="min.loop":=by decide
 obtain⟨its,rv,pl,_⟩:=I0.list (l! hl);have hlen:=rv.length;obtain⟨ol,Gd,_⟩:=id pl.isList;have Vw:l<s.1.1.size:=WC Gd;refine kmk_tree PySem.F.kind_min PySem.F.plain_min PySem.F.entry_min (kmk_min_key _ _) ?_;show Ww _ X.A.in1 (Builtin.Builtins.bindParams "min" ["key","default"] 0 ⟨[],[(Wb "key",.ref q)]⟩ >>= _) _ _ s;refine V3 (wpAny_of_eq (show Builtin.Builtins.bindParams "min" ["key","default"] 0 ⟨[],[(Wb "key",.ref q)]⟩=pure [A? (.ref q),B?]from rfl) ?_);refine V3 (Wa ?_);refine V3 (wpAny_pyIter_list pl.isList ?_);refine V3 (wpAny_newList ?_ (WY _));rw[BU];have hS:(s.1.push {cls:=.type "list_iterator",data:=.fields #[.ref l,.int 0 0]}).objs.size=s.1.1.size+1:=size_push' ..;have IE:(s.1.push {cls:=.type "list_iterator",data:=.fields #[.ref l,.int 0 0]}).objs.size≠s.1.1.size:=by rw[hS];exact Y4 (Nat.lt_succ_self _)
 refine Wa ⟨Y0 Yh _,?_⟩
 have gI:((s.1.push {cls:=.type "list_iterator",data:=.fields #[.ref l,.int 0 0]}).push (seqObj "list" #[] 0)).get? s.1.1.size=A? {cls:=.type "list_iterator",data:=.fields #[.ref l,.int 0 0]} :=
  V9 _ (Wh _ rfl)
 have gS:((s.1.push {cls:=.type "list_iterator",data:=.fields #[.ref l,.int 0 0]}).push (seqObj "list" #[] 0)).get? (s.1.push {cls:=.type "list_iterator",data:=.fields #[.ref l,.int 0 0]}).objs.size=A? (seqObj "list" #[] 0):=Wh _ rfl;have I1:Inv X Y σ H0 {s with heap:=(s.1.push {cls:=.type "list_iterator",data:=.fields #[.ref l,.int 0 0]}).push (seqObj "list" #[] 0),toks:=s.toks}:=I0.kept (t':=s.toks) λb u e=>V9 _ (V9 _ e);have fI:FpOk X Y H0 s.1.1.size:=I0.fpOk (Wc _) (I0.hok.fresh (Wc _))
 have fS:FpOk X Y H0 (s.1.push {cls:=.type "list_iterator",data:=.fields #[.ref l,.int 0 0]}).objs.size:=by
  have h:s.1.1.size<=(s.1.push {cls:=.type "list_iterator",data:=.fields #[.ref l,.int 0 0]}).objs.size:=by rw[hS];lia
  exact I0.fpOk h (I0.hok.fresh h)
 have Sj:=(I1.list (l! hl));obtain⟨its,rv,pl,_⟩:=Sj;have hlen:=rv.length;generalize(s.1.push {cls:=.type "list_iterator",data:=.fields #[.ref l,.int 0 0]}).objs.size=S at*;generalize s.1.1.size=I at*;have W:=Walks.list (prog:=X.prog) (w:=X.w) (A:=X.A.in1) hr.hd I l (λz=>by have:=fI.1;rw[<-z,hl]at this;cases this) its.toArray;refine Zn PySem.F.entry_min_loop ?_;rw[Yx Yh _];show Ww _ X.A.in1 (seqItems? (.ref _) >>= _) _ _ _;refine V3 (XM gS rfl ?_);show Ww _ X.A.in1 (tryCatch (Y8 (.ref I)) _ >>= _) _ _ _;refine V3 (Z1 (W.item 0 _ _ _ (by rw[Wn];lia) ⟨⟨_,gI,rfl,rfl⟩,pl.isList⟩ λv h' IY hP DI zD=>?_));have hv:its[0]?=A? v:=by simpa using hP
 obtain⟨x,hx,rx⟩:∃x,ws[0]?=A? x/\RelV x v:=by
  obtain⟨x,hx⟩:∃x,ws[0]?=A? x:=⟨_,V4 zp⟩;obtain⟨v',h1,h2⟩:=rv.get hx;rw[hv]at h1;cases h1;exact⟨x,hx,h2⟩
 have I2:=I1.turned (h':=h') (t':=IY) (it:=I) (λb o zJ e=>zD b o (by simpa using zJ) e) fI.1 fI.2.1 fI.2.2.2.1 fI.2.2.2.2.1 fI.2.2.2.2.2;have Sk:=zD S _ (by simpa using IE) gS;obtain⟨oI,MP,E9,EK⟩:=id DI.1;show Ww _ X.A.in1 (tryCatch (holding [v] (call (.ref q) [v])) _ >>= _) _ _ _;refine V3 (Z1 (Xq (oC hc hr F I2 fI fS MP Sk (λz e=>by rw[EK]at e;cases e) (λz e=>by cases e) rx (turn 0 x H0 hx (λ_ _ e=>e)) λCA H2 s2 I3 K7 CB K8 Hl IZ K9=>?_)));obtain⟨c2,Bj⟩:∃c2,(s2.1.update S (Xs λ_=>#[v,.ref CA])).get? S=A? (seqObj "list" #[v,.ref CA] c2):=⟨_,get?_update_seq Hl λ_=>#[v,.ref CA]⟩;have sb:=XJ s2.1 S (Xs λ_=>#[v,.ref CA]);show Ww _ X.A.in1 (updateSeq S (λ_=>#[v,.ref CA]) >>= _) _ _ _;refine V3 ?_;refine X1 Hl rfl ?_;rw[BU];refine Wa ⟨Y0 Yh _,tm hc hr IE.symm hl F turn hR _ 1 0 H2 _ v CA c2 rfl zp ⟨I3.turned (it:=S) (λb o hn e=>(sb.2 b hn).trans e) CB.1 CB.2.1 CB.2.2.2.1 CB.2.2.2.2.1 CB.2.2.2.2.2,K7,CB,⟨oI,(sb.2 I IE.symm).trans K8,E9,EK⟩,Bj,IZ,⟨x,hx,rx⟩,K9⟩ λj' Fp=>?_⟩;have e:j'=0:=by lia
 rw[e];exact fA _
end
inductive we(X:Cx)(k:Nat)(vs:List V)(f:V)(H2:Hp)(Q:VK):Prop
 |mk (l q:V6) (ws:List V) (key:Nat->Int×List Int) (sp:Sp) (e1:vs=[.ref l]) (e2:f=.ref q) (hl:H2 l=A? (.lst ws)) (hn:0<ws.length) (F:sH X.prog X.w X.K X.mg X.base CX0 k q sp)
  (turn:∀i x H,ws[i]?=A? x->Same H2 H->sp [x] H (λr H'=>∃κ,r=.ref κ/\Same H H'/\lU H' κ (key i)) E0)
  (hR:∀i x H',ws[i]?=A? x->Same H2 H'->(∀j,j<ws.length->keyLt (key j) (key i)=C?)->Q x H'):we X k vs f H2 Q
def yf(X:Cx)(k:Nat)(t:TA)(tf:TE):TE:=λσ H Q=>t σ H λvs H1=>tf σ H1 λf H2=>we X k vs f H2 Q
theorem uS{X:Cx}{k:Nat}{f:Xb}{t:TA}{tf:TE}{p kp:Zb}(hc:X.calm=Bq)(hr:Room (k+1) X.A)(hg:Gl X "min")(hm:X.mg "min"=B?)(ha:PA X [e] t)(hf:PE X f tf)
 (h1:Y1 pos (W6 [e] X.env)=(C?,Yd e X.env)::Y1 pos (W6 [] X.env):=by rfl) (h2:(Y1 pos (W6 [e] X.env)).any (·.1)=false:=by rfl) :
 PE X (.Call (.Name "min" p) [e] [⟨A? "key",f,kp⟩] pos) (yf X k t tf):=by
 intro Y s σ H Q I h;refine Xz (d9 I hg hm boot_min ?_);refine callWith_kw (thn (ha pos Y s σ H _ I h) λus s1⟨vs,H1,I1,r1,q1⟩=>kws_cons (thn (hf Y s1 σ H1 _ I1 q1) λu2 s2⟨f',H2,I2,r2,q2⟩=>kws_nil ?_)) h1 h2;obtain⟨l,q,ws,key,sp,rfl,rfl,hl,hn,F,turn,hR⟩:=q2;obtain⟨u,rfl,ru⟩:=vals1 r1;obtain rfl:u=W3 l:=ru;obtain rfl:u2=W3 q:=r2;exact uW hc hr hl hn F I2 turn λi x vb H3 s3 I3 sm hx rx hb=>⟨x,H3,I3,rx,hR i x H3 hx sm hb⟩
theorem ur{acc:List V8}:∀(n k:Nat),acc.length=n->(∀i v,acc[i]?=A? v->∃t,v=Value.int ((k+i:Nat):Int) t)->Vals ((Zo k n).map λ(i:Nat)=>o! (i:Nat)) acc:=by
 induction acc with
 |nil=>intro n k hn _;subst hn;exact .nil
 | cons a acc ih =>
   intro n k hn h;subst hn;rw[Wq,List.range'_succ,WH];refine .cons ?_ (ih _ (k+1) rfl λi v hv=>?_)
   .obtain⟨t,e⟩:=h 0 a rfl;exact⟨t,e⟩
   .obtain⟨t,e⟩:=h (i+1) v hv;refine⟨t,?_⟩;rw[e];congr 2;lia
section
variable{X:Cx}{t:TA}{p p2 zz:Zb}
end
section
variable{X:Cx}
theorem ym:PIp X .BitOr (ipI λi j=>Ys i j):=by
 intro Y s σ H x y v u Q I r1 r2 h;obtain⟨i,j,e1,e2,q⟩:=h;subst e1;subst e2;obtain⟨t,rfl⟩:=r1;obtain⟨t',rfl⟩:=r2;exact ior_int ⟨.int _,H,I.tok _,⟨_,rfl⟩,q⟩
end
def xB(t:TA):TE:=λσ H Q=>t σ H λvs H1=>∃i j:Nat,vs=[.int (i:Nat),.int (j:Nat)]/\j<=1000000/\i<=1000000/\∀l:V6,H1 l=B?->Q (.ref l) (upd H1 l (.lst ((Zo i (j - i)).map λ(i:Nat)=>o! (i:Nat))))
section
variable{X:Cx}{e1 e2:Xb}{t:TA}{p p2 zz:Zb}
theorem sW(hc:X.calm=Bq)(g1:Gl X "list")(m1:X.mg "list"=B?)(g2:Gl X "range")(m2:X.mg "range"=B?)(ha:PA X [e1,e2] t)
 (h1:W6 [.Call (.Name "range" p2) [e1,e2] [] zz] X.env=[(C?,Yd (.Call (.Name "range" p2) [e1,e2] [] zz) X.env)]:=by rfl) (h2:W6 [e1,e2] X.env=(C?,Yd e1 X.env)::W6 [e2] X.env:=by rfl) (h3:(Y1 zz (W6 [e2] X.env)).any (·.1)=false:=by rfl) :
 PE X (.Call (.Name "list" p) [.Call (.Name "range" p2) [e1,e2] [] zz] [] pos) (xB t):=by
 intro Y s σ H Q I h;refine Xz (d9 I g1 m1 boot_list (Xu ?_ h1 rfl));rw[h1];show Ww _ _ (spliced ((C?,Yd (.Call (.Name "range" p2) [e1,e2] [] zz) X.env)::[])) _ _ s;refine Ye ?_;refine Xz (d9 I g2 m2 boot_range (Xu (thn (ha zz Y s σ H _ I h) λus s2⟨vs,H2,I2,r,i,j,ev,hj,hi,q⟩=>?_) h2 h3));subst ev;obtain⟨u,u',rfl,⟨ti,rfl⟩,⟨tu,rfl⟩⟩:=vals2 r;refine call_range_2 (YA ?_);have hh:X.A.handled=none:=I2.ok.hd hc
 have hs:Builtin.Range.rangeSize (i:Nat) (j:Nat) 1=((j - i:Nat):Int):=by
  rw[rangeSize_one];split <;> lia
 refine call_list_range hh (IsRange.new ..) (small_one (by lia) (by lia) (by lia) (by lia)) hs (by lia) λh' tk acc c hk hS zA=>?_;have I3:Inv X Y σ H2 {s2 with heap:=s2.1.push {cls:=.type "range",data:=.fields #[.int (i:Nat) ti,.int (j:Nat) tu,.int 1 s2.toks]},toks:=s2.toks+1}:=I2.kept λb o e=>V9 _ e;refine⟨.ref (s2.1.push {cls:=.type "range",data:=.fields #[.int (i:Nat) ti,.int (j:Nat) tu,.int 1 s2.toks]}).objs.size,_,?_,D?,q _ (I3.hok.fresh (Wc _))⟩;refine I3.laid (t':=tk) hk (Wc _) ⟨by rw[V2,List.length_range'];exact Xa (show j - i<=1000000 by lia) (by decide),acc.toList,c,?_,hS⟩;obtain⟨hsz,hit⟩:=zA
 exact ur (acc:=acc.toList) (j - i) i (by rw[WO];exact hsz) λn v hv=>by
  rw[Zg]at hv;obtain⟨t,e⟩:=hit n v hv;refine⟨t,?_⟩;rw[e];congr 1;lia
end
end L2
namespace BB
open PySem L2
def Ars(ar:WE->Nat)(t:Th):Prop:=∀n ks,p! n ks∈t.walk->ks.length=ar n
theorem eh{t u:Th}(h:u∈t.kids):∀x∈u.walk,x∈t.walk:=λx hx=>by
 rw[t.walk_eq];refine Wo _ ?_
 have:∀ts:List Th,u∈ts->x∈walks ts:=by
  intro ts;induction ts with
  |nil=>intro z;cases z
  | cons a ts ih =>
    intro z;rw[walks];rcases Wr.mp z with rfl|z
    .exact Wt _ hx
    .exact WK _ (ih z)
 exact this _ h
theorem Ars.kids{t u:Th}(h:Ars ar t)(hu:u∈t.kids):Ars ar u:=λn ks m=>h n ks (eh hu _ m)
theorem Ars.len{n:WE}{ks:List Th}(h:Ars ar (.knot n ks)):ks.length=ar n:=h n ks (by rw[D!];exact Wj ..)
structure jS(Ls:List Th)(p u:Th)(es:CLs):Prop where
 nd:(es.map (·.1)).Nodup
 ok:∀e∈es,(∃w:Nat,e.2=(w:Int)/\w<Ls.length)/\r! e.1.1 e.1.2∈p.walk
 iff:∀g:Int->Int->Th,p.fill g=u↔∀e∈es,Ls[e.2.toNat]?=A? (g e.1.1 e.1.2)
structure NeedI(Ls:List Th)(p u:Th)(es:CLs)(As:List (Th×Nat)):Prop where
 nd:(es.map (·.1)).Nodup
 ok:∀e∈es,(∃w:Nat,e.2=(w:Int)/\w<Ls.length)/\r! e.1.1 e.1.2∈p.walk
 iff:∀g:Int->Int->Th,p.fill g=u↔(∀e∈es,Ls[e.2.toNat]?=A? (g e.1.1 e.1.2))/\∀a∈As,Ls[a.2]?=A? (a.1.fill g)
 sub:∀a∈As,∀x∈a.1.walk,x∈p.walk
 ix:∀a∈As,a.2<Ls.length
theorem NeedI.start{u:Th}(h:Ls[n]?=A? u):NeedI Ls p u [] [(p,n)] :=
 ⟨by simp,(by intro e he;cases he),λg=>by
  constructor
  .intro e;refine⟨(by intro e he;cases he),λa ha=>?_⟩;rw[We.mp ha];show Ls[n]?=A? (p.fill g);rw[e];exact h
  .rintro⟨_,h2⟩;have:=h2 _ (We.mpr rfl);dsimp only at this;rw[h]at this;exact(Wi this).symm,λa ha x hx=>by rw[We.mp ha]at hx;exact hx,λa ha=>by rw[We.mp ha];exact(glE h)⟩
theorem NeedI.done{u:Th}(h:NeedI Ls p u es []):jS Ls p u es:=⟨h.nd,h.ok,λg=>(h.iff g).trans ⟨λz=>z.1,λz=>⟨z,(by intro a ha;cases ha)⟩⟩⟩
theorem dX{P:α->Prop}{l:List α}{a:α}:(∀x∈l++[a],P x)↔(∀x∈l,P x)/\P a :=
 ⟨λh=>⟨λx hx=>h x (Wt _ hx),h a (by simp)⟩,λh x hx=>by
  rcases Wm.mp hx with hx|hx
  .exact h.1 x hx
  .rw[We.mp hx];exact h.2⟩
theorem NeedI.put{u:Th}{s k:Int}{w:Nat}(h:NeedI Ls p u es (As++[(.call s k,w)]))(hn:dC es (s,k)=B?):NeedI Ls p u (eE es (s,k) (w:Int)) As:=by
 have hk:=rR hn;have e:eE es (s,k) (w:Int)=es++[((s,k),(w:Int))]:=by unfold eE;rw[a! hk]
 refine⟨lC h.nd _ _,?_,λg=>?_,λa ha=>h.sub a (Wt _ ha),λa ha=>h.ix a (Wt _ ha)⟩
 .rw[e];exact dX.mpr ⟨h.ok,⟨w,rfl,h.ix (.call s k,w) (by simp)⟩,h.sub (.call s k,w) (by simp) _ (by rw[D!];exact Wj ..)⟩
 .rw[h.iff g,e,dX,dX,C!];dsimp only;rw[Wl];exact⟨λ⟨a,b,c⟩=>⟨⟨a,c⟩,b⟩,λ⟨⟨a,c⟩,b⟩=>⟨a,b,c⟩⟩
theorem NeedI.same{u:Th}{s k:Int}{w:Nat}(h:NeedI Ls p u es (As++[(.call s k,w)]))(hn:dC es (s,k)=A? (w:Int)):NeedI Ls p u es As:=by
 refine⟨h.nd,h.ok,λg=>?_,λa ha=>h.sub a (Wt _ ha),λa ha=>h.ix a (Wt _ ha)⟩;rw[h.iff g,dX,C!];refine⟨λ⟨a,b,c⟩=>⟨a,b⟩,λ⟨a,b⟩=>⟨a,b,?_⟩⟩;have:=a _ (gj hn);dsimp only at this;rw[Wl]at this;exact this
theorem NeedI.clash{u:Th}{s k v:Int}{w:Nat}(Bo:Ls.Nodup)(h:NeedI Ls p u es (As++[(.call s k,w)]))(hn:dC es (s,k)=A? v)(hv:v≠(w:Int)):∀g,p.fill g≠u:=λg e=>by
 obtain⟨a,b⟩:=(h.iff g).mp e;have h1:=a _ (gj hn);have h2:=(dX.mp b).2;obtain⟨⟨w',e',_⟩,_⟩:=h.ok _ (gj hn);dsimp only at h1 h2 e';rw[C!]at h2;rw[e',Wl]at h1;have:=dq Bo h1 h2;lia
theorem mI{g:Int->Int->Th}:∀{ks kids:List Th}{ids:List Nat},WL (λid u=>Ls[id]?=A? u) ids kids->ks.length=kids.length->(fills g ks=kids↔∀a∈ks.zip ids,Ls[a.2]?=A? (a.1.fill g))
 | [],[],_,.nil,_=>by
   rw[fills];exact⟨λ_=>(by intro a ha;simp at ha),λ_=>rfl⟩
 | [],_::_,_,_,h=>by cases h
 |_::_,[],_,_,h=>by cases h
 | x::ks,y::kids,_::ids,.cons h t,hl=>by
   rw[fills,ZI,List.cons.injEq,mI t (by simpa using hl)];constructor
   .rintro⟨h1,h2⟩ a ha;rcases Wr.mp ha with rfl|ha
    .dsimp only;rw[h1];exact h
    .exact h2 a ha
   .intro q;refine⟨?_,λa ha=>q a (Wo _ ha)⟩;have:=q _ (Wj ..);dsimp only at this;rw[h]at this;exact(Wi this).symm
theorem NeedI.knot{u:Th}{n:WE}{ks kids:List Th}{w:Nat}(h:NeedI Ls p u es (As++[(.knot n ks,w)]))(hw:Ls[w]?=A? (.knot n kids))(hp:WL (λid u=>Ls[id]?=A? u) ids kids)(hl:ks.length=kids.length):NeedI Ls p u es (As++ks.zip ids):=by
 refine⟨h.nd,h.ok,λg=>?_,λa ha x hx=>?_,λa ha=>?_⟩
 .rw[h.iff g,dX,C!];dsimp only;rw[hw,Option.some.injEq,Th.knot.injEq,eq_comm (a:=kids),mI hp hl];refine⟨λ⟨a,b,_,c⟩=>⟨a,λx hx=>(Wm.mp hx).elim (b x) (c x)⟩,λ⟨a,b⟩=>⟨a,λx hx=>b x (Wt _ hx),D?,λx hx=>b x (WK _ hx)⟩⟩
 .rcases Wm.mp ha with ha|ha
  .exact h.sub a (Wt _ ha) x hx
  .exact h.sub (.knot n ks,w) (by simp) x (eh (t:=.knot n ks) (ZC ha).1 x hx)
 .rcases Wm.mp ha with ha|ha
  .exact h.ix a (Wt _ ha)
  .obtain⟨i,hi⟩:=Wg.mp (ZC ha).2;obtain⟨y,_,e⟩:=u! hp hi;exact(glE e)
theorem NeedI.other{u:Th}{n n':WE}{ks kids:List Th}{w:Nat}(h:NeedI Ls p u es (As++[(.knot n ks,w)]))(hw:Ls[w]?=A? (.knot n' kids))(hn:n≠n'):∀g,p.fill g≠u:=λg e=>by
 have h2:=(dX.mp ((h.iff g).mp e).2).2;dsimp only at h2;rw[hw,C!]at h2;injection h2 with h2;injection h2 with h2 _;exact hn h2.symm
theorem mM:∀(ks:List Th)(ids:List Nat),ids.length=ks.length->aq ((ks.zip ids).map (·.1))=aq ks
 | [],_,_=>by rw[List.zip_nil_left];rfl
 |_::_,[],h=>by cases h
 |k::ks,i::ids,h=>by rw[ZI,WH,aq,aq,mM ks ids (by simpa using h)]
theorem iF(ts:List Th):ts.length<=aq ts:=by
 induction ts with
 |nil=>exact WY _
 | cons t ts ih =>
   have:=t.size_pos;rw[aq,Wq];lia
def NdAt(H:Hp)(a:Th×Nat)(b:V6):Prop:=∃pa,H b=A? (.tup [.ref pa,.int (a.2:Nat)])/\At H a.1 pa
theorem NdAt.mono(k:KT H H'){a:Th×Nat}(h:NdAt H a b):NdAt H' a b:=by
 obtain⟨pa,h1,h2⟩:=h;exact⟨pa,k _ _ h1,h2.mono k⟩
def nW(i:Nat):V:=.int (i:Nat)
def RowE(H:Hp)(c:Cand)(kv:Key×V):Prop:=kv.1=WQ c.b/\∃a ka,kv.2=.ref a/\H a=A? (.tup [.int c.n,.ref ka])/\H ka=A? (.tup (c.ks.map nW))
theorem RowE.mono(k:KT H H'){c:Cand}{kv:Key×V}(h:RowE H c kv):RowE H' c kv:=by
 obtain⟨h1,a,ka,h2,h3,h4⟩:=h;exact⟨h1,a,ka,h2,k _ _ h3,k _ _ h4⟩
def dH(H:Hp)(d:V6)(D:List Cand):Prop:=∃kvs,H d=A? (.dK kvs)/\WL (RowE H) D kvs
theorem l8:∀{D:List Cand}{kvs:List (Key×V)},WL (RowE H) D kvs->kvs.map (·.1)=D.map λc=>(WQ c.b:Key)
 | [],_,.nil=>rfl
 |c::D,_,.cons h t=>by rw[WH,WH,l8 t,h.1]
theorem mD:∀{l:List Int},l.Nodup->(l.map λb=>(WQ b:Key)).Nodup
 | [],_=>by simp
 | x::l,h=>by
   rw[Xf]at h;rw[WH,Xf];refine⟨λz=>?_,mD h.2⟩;obtain⟨y,hy,e⟩:=Wv.mp z;exact h.1 (Sum.inl.inj e ▸ hy)
theorem ow[DecidableEq κ]{kvs:List (κ×V)}{k:κ}(h:k∉kvs.map (·.1)):putK kvs k v=kvs++[(k,v)]:=by
 unfold putK;rw[a!];intro z;obtain⟨x,hx,e⟩:=ZX.mp z;exact h (Wv.mpr ⟨x,hx,e! e⟩)
theorem oJ[DecidableEq κ]{kvs:List (κ×V)}(nd:(kvs.map (·.1)).Nodup){k:κ}{u:V}(h:kvs[i]?=A? (k,u)):putK kvs k v=kvs.set i (k,v):=by
 unfold putK;rw[b! (ZX.mpr ⟨_,V5 h,d! rfl⟩)];refine Yp λj=>?_;rw[V7,List.getElem?_set];by_cases z:i=j
 .subst z;rw[b! rfl,b! (glE h),h];show A? (if k=k then(k,v)else(k,u))=_;rw[b! rfl]
 .rw[a! z];cases hj:kvs[j]? with
  |none=>rfl
  | some x =>
    show A? (if x.1=k then(x.1,v)else x)=A? x;rw[a!];intro e;have h1:(kvs.map (·.1))[i]?=A? k:=by rw[V7,h];rfl
    have h2:(kvs.map (·.1))[j]?=A? k:=by rw[V7,hj,<-e];rfl
    exact z (dq nd h1 h2)
theorem lf[DecidableEq κ]{kvs:List (κ×V)}{k:κ}(h:bz kvs k=B?):k∉kvs.map (·.1):=λz=>by
 induction kvs with
 |nil=>cases z
 | cons p r ih =>
   by_cases e:p.1=k
   .rw[ce e]at h;cases h
   .rw[b8 e]at h;rw[WH]at z;rcases Wr.mp z with z|z
    .exact e z.symm
    .exact ih h z
theorem wz{F:α->β->Prop}:∀{a:List α}{b:List β},WL F a b->∀(i:Nat){x:α}{y:β},F x y->WL F (a.set i x) (b.set i y)
 |_,_,.nil,_,_,_,_=>.nil
 |_,_,.cons h t,0,_,_,f=>.cons f t
 |_,_,.cons h t,i+1,_,_,f=>.cons h (wz t i f)
structure Kept(D:List Cand)(c:Cand)(D':List Cand):Prop where
 len:D'.length<=D.length+1
 least:∀S,Least S D->Least (λx=>S x\/x=c) D'
theorem lk0{a:WE}{r:List (WE×V)}:((a,v)::r).lookup a=A? v:=by rw[XW,beq_self_eq_true]
theorem lk1{a b:WE}{r:List (WE×V)}(h:(a == b)=C?):((b,v)::r).lookup a=r.lookup a:=by rw[XW,h]
theorem cG{f g:WE}{u:V}{r:List (WE×V)}(h:(f == g)=C?):aO f v ((g,u)::r)=(g,u)::aO f v r:=by
 have h':¬g=f:=λz=>by rw[z,beq_self_eq_true]at h;cases h
 rw[aO,a! h']
def wyF(nm:WE)(pl nl al:V6):List (WE×V):=[(Wb "kind_name",.str nm),(Wb "pairs",.ref pl),(Wb "needing",.ref nl),(Wb "agreeing",.ref al)]
theorem yd:(wyF nm pl nl al).lookup (Wb "kind_name")=A? (.str nm):=lk0
theorem rD:(wyF nm pl nl al).lookup (Wb "pairs")=A? (.ref pl):=(lk1 (by decide +kernel)).trans lk0
theorem ub:(wyF nm pl nl al).lookup (Wb "needing")=A? (.ref nl):=(lk1 (by decide +kernel)).trans ((lk1 (by decide +kernel)).trans lk0)
theorem qN:(wyF nm pl nl al).lookup (Wb "agreeing")=A? (.ref al):=(lk1 (by decide +kernel)).trans ((lk1 (by decide +kernel)).trans ((lk1 (by decide +kernel)).trans lk0))
theorem gy{m:WE}(h1:(m == Wb "kind_name")=false:=by decide +kernel)(h2:(m == Wb "pairs")=false:=by decide +kernel)(h3:(m == Wb "needing")=false:=by decide +kernel)(h4:(m == Wb "agreeing")=false:=by decide +kernel):(wyF nm pl nl al).lookup m=B? :=
 (lk1 h1).trans ((lk1 h2).trans ((lk1 h3).trans ((lk1 h4).trans rfl)))
theorem vA(nm:WE)(pl nl al:V6):aO (Wb "agreeing") (.ref al) (aO (Wb "needing") (.ref nl) (aO (Wb "pairs") (.ref pl) (aO (Wb "kind_name") (.str nm) [])))=wyF nm pl nl al:=by
 have e1:∀(f:WE)(v:V),aO f v []=[(f,v)]:=λf v=>by rw[aO]
 rw[e1,cG (by decide +kernel),e1,cG (by decide +kernel),cG (by decide +kernel),cG (by decide +kernel),e1,cG (by decide +kernel),cG (by decide +kernel),e1];rfl
structure Kd where
 d:V6
 es:CLs
 a:V6
 ag:List Int
structure Wy where
 x:V6
 dx:V6
 nm:WE
 pl:V6
 nl:V6
 al:V6
 ps:List (Int×Int×V6)
 ks:List Kd
structure WyAt(C:V6)(H:Hp)(w:Wy):Prop where
 ins:H w.x=A? (.ins C w.dx (wyF w.nm w.pl w.nl w.al))
 pl:H w.pl=A? (.lst (w.ps.map λq=>k! q.2.2))
 pr:∀q∈w.ps,H q.2.2=A? (.tup [.int q.1,.int q.2.1])
 nl:H w.nl=A? (.lst (w.ks.map λk=>k! k.d))
 al:H w.al=A? (.lst (w.ks.map λk=>k! k.a))
 nd:∀k∈w.ks,H k.d=A? (.dT (dE k.es))
 ag:∀k∈w.ks,H k.a=A? (.lst (k.ag.map o!))
 n1:w.pl≠w.nl
 n2:w.pl≠w.al
 n3:w.nl≠w.al
 n4:∀k∈w.ks,k.a≠w.pl/\k.a≠w.nl/\k.a≠w.al
 nda:(w.ks.map (·.a)).Nodup
 ndd:(w.ks.map (·.d)).Nodup
def Wy.own(w:Wy):List V6:=w.x::w.pl::w.nl::w.al::(w.ks.map (·.d)++w.ks.map (·.a))
theorem Wy.own_d{w:Wy}{k:Kd}(h:k∈w.ks):k.d∈w.own:=by unfold Wy.own;simp;exact .inr (.inr (.inr (.inr (.inl ⟨k,h,rfl⟩))))
theorem Wy.own_a{w:Wy}{k:Kd}(h:k∈w.ks):k.a∈w.own:=by unfold Wy.own;simp;exact .inr (.inr (.inr (.inr (.inr ⟨k,h,rfl⟩))))
theorem WyAt.keep{w:Wy}(h:WyAt C H w)(k:KT H H')(f:∀b∈w.own,∀o,H b=A? o->H' b=A? o):WyAt C H' w :=
 ⟨f _ (by simp[Wy.own]) _ h.ins,f _ (by simp[Wy.own]) _ h.pl,λq hq=>k _ _ (h.pr q hq),f _ (by simp[Wy.own]) _ h.nl,f _ (by simp[Wy.own]) _ h.al,λkd hk=>f _ (Wy.own_d hk) _ (h.nd kd hk),λkd hk=>f _ (Wy.own_a hk) _ (h.ag kd hk),h.n1,h.n2,h.n3,h.n4,h.nda,h.ndd⟩
theorem WyAt.same{w:Wy}(h:WyAt C H w)(s:j! H H'):WyAt C H' w:=h.keep (n! s) λb _ o e=>s b o e
abbrev cy:=Int×Int×CLs
structure NeedT(Ws:List cy)(k:Nat)(es:CLs):Prop where
 nd:(es.map (·.1)).Nodup
 rng:∀e∈es,0<=e.2/\e.2<2 ^ Ws.length
 bit:∀(c w:Int)(i:Nat),(∃e∈es,e.1=(c,w)/\bt e.2 i=Bq)↔∃q,Ws[i]?=A? q/\((c,(k:Int)),w)∈q.2.2
 nz:∀e∈es,e.2≠0
theorem NeedT.nil(k:Nat):NeedT [] k []:=⟨by simp,(by intro e h;cases h),λc w i=>⟨λ⟨e,h,_⟩=>(by cases h),λ⟨q,h,_⟩=>(by simp at h)⟩,(by intro e h;cases h)⟩
theorem aV{l:List α}{a b:α}:(l++[a])[i]?=A? b↔l[i]?=A? b\/(i=l.length/\a=b):=by
 by_cases h:i<l.length
 .rw[WS h];exact⟨.inl,λz=>z.elim id λz=>by lia⟩
 .rw[W4 (by lia),Xo (show l.length<=i by lia)];by_cases e:i=l.length
  .subst e;rw[Y3];exact⟨λz=>.inr ⟨D?,(by simpa using z)⟩,λz=>z.elim (λy=>(by cases y)) λy=>(by rw[y.2];rfl)⟩
  .rw[Xo (by simp;lia)];exact⟨λz=>(by cases z),λz=>z.elim (λy=>y) λy=>g! y.1 e⟩
theorem NeedT.more{Ws:List cy}{k:Nat}(h:NeedT Ws k es)(s p:Int):NeedT (Ws++[(s,p,[])]) k es:=by
 refine⟨h.nd,λe he=>⟨(h.rng e he).1,?_⟩,λc w i=>?_,h.nz⟩
 .have h1:=(h.rng e he).2;have h2:=cu Ws.length;have h3:=cu (Ws++[((s,p,[]):cy)]).length;have:2 ^ Ws.length<=2 ^ (Ws++[((s,p,[]):cy)]).length:=Yb (by decide) (by simp);lia
 .rw[h.bit];constructor
  .rintro⟨q,hq,hm⟩;exact⟨q,aV.mpr (.inl hq),hm⟩
  .rintro⟨q,hq,hm⟩;rcases aV.mp hq with hq|⟨_,rfl⟩
   .exact⟨q,hq,hm⟩
   .cases hm
theorem NeedT.other{Ws:List cy}{k:Nat}{L:CLs}{s p:Int}{e:(Int×Int)×Int}(h:NeedT (Ws++[(s,p,L)]) k es)(hk:e.1.2≠(k:Int)):NeedT (Ws++[(s,p,L++[e])]) k es:=by
 refine⟨h.nd,λe' he=>by have:=h.rng e' he;simpa using this,λc w i=>?_,h.nz⟩;rw[h.bit];constructor
 .rintro⟨q,hq,hm⟩;rcases aV.mp hq with hq|⟨hi,rfl⟩
  .exact⟨q,aV.mpr (.inl hq),hm⟩
  .exact⟨_,aV.mpr (.inr ⟨hi,D?⟩),Wt _ hm⟩
 .rintro⟨q,hq,hm⟩;rcases aV.mp hq with hq|⟨hi,rfl⟩
  .exact⟨q,aV.mpr (.inl hq),hm⟩
  .rcases Wm.mp hm with hm|hm
   .exact⟨_,aV.mpr (.inr ⟨hi,D?⟩),hm⟩
   .have:=We.mp hm;rw[<-this]at hk;exact g! rfl hk
theorem NeedT.put{Ws:List cy}{k:Nat}{L:CLs}{s p c w:Int}(h:NeedT (Ws++[(s,p,L)]) k es) :
 NeedT (Ws++[(s,p,L++[((c,(k:Int)),w)])]) k (eE es (c,w) (Ys ((dC es (c,w)).getD 0) (1 * 2 ^ ((Ws.length:Nat):Int).toNat))):=by
 have hp:=cu Ws.length;have Ar:=cu (Ws.length+1);have hq:(2:Nat) ^ (Ws.length+1)=2 * 2 ^ Ws.length:=by rw[Nat.pow_succ];lia
 have Ad:=Nat.two_pow_pos Ws.length;have hlen:(Ws++[((s,p,L):cy)]).length=Ws.length+1:=by simp
 have r0:0<=(dC es (c,w)).getD 0/\(dC es (c,w)).getD 0<2 ^ (Ws.length+1):=by
  cases e:dC es (c,w)with
  |none=>exact⟨by decide,by show(0:Int)<_;lia⟩
  | some v =>
    have:=h.rng _ (gj e);rw[hlen]at this;exact this
 have Ja:(1 * 2 ^ ((Ws.length:Nat):Int).toNat:Int)=2 ^ Ws.length:=by rw[Int.one_mul,Wl]
 obtain⟨b0,b1,b2⟩:=wo (n:=Ws.length+1) r0.1 (y:=1 * 2 ^ ((Ws.length:Nat):Int).toNat) (by rw[Ja];lia) r0.2 (by rw[Ja];lia);refine⟨lC h.nd _ _,λe he=>?_,λc' w' i=>?_,λe he=>?_⟩
 .rw[Wk,WM];rcases i5 he with rfl|⟨he,_⟩
  .exact⟨b0,b1⟩
  .have:=h.rng e he;rw[hlen]at this;exact this
 .have old:=h.bit c' w' i;by_cases hk:(c',w')=(c,w)
  .injection hk with e1 e2;subst e1 e2;constructor
   .rintro⟨e,he,e1,e2⟩;rcases i5 he with rfl|⟨he,zp⟩
    .rw[b2,Bool.or_eq_true]at e2;rcases e2 with e2|e2
     .cases hg:dC es (c',w')with
      |none=>rw[hg]at e2;exact g! e2 (by show¬bt 0 i=Bq;rw[ni];decide)
      | some v =>
        rw[hg]at e2;obtain⟨q,hq,hm⟩:=old.mp ⟨_,gj hg,rfl,e2⟩;rcases aV.mp hq with hq|⟨hi,rfl⟩
        .exact⟨q,aV.mpr (.inl hq),hm⟩
        .exact⟨_,aV.mpr (.inr ⟨hi,D?⟩),Wt _ hm⟩
     .rw[qo]at e2;exact⟨_,aV.mpr (.inr ⟨(e! e2).symm,D?⟩),by simp⟩
    .exact g! e1 zp
   .rintro⟨q,hq,hm⟩;refine⟨_,uv es (c',w') _,D?,?_⟩;rw[b2,Bool.or_eq_true];rcases aV.mp hq with hq|⟨hi,rfl⟩
    .obtain⟨e,he,e1,e2⟩:=old.mpr ⟨q,aV.mpr (.inl hq),hm⟩;have hg:=qS h.nd he;rw[e1]at hg;rw[hg];exact .inl e2
    .rw[qo];exact .inr (d! hi.symm)
  .constructor
   .rintro⟨e,he,e1,e2⟩;rcases i5 he with rfl|⟨he,zp⟩
    .exact g! e1.symm hk
    .obtain⟨q,hq,hm⟩:=old.mp ⟨e,he,e1,e2⟩;rcases aV.mp hq with hq|⟨hi,rfl⟩
     .exact⟨q,aV.mpr (.inl hq),hm⟩
     .exact⟨_,aV.mpr (.inr ⟨hi,D?⟩),Wt _ hm⟩
   .rintro⟨q,hq,hm⟩
    have:∃q,(Ws++[(s,p,L)])[i]?=A? q/\((c',(k:Int)),w')∈q.2.2:=by
     rcases aV.mp hq with hq|⟨hi,rfl⟩
     .exact⟨q,aV.mpr (.inl hq),hm⟩
     .rcases Wm.mp hm with hm|hm
      .exact⟨_,aV.mpr (.inr ⟨hi,D?⟩),hm⟩
      .have:=We.mp hm;simp only[Prod.mk.injEq]at this;exact g! (by rw[this.1.1,this.2]) hk
    obtain⟨e,he,e1,e2⟩:=old.mpr this;exact⟨e,rO he (by rw[e1];exact hk),e1,e2⟩
 .rcases i5 he with rfl|⟨he,_⟩
  .intro z;have:=b2 Ws.length;rw[qo,d! rfl,Bool.or_true]at this;dsimp only at z;rw[z,ni]at this;cases this
  .exact h.nz e he
def Agr(Ws:List cy)(note:List Int)(k i:Nat):Prop:=∃q,Ws[i]?=A? q/\∀c w:Int,((c,(k:Int)),w)∈q.2.2->note[c.toNat]?=A? w
structure Agst(es:CLs)(note:List Int)(N j:Nat)(x:Int):Prop where
 rng:0<=x/\x<2 ^ N
 bit:∀i,bt x i=Bq↔∃e∈es.take j,note[e.1.1.toNat]?≠A? e.1.2/\bt e.2 i=Bq
theorem Agst.zero(es:CLs)(note:List Int)(N:Nat):Agst es note N 0 0:=by
 have h1:=Nat.two_pow_pos N;have h2:=cu N;exact⟨⟨by decide,by lia⟩,λi=>by rw[ni,Yj];exact⟨λz=>(by cases z),λ⟨e,he,_⟩=>(by cases he)⟩⟩
theorem Agst.step{note:List Int}{N:Nat}{x:Int}{e:(Int×Int)×Int}(h:Agst es note N j x)(he:es[j]?=A? e)(hr:0<=e.2/\e.2<2 ^ N):(note[e.1.1.toNat]?=A? e.1.2->Agst es note N (j+1) x)/\(note[e.1.1.toNat]?≠A? e.1.2->Agst es note N (j+1) (Ys x e.2)):=by
 have ht:es.take (j+1)=es.take j++[e]:=by rw[X4,he];rfl
 refine⟨λhn=>⟨h.rng,λi=>?_⟩,λhn=>?_⟩
 .rw[h.bit,ht];constructor
  .rintro⟨e',zP,g⟩;exact⟨e',Wt _ zP,g⟩
  .rintro⟨e',zP,g⟩;rcases Wm.mp zP with zP|zP
   .exact⟨e',zP,g⟩
   .rw[We.mp zP]at g;exact g! hn g.1
 .obtain⟨b0,b1,b2⟩:=wo h.rng.1 hr.1 h.rng.2 hr.2;refine⟨⟨b0,b1⟩,λi=>?_⟩;rw[b2,Bool.or_eq_true,h.bit,ht];constructor
  .rintro(⟨e',zP,g⟩|g)
   .exact⟨e',Wt _ zP,g⟩
   .exact⟨e,by simp,hn,g⟩
  .rintro⟨e',zP,g⟩;rcases Wm.mp zP with zP|zP
   .exact .inl ⟨e',zP,g⟩
   .rw[We.mp zP]at g;exact .inr g.2
theorem Agst.done{Ws:List cy}{k:Nat}{note:List Int}{x:Int}(h:Agst es note Ws.length es.length x)(hN:NeedT Ws k es):0<=Xk (ones Ws.length) (XF x)/\∀i,bt (Xk (ones Ws.length) (XF x)) i=Bq↔Agr Ws note k i:=by
 obtain⟨b0,b1⟩:=u9 h.rng.1 h.rng.2;refine⟨b0,λi=>?_⟩;rw[b1,Yl,decide_eq_true_iff,Bool.not_eq_true',<-Bool.not_eq_true,h.bit,XU];constructor
 .rintro⟨hi,zt⟩;refine⟨Ws[i],V4 hi,λc w hm=>?_⟩;obtain⟨e,he,e1,e2⟩:=(hN.bit c w i).mpr ⟨_,V4 hi,hm⟩;by_cases z:note[c.toNat]?=A? w
  .exact z
  .exact g! ⟨e,he,by rw[e1];exact z,e2⟩ zt
 .rintro⟨q,hq,zc⟩;refine⟨(glE hq),λ⟨e,he,e1,e2⟩=>?_⟩;obtain⟨q',AS,hm⟩:=(hN.bit e.1.1 e.1.2 i).mp ⟨e,he,rfl,e2⟩;rw[hq]at AS;cases AS;exact e1 (zc _ _ hm)
structure NoteBy(W:List (Int×Int×V6))(b:Int)(S:Nat)(j:Nat)(note:List Int):Prop where
 len:note.length=S
 at':∀s:Nat,s<S->(∃i q,i<j/\W[i]?=A? q/\q.1=(s:Int)/\bt b i=Bq/\note[s]?=A? q.2.1)\/((∀i q,i<j->W[i]?=A? q->q.1=(s:Int)->bt b i=C?)/\note[s]?=A? (-1))
theorem NoteBy.zero(W:List (Int×Int×V6))(b:Int)(S:Nat):NoteBy W b S 0 (W7 S (-1)) :=
 ⟨List.length_replicate,λs hs=>.inr ⟨λi q h=>by lia,by rw[List.getElem?_replicate,b! hs]⟩⟩
theorem NoteBy.skip{b:Int}{S:Nat}{note:List Int}{q:Int×Int×V6}(h:NoteBy W b S j note)(hq:W[j]?=A? q)(hb:bt b j=C?):NoteBy W b S (j+1) note :=
 ⟨h.len,λs hs=>by
  rcases h.at' s hs with⟨i,q',h1,h2⟩|⟨h1,h2⟩
  .exact .inl ⟨i,q',by lia,h2⟩
  .refine .inr ⟨λi q' hi AS Bl=>?_,h2⟩;by_cases z:i=j
   .rw[z];exact hb
   .exact h1 i q' (by lia) AS Bl⟩
theorem NoteBy.set{b:Int}{S:Nat}{note:List Int}{q:Int×Int×V6}{s0:Nat}(h:NoteBy W b S j note)(hq:W[j]?=A? q)(hb:bt b j=Bq)(Ge:q.1=(s0:Int)):NoteBy W b S (j+1) (note.set s0 q.2.1) :=
 ⟨by rw[Yq];exact h.len,λs hs=>by
  by_cases z:s0=s
  .subst z;exact .inl ⟨j,q,by lia,hq,Ge,hb,by rw[XC (by rw[h.len];exact hs)]⟩
  .rw[XD z];rcases h.at' s hs with⟨i,q',h1,h2⟩|⟨h1,h2⟩
   .exact .inl ⟨i,q',by lia,h2⟩
   .refine .inr ⟨λi q' hi AS Bl=>?_,h2⟩;by_cases y:i=j
    .subst y;rw[hq]at AS;cases AS;exact g! (Int.ofNat.inj (Ge.symm.trans Bl)) z
    .exact h1 i q' (by lia) AS Bl⟩
end BB
variable{Ws:List BB.cy}{kd:BB.Kd}{zg:List BB.Kd}
namespace L2
open PySem PySem.Spec PySem.SeqAt PyProof.Rows
section
variable{X:Cx}{o i value:Xb}{td ty tv:TE}
end
section
variable{X:Cx}{o i f:Xb}{apos zo:Zb}{td ty tx:TE}
end
end L2
namespace BB
open PySem L2
theorem jH(g:GoodN ins){n:WE}{m:Int}(hj:ins[j]?=A? (n,m)):(ins.map (·.1)).idxOf n=j:=by
 have h1:n∈ins.map (·.1):=Wv.mpr ⟨_,V5 hj,rfl⟩;have h2:=List.idxOf_lt_length_iff.mpr h1;have h3:(ins.map (·.1))[(ins.map (·.1)).idxOf n]=n:=List.getElem_idxOf h2;rw[V2]at h2;rw[List.getElem_map]at h3;exact g.nd _ _ _ _ (V4 h2) hj h3
section
variable{mid:List (WE×Int)}{S1 S2:Int}{DO DQ:Th}{DR DS:List (List Th)}
end
section
variable{D:Int->List Int->Bool}{mk f0:Int->Th}
end
end BB
namespace L2
open PySem PySem.Spec PyProof.Rows
def uD(K:Wf)(a:V6):It:=⟨λi H=>∃xs x,SqL K H a xs/\xs[i]?=A? x,λi H x H'=>∃p y,H p=B?/\x=.ref p/\H'=upd H p (.tup [.int (i:Nat),y])/\∀xs,SqL K H a xs->xs[i]?=A? y,λi H=>∃xs,SqL K H a xs/\xs.length=i⟩
theorem pZ{k1}(a e it:V6):Turn P w K (.Tuple elts k1 pos) (uD K a) [e,it] e (λi h=>(∃old,IsEnum h e it ((i:Nat):Int) old)/\h.IsListIter it a i) where
 mem:=by simp
 obj:=λi h st b hb=>by
  obtain⟨⟨old,he⟩,o,e1,e2,e3⟩:=st;rcases Wr.mp hb with rfl|hb
  .exact⟨_,he,λv z=>by cases z⟩
  .have:b=it:=by simpa using hb
   subst this;exact⟨o,e1,λv z=>by rw[e3]at z;cases z⟩
 keep:=λi h h' st k=>by
  obtain⟨⟨old,he⟩,o,e1,e2⟩:=st;exact⟨⟨old,k e (by simp) _ he⟩,o,k it (by simp) _ e1,e2⟩
 item:=by
  intro X hP hw hK hc i Y s σ H E I hf st hg;subst hP hw hK;obtain⟨xs,x,hq,hx⟩:=hg;obtain⟨its,rv,p,hz⟩:=I.list hq;obtain⟨u,hu,ru⟩:=rv.get hx;obtain⟨⟨old,he⟩,hi⟩:=st
  have FW:e≠it:=by
   rintro rfl;obtain⟨o,e1,e2,_⟩:=hi;rw[he]at e1;cases e1;exact g! (XZ e2) (by decide)
  have EF:a≠it:=by
   rintro rfl;obtain⟨o,e1,e2,_⟩:=hi;obtain⟨o',CP,Ce,_⟩:=p.isList;rw[CP]at e1;cases e1;rw[Ce]at e2;exact g! (XZ e2) (by decide)
  have Mc:a≠e:=by
   rintro rfl;obtain⟨o',CP,Ce,_⟩:=p.isList;rw[he]at CP;cases CP;exact g! (XZ Ce) (by decide)
  have zf:i<its.toArray.size:=by
   have:=(glE hu);simpa using this
  have Df:e<s.1.1.size:=WC he;have Ah:it<s.1.1.size:=by obtain⟨o,e1,_⟩:=hi;exact WC e1
  refine wpAny_pyNext_enum_itemD (Draws.list (A:=X.A.in1) (show X.A.in1.handled=B? from I.ok.hd hc) it a EF its.toArray) he ⟨hi,p.isList⟩ zf FW (by simp[FW,Mc.symm]) λy h1 tk hy ho Md hT hsz hk=>?_
  have Me:y=u:=by
   have:its[i]?=A? y:=by simpa using hy
   rw[hu]at this;exact(Wi this).symm
  subst Me;refine⟨_,D?,wpAny_letOwnedTupleGo_enum ho λh2 Mf DA=>?_⟩;replace DA:XA e h1 h2:=DA
  have zp:∀b∈[e,it],b<s.1.1.size:=λb hb=>by
   rcases Wr.mp hb with rfl|hb
   .exact Df
   .have:b=it:=by simpa using hb
    subst this;exact Ah
  have FY:H s.1.1.size=none:=I.hok.fresh (Wc _)
  have IA:Inv X Y σ (upd H s.1.1.size (.tup [.int (i:Nat),x])) {s with heap:=s.1.push {cls:=.type "tuple",data:=.seq #[.int (i:Nat) tk,y]},toks:=tk} :=
   I.laid (o:=.tup [.int (i:Nat),x]) (λb ob q=>V9 _ q) (Wc _) ⟨by show 2<=WD;decide,[.int (i:Nat) tk,y],0,.cons ⟨tk,rfl⟩ (.cons ru .nil),Wh _ rfl⟩
  refine⟨.ref s.1.1.size,upd H s.1.1.size (.tup [.int (i:Nat),x]),?_,D?,⟨_,x,FY,D?,D?,λys Cw=>by rw[I.list_inj Cw hq];exact hx⟩,⟨⟨y,by simpa using Mf⟩,?_⟩,λb hb=>?_⟩
  .have IB:Inv X Y σ (upd H s.1.1.size (.tup [.int (i:Nat),x])) {s with heap:=h2,toks:=tk+1}:=by
    refine Inv.turnedL (s:={s with heap:=s.1.push {cls:=.type "tuple",data:=.seq #[.int (i:Nat) tk,y]},toks:=tk}) (h':=h2) (fp:=[e,it]) (t':=tk+1) IA (λb o hb q=>?_) λb hb=>?_
    .have CL:b≠e:=λz=>hb (by simp[z]);have Iu:b≠it:=λz=>hb (by simp[z]);rw[DA.2 b CL];by_cases hb2:b=s.1.1.size
     .subst hb2;rw[hT];have q':(s.1.push {cls:=.type "tuple",data:=.seq #[.int (i:Nat) tk,y]}).get? s.1.1.size=A? o:=q;rw[Wh _ rfl]at q';exact q'
     .have AW:b<(s.1.push {cls:=.type "tuple",data:=.seq #[.int (i:Nat) tk,y]}).objs.size:=WC q;rw[Xw]at AW;refine hk b o CL Iu ?_;have q':(s.1.push {cls:=.type "tuple",data:=.seq #[.int (i:Nat) tk,y]}).get? b=A? o:=q;rw[Heap.get?_push_ne _ _ _ hb2]at q';exact q'
    .obtain⟨f0,f1⟩:=hf b hb;exact⟨by rw[aj (WT (zp b hb))];exact f0,f1⟩
   exact IB
  .obtain⟨o,e1,r⟩:=Md.1;exact⟨o,(DA.2 it (Yc FW)).trans e1,r⟩
  .rw[aj (WT (zp b hb))];exact(hf b hb).1
 done:=by
  intro X hP hw hK hc i Y s σ H E I hf st hg;subst hP hw hK;obtain⟨xs,hq,hx⟩:=hg;obtain⟨its,rv,p,hz⟩:=I.list hq;obtain⟨⟨old,he⟩,hi⟩:=st
  have EF:a≠it:=by
   rintro rfl;obtain⟨o,e1,e2,_⟩:=hi;obtain⟨o',CP,Ce,_⟩:=p.isList;rw[CP]at e1;cases e1;rw[Ce]at e2;exact g! (XZ e2) (by decide)
  have hn:its.toArray.size=i:=by
   have:=rv.length;rw[Wn];lia
  refine wpAny_pyNext_enum_endD (Draws.list (A:=X.A.in1) (show X.A.in1.handled=B? from I.ok.hd hc) it a EF its.toArray) he (by rw[hn];exact⟨hi,p.isList⟩) λh' eb=>⟨rfl,?_⟩;exact I.turnedL (fp:=[e,it]) (t':=s.toks) (λb o hb q=>eb b o (λz=>hb (by simp[z])) q) hf
 self:=λ_ _ _ _ _ st h=>by
  obtain⟨⟨old,he⟩,_⟩:=st;exact wpAny_pyIter_enum he h
section
variable{X:Cx}{te:TE}{p2 zz:Zb}
def xI(K:Wf)(tl:TE):TI:=λσ H R=>tl σ H λx H1=>∃a,x=.ref a/\(∃xs,SqL K H1 a xs)/\R (uD K a) H1
theorem iV{k1}(g2:Gl X "enumerate")(m2:X.mg "enumerate"=B?)(he:PE X e te)(h2:W6 [e] X.env=[(C?,Yd e X.env)]:=by rfl):PI X (.Tuple elts k1 pos) (.Call (.Name "enumerate" p2) [e] [] zz) (xI X.K te):=by
 intro Y s σ H R I h;refine Xz (d9 I g2 m2 boot_enumerate (Xu ?_ h2 rfl));rw[h2];show Ww _ _ (spliced ((C?,Yd e X.env)::[])) _ _ s;refine Ye (thn (he Y s σ H _ I h) λu s1⟨x,H1,I1,r1,a,ex,⟨xs,hq⟩,q⟩=>YA ?_);subst ex;cases r1;obtain⟨its,rv,p,hz⟩:=I1.list hq;refine call_enumerate_list (show s1.1.IsList a its.toArray from p.isList) λh' g1 g2 g3 g4=>?_;refine wpAny_pyIter_enum (s:={s1 with heap:=h'}) g1 ?_;refine⟨s1.1.1.size+1,[s1.1.1.size+1,s1.1.1.size],_,_,H1,D?,I1.kept (t':=s1.toks) g4,pZ a _ _,⟨⟨_,g1⟩,g2⟩,λb hb=>?_,q⟩
 have zJ:s1.1.1.size<=b:=by
  rcases Wr.mp hb with rfl|hb
  .lia
  .have:b=s1.1.1.size:=by simpa using hb
   exact Nat.le_of_eq this.symm
 exact I1.fpOk zJ (I1.hok.fresh zJ)
end
theorem gX{g:TG}(Pv:Nat->St->Hp->Prop)(h0:Pv 0 σ H)(hl:∀i σ H,i<=xs.length->Pv i σ H->SqL K H a xs)
 (hs:∀i x p σ H,xs[i]?=A? x->H p=B?->Pv i σ H->g (.ref p) σ (upd H p (.tup [.int (i:Nat),x])) λzl H2=>tb {D with nx:=Pv (i+1),ct:=Pv (i+1),bk:=D.nx} zl H2) (hd:∀σ H,Pv xs.length σ H->D.nx σ H) :
 ∃W:Nat->Nat->St->Hp->Prop,(∃m,W 0 m σ H)/\∀i m σ H,W i m σ H ->
   ((uD K a).stop i H/\D.nx σ H)\/((uD K a).go i H/\∃N:St->Hp->Prop,(∀i' H',N i' H'->∃m',m'<m/\W (i+1) m' i' H')/\∀x H',(uD K a).yld i H x H'->g x σ H' λzl H2=>tb {D with nx:=N,ct:=N,bk:=D.nx} zl H2):=by
 refine⟨λi m σ H=>m=xs.length - i/\i<=xs.length/\Pv i σ H,⟨xs.length,by simp,WY _,h0⟩,?_⟩;rintro i m σ H ⟨rfl,hi,p⟩;have q:=hl i σ H hi p;by_cases zf:i<xs.length
 .refine .inr ⟨⟨xs,xs[i],q,by simp[zf]⟩,Pv (i+1),λi' H' p'=>⟨xs.length - (i+1),by lia,rfl,zf,p'⟩,λx H' y=>?_⟩;obtain⟨pa,y,hp,rfl,rfl,hy⟩:=y;exact hs i y pa σ H (hy xs q) hp p
 .have e:i=xs.length:=by lia
  subst e;exact .inl ⟨⟨xs,q,rfl⟩,hd σ H p⟩
end L2
namespace BB
open PySem L2
theorem lj{o:X6}{g:TG}(Pv:Nat->St->Hp->Prop)(h0:Pv 0 σ H)(hl:∀i σ H,i<=es.length->Pv i σ H->H a=A? (.frz o (.dT (dE es))))
 (hs:∀(i:Nat)(e:(Int×Int)×Int)(p b:V6)(σ:St)(H:Hp),es[i]?=A? e->H p=B?->H b=A? (.tup [.int e.1.1,.int e.1.2])->Pv i σ H->g (.ref p) σ (upd H p (.tup [.ref b,.int e.2])) λzl H2=>tb {D with nx:=Pv (i+1),ct:=Pv (i+1),bk:=D.nx} zl H2) (hd:∀σ H,Pv es.length σ H->D.nx σ H) :
 ∃W:Nat->Nat->St->Hp->Prop,(∃m,W 0 m σ H)/\∀i m σ H,W i m σ H ->
   ((tT a o (dE es)).stop i H/\D.nx σ H)\/((tT a o (dE es)).go i H/\∃N:St->Hp->Prop,(∀i' H',N i' H'->∃m',m'<m/\W (i+1) m' i' H')/\∀x H',(tT a o (dE es)).yld i H x H'->g x σ H' λzl H2=>tb {D with nx:=N,ct:=N,bk:=D.nx} zl H2):=by
 have hlen:(dE es).length=es.length:=by unfold dE;rw[V2]
 refine⟨λi m σ H=>m=es.length - i/\i<=es.length/\Pv i σ H,⟨es.length,by simp,WY _,h0⟩,?_⟩;rintro i m σ H ⟨rfl,hi,p⟩;have q:=hl i σ H hi p;by_cases zf:i<es.length
 .refine .inr ⟨⟨q,by lia⟩,Pv (i+1),λi' H' p'=>⟨es.length - (i+1),by lia,rfl,zf,p'⟩,λx H' y=>?_⟩;obtain⟨pa,b,kv,hp,rfl,rfl,Aa,eb⟩:=y;unfold dE at Aa;rw[V7]at Aa;obtain⟨e,he,rfl⟩:=WA.mp Aa;exact hs i e pa b σ H he hp eb p
 .have e:i=es.length:=by lia
  subst e;exact .inl ⟨⟨q,by lia⟩,hd σ H p⟩
theorem Least.join{S1 S2:Cand->Prop}{D Dt:List Cand}(h:Least (λc=>S1 c\/∃e∈D,c=e) Dt)(g:Least S2 D):Least (λc=>S1 c\/S2 c) Dt :=
 ⟨h.nd,λe he=>(h.sub e he).imp id λ⟨e',zP,z⟩=>by rw[z];exact g.sub e' zP,λc hc=>by
  rcases hc with hc|hc
  .exact h.le c (.inl hc)
  .obtain⟨e,he,h1,h2⟩:=g.le c hc;obtain⟨d,hd,h3,h4⟩:=h.le e (.inr ⟨e,he,rfl⟩);exact⟨d,hd,h3.trans h1,by lia⟩⟩
theorem fQ{f:α->β}{l:List α}(h:(l.map f).Nodup){x y:α}(hi:l[i]?=A? x)(hj:l[j]?=A? y)(e:f x=f y):i=j :=
 dq h (gmE hi) (by rw[V7,hj,e];rfl)
theorem WyAt.setAg{w:Wy}{k:Nat}{l:List Int}(h:WyAt C H w)(hk:w.ks[k]?=A? kd):WyAt C (upd H kd.a (.lst (l.map o!))) {w with ks:=w.ks.set k {kd with ag:=l}}:=by
 have hm:=V5 hk;have ea:=h.ag kd hm;have hn:=h.n4 kd hm;have md:(w.ks.set k {kd with ag:=l}).map (·.d)=w.ks.map (·.d):=map_set _ hk rfl;have ma:(w.ks.set k {kd with ag:=l}).map (·.a)=w.ks.map (·.a):=map_set _ hk rfl;have rd:(w.ks.set k {kd with ag:=l}).map (λk=>k! k.d)=w.ks.map (λk=>k! k.d):=map_set _ hk rfl;have ra:(w.ks.set k {kd with ag:=l}).map (λk=>k! k.a)=w.ks.map (λk=>k! k.a):=map_set _ hk rfl
 have mem:∀x∈w.ks.set k {kd with ag:=l},x={kd with ag:=l}\/(x∈w.ks/\x.a≠kd.a):=λx hx=>by
  rcases mem_set hx with rfl|⟨j,hj,hx⟩
  .exact .inl rfl
  .exact .inr ⟨V5 hx,λz=>hj (fQ h.nda hx hk z)⟩
 refine⟨?_,?_,λq hq=>?_,?_,?_,λx hx=>?_,λx hx=>?_,h.n1,h.n2,h.n3,λx hx=>?_,?_,?_⟩
 .exact(aj (aF h.ins ea (λz=>nomatch z))).trans h.ins
 .exact(aj hn.1.symm).trans h.pl
 .exact(aj (aF (h.pr q hq) ea (λz=>nomatch z))).trans (h.pr q hq)
 .exact((aj hn.2.1.symm).trans h.nl).trans (h! (λz=>A? (HO.lst z)) rd.symm)
 .exact((aj hn.2.2.symm).trans h.al).trans (h! (λz=>A? (HO.lst z)) ra.symm)
 .rcases mem x hx with rfl|⟨hx,_⟩
  .exact(aj (aF (h.nd kd hm) ea (λz=>nomatch z))).trans (h.nd kd hm)
  .exact(aj (aF (h.nd x hx) ea (λz=>nomatch z))).trans (h.nd x hx)
 .rcases mem x hx with rfl|⟨hx,zp⟩
  .exact ac
  .exact(aj zp).trans (h.ag x hx)
 .rcases mem x hx with rfl|⟨hx,_⟩
  .exact hn
  .exact h.n4 x hx
 .exact(h! List.Nodup ma).mpr h.nda
 .exact(h! List.Nodup md).mpr h.ndd
structure Took(Ws:List cy)(note:List Int)(ks:List Kd)(j:Nat)(zg:List Kd):Prop where
 len:zg.length=ks.length
 lo:∀(k:Nat)(kd:Kd),k<j->ks[k]?=A? kd->∃b:Int,zg[k]?=A? {kd with ag:=kd.ag++[b]}/\0<=b/\∀i,bt b i=Bq↔Agr Ws note k i
 hi:∀(k:Nat)(kd:Kd),j<=k->ks[k]?=A? kd->zg[k]?=A? kd
theorem Took.zero(Ws:List cy)(note:List Int)(ks:List Kd):Took Ws note ks 0 ks:=⟨rfl,λk kd h=>g! h (ZA _),λk kd _ h=>h⟩
theorem Took.step{note:List Int}{ks:List Kd}{b:Int}(h:Took Ws note ks j zg)(hk:ks[j]?=A? kd)(hb:0<=b)(K':∀i,bt b i=Bq↔Agr Ws note j i):Took Ws note ks (j+1) (zg.set j {kd with ag:=kd.ag++[b]}):=by
 have hj:j<zg.length:=by rw[h.len];exact(glE hk)
 refine⟨by rw[Yq];exact h.len,λk AM zf zD=>?_,λk AM hle zD=>?_⟩
 .by_cases z:j=k
  .subst z;rw[hk]at zD;cases zD;exact⟨b,by rw[XC hj],hb,K'⟩
  .rw[XD z];exact h.lo k AM (by lia) zD
 .rw[XD (by lia)];exact h.hi k AM (by lia) zD
theorem Took.map{note:List Int}{ks:List Kd}(h:Took Ws note ks j zg):zg.map (·.a)=ks.map (·.a)/\zg.map (·.d)=ks.map (·.d):=by
 have key:∀k:Nat,∀kd,ks[k]?=A? kd->∃AM,zg[k]?=A? AM/\AM.a=kd.a/\AM.d=kd.d:=λk kd hk=>by
  by_cases z:k<j
  .obtain⟨b,h1,_⟩:=h.lo k kd z hk;exact⟨_,h1,D?,D?⟩
  .exact⟨kd,h.hi k kd (by lia) hk,D?,D?⟩
 refine⟨Yp λk=>?_,Yp λk=>?_⟩
 all_goals
  rw[V7,V7];by_cases hk:k<ks.length
  .obtain⟨AM,h1,h2,h3⟩:=key k _ (V4 hk);rw[h1,V4 hk]
   first|exact h! A? h2|exact h! A? h3
  .have hl:=h.len;rw[Xo (show zg.length<=k by lia),Xo (show ks.length<=k by lia)]
theorem WyAt.setEs{w:Wy}{k:Nat}(h:WyAt C H w)(hk:w.ks[k]?=A? kd):WyAt C (upd H kd.d (.dT (dE es))) {w with ks:=w.ks.set k {kd with es:=es}}:=by
 have hm:=V5 hk;have ed:=h.nd kd hm;have md:(w.ks.set k {kd with es:=es}).map (·.d)=w.ks.map (·.d):=map_set _ hk rfl;have ma:(w.ks.set k {kd with es:=es}).map (·.a)=w.ks.map (·.a):=map_set _ hk rfl;have rd:(w.ks.set k {kd with es:=es}).map (λk=>k! k.d)=w.ks.map (λk=>k! k.d):=map_set _ hk rfl;have ra:(w.ks.set k {kd with es:=es}).map (λk=>k! k.a)=w.ks.map (λk=>k! k.a):=map_set _ hk rfl;have lst:∀{b:V6}{xs:List V},H b=A? (.lst xs)->(upd H kd.d (.dT (dE es))) b=A? (.lst xs):=λe=>(aj (aF e ed (λz=>nomatch z))).trans e
 have mem:∀x∈w.ks.set k {kd with es:=es},x={kd with es:=es}\/(x∈w.ks/\x.d≠kd.d):=λx hx=>by
  rcases mem_set hx with rfl|⟨j,hj,hx⟩
  .exact .inl rfl
  .exact .inr ⟨V5 hx,λz=>hj (fQ h.ndd hx hk z)⟩
 refine⟨?_,lst h.pl,λq hq=>?_,?_,?_,λx hx=>?_,λx hx=>?_,h.n1,h.n2,h.n3,λx hx=>?_,?_,?_⟩
 .exact(aj (aF h.ins ed (λz=>nomatch z))).trans h.ins
 .exact(aj (aF (h.pr q hq) ed (λz=>nomatch z))).trans (h.pr q hq)
 .exact(lst h.nl).trans (h! (λz=>A? (HO.lst z)) rd.symm)
 .exact(lst h.al).trans (h! (λz=>A? (HO.lst z)) ra.symm)
 .rcases mem x hx with rfl|⟨hx,zp⟩
  .exact ac
  .exact(aj zp).trans (h.nd x hx)
 .rcases mem x hx with rfl|⟨hx,zp⟩
  .exact lst (h.ag kd hm)
  .exact lst (h.ag x hx)
 .rcases mem x hx with rfl|⟨hx,_⟩
  .exact h.n4 kd hm
  .exact h.n4 x hx
 .exact(h! List.Nodup ma).mpr h.nda
 .exact(h! List.Nodup md).mpr h.ndd
theorem WyAt.addP{w:Wy}{s p:Int}(h:WyAt C H w)(ea:H a=A? (.tup [.int s,.int p])):WyAt C (upd H w.pl (.lst ((w.ps.map λq=>k! q.2.2)++[.ref a]))) {w with ps:=w.ps++[(s,p,a)]}:=by
 have o:∀{b:V6}{u:HO},b≠w.pl->H b=A? u->(upd H w.pl (.lst ((w.ps.map λq=>k! q.2.2)++[.ref a]))) b=A? u:=λhb e=>(aj hb).trans e;have tu:∀{b:V6}{xs:List V},H b=A? (.tup xs)->(upd H w.pl (.lst ((w.ps.map λq=>k! q.2.2)++[.ref a]))) b=A? (.tup xs):=λe=>o (aF e h.pl (λz=>nomatch z)) e;refine⟨o (aF h.ins h.pl (λz=>nomatch z)) h.ins,?_,λq hq=>?_,o h.n1.symm h.nl,o h.n2.symm h.al,λx hx=>o (aF (h.nd x hx) h.pl (λz=>nomatch z)) (h.nd x hx),λx hx=>o (h.n4 x hx).1 (h.ag x hx),h.n1,h.n2,h.n3,h.n4,h.nda,h.ndd⟩
 .show(upd H w.pl _) w.pl=_;rw[ac,WB];rfl
 .rcases Wm.mp hq with hq|hq
  .exact tu (h.pr q hq)
  .rw[We.mp hq];exact tu ea
def Kd.sh(k:Kd):V6×V6×List Int:=(k.d,k.a,k.ag)
theorem pc{g:TG}{te:TE}(hn:n<=1000000)
 (hb:∀(i:Nat)(H2:Hp)(R:VK),i<n->(∀p,H2 p=B?->R (.ref p) (upd H2 p o))->g (.int (0+(i:Nat))) (cσ js σ) H2 λzl H3=>te zl H3 R)
 (zX:∀(D:V6)(H':Hp)(as:List V6),H D=B?->j! H H'->H' D=A? (.lst (as.map k!))->as.length=n->as.Nodup->(∀a∈as,H' a=A? o/\H a=B?/\a≠D)->fin D H') :
 ∀D,H D=B?->∃(m:Nat)(W:Nat->Hp->Prop),W 0 (upd H D (.lst []))/\fV js g aQ te σ (Itr 0 n) D m W λH'=>fin D H':=by
 intro D hD;refine⟨n,λi H'=>i<=n/\j! H H'/\∃as:List V6,H' D=A? (.lst (as.map k!))/\as.length=i/\as.Nodup/\∀a∈as,H' a=A? o/\H a=B?/\a≠D,⟨WY _,ao hD _,[],by rw[ac];rfl,D?,YE,(by intro a ha;cases ha)⟩,?_⟩;rintro i H' ⟨hi,s1,as,e1,hl,Bo,has⟩;by_cases zf:i<n
 .refine .inr ⟨zf,zf,λv H1 hy=>?_⟩;obtain⟨rfl,rfl⟩:=hy;refine hb i H1 _ zf λp hp=>?_;have B4:p≠D:=λz=>by rw[z,e1]at hp;cases hp
  have Sl:H p=none:=by
   cases z:H p with
   |none=>rfl
   |some u=>rw[s1 _ _ z]at hp;cases hp
  have B5:p∉as:=λz=>by rw[(has p z).1]at hp;cases hp
  refine⟨as.map k!,(aj B4.symm).trans e1,lbE (by lia),zf,aM (s1.trans (ao hp _)) hD,as++[p],uAE,by rw[Wk,WM];lia,?_,λa ha=>?_⟩
  .rw[XI];refine⟨Bo,by simp,λa ha b hb z=>?_⟩;rw[We.mp hb]at z;exact B5 (z ▸ ha)
  .rcases Wm.mp ha with ha|ha
   .obtain⟨h1,h2,h3⟩:=has a ha;exact⟨(aj h3).trans ((ao hp _) _ _ h1),h2,h3⟩
   .rw[We.mp ha];exact⟨(aj B4).trans ac,Sl,B4⟩
 .have e:i=n:=by lia
  subst e;exact .inl ⟨Wc _,zX D H' as hD s1 e1 hl Bo has⟩
def iJ:List V6->List V6->List Kd
 |d::ds,a::as=>⟨d,[],a,[]⟩::iJ ds as
 |_,_=>[]
theorem tZ:∀{ds as:List V6},ds.length=as.length->(iJ ds as).map (·.d)=ds/\(iJ ds as).map (·.a)=as/\(∀k∈iJ ds as,k.es=[]/\k.ag=[])
 | [],[],_=>⟨rfl,rfl,(by intro k hk;cases hk)⟩
 | [],_::_,h=>by cases h
 |_::_,[],h=>by cases h
 | d::ds,a::as,h=>by
   obtain⟨h1,h2,h3⟩:=tZ (ds:=ds) (as:=as) (by simpa using h);rw[iJ];refine⟨by rw[WH,h1],by rw[WH,h2],λk hk=>?_⟩;rcases Wr.mp hk with rfl|hk
   .exact⟨D?,D?⟩
   .exact h3 k hk
structure WSp(Ls:List Th)(pats:List Th)(done:Nat->Nat->Prop)(Ws:List cy):Prop where
 wf:∀q∈Ws,∃(s pt:Nat)(p u:Th),q.1=(s:Int)/\q.2.1=(pt:Int)/\pats[s]?=A? p/\Ls[pt]?=A? u/\jS Ls p u q.2.2
 all:∀(s pt:Nat)(p u:Th),done s pt->pats[s]?=A? p->Ls[pt]?=A? u->(∃q∈Ws,q.1=(s:Int)/\q.2.1=(pt:Int))\/∀g,p.fill g≠u
theorem WSp.nil(Ls pats:List Th):WSp Ls pats (λ_ _=>False) []:=⟨(by intro q hq;cases hq),λ_ _ _ _ h=>h.elim⟩
theorem WSp.congr{d d':Nat->Nat->Prop}(h:WSp Ls pats d Ws)(e:∀s pt,(∃p,pats[s]?=A? p)->(∃u,Ls[pt]?=A? u)->d' s pt->d s pt):WSp Ls pats d' Ws :=
 ⟨h.wf,λs pt p u hd hp hu=>h.all s pt p u (e s pt ⟨p,hp⟩ ⟨u,hu⟩ hd) hp hu⟩
theorem WSp.none{d:Nat->Nat->Prop}{s pt:Nat}{u:Th}(h:WSp Ls pats d Ws)(hp:pats[s]?=A? p)(hu:Ls[pt]?=A? u)(hn:∀g,p.fill g≠u):WSp Ls pats (λs' EL=>d s' EL\/(s'=s/\EL=pt)) Ws :=
 ⟨h.wf,λs' EL p' u' hd B3 DM=>by
  rcases hd with hd|⟨rfl,rfl⟩
  .exact h.all s' EL p' u' hd B3 DM
  .rw[hp]at B3;rw[hu]at DM;cases B3;cases DM;exact .inr hn⟩
theorem WSp.add{d:Nat->Nat->Prop}{s pt:Nat}{u:Th}{L:CLs}(h:WSp Ls pats d Ws)(hp:pats[s]?=A? p)(hu:Ls[pt]?=A? u)(hn:jS Ls p u L):WSp Ls pats (λs' EL=>d s' EL\/(s'=s/\EL=pt)) (Ws++[((s:Int),(pt:Int),L)]) :=
 ⟨λq hq=>by
  rcases Wm.mp hq with hq|hq
  .exact h.wf q hq
  .rw[We.mp hq];exact⟨s,pt,p,u,D?,D?,hp,hu,hn⟩,λs' EL p' u' hd B3 DM=>by
  rcases hd with hd|⟨rfl,rfl⟩
  .exact(h.all s' EL p' u' hd B3 DM).imp (λ⟨q,hq,z⟩=>⟨q,Wt _ hq,z⟩) id
  .exact .inl ⟨_,WK _ (We.mpr rfl),rfl,rfl⟩⟩
theorem mX{u:Th}{L:CLs}(h:jS Ls p u L):L.length<=p.size:=by
 have MQ:∀(l:List (Int×Int)),l.Nodup->(l.map λc=>r! c.1 c.2).Nodup:=λl=>by
  induction l with
  |nil=>intro _;simp
  | cons c l ih =>
    intro hn;rw[Xf]at hn;rw[WH,Xf];refine⟨λz=>?_,ih hn.2⟩;obtain⟨c',z8,e⟩:=Wv.mp z;injection e with e1 e2;exact hn.1 ((Prod.ext e1 e2:c'=c) ▸ z8)
 have:=fz (m:=p.walk) (MQ _ h.nd) λt ht=>by
  obtain⟨c,hc,rfl⟩:=Wv.mp ht;obtain⟨e,he,rfl⟩:=Wv.mp hc;exact(h.ok e he).2
 rw[V2,V2,Th.walk_len]at this;exact this
def bh:Th:=.call 0 0
mutual
def aK(ins:List (WE×Int))(rows:List (List Th)):Th->List Th
 |.knot n ks=>rows.map λrow=>(row.getD ((ins.map (·.1)).idxOf n) bh).fill λs k=>((oh ins rows ks).getD k.toNat []).getD s.toNat bh
 |.call _ _=>[]
def oh(ins:List (WE×Int))(rows:List (List Th)):List Th->List (List Th)
 | []=>[]
 |t::ts=>aK ins rows t::oh ins rows ts
end
theorem ls(ins:List (WE×Int))(rows:List (List Th)):∀ts,oh ins rows ts=ts.map (aK ins rows)
 | []=>rfl
 |t::ts=>by rw[oh,WH,ls ins rows ts]
def bP(ins:List (WE×Int))(rows:List (List Th))(ks:List Th)(s k:Int):Th:=((ks.map (aK ins rows)).getD k.toNat []).getD s.toNat bh
theorem cm(ins:List (WE×Int))(rows:List (List Th))(n:WE)(ks:List Th):aK ins rows (.knot n ks)=rows.map λrow=>(row.getD ((ins.map (·.1)).idxOf n) bh).fill (bP ins rows ks):=by
 rw[aK,ls];rfl
structure IsNote(Ls:List Th)(ms:List Th)(note:List Int):Prop where
 len:note.length=ms.length
 at':∀(s:Nat)(u:Th),ms[s]?=A? u->(∃j:Nat,Ls[j]?=A? u/\note[s]?=A? (j:Int))\/(u∉Ls/\note[s]?=A? (-1))
theorem IsNote.uniq{a b:List Int}(nd:Ls.Nodup)(ha:IsNote Ls ms a)(hb:IsNote Ls ms b):a=b:=by
 refine Yp λs=>?_;by_cases hs:s<ms.length
 .have hu:=V4 hs;rcases ha.at' s _ hu with⟨i,h1,h2⟩|⟨h1,h2⟩
  .rcases hb.at' s _ hu with⟨j,g1,g2⟩|⟨g1,g2⟩
   .rw[h2,g2,dq nd h1 g1]
   .exact g! (V5 h1) g1
  .rcases hb.at' s _ hu with⟨j,g1,g2⟩|⟨g1,g2⟩
   .exact g! (V5 g1) h1
   .rw[h2,g2]
 .rw[Xo (by rw[ha.len];lia),Xo (by rw[hb.len];lia)]
theorem IsNote.iff{note:List Int}(nd:Ls.Nodup)(h:IsNote Ls ms note){s w:Nat}{u:Th}(hu:ms[s]?=A? u):note[s]?=A? (w:Int)↔Ls[w]?=A? u:=by
 rcases h.at' s u hu with⟨j,h1,h2⟩|⟨h1,h2⟩
 .rw[h2];constructor
  .intro e
   have:j=w:=by
    have:=Wi e;lia
   rw[<-this];exact h1
  .intro e;rw[dq nd h1 e]
 .rw[h2];constructor
  .intro e;have:=Wi e;lia
  .intro e;exact g! (V5 e) h1
theorem rS{a:Nat}{b:Int}{xs:List Th}{notes:List (List Int)}{note:List Int}
 (nd:Ls.Nodup) (AN:(ins.map (·.1)).idxOf nm=a) (BV:rows.map (λrow=>row.getD a bh)=pats) (Bb:WSp Ls pats (λ_ _=>True) Ws) (hW:W.map (λq=>(q.1,q.2.1))=Ws.map (λq=>(q.1,q.2.1)))
 (Hm:xs.length=m) (AV:∀(k:Nat)(x:Th),xs[k]?=A? x->∃n,notes[k]?=A? n/\IsNote Ls (aK ins rows x) n)
 (DV:∀p∈pats,∀s k:Int,r! s k∈p.walk->(∃k':Nat,k=(k':Int)/\k'<m)/\∃s':Nat,s=(s':Int)/\s'<rows.length) (hlen:∀x∈xs,(aK ins rows x).length=rows.length)
 (hb:∀i,bt b i=Bq↔∃q,Ws[i]?=A? q/\∀(k:Nat)(n:List Int),notes[k]?=A? n->k<m->∀c w:Int,((c,(k:Int)),w)∈q.2.2->n[c.toNat]?=A? w)
 (hn:NoteBy W b rows.length W.length note):IsNote Ls (aK ins rows (.knot nm xs)) note:=by
 have Jb:W.length=Ws.length:=by
  have:=h! XG hW;rw[V2,V2]at this;exact this
 have Sm:∀(i:Nat)(q:Int×Int×V6),W[i]?=A? q->∃q',Ws[i]?=A? q'/\q'.1=q.1/\q'.2.1=q.2.1:=λi q h=>by
  have:(W.map (λq=>(q.1,q.2.1)))[i]?=(Ws.map (λq=>(q.1,q.2.1)))[i]?:=by rw[hW]
  rw[V7,V7,h]at this;obtain⟨q',h1,h2⟩:=WA.mp this.symm;exact⟨q',h1,h! ZO h2,h! Prod.snd h2⟩
 have Sn:∀(i:Nat)(q':cy),Ws[i]?=A? q'->∃q,W[i]?=A? q/\q'.1=q.1/\q'.2.1=q.2.1:=λi q' h=>by
  have:(W.map (λq=>(q.1,q.2.1)))[i]?=(Ws.map (λq=>(q.1,q.2.1)))[i]?:=by rw[hW]
  rw[V7,V7,h]at this;obtain⟨q,h1,h2⟩:=WA.mp this;exact⟨q,h1,(h! ZO h2).symm,(h! Prod.snd h2).symm⟩
 have need:∀p∈pats,∀(u:Th)(L:CLs),jS Ls p u L->∀e∈L,∃(k c w:Nat)(n:List Int),e.1.2=(k:Int)/\k<m/\e.1.1=(c:Int)/\e.2=(w:Int)/\notes[k]?=A? n/\(n[c]?=A? (w:Int)↔Ls[w]?=A? (bP ins rows xs e.1.1 e.1.2)):=λp hp u L hL e he=>by
  obtain⟨⟨w,hw,_⟩,hc⟩:=hL.ok e he;obtain⟨⟨k,hk,AX⟩,c,Ez,Fc⟩:=DV p hp _ _ hc;obtain⟨x,hx⟩:∃x,xs[k]?=A? x:=⟨_,V4 (by lia)⟩;obtain⟨n,h1,h2⟩:=AV k x hx;have hl:=hlen x (V5 hx);refine⟨k,c,w,n,hk,AX,Ez,hw,h1,h2.iff nd (s:=c) ?_⟩;unfold bP;rw[hk,Ez,Wl,Wl,Wu (l:=xs.map _),V7,hx,Wu];show(aK ins rows x)[c]?=A? (((aK ins rows x)[c]?).getD bh);rw[V4 (by lia)];rfl
 rw[cm,AN];refine⟨by rw[hn.len,V2],λs u hu=>?_⟩;rw[V7]at hu;obtain⟨row,zU,rfl⟩:=WA.mp hu;have hs:=(glE zU);have hp:pats[s]?=A? (row.getD a bh):=by rw[<-BV,V7,zU];rfl
 have Lb:=V5 hp;rcases hn.at' s hs with⟨i,q,hi,hq,Vx,Iu,BW⟩|⟨zt,BW⟩
 .obtain⟨q',AS,e1,e2⟩:=Sm i q hq;obtain⟨s0,pt,p0,u0,w1,w2,w3,w4,w5⟩:=Bb.wf q' (V5 AS);have:s0=s:=by lia
  subst this;rw[hp]at w3;cases w3;obtain⟨q2,Px,zc⟩:=(hb i).mp Iu;rw[AS]at Px;cases Px;left;refine⟨pt,?_,by rw[BW,<-e2,w2]⟩;rw[w4];refine h! A? (Eq.symm ((w5.iff _).mpr λe he=>?_));obtain⟨k,c,w,n,h1,h2,h3,h4,h5,h6⟩:=need _ Lb _ _ w5 e he;have:=zc k n h5 h2 e.1.1 e.2 (by rw[<-h1];exact he);rw[h3,Wl,h4]at this;rw[h4,Wl];exact h6.mp this
 .right;refine⟨λhm=>?_,BW⟩;obtain⟨pt,BD⟩:=Wg.mp hm;rcases Bb.all s pt _ _ trivial hp BD with⟨q',AS,e1,e2⟩|zp
  .obtain⟨i,hi⟩:=Wg.mp AS;obtain⟨s0,So,p0,u0,w1,w2,w3,w4,w5⟩:=Bb.wf q' AS;have h1:s0=s:=by lia
   have h2:So=pt:=by lia
   subst h1 h2;rw[hp]at w3;rw[BD]at w4;cases w3;cases w4;obtain⟨q,hq,f1,f2⟩:=Sn i q' hi;have Py:=zt i q (by rw[Jb];exact(glE hi)) hq (by lia);rw[(hb i).mpr ⟨q',hi,λk n hk AX c w Pz=>?_⟩]at Py
   .cases Py
   .obtain⟨k',c',w',n',g1,g2,g3,g4,g5,g6⟩:=need _ Lb _ _ w5 _ Pz;dsimp only at g1 g3 g4;have:k'=k:=by lia
    subst this;rw[hk]at g5;cases g5;rw[g3,Wl,g4];have:=(w5.iff _).mp rfl _ Pz;dsimp only at this;rw[g4,Wl]at this;exact g6.mpr this
  .exact zp _ rfl
structure NtE where
 n:Nat
 note:List Int
 t:Th
 a:V6
 na:V6
 ta:V6
def NtE.key(e:NtE):Int×List Int:=((e.n:Int),e.note)
structure NtA(H:Hp)(e:NtE):Prop where
 a:H e.a=A? (.tup [.int (e.n:Nat),.ref e.na,.ref e.ta])
 na:H e.na=A? (.tup (e.note.map o!))
 ta:At H e.t e.ta
theorem NtA.mono(k:KT H H'){e:NtE}(h:NtA H e):NtA H' e:=⟨k _ _ h.a,k _ _ h.na,h.ta.mono k⟩
def gd(note:List Int):List Key:=note.map WQ
theorem ou{a b:List Int}(h:gd a=gd b):a=b:=by
 unfold gd at h;exact List.map_inj_right (λx y e=>Sum.inl.inj e) |>.mp h
theorem um(note:List Int):(gd note).map kV=note.map o!:=by unfold gd;rw[WR];rfl
def nfv(F:List NtE):List (List Key×V):=F.map λe=>(gd e.note,k! e.a)
theorem ki(F:List NtE):(nfv F).length=F.length:=V2 _
theorem rg{F:List NtE}{note:List Int}(h:bz (nfv F) (gd note)=A? v):∃(i:Nat)(e:NtE),F[i]?=A? e/\e.note=note/\v=.ref e.a:=by
 obtain⟨i,hi⟩:=Wg.mp (nF h);unfold nfv at hi;rw[V7]at hi;obtain⟨e,he,z⟩:=WA.mp hi;exact⟨i,e,he,ou (h! ZO z),(h! Prod.snd z).symm⟩
theorem lh{F:List NtE}{note:List Int}(h:bz (nfv F) (gd note)=B?):note∉F.map (·.note):=λz=>by
 obtain⟨e,he,rfl⟩:=Wv.mp z;exact lf h (by unfold nfv;rw[WR];exact Wv.mpr ⟨e,he,rfl⟩)
theorem vQ{F:List NtE}{c:NtE}(h:bz (nfv F) (gd c.note)=B?):putK (nfv F) (gd c.note) (.ref c.a)=nfv (F++[c]):=by
 rw[ow (lf h)];unfold nfv;rw[WB];rfl
theorem w8{F:List NtE}(nd:(F.map (·.note)).Nodup):((nfv F).map (·.1)).Nodup:=by
 unfold nfv;rw[WR]
 have:∀l:List (List Int),l.Nodup->(l.map gd).Nodup:=λl=>by
  induction l with
  |nil=>intro _;simp
  | cons c l ih =>
    intro hn;rw[Xf]at hn;rw[WH,Xf];refine⟨λz=>?_,ih hn.2⟩;obtain⟨c',z8,e⟩:=Wv.mp z;exact hn.1 (ou e ▸ z8)
 have:=this _ nd;rw[WR]at this;exact this
theorem vi{F:List NtE}(nd:(F.map (·.note)).Nodup){e c:NtE}(h:F[i]?=A? e)(hn:e.note=c.note):putK (nfv F) (gd c.note) (.ref c.a)=nfv (F.set i c):=by
 rw[oJ (w8 nd) (i:=i) (u:=.ref e.a) (by unfold nfv;rw[V7,h,<-hn];rfl)];unfold nfv;rw[List.map_set]
structure Tb where
 x:V6
 dx:V6
 S:Nat
 wl:V6
 fd:V6
 st:V6
 ws:List Wy
 found:List NtE
 settled:List NtE
def tbF(S:Nat)(wl fd st:V6):List (WE×V):=[(Wb "states",.int (S:Nat)),(Wb "ways",.ref wl),(Wb "found",.ref fd),(Wb "settled",.ref st)]
theorem yp{S:Nat}{fd st:V6}:(tbF S wl fd st).lookup (Wb "states")=A? (.int (S:Nat)):=lk0
theorem vX{S:Nat}{fd st:V6}:(tbF S wl fd st).lookup (Wb "ways")=A? (.ref wl):=(lk1 (by decide +kernel)).trans lk0
theorem kM{S:Nat}{fd st:V6}:(tbF S wl fd st).lookup (Wb "found")=A? (.ref fd):=(lk1 (by decide +kernel)).trans ((lk1 (by decide +kernel)).trans lk0)
theorem l5{S:Nat}{fd st:V6}:(tbF S wl fd st).lookup (Wb "settled")=A? (.ref st):=(lk1 (by decide +kernel)).trans ((lk1 (by decide +kernel)).trans ((lk1 (by decide +kernel)).trans lk0))
theorem nU{m:WE}{S:Nat}{fd st:V6}(h1:(m == Wb "states")=false:=by decide +kernel)(h2:(m == Wb "ways")=false:=by decide +kernel)(h3:(m == Wb "found")=false:=by decide +kernel)(h4:(m == Wb "settled")=false:=by decide +kernel):(tbF S wl fd st).lookup m=B? :=
 (lk1 h1).trans ((lk1 h2).trans ((lk1 h3).trans ((lk1 h4).trans rfl)))
theorem vn(S:Nat)(wl fd st:V6):aO (Wb "settled") (.ref st) (aO (Wb "found") (.ref fd) (aO (Wb "ways") (.ref wl) (aO (Wb "states") (.int (S:Nat)) [])))=tbF S wl fd st:=by
 have e1:∀(f:WE)(v:V),aO f v []=[(f,v)]:=λf v=>by rw[aO]
 rw[e1,cG (by decide +kernel),e1,cG (by decide +kernel),cG (by decide +kernel),cG (by decide +kernel),e1,cG (by decide +kernel),cG (by decide +kernel),e1];rfl
def Wy.bs(w:Wy):List V6:=w.pl::w.nl::w.al::(w.ks.map (·.d)++w.ks.map (·.a))
structure TbAt(CT CW:V6)(H:Hp)(tb:Tb):Prop where
 ins:H tb.x=A? (.ins CT tb.dx (tbF tb.S tb.wl tb.fd tb.st))
 wl:H tb.wl=A? (.lst (tb.ws.map λw=>k! w.x))
 wa:∀w∈tb.ws,WyAt CW H w
 fd:H tb.fd=A? (.dT (nfv tb.found))
 st:H tb.st=A? (.lst (tb.settled.map λe=>k! e.a))
 fe:∀e∈tb.found,NtA H e
 se:∀e∈tb.settled,NtA H e
 nd:(tb.ws.flatMap Wy.bs).Nodup
 sep:∀b∈tb.ws.flatMap Wy.bs,b≠tb.wl/\b≠tb.st/\b≠tb.fd
 n1:tb.wl≠tb.st
theorem iH{ws:List Wy}{w:Wy}(h:w∈ws)(hb:b∈w.bs):b∈ws.flatMap Wy.bs:=YX.mpr ⟨w,h,hb⟩
theorem wN{w:Wy}(h:b∈w.ks.map (·.a)):b∈w.bs:=by unfold Wy.bs;simp only[Wr,Wm];exact .inr (.inr (.inr (.inr h)))
theorem WyAt.frame{w:Wy}(h:WyAt C H w)(f:FrB S H H')(k:KT H H')(hx:w.x∉S)(hS:∀b∈w.bs,b∉S):WyAt C H' w:=h.keep k λb hb o e=>f b o (by
 unfold Wy.own at hb;rcases Wr.mp hb with rfl|hb
 .exact hx
 .exact hS b hb) e
theorem TbAt.same{tb:Tb}(h:TbAt CT CW H tb)(s:j! H H'):TbAt CT CW H' tb :=
 ⟨s _ _ h.ins,s _ _ h.wl,λw hw=>(h.wa w hw).same s,s _ _ h.fd,s _ _ h.st,λe he=>(h.fe e he).mono (n! s),λe he=>(h.se e he).mono (n! s),h.nd,h.sep,h.n1⟩
theorem KT.of_frame(f:FrB S H H')(hS:∀b∈S,∃o,H b=A? o/\∀xs,o≠.tup xs):KT H H':=λb xs e=>f b _ (λz=>by
 obtain⟨o,h1,h2⟩:=hS b z;rw[e]at h1;exact h2 xs (Wi h1).symm) e
theorem w9(e:H b=A? o)(hS:∀a∈S,∃u,H a=A? u/\u≠o):b∉S:=λz=>by
 obtain⟨u,h1,h2⟩:=hS b z;rw[e]at h1;exact h2 (Wi h1).symm
theorem TbAt.setFound{tb:Tb}{F:List NtE}(h:TbAt CT CW H tb)(hF:∀e∈F,NtA H e):TbAt CT CW (upd H tb.fd (.dT (nfv F))) {tb with found:=F}:=by
 have k:KT H (upd H tb.fd (.dT (nfv F))):=λb xs e=>by rw[aj (aF e h.fd (λz=>nomatch z))];exact e
 have o:∀{b:V6}{u:HO},H b=A? u->b≠tb.fd->(upd H tb.fd (.dT (nfv F))) b=A? u:=λe hb=>(aj hb).trans e;refine⟨o h.ins (aF h.ins h.fd (λz=>nomatch z)),o h.wl (aF h.wl h.fd (λz=>nomatch z)),λw hw=>(h.wa w hw).frame (L! (We.mpr rfl)) k ?_ λb hb=>?_,ac,o h.st (aF h.st h.fd (λz=>nomatch z)),λe he=>(hF e he).mono k,λe he=>(h.se e he).mono k,h.nd,h.sep,h.n1⟩
 .exactλz=>aF (h.wa w hw).ins h.fd (λz=>nomatch z) (We.mp z)
 .exactλz=>(h.sep b (iH hw hb)).2.2 (We.mp z)
theorem TbAt.push{tb:Tb}{e:NtE}(h:TbAt CT CW H tb)(he:NtA H e):TbAt CT CW (upd H tb.st (.lst ((tb.settled.map λe=>k! e.a)++[.ref e.a]))) {tb with settled:=tb.settled++[e]}:=by
 have k:KT H (upd H tb.st (.lst ((tb.settled.map λe=>k! e.a)++[.ref e.a]))):=λb xs e=>by rw[aj (aF e h.st (λz=>nomatch z))];exact e
 have o:∀{b:V6}{u:HO},H b=A? u->b≠tb.st->(upd H tb.st (.lst ((tb.settled.map λe=>k! e.a)++[.ref e.a]))) b=A? u:=λe hb=>(aj hb).trans e;refine⟨o h.ins (aF h.ins h.st (λz=>nomatch z)),o h.wl h.n1,λw hw=>(h.wa w hw).frame (L! (We.mpr rfl)) k ?_ λb hb=>?_,o h.fd (aF h.fd h.st (λz=>nomatch z)),?_,λe he=>(h.fe e he).mono k,λe' zP=>?_,h.nd,h.sep,h.n1⟩
 .exactλz=>aF (h.wa w hw).ins h.st (λz=>nomatch z) (We.mp z)
 .exactλz=>(h.sep b (iH hw hb)).2.1 (We.mp z)
 .show(upd H tb.st _) tb.st=_;rw[ac,WB];rfl
 .rcases Wm.mp zP with zP|zP
  .exact(h.se e' zP).mono k
  .rw[We.mp zP];exact he.mono k
theorem qQ:∀{ws:List Wy}{i j:Nat}{w w':Wy},(ws.flatMap Wy.bs).Nodup->ws[i]?=A? w->ws[j]?=A? w'->i≠j->∀{b:V6},b∈w.bs->b∈w'.bs->False
 | [],_,_,_,_,_,hi,_,_,_,_,_=>by simp at hi
 |x::ws,0,0,_,_,_,_,_,h,_,_,_=>h rfl
 | x::ws,0,j+1,w,w',nd,hi,hj,_,b,h1,h2=>by
   rw[List.flatMap_cons,XI]at nd;rw[List.getElem?_cons_zero]at hi;rw[ZL]at hj;cases hi;exact nd.2.2 b h1 b (iH (V5 hj) h2) rfl
 | x::ws,i+1,0,w,w',nd,hi,hj,_,b,h1,h2=>by
   rw[List.flatMap_cons,XI]at nd;rw[List.getElem?_cons_zero]at hj;rw[ZL]at hi;cases hj;exact nd.2.2 b h2 b (iH (V5 hi) h1) rfl
 | x::ws,i+1,j+1,w,w',nd,hi,hj,MR,b,h1,h2=>by
   rw[List.flatMap_cons,XI]at nd;rw[ZL]at hi hj;exact qQ nd.2.1 hi hj (λz=>MR (by rw[z])) h1 h2
theorem TbAt.setWy{tb:Tb}{w w':Wy}(h:TbAt CT CW H tb)(hi:tb.ws[i]?=A? w)(f:FrB (w.ks.map (·.a)) H H')(Bm:WyAt CW H' w')(hx:w'.x=w.x)(hb:w'.bs=w.bs):TbAt CT CW H' {tb with ws:=tb.ws.set i w'}:=by
 have hm:=V5 hi;have AY:=h.wa w hm
 have hS:∀b∈w.ks.map (·.a),∃xs,H b=A? (.lst xs):=λb hb=>by
  obtain⟨k,hk,rfl⟩:=Wv.mp hb;exact⟨_,AY.ag k hk⟩
 have k:KT H H':=KT.of_frame f λb hb=>by
  obtain⟨xs,e⟩:=hS b hb;exact⟨_,e,λys z=>nomatch z⟩
 have nS:∀{b:V6}{o:HO},H b=A? o->(∀xs,o≠.lst xs)->b∉w.ks.map (·.a):=λe ho=>w9 e λa ha=>by
  obtain⟨xs,e'⟩:=hS a ha;exact⟨_,e',(ho xs).symm⟩
 have sp:∀b∈w.ks.map (·.a),b≠tb.wl/\b≠tb.st/\b≠tb.fd:=λb hb=>h.sep b (iH hm (wN hb))
 have PB:(tb.ws.set i w').flatMap Wy.bs=tb.ws.flatMap Wy.bs:=by
  rw[List.flatMap_def,List.flatMap_def,map_set _ hi hb]
 refine⟨f _ _ (nS h.ins (λxs z=>nomatch z)) h.ins,?_,λv hv=>?_,f _ _ (nS h.fd (λxs z=>nomatch z)) h.fd,f _ _ (λz=>(sp _ z).2.1 rfl) h.st,λe he=>(h.fe e he).mono k,λe he=>(h.se e he).mono k,?_,?_,h.n1⟩
 .exact(f _ _ (λz=>(sp _ z).1 rfl) h.wl).trans (h! (λz=>A? (HO.lst z)) (map_set (λw:Wy=>k! w.x) hi (by rw[hx])).symm)
 .rcases mem_set hv with rfl|⟨j,hj,hv⟩
  .exact Bm
  .have PD:=h.wa v (V5 hv);exact PD.frame f k (nS PD.ins (λxs z=>nomatch z)) λb hb Sq=>qQ h.nd hi hv (Yc hj) (wN Sq) hb
 .show((tb.ws.set i w').flatMap Wy.bs).Nodup;rw[PB];exact h.nd
 .show∀b∈(tb.ws.set i w').flatMap Wy.bs,_;rw[PB];exact h.sep
end BB
variable{F F':List BB.NtE}
namespace BB
open PySem L2
inductive Entd(F:List NtE)(c:NtE):List NtE->Prop
 |keep (e:NtE):e∈F->e.note=c.note->e.n<=c.n->Entd F c F
 |set (i:Nat) (e:NtE):F[i]?=A? e->e.note=c.note->c.n<e.n->Entd F c (F.set i c)
 |add:c.note∉F.map (·.note)->F.length≠30->Entd F c (F++[c])
theorem Entd.mem{c:NtE}(h:Entd F c F'):∀e∈F',e∈F\/e=c:=λe he=>by
 cases h with
 |keep=>exact .inl he
 | set i e0 h1 h2 h3 =>
   rcases mem_set he with rfl|⟨j,_,hj⟩
   .exact .inr rfl
   .exact .inl (V5 hj)
 | add =>
   rcases Wm.mp he with he|he
   .exact .inl he
   .exact .inr (We.mp he)
def aG(settled:List NtE)(ks:List Nat):List Th:=ks.map λk=>((settled[k]?).map (·.t)).getD bh
theorem rF{settled:List NtE}:∀{ks:List Nat},(∀k∈ks,k<settled.length)->(∀e∈settled,NtA H e)->Ats H (aG settled ks) (ks.map λk=>((settled[k]?).map (·.ta)).getD 0)
 | [],_,_=>.nil
 | k::ks,h,hs=>by
   have hk:=h k (Wj ..);have e:=V4 hk;unfold aG;rw[WH,WH];refine .cons ?_ (rF (λk hk=>h k (Wo _ hk)) hs);rw[e];exact(hs _ (Xn hk)).ta
theorem mQ:∀{a b:List Int},G! a b=C?->G! b a=C?->a=b
 | [],[],_,_=>rfl
 | [],_::_,h,_=>by cases h
 |_::_,[],_,h=>by cases h
 | x::a,y::b,h,g=>by
   rw[N!]at h g;by_cases e:x=y
   .rw[b! e]at h;rw[b! e.symm]at g;rw[e,mQ h g]
   .rw[a! e]at h;rw[a! (Yc e)]at g;have h:=of_decide_eq_false h;have g:=of_decide_eq_false g;lia
theorem sG{a b:Int×List Int}(h:keyLt a b=C?)(g:keyLt b a=C?):a=b:=by
 unfold keyLt at h g;by_cases e:a.1=b.1
 .rw[b! e]at h;rw[b! e.symm]at g;exact Prod.ext e (mQ h g)
 .rw[a! e]at h;rw[a! (Yc e)]at g;have h:=of_decide_eq_false h;have g:=of_decide_eq_false g;lia
theorem nw{a b:Int×List Int}(h:keyLt a b=Bq):a.1<=b.1:=by
 unfold keyLt at h;by_cases e:a.1=b.1
 .lia
 .rw[a! e]at h;have:=e! h;lia
theorem t9{a b:Int×List Int}(h:a.1<b.1):keyLt a b=true:=by
 unfold keyLt;rw[a! (by lia)];exact d! h
structure Told(ins:List (WE×Int))(rows:List (List Th))(Ls:List Th)(e:NtE):Prop where
 n:e.n=e.t.size
 fit:e.t.Fit ins
 note:IsNote Ls (aK ins rows e.t) e.note
structure PInv(ins:List (WE×Int))(rows:List (List Th))(Ls:List Th)(F St:List NtE)(cl:WE->List Nat->Prop):Prop where
 f1:∀e∈F,Told ins rows Ls e
 f2:(F.map (·.note)).Nodup
 f3:F.length<=30
 s1:∀e∈St,e∈F
 s2:St.Pairwise λa b=>keyLt a.key b.key=Bq
 s3:∀e∈F,e∉St->∀s∈St,keyLt s.key e.key=Bq
 cl:∀nm ks,cl nm ks->∃e∈F,IsNote Ls (aK ins rows (.knot nm (aG St ks))) e.note/\e.n<=(p! nm (aG St ks)).size
 t1:∀(j:Nat)(e:NtE),St[j]?=A? e->e.t.tall<=j+1
 t2:∀e∈F,e.t.tall<=St.length+1
theorem PInv.congr{St:List NtE}{c d:WE->List Nat->Prop}(h:PInv ins rows Ls F St c)(e:∀nm ks,d nm ks->c nm ks):PInv ins rows Ls F St d:=⟨h.f1,h.f2,h.f3,h.s1,h.s2,h.s3,λnm ks z=>h.cl nm ks (e nm ks z),h.t1,h.t2⟩
theorem PInv.nil:PInv ins rows Ls [] [] (λ_ _=>False):=⟨(by intro e he;cases he),by simp,WY _,(by intro e he;cases he),.nil,(by intro e he;cases he),λ_ _ h=>h.elim,λj e h=>by simp at h,(by intro e he;cases he)⟩
theorem PInv.enter{St:List NtE}{c:WE->List Nat->Prop}{x:NtE}(h:PInv ins rows Ls F St c)(hd:Entd F x F')(hx:Told ins rows Ls x)(zf:∀s∈St,s.n<x.n)(Hn:x.t.tall<=St.length+1):PInv ins rows Ls F' St (λnm ks=>c nm ks\/p! nm (aG St ks)=x.t):=by
 have hk:∀s∈St,keyLt s.key x.key=true:=λs hs=>t9 (by have:=zf s hs;show(s.n:Int)<(x.n:Int);lia);cases hd with
 | keep e he h1 h2 =>
   refine⟨h.f1,h.f2,h.f3,h.s1,h.s2,h.s3,λnm ks z=>?_,h.t1,h.t2⟩;rcases z with z|z
   .exact h.cl nm ks z
   .rw[z];exact⟨e,he,by rw[h1];exact hx.note,by rw[<-hx.n];exact h2⟩
 | set i e he h1 h2 =>
   have Ck:e∉St:=λz=>by have:=zf e z;lia
   have hi:=(glE he);have PF:x∈F.set i x:=V5 (i:=i) (by rw[XC hi])
   have old:∀y∈F,y≠e->y∈F.set i x:=λy hy zp=>by
    obtain⟨j,hj⟩:=Wg.mp hy;by_cases z:i=j
    .subst z;rw[he]at hj;cases hj;exact g! rfl zp
    .exact V5 (i:=j) (by rw[XD z];exact hj)
   have mem:∀y∈F.set i x,y=x\/y∈F:=λy hy=>by
    rcases mem_set hy with rfl|⟨j,_,hj⟩
    .exact .inl rfl
    .exact .inr (V5 hj)
   refine⟨λy hy=>?_,by rw[map_set _ he h1.symm];exact h.f2,by rw[Yq];exact h.f3,λs hs=>old s (h.s1 s hs) (λz=>Ck (z ▸ hs)),h.s2,λy hy Cw s hs=>?_,λnm ks z=>?_,h.t1,λy hy=>?_⟩
   .rcases mem y hy with rfl|hy
    .exact hx
    .exact h.f1 y hy
   .rcases mem y hy with rfl|hy
    .exact hk s hs
    .exact h.s3 y hy Cw s hs
   .rcases z with z|z
    .obtain⟨y,hy,g1,g2⟩:=h.cl nm ks z;by_cases ye:y=e
     .subst ye;exact⟨x,PF,by rw[<-h1];exact g1,by lia⟩
     .exact⟨y,old y hy ye,g1,g2⟩
    .rw[z];exact⟨x,PF,hx.note,by rw[<-hx.n];exact Wc _⟩
   .rcases mem y hy with rfl|hy
    .exact Hn
    .exact h.t2 y hy
 | add h1 h2 =>
   have h3:=h.f3;refine⟨λy hy=>?_,?_,by rw[Wk,WM];lia,λs hs=>Wt _ (h.s1 s hs),h.s2,λy hy Cw s hs=>?_,λnm ks z=>?_,h.t1,λy hy=>?_⟩
   .rcases Wm.mp hy with hy|hy
    .exact h.f1 y hy
    .rw[We.mp hy];exact hx
   .rw[WB,XI];refine⟨h.f2,by simp,λa ha b hb z=>h1 ?_⟩;rw[List.map_singleton,We]at hb;rw[<-hb,<-z];exact ha
   .rcases Wm.mp hy with hy|hy
    .exact h.s3 y hy Cw s hs
    .rw[We.mp hy];exact hk s hs
   .rcases z with z|z
    .obtain⟨y,hy,g⟩:=h.cl nm ks z;exact⟨y,Wt _ hy,g⟩
    .rw[z];exact⟨x,by simp,hx.note,by rw[<-hx.n];exact Wc _⟩
   .rcases Wm.mp hy with hy|hy
    .exact h.t2 y hy
    .rw[We.mp hy];exact Hn
theorem oN{St:List NtE}{e:NtE}{ks:List Nat}(h:∀k∈ks,k<St.length):aG (St++[e]) ks=aG St ks:=by
 unfold aG;refine List.map_congr_left λk hk=>?_;rw[WS (h k hk)]
theorem PInv.settle{St:List NtE}{c:WE->List Nat->Prop}{e:NtE}(h:PInv ins rows Ls F St c)(he:e∈F)(hn:e∉St)(Cn:∀y∈F,y∉St->keyLt y.key e.key=C?) :
 PInv ins rows Ls F (St++[e]) (λnm ks=>c nm ks/\∀k∈ks,k<St.length)/\∀s∈St,s.n<=e.n:=by
 have hs:=h.s3 e he hn;refine⟨⟨h.f1,h.f2,h.f3,λs hs=>?_,?_,λy hy Cw s Bl=>?_,λnm ks z=>?_,λj y hj=>?_,λy hy=>?_⟩,λs h'=>?_⟩
 .rcases Wm.mp hs with hs|hs
  .exact h.s1 s hs
  .rw[We.mp hs];exact he
 .rw[Zp];exact⟨h.s2,by simp,λa ha b hb=>by rw[We.mp hb];exact hs a ha⟩
 .have PH:y∉St:=λz=>Cw (Wt _ z);rcases Wm.mp Bl with Bl|Bl
  .exact h.s3 y hy PH s Bl
  .rw[We.mp Bl];cases hk:keyLt e.key y.key with
   |true=>rfl
   | false =>
     have:=sG hk (Cn y hy PH);have zp:y≠e:=λz=>Cw (by rw[z];simp);have BW:y.note=e.note:=(h! Prod.snd this).symm;obtain⟨i,hi⟩:=Wg.mp hy;obtain⟨j,hj⟩:=Wg.mp he;have:=fQ h.f2 hi hj BW;subst this;rw[hi]at hj;exact g! (Wi hj) zp
 .rw[oN z.2];exact h.cl nm ks z.1
 .by_cases Dg:j<St.length
  .rw[WS Dg]at hj;exact h.t1 j y hj
  .rw[W4 (by lia)]at hj
   have:j - St.length=0:=by
    have:=(glE hj);rw[WM]at this;lia
   rw[this]at hj;cases hj;have:=h.t2 e he;lia
 .have:=h.t2 y hy;rw[Wk,WM];lia
 .have:=nw (hs s h');have h1:(s.n:Int)<=(e.n:Int):=this;lia
def Over(ins:List (WE×Int))(rows:List (List Th))(Ls:List Th):Prop:=∃l:List (List Int),l.length=31/\l.Nodup/\∀note∈l,∃t:Th,t.Fit ins/\IsNote Ls (aK ins rows t) note
theorem PInv.over{St:List NtE}{c:WE->List Nat->Prop}{t:Th}{note:List Int}(h:PInv ins rows Ls F St c)(Fq:F.length=30)(zt:note∉F.map (·.note))(hf:t.Fit ins)(hn:IsNote Ls (aK ins rows t) note):Over ins rows Ls:=by
 refine⟨note::F.map (·.note),by rw[Wq,V2,Fq],Xf.mpr ⟨zt,h.f2⟩,λx hx=>?_⟩;rcases Wr.mp hx with rfl|hx
 .exact⟨t,hf,hn⟩
 .obtain⟨e,he,rfl⟩:=Wv.mp hx;exact⟨e.t,(h.f1 e he).fit,(h.f1 e he).note⟩
theorem gY{g1 g2:Int->Int->Th}(hL:bZ Ls):∀(p:Th),(∀s k:Int,r! s k∈p.walk->∀u∈Ls,g1 s k=u->g2 s k=u)->∀u∈Ls,p.fill g1=u->p.fill g2=u
 | .call s k,h,u,hu,e=>by
   rw[C!]at e |-;exact h s k (by rw[D!];exact Wj ..) u hu e
 | .knot n ks,h,u,hu,e=>by
   rw[C!]at e |-;subst e;have hk:=hL _ hu;refine h! (p! n) ?_
   have:∀ts:List Th,(∀t∈ts,t∈ks)->(∀x∈fills g1 ts,x∈Ls)->fills g2 ts=fills g1 ts:=by
    intro ts;induction ts with
    |nil=>intro _ _;rw[fills,fills]
    | cons t ts ih =>
      intro ht hx;rw[fills]at hx |-;rw[fills,ih (λt h=>ht t (Wo _ h)) λx h=>hx x (Wo _ h)];have Jc:=ht t (Wj ..);rw[gY hL t (λs k m=>h s k (eh (t:=.knot n ks) Jc _ m)) (t.fill g1) (hx _ (Wj ..)) rfl]
   exact this ks (λt h=>h) hk
termination_by p=>p.size
decreasing_by
 all_goals
  have:=ut (t:=.knot n ks) Jc;exact this
theorem qz{xs ys:List Th}{note:List Int}(hL:bZ Ls)(nd:Ls.Nodup)(hc:∀p,(∃row∈rows,p=row.getD ((ins.map (·.1)).idxOf nm) bh)->∀s k:Int,r! s k∈p.walk->(∃k':Nat,k=(k':Int)/\k'<xs.length)/\∃s':Nat,s=(s':Int)/\s'<rows.length)
 (hp:WL (λx y=>∃n,IsNote Ls (aK ins rows x) n/\IsNote Ls (aK ins rows y) n/\n.length=rows.length) xs ys) (hn:IsNote Ls (aK ins rows (.knot nm xs)) note):IsNote Ls (aK ins rows (.knot nm ys)) note:=by
 rw[cm]at hn |-
 have key:∀row∈rows,∀s k:Int,r! s k∈(row.getD ((ins.map (·.1)).idxOf nm) bh).walk->∀u∈Ls,bP ins rows xs s k=u↔bP ins rows ys s k=u:=λrow hr s k hm u hu=>by
  obtain⟨⟨k',rfl,zD⟩,s',rfl,Bl⟩:=hc _ ⟨row,hr,rfl⟩ _ _ hm;obtain⟨x,hx⟩:∃x,xs[k']?=A? x:=⟨_,V4 zD⟩;obtain⟨y,hy,n,h1,h2,h3⟩:=u! hp hx;obtain⟨w,hw⟩:=Wg.mp hu
  have get:∀(zs:List Th)(z:Th),zs[k']?=A? z->IsNote Ls (aK ins rows z) n->(bP ins rows zs (s':Int) (k':Int)=u↔n[s']?=A? (w:Int)):=λzs z hz Ec=>by
   have hl:s'<(aK ins rows z).length:=by rw[<-Ec.len,h3];exact Bl
   have e:(aK ins rows z)[s']?=A? (bP ins rows zs (s':Int) (k':Int)):=by
    unfold bP;rw[Wl,Wl,Wu (l:=zs.map _),V7,hz,Wu];show _=A? (((aK ins rows z)[s']?).getD bh);rw[V4 hl];rfl
   rw[Ec.iff nd e,hw];exact⟨λz=>by rw[z],λz=>(Wi z).symm⟩
  rw[get xs x hx h1,get ys y hy h2]
 refine⟨by rw[hn.len,V2,V2],λs u hu=>?_⟩;rw[V7]at hu;obtain⟨row,zU,rfl⟩:=WA.mp hu;have hr:=V5 zU;rcases hn.at' s _ (gmE zU)with⟨j,h1,h2⟩|⟨h1,h2⟩
 .have:=gY hL _ (λs k m u hu e=>(key row hr s k m u hu).mp e) _ (V5 h1) rfl;exact .inl ⟨j,by rw[this];exact h1,h2⟩
 .refine .inr ⟨λz=>h1 ?_,h2⟩;have:=gY hL _ (λs k m u hu e=>(key row hr s k m u hu).mpr e) _ z rfl;show C! (bP ins rows xs) _∈Ls;rw[this];exact z
structure KAg(Ws:List cy)(St:List NtE)(ks:List Kd):Prop where
 len:∀kd∈ks,kd.ag.length=St.length
 at':∀(k:Nat)(kd:Kd)(n:Nat)(e:NtE),ks[k]?=A? kd->St[n]?=A? e->∃b,kd.ag[n]?=A? b/\0<=b/\∀i,bt b i=Bq↔Agr Ws e.note k i
theorem KAg.nil{ks:List Kd}(h:∀kd∈ks,kd.ag=[]):KAg Ws [] ks :=
 ⟨λkd hk=>by rw[h kd hk];rfl,λk kd n e _ he=>by simp at he⟩
theorem KAg.take{St:List NtE}{e:NtE}{ks:List Kd}(h:KAg Ws St ks)(t:Took Ws e.note ks ks.length zg):KAg Ws (St++[e]) zg:=by
 have old:∀(k:Nat)(AM:Kd),zg[k]?=A? AM->∃kd b,ks[k]?=A? kd/\AM={kd with ag:=kd.ag++[b]}/\0<=b/\∀i,bt b i=Bq↔Agr Ws e.note k i:=λk AM hk=>by
  have hl:k<ks.length:=by rw[<-t.len];exact(glE hk)
  obtain⟨b,h1,h2,h3⟩:=t.lo k _ hl (V4 hl);rw[hk]at h1;exact⟨_,b,V4 hl,Wi h1,h2,h3⟩
 refine⟨λAM hk=>?_,λk AM n e' hk he=>?_⟩
 .obtain⟨k,hk⟩:=Wg.mp hk;obtain⟨kd,b,h1,rfl,_⟩:=old k AM hk;show(kd.ag++[b]).length=_;rw[Wk,Wk,h.len kd (V5 h1)];rfl
 .obtain⟨kd,b,h1,rfl,h2,h3⟩:=old k AM hk;have hl:=h.len kd (V5 h1);rcases aV.mp he with he|⟨rfl,rfl⟩
  .obtain⟨b',g1,g2⟩:=h.at' k kd n e' h1 he;exact⟨b',aV.mpr (.inl g1),g2⟩
  .exact⟨b,aV.mpr (.inr ⟨hl.symm,D?⟩),h2,h3⟩
def jc(St:List NtE)(js:List Nat):List (List Int):=js.map λj=>((St[j]?).map (·.note)).getD []
theorem KAg.bits{St:List NtE}{ks:List Kd}(h:KAg Ws St ks){js:List Nat}(hl:js.length=ks.length)(hj:∀n∈js,n<St.length) :
 0<=(cnd (ks.map (·.ag)) Z (ones Ws.length) js).b/\∀i,bt (cnd (ks.map (·.ag)) Z (ones Ws.length) js).b i=Bq↔∃q,Ws[i]?=A? q/\∀(k:Nat)(n:List Int),(jc St js)[k]?=A? n->k<ks.length->∀c w:Int,((c,(k:Int)),w)∈q.2.2->n[c.toNat]?=A? w:=by
 have get:∀j n,j<ks.length->n<St.length->∃e b,St[n]?=A? e/\((ks.map (·.ag)).getD j []).getD n 0=b/\0<=b/\∀i,bt b i=Bq↔Agr Ws e.note j i:=λj n h1 h2=>by
  have e1:=V4 h1;have e2:=V4 h2;obtain⟨b,g1,g2⟩:=h.at' j _ n _ e1 e2;refine⟨_,b,e2,?_,g2⟩;rw[Wu,Wu,V7,e1];show((ks[j].ag)[n]?).getD 0=b;rw[g1];rfl
 obtain⟨b0,b1⟩:=xw (AG:=ks.map (·.ag)) (sz:=Z) (N:=Ws.length) (L:=St.length) (λj n h1 h2=>by
  obtain⟨e,b,_,g2,g3,_⟩:=get j n (by simpa using h1) h2;rw[g2];exact g3) js (by rw[V2];lia) hj
 refine⟨b0,λi=>?_⟩;rw[b1];constructor
 .rintro⟨hi,zc⟩;refine⟨_,V4 hi,λk n hk AX c w hm=>?_⟩;unfold jc at hk;rw[V7]at hk;obtain⟨j,B6,rfl⟩:=WA.mp hk;obtain⟨e,b,g1,g2,_,g4⟩:=get k j AX (hj j (V5 B6));have:=zc k j B6;rw[g2,g4]at this;obtain⟨q,hq,Jd⟩:=this;rw[V4 hi]at hq;cases hq;rw[g1];exact Jd c w hm
 .rintro⟨q,hq,zc⟩;refine⟨(glE hq),λk j B6=>?_⟩;have hk:k<ks.length:=by rw[<-hl];exact(glE B6)
  obtain⟨e,b,g1,g2,_,g4⟩:=get k j hk (hj j (V5 B6));rw[g2,g4];refine⟨q,hq,λc w hm=>?_⟩;refine zc k e.note ?_ hk c w hm;unfold jc;rw[V7,B6];show A? (((St[j]?).map (·.note)).getD [])=_;rw[g1];rfl
theorem KAg.note{a:Nat}{St:List NtE}{ks:List Kd}{Z:List Int}{js:List Nat}{note:List Int}
 (h:KAg Ws St ks) (nd:Ls.Nodup) (AN:(ins.map (·.1)).idxOf nm=a) (BV:rows.map (λrow=>row.getD a bh)=pats) (Bb:WSp Ls pats (λ_ _=>True) Ws) (hW:W.map (λq=>(q.1,q.2.1))=Ws.map (λq=>(q.1,q.2.1)))
 (hl:js.length=ks.length) (hj:∀n∈js,n<St.length) (ht:∀e∈St,Told ins rows Ls e) (hlen:∀e∈St,(aK ins rows e.t).length=rows.length)
 (DV:∀p∈pats,∀s k:Int,r! s k∈p.walk->(∃k':Nat,k=(k':Int)/\k'<ks.length)/\∃s':Nat,s=(s':Int)/\s'<rows.length)
 (hn:NoteBy W (cnd (ks.map (·.ag)) Z (ones W.length) js).b rows.length W.length note):IsNote Ls (aK ins rows (.knot nm (aG St js))) note:=by
 have Jb:W.length=Ws.length:=by
  have:=h! XG hW;rw[V2,V2]at this;exact this
 have kid:∀(k:Nat)(x:Th),(aG St js)[k]?=A? x->∃j e,js[k]?=A? j/\St[j]?=A? e/\x=e.t:=λk x hx=>by
  unfold aG at hx;rw[V7]at hx;obtain⟨j,B6,rfl⟩:=WA.mp hx;have e:=V4 (hj j (V5 B6));exact⟨j,_,B6,e,by rw[e];rfl⟩
 refine rS (m:=ks.length) (notes:=jc St js) nd AN BV Bb hW (by unfold aG;rw[V2];exact hl) (λk x hx=>?_) DV (λx hx=>?_) (h.bits hl hj (Z:=Z)).2 (by rw[<-Jb];exact hn)
 .obtain⟨j,e,h1,h2,rfl⟩:=kid k x hx;refine⟨e.note,?_,(ht e (V5 h2)).note⟩;unfold jc;rw[V7,h1];show A? (((St[j]?).map (·.note)).getD [])=_;rw[h2];rfl
 .obtain⟨k,hk⟩:=Wg.mp hx;obtain⟨j,e,h1,h2,rfl⟩:=kid k x hk;exact hlen e (V5 h2)
theorem xW{x:Int}(h:0<=x)(hz:x≠0):∃i,bt x i=true:=by
 have:x.toNat≠0:=by lia
 obtain⟨i,hi⟩:=Nat.exists_testBit_of_ne_zero this;exact⟨i,hi⟩
structure KOk(ins:List (WE×Int))(rows:List (List Th))(Ls:List Th)(St:List NtE)(a:Nat)(w:Wy)(Ws:List cy):Prop where
 nm:ins[a]?=A? (w.nm,((w.ks.length:Nat):Int))
 m3:w.ks.length<=3
 sp:WSp Ls (rows.map λrow=>row.getD a bh) (λ_ _=>True) Ws
 ps:w.ps.map (λq=>(q.1,q.2.1))=Ws.map (λq=>(q.1,q.2.1))
 nt:∀(k:Nat)(kd:Kd),w.ks[k]?=A? kd->NeedT Ws k kd.es
 len:Ws.length<=4000
 call:∀p∈rows.map (λrow=>row.getD a bh),∀s k:Int,r! s k∈p.walk->(∃k':Nat,k=(k':Int)/\k'<w.ks.length)/\∃s':Nat,s=(s':Int)/\s'<rows.length
 ag:KAg Ws St w.ks
 nq:w.nm≠q
section
variable{St:List NtE}{a:Nat}{w:Wy}
theorem KOk.psl(h:KOk ins rows Ls St a w Ws):w.ps.length=Ws.length:=by
 have:=h! XG h.ps;rw[V2,V2]at this;exact this
theorem KOk.pz(h:KOk ins rows Ls St a w Ws):∀p∈w.ps,∃s:Nat,p.1=(s:Int)/\s<rows.length:=λp hp=>by
 have:(p.1,p.2.1)∈Ws.map (λq=>(q.1,q.2.1)):=by rw[<-h.ps];exact Wv.mpr ⟨p,hp,rfl⟩
 obtain⟨q,hq,e⟩:=Wv.mp this;obtain⟨s,pt,x,u,h1,h2,h3,_⟩:=h.sp.wf q hq;refine⟨s,by rw[<-h1];exact(h! ZO e).symm,?_⟩;have:=(glE h3);rw[V2]at this;exact this
theorem KOk.nc(h:KOk ins rows Ls St a w Ws):∀kd∈w.ks,∀e∈kd.es,∃c:Nat,e.1.1=(c:Int)/\c<rows.length:=λkd hk e he=>by
 obtain⟨k,hk⟩:=Wg.mp hk;have nt:=h.nt k kd hk;obtain⟨i,hi⟩:=xW (nt.rng e he).1 (nt.nz e he);obtain⟨q,hq,hm⟩:=(nt.bit e.1.1 e.1.2 i).mp ⟨e,he,rfl,hi⟩;obtain⟨s,pt,x,u,h1,h2,h3,h4,h5⟩:=h.sp.wf q (V5 hq);exact(h.call x (V5 h3) _ _ (h5.ok _ hm).2).2
theorem KOk.ix(h:KOk ins rows Ls St a w Ws)(g:GoodN ins):(ins.map (·.1)).idxOf w.nm=a:=jH g h.nm
theorem KOk.take{e:NtE}(h:KOk ins rows Ls St a w Ws)(t:Took Ws e.note w.ks w.ks.length zg):KOk ins rows Ls (St++[e]) a {w with ks:=zg} Ws:=by
 have hl:zg.length=w.ks.length:=t.len;refine⟨?_,by show zg.length<=3;rw[hl];exact h.m3,h.sp,h.ps,λk AM hk=>?_,h.len,?_,h.ag.take t,h.nq⟩
 .show ins[a]?=A? (w.nm,((zg.length:Nat):Int));rw[hl];exact h.nm
 .have zf:k<w.ks.length:=by rw[<-hl];exact(glE hk)
  obtain⟨b,h1,_⟩:=t.lo k _ zf (V4 zf);have hk:zg[k]?=A? AM:=hk;rw[hk]at h1;have e2:=h.nt k _ (V4 zf);rw[Wi h1];exact e2
 .show∀p∈rows.map (λrow=>row.getD a bh),∀s k:Int,r! s k∈p.walk->(∃k':Nat,k=(k':Int)/\k'<zg.length)/\_;rw[hl];exact h.call
theorem cM{e:NtE}(h:Told ins rows Ls e):(aK ins rows e.t).length=rows.length:=by
 have hf:=h.fit;cases ht:e.t with
 |call s k=>rw[ht,F!]at hf;exact hf.elim
 |knot n ks=>rw[cm,V2]
theorem lI{St:List NtE}{js:List Nat}:(aG St js).length=js.length:=V2 _
theorem p8{js:List Nat}(hj:∀n∈js,n<St.length)(ht:∀e∈St,Told ins rows Ls e):Fits ins (aG St js):=by
 induction js with
 |nil=>exact trivial
 | cons j js ih =>
   have e:=V4 (hj j (Wj ..));refine⟨?_,ih λn hn=>hj n (Wo _ hn)⟩;show F! ins (((St[j]?).map (·.t)).getD bh);rw[e];exact(ht _ (Xn _)).fit
theorem KOk.told{js:List Nat}{c:NtE}(h:KOk ins rows Ls St a w Ws)(hn:GoodN ins)(nd:Ls.Nodup)(ht:∀e∈St,Told ins rows Ls e)(hl:js.length=w.ks.length)(hj:∀n∈js,n<St.length)
 (hb:NoteBy w.ps (cnd (w.ks.map (·.ag)) Z (ones w.ps.length) js).b rows.length w.ps.length c.note) (hc:c.t=.knot w.nm (aG St js)) (hz:c.n=(p! w.nm (aG St js)).size):Told ins rows Ls c:=by
 refine⟨by rw[hc];exact hz,?_,?_⟩
 .rw[hc,F!];refine⟨?_,p8 hj ht⟩;rw[lI,hl];exact V5 h.nm
 .rw[hc];exact h.ag.note nd (h.ix hn) rfl h.sp h.ps hl hj ht (λe he=>cM (ht e he)) h.call hb
end
theorem ml:∀{ts:List Th},(∀t∈ts,t.tall<=m)->bD ts<=m
 | [],_=>WY _
 | t::ts,h=>by
   have h1:=h t (Wj ..);have h2:=ml λu hu=>h u (Wo _ hu);rw[bD];lia
theorem PInv.tallK{St:List NtE}{c:WE->List Nat->Prop}(h:PInv ins rows Ls F St c){js:List Nat}(hj:∀n∈js,n<St.length):(p! nm (aG St js)).tall<=St.length+1:=by
 show bD (aG St js)+1<=_
 have:=ml (m:=St.length) (ts:=aG St js) λt ht=>by
  obtain⟨j,MS,rfl⟩:=Wv.mp ht;have hl:=hj j MS;have e:=V4 hl;rw[e];have:=h.t1 j _ e;show(St[j]).t.tall<=_;lia
 lia
def Tb.mut(tb:Tb):List V6:=tb.fd::tb.st::tb.ws.flatMap λw=>w.ks.map (·.a)
structure TInv(ins:List (WE×Int))(rows:List (List Th))(Ls:List Th)(old:List NtE)(i:Nat)(cl:WE->List Nat->Prop)(tb:Tb):Prop where
 p:PInv ins rows Ls tb.found tb.settled cl
 S:tb.S=rows.length
 n:tb.ws.length=ins.length
 k:∀(a:Nat)(w:Wy),tb.ws[a]?=A? w->∃Ws,KOk ins rows Ls (if a<i then tb.settled else old) a w Ws
section
variable{old:List NtE}{cl:WE->List Nat->Prop}{tb:Tb}
theorem TInv.congr{Je:WE->List Nat->Prop}(h:TInv ins rows Ls old i cl tb)(e:∀nm ks,Je nm ks->cl nm ks):TInv ins rows Ls old i Je tb:=⟨h.p.congr e,h.S,h.n,h.k⟩
theorem TInv.enter{c:NtE}{js:List Nat}(h:TInv ins rows Ls old i cl tb)(hd:Entd tb.found c F')(hc:Told ins rows Ls c)(ht:c.t=.knot nm (aG tb.settled js))(zf:∀s∈tb.settled,s.n<c.n)(hj:∀n∈js,n<tb.settled.length) :
 TInv ins rows Ls old i (λm ks=>cl m ks\/(m=nm/\ks=js)) {tb with found:=F'} :=
 ⟨(h.p.enter hd hc zf (by rw[ht];exact h.p.tallK hj)).congr λm ks z=>z.imp id λy=>by rw[ht,y.1,y.2],h.S,h.n,h.k⟩
theorem TInv.take{Jf:List NtE}{e:NtE}{w:Wy}(h:TInv ins rows Ls Jf i cl tb)(hs:tb.settled=Jf++[e])(hw:tb.ws[i]?=A? w)(hk:KOk ins rows Ls Jf i w Ws)(t:Took Ws e.note w.ks w.ks.length zg) :
 TInv ins rows Ls Jf (i+1) cl {tb with ws:=tb.ws.set i {w with ks:=zg}}:=by
 have hi:=(glE hw);refine⟨h.p,h.S,by show(tb.ws.set i _).length=_;rw[Yq];exact h.n,λa v hv=>?_⟩;have hv:(tb.ws.set i {w with ks:=zg})[a]?=A? v:=hv;show∃Ws,KOk ins rows Ls (if a<i+1 then tb.settled else Jf) a v Ws;by_cases z:i=a
 .subst z;rw[XC hi]at hv;rw[<-Wi hv,b! (Nat.lt_succ_self _),hs];exact⟨Ws,hk.take t⟩
 .rw[XD z]at hv;have:=h.k a v hv;by_cases y:a<i
  .rw[b! y]at this;rw[b! (by lia)];exact this
  .rw[a! y]at this;rw[a! (by lia)];exact this
theorem TInv.settle{e:NtE}(h:TInv ins rows Ls old tb.ws.length cl tb)(he:e∈tb.found)(hn:e∉tb.settled)(Cn:∀y∈tb.found,y∉tb.settled->keyLt y.key e.key=C?) :
 TInv ins rows Ls tb.settled 0 (λnm ks=>cl nm ks/\∀k∈ks,k<tb.settled.length) {tb with settled:=tb.settled++[e]}/\∀s∈tb.settled++[e],s.n<=e.n:=by
 obtain⟨h1,h2⟩:=h.p.settle he hn Cn;refine⟨⟨h1,h.S,h.n,λa w hw=>?_⟩,λs hs=>?_⟩
 .have hw:tb.ws[a]?=A? w:=hw;rw[a! (ZA _)];have:=h.k a w hw;rw[b! (glE hw)]at this;exact this
 .rcases Wm.mp hs with hs|hs
  .exact h2 s hs
  .rw[We.mp hs];exact Wc _
end
theorem fA(a:Int×List Int):keyLt a a=false:=by
 unfold keyLt;rw[b! rfl]
 have:∀l:List Int,G! l l=false:=λl=>by
  induction l with
  |nil=>rfl
  |cons x l ih=>rw[N!,b! rfl];exact ih
 exact this _
theorem sub_len:∀{l m:List α},l.Nodup->(∀x∈l,x∈m)->l.length<=m.length
 | [],_,_,_=>WY _
 | x::l,m,nd,h=>by
   rw[Xf]at nd;obtain⟨s,t,rfl⟩:=List.append_of_mem (h x (Wj ..))
   have:=sub_len (m:=s++t) nd.2 λy hy=>by
    have:=h y (Wo _ hy);rcases Wm.mp this with g|g
    .exact Wt _ g
    .rcases Wr.mp g with rfl|g
     .exact g! hy nd.1
     .exact WK _ g
   rw[Wk]at this;rw[Wq,Wk,Wq];lia
theorem PInv.s30{St:List NtE}{c:WE->List Nat->Prop}(h:PInv ins rows Ls F St c):St.length<=30:=by
 refine Xa (sub_len ?_ h.s1) h.f3;refine List.Pairwise.imp (λ{a b}k z=>?_) h.s2;rw[z,fA]at k;cases k
theorem TbAt.beside{tb:Tb}{r:V6}{v o':HO}(h:TbAt CT CW H tb)(hr:H r=A? v)(v1:∀xs,v≠.tup xs)(v2:∀xs,v≠.lst xs)(v3:∀xs,v≠.dT xs)(v4:∀c d f,v≠.ins c d f):TbAt CT CW (upd H r o') tb:=by
 have k:KT H (upd H r o'):=λb xs e=>by rw[aj (aF e hr (v1 xs).symm)];exact e
 have o:∀{b:V6}{u:HO},H b=A? u->u≠v->(upd H r o') b=A? u:=λe hb=>(aj (aF e hr hb)).trans e;refine⟨o h.ins (v4 _ _ _).symm,o h.wl (v2 _).symm,λw hw=>(h.wa w hw).frame (S:=[r]) (L! (We.mpr rfl)) k ?_ λb hb=>?_,o h.fd (v3 _).symm,o h.st (v2 _).symm,λe he=>(h.fe e he).mono k,λe he=>(h.se e he).mono k,h.nd,h.sep,h.n1⟩
 .exactλz=>aF (h.wa w hw).ins hr (v4 _ _ _).symm (We.mp z)
 .intro z;have AY:=h.wa w hw;have z:=We.mp z;unfold Wy.bs at hb;simp only[Wr,Wm]at hb;rcases hb with rfl|rfl|rfl|hb|hb
  .exact aF AY.pl hr (v2 _).symm z
  .exact aF AY.nl hr (v2 _).symm z
  .exact aF AY.al hr (v2 _).symm z
  .obtain⟨kd,hk,rfl⟩:=Wv.mp hb;exact aF (AY.nd kd hk) hr (v3 _).symm z
  .obtain⟨kd,hk,rfl⟩:=Wv.mp hb;exact aF (AY.ag kd hk) hr (v2 _).symm z
theorem kX{AG:List (List Int)}{all:Int}{St:List NtE}:∀js:List Nat,(∀j∈js,j<St.length)->(∀e∈St,e.n=e.t.size)->(cnd AG (St.map λy=>((y.n:Nat):Int)) all js).n=((aq (aG St js):Nat):Int)/\(cnd AG (St.map λy=>((y.n:Nat):Int)) all js).ks=js:=by
 have snoc:∀(l:List Th)(t:Th),aq (l++[t])=aq l+t.size:=λl t=>by
  induction l with
  |nil=>show t.size+0=0+t.size;lia
  |cons x l ih=>show x.size+aq (l++[t])=x.size+aq l+t.size;lia
 refine snoc_ind (λ_ _=>⟨rfl,rfl⟩) λl a ih hj ht=>?_;obtain⟨h1,h2⟩:=ih (λj h=>hj j (Wt _ h)) ht;rw[gH];refine⟨?_,by show _++[a]=_;rw[h2]⟩;show(cnd AG (St.map λy=>((y.n:Nat):Int)) all l).n+(St.map λy=>((y.n:Nat):Int)).getD a 0=_;have hl:=hj a (by simp);have e:=V4 hl
 have e2:aG St (l++[a])=aG St l++[(St[a]).t]:=by
  unfold aG;rw[WB];show _++[((St[a]?).map (·.t)).getD bh]=_;rw[e];rfl
 rw[h1,e2,snoc,Wu,V7,e];show _+((St[a].n:Nat):Int)=_;rw[ht _ (Xn hl)];lia
theorem tG:∀{ks:List Th}{t:Th},t∈ks->t.size<=aq ks
 | x::ks,t,h=>by
   show t.size<=x.size+aq ks;rcases Wr.mp h with rfl|h
   .lia
   .have:=tG h;lia
theorem TInv.more{old:List NtE}{cl Je:WE->List Nat->Prop}{tb:Tb}(h:TInv ins rows Ls old i cl tb)
 (e:∀nm ks,Je nm ks->cl nm ks\/∃y∈tb.found,IsNote Ls (aK ins rows (.knot nm (aG tb.settled ks))) y.note/\y.n<=(p! nm (aG tb.settled ks)).size):TInv ins rows Ls old i Je tb :=
 ⟨⟨h.p.f1,h.p.f2,h.p.f3,h.p.s1,h.p.s2,h.p.s3,λnm ks z=>(e nm ks z).elim (h.p.cl nm ks) id,h.p.t1,h.p.t2⟩,h.S,h.n,h.k⟩
section
variable{St:List NtE}
def ClAll(ins:List (WE×Int))(n:Nat)(nm:WE)(ks:List Nat):Prop:=(∃m:Nat,ins[m]?=A? (nm,((ks.length:Nat):Int)))/\∀k∈ks,k<n
theorem ClAll.succ{ks:List Nat}(h:ClAll ins (n+1) nm ks):(ClAll ins n nm ks/\∀k∈ks,k<n)\/((∃m:Nat,ins[m]?=A? (nm,((ks.length:Nat):Int)))/\(∀k∈ks,k<=n)/\n∈ks):=by
 by_cases z:n∈ks
 .exact .inr ⟨h.1,λk hk=>by have:=h.2 k hk;lia,z⟩
 .have:∀k∈ks,k<n:=λk hk=>by
   have h1:=h.2 k hk;have h2:k≠n:=λy=>z (y ▸ hk);lia
  exact .inl ⟨⟨h.1,this⟩,this⟩
theorem PInv.full(hL:bZ Ls)(nd:Ls.Nodup)(hc:∀nm c,(nm,c)∈ins->∀p,(∃row∈rows,p=row.getD ((ins.map (·.1)).idxOf nm) bh)->∀s k:Int,r! s k∈p.walk->(∃k':Nat,k=(k':Int)/\(k':Int)<c)/\∃s':Nat,s=(s':Int)/\s'<rows.length)
 (h:PInv ins rows Ls F St (ClAll ins St.length)) (zc:∀e∈F,e∈St):∀(n:Nat)(t:Th),t.size<=n->t.Fit ins->∃e∈St,IsNote Ls (aK ins rows t) e.note/\e.n<=t.size
 |0,t,hz,_=>by have:=I! t;lia
 |n+1,.call s k,_,hf=>by rw[F!]at hf;exact hf.elim
 | n+1,.knot nm ts,hz,hf=>by
   rw[F!]at hf;have hz:aq ts+1<=n+1:=hz;have ih:=PInv.full hL nd hc h zc n
   have rowsOf:∀us:List Th,aq us<=n->Fits ins us->∃ks:List Nat,ks.length=us.length/\(∀k∈ks,k<St.length)/\aq (aG St ks)<=aq us/\WL (λx y=>∃n,IsNote Ls (aK ins rows x) n/\IsNote Ls (aK ins rows y) n/\n.length=rows.length) (aG St ks) us:=λus=>by
    induction us with
    |nil=>exactλ_ _=>⟨[],rfl,(by intro k hk;cases hk),Wc _,.nil⟩
    | cons u us Sr =>
      intro hs Dk;have hs:u.size+aq us<=n:=hs;obtain⟨ks,h1,h2,h3,h4⟩:=Sr (by lia) Dk.2;obtain⟨e,he,g1,g2⟩:=ih u (by lia) Dk.1;obtain⟨i,hi⟩:=Wg.mp he;have Ah:=(glE hi);have ht:=h.f1 e (h.s1 e he)
      have ek:aG St (i::ks)=e.t::aG St ks:=by
       unfold aG;show((St[i]?).map (·.t)).getD bh::_=_;rw[hi];rfl
      refine⟨i::ks,by rw[Wq,Wq,h1],λk hk=>?_,?_,?_⟩
      .rcases Wr.mp hk with rfl|hk
       .exact Ah
       .exact h2 k hk
      .rw[ek];show e.t.size+aq (aG St ks)<=u.size+aq us;have:=ht.n;lia
      .rw[ek];exact .cons ⟨e.note,ht.note,g1,by rw[ht.note.len,cM ht]⟩ h4
   obtain⟨ks,h1,h2,h3,h4⟩:=rowsOf ts (by lia) hf.2;obtain⟨m,hm⟩:=Wg.mp hf.1;obtain⟨e,he,g1,g2⟩:=h.cl nm ks ⟨⟨m,by rw[h1];exact hm⟩,h2⟩;refine⟨e,zc e he,qz hL nd (λp hp s k hw=>?_) h4 g1,?_⟩
   .obtain⟨⟨k',e1,e2⟩,h5⟩:=hc nm _ hf.1 p hp s k hw;exact⟨⟨k',e1,by rw[lI,h1];lia⟩,h5⟩
   .have q1:(p! nm (aG St ks)).size=aq (aG St ks)+1:=rfl;have q2:(p! nm ts).size=aq ts+1:=rfl;lia
end
section
variable{St:List NtE}{c:WE->List Nat->Prop}
theorem PInv.snd(h:PInv ins rows Ls F St c):St.Nodup :=
 List.Pairwise.imp (λ{a b}k z=>by rw[z,fA]at k;cases k) h.s2
theorem PInv.all(h:PInv ins rows Ls F St c)(hl:F.length<=St.length):∀e∈F,e∈St:=λe he=>by
 by_cases z:e∈St
 .exact z
 .have:=sub_len (l:=e::St) (m:=F) (Xf.mpr ⟨z,h.snd⟩) λx hx=>by
   rcases Wr.mp hx with rfl|hx
   .exact he
   .exact h.s1 x hx
  rw[Wq]at this;lia
theorem PInv.late(h:PInv ins rows Ls F St c){y:NtE}(hy:y∈F):y.note∈St.map (·.note)↔y∈St:=by
 constructor
 .intro z;obtain⟨e,he,g⟩:=Wv.mp z;obtain⟨i,hi⟩:=Wg.mp hy;obtain⟨j,hj⟩:=Wg.mp (h.s1 e he);have:=fQ h.f2 hi hj g.symm;subst this;rw[hi]at hj;rw[Wi hj];exact he
 .exactλz=>Wv.mpr ⟨y,z,rfl⟩
theorem PInv.some_late(h:PInv ins rows Ls F St c)(hl:St.length<F.length):∃e∈F,e∉St:=by
 refine Zu λz=>?_;have zc:∀e∈F,e∈St:=λe he=>Zu λy=>z ⟨e,he,y⟩
 have fn:F.Nodup:=by
  have:=h.f2;exact(List.pairwise_map.mp this).imp λ{a b}k z=>k (by rw[z])
 have:=sub_len fn zc;lia
end
theorem TInv.nil{tb:Tb}(hf:tb.found=[])(hs:tb.settled=[])(hS:tb.S=rows.length)(hn:tb.ws.length=ins.length)(hk:∀(a:Nat)(w:Wy),tb.ws[a]?=A? w->∃Ws,KOk ins rows Ls [] a w Ws)(old:List NtE) :
 TInv ins rows Ls old tb.ws.length (λ_ _=>False) tb :=
 ⟨by rw[hf,hs];exact PInv.nil,hS,hn,λa w hw=>by rw[b! (glE hw),hs];exact hk a w hw⟩
theorem WyAt.bsnd{w:Wy}(h:WyAt C H w):w.bs.Nodup:=by
 have dn:∀k∈w.ks,∀{b:V6}{xs:List V},H b=A? (.lst xs)->b≠k.d:=λk hk{b xs}e z=>by
  have:=h.nd k hk;rw[<-z,e]at this;cases this
 have g:∀{f:Kd->V6}{x:V6},x∈w.ks.map f->∃k∈w.ks,x=f k:=λhx=>by
  obtain⟨k,hk,e⟩:=Wv.mp hx;exact⟨k,hk,e.symm⟩
 have CU:(w.ks.map (·.d)++w.ks.map (·.a)).Nodup:=by
  rw[XI];refine⟨h.ndd,h.nda,λx hx y hy z=>?_⟩;obtain⟨k,hk,rfl⟩:=g hx;obtain⟨k',zD,rfl⟩:=g hy;exact dn k hk (h.ag k' zD) z.symm
 unfold Wy.bs;rw[Xf,Xf,Xf]
 have MT:∀{b:V6}{xs:List V},H b=A? (.lst xs)->(∀k∈w.ks,b≠k.a)->b∉w.ks.map (·.d)++w.ks.map (·.a):=λ{b xs}e ha z=>by
  rcases Wm.mp z with z|z
  .obtain⟨k,hk,y⟩:=g z;exact dn k hk e y
  .obtain⟨k,hk,y⟩:=g z;exact ha k hk y
 refine⟨λz=>?_,λz=>?_,MT h.al λk hk=>(h.n4 k hk).2.2.symm,CU⟩
 .rcases Wr.mp z with z|z
  .exact h.n1 z
  .rcases Wr.mp z with z|z
   .exact h.n2 z
   .exact MT h.pl (λk hk=>(h.n4 k hk).1.symm) z
 .rcases Wr.mp z with z|z
  .exact h.n3 z
  .exact MT h.nl (λk hk=>(h.n4 k hk).2.1.symm) z
theorem WyAt.some_bs{w:Wy}(h:WyAt C H w):∀b∈w.bs,∃o,H b=A? o/\(∀xs,o≠.tup xs)/\(∀c d f,o≠.ins c d f)/\∀z,o≠.tbl z:=λb hb=>by
 unfold Wy.bs at hb;simp only[Wr,Wm]at hb;rcases hb with rfl|rfl|rfl|hb|hb
 .exact⟨_,h.pl,λ_ z=>(nomatch z),(λ_ _ _ z=>nomatch z),λ_ z=>nomatch z⟩
 .exact⟨_,h.nl,λ_ z=>(nomatch z),(λ_ _ _ z=>nomatch z),λ_ z=>nomatch z⟩
 .exact⟨_,h.al,λ_ z=>(nomatch z),(λ_ _ _ z=>nomatch z),λ_ z=>nomatch z⟩
 .obtain⟨k,hk,rfl⟩:=Wv.mp hb;exact⟨_,h.nd k hk,λ_ z=>(nomatch z),(λ_ _ _ z=>nomatch z),λ_ z=>nomatch z⟩
 .obtain⟨k,hk,rfl⟩:=Wv.mp hb;exact⟨_,h.ag k hk,λ_ z=>(nomatch z),(λ_ _ _ z=>nomatch z),λ_ z=>nomatch z⟩
def lP(S:Nat)(wl:V6):List (WE×V):=aO (Wb "ways") (.ref wl) (aO (Wb "states") (.int (S:Nat)) [])
theorem uh{S:Nat}:(lP S wl).lookup (Wb "ways")=A? (.ref wl):=by
 have e1:∀(f:WE)(v:V),aO f v []=[(f,v)]:=λf v=>by rw[aO]
 unfold lP;rw[e1,cG (by decide +kernel),e1];exact(lk1 (by decide +kernel)).trans lk0
theorem tR(S:Nat)(wl fd st:V6):aO (Wb "settled") (.ref st) (aO (Wb "found") (.ref fd) (lP S wl))=tbF S wl fd st:=vn S wl fd st
structure TiI(C CW:V6)(H:Hp)(x dx wl:V6)(ins:List (WE×Int))(rows:List (List Th))(Ls:List Th)(n S:Nat)(H7:Hp)(ws:List Wy):Prop where
 sb:SameB x H H7
 self:H7 x=A? (.ins C dx (lP S wl))
 wll:H7 wl=A? (.lst (ws.map λw=>k! w.x))
 wln:H wl=B?
 wa:∀w∈ws,WyAt CW H7 w
 fr:∀b∈ws.flatMap Wy.bs,H b=B?/\b≠wl
 nd:(ws.flatMap Wy.bs).Nodup
 len:ws.length=n
 k:∀(a:Nat)(w:Wy),ws[a]?=A? w->∃Ws,KOk ins rows Ls [] a w Ws
section
variable{x dx:V6}{S:Nat}{ws:List Wy}
theorem TiI.same(h:TiI C CW H x dx wl ins rows Ls n S H7 ws)(s:j! H7 H8):TiI C CW H x dx wl ins rows Ls n S H8 ws :=
 ⟨h.sb.trans (y! s),s _ _ h.self,s _ _ h.wll,h.wln,λw hw=>(h.wa w hw).same s,h.fr,h.nd,h.len,h.k⟩
theorem TiI.null(h:TiI C CW H x dx wl ins rows Ls n S H7 ws)(hb:H7 b=B?):H b=B?/\b≠x/\b≠wl:=by
 have h1:b≠x:=λz=>by rw[z,h.self]at hb;cases hb
 refine⟨?_,h1,λz=>by rw[z,h.wll]at hb;cases hb⟩;cases z:H b with
 |none=>rfl
 |some o=>rw[h.sb b o h1 z]at hb;cases hb
theorem l9{y dy:V6}(hy:H7 y=B?)(Lc:H7 dy=B?)(sb:SameB y (upd (upd H7 dy (.own y)) y (.ins CW dy [])) H8):j! H7 H8:=λb o e=>sb b o (av e hy) (by rw[aj (av e hy),aj (av e Lc)];exact e)
theorem TiI.add{w:Wy}(h:TiI C CW H x dx wl ins rows Ls n S H7 ws)(wa:WyAt CW H7 w)(fr:∀b∈w.bs,H b=B?/\b≠wl)(ft:∀b∈w.bs,b∉ws.flatMap Wy.bs)(hk:∃Ws,KOk ins rows Ls [] n w Ws) :
 TiI C CW H x dx wl ins rows Ls (n+1) S (upd H7 wl (.lst ((ws.map λw=>k! w.x)++[.ref w.x]))) (ws++[w]):=by
 have hx:x≠wl:=aF h.self h.wll (λz=>nomatch z);have k:KT H7 (upd H7 wl (.lst ((ws.map λw=>k! w.x)++[.ref w.x]))):=λb xs e=>by rw[aj (aF e h.wll (λz=>nomatch z))];exact e
 have fw:∀v:Wy,WyAt CW H7 v->(∀b∈v.bs,b≠wl)->WyAt CW (upd H7 wl (.lst ((ws.map λw=>k! w.x)++[.ref w.x]))) v:=λv hv hb =>
  hv.frame (S:=[wl]) (L! (We.mpr rfl)) k (λz=>aF hv.ins h.wll (λz=>nomatch z) (We.mp z)) λb zJ z=>hb b zJ (We.mp z)
 refine⟨λb o hb e=>?_,(aj hx).trans h.self,?_,h.wln,λv hv=>?_,?_,?_,by rw[Wk,h.len];rfl,λa v hv=>?_⟩
 .rw[aj (av e h.wln)];exact h.sb b o hb e
 .rw[ac,WB];rfl
 .rcases Wm.mp hv with hv|hv
  .exact fw v (h.wa v hv) λb hb=>(h.fr b (iH hv hb)).2
  .rw[We.mp hv];exact fw w wa λb hb=>(fr b hb).2
 .intro b hb;rw[List.flatMap_append]at hb;rcases Wm.mp hb with hb|hb
  .exact h.fr b hb
  .rw[List.flatMap_singleton]at hb;exact fr b hb
 .rw[List.flatMap_append,List.flatMap_singleton,XI];exact⟨h.nd,wa.bsnd,λa ha b hb z=>ft b hb (z ▸ ha)⟩
 .rcases aV.mp hv with hv|⟨e,rfl⟩
  .exact h.k a v hv
  .rw[e,h.len];exact hk
theorem TiI.done{fd st:V6}{Hd He:Hp}(h:TiI C CW H x dx wl ins rows Ls n S H7 ws)(hn:n=ins.length)(hS:S=rows.length)(s1:SameB x H7 He)(ex:He x=A? (.ins C dx (tbF S wl fd st)))(ef:He fd=A? (.dT []))(es:He st=A? (.lst []))
 (nf:H7 fd=B?) (ns:H7 st=B?) :
 TbAt C CW He ⟨x,dx,S,wl,fd,st,ws,[],[]⟩/\TInv ins rows Ls [] ws.length (λ_ _=>False) ⟨x,dx,S,wl,fd,st,ws,[],[]⟩/\SameB x H He/\∀b∈Tb.mut ⟨x,dx,S,wl,fd,st,ws,[],[]⟩,H b=none:=by
 have Gf:wl≠x:=aF h.wll h.self (λz=>nomatch z)
 have bx:∀w∈ws,∀b∈w.bs,b≠x:=λw hw b hb z=>by
  obtain⟨o,e,_,h2,_⟩:=(h.wa w hw).some_bs b hb;rw[z,h.self]at e;exact h2 _ _ _ (Wi e).symm
 have bo:∀w∈ws,∀b∈w.bs,∃o,H7 b=A? o:=λw hw b hb=>by
  obtain⟨o,e,_⟩:=(h.wa w hw).some_bs b hb;exact⟨o,e⟩
 have k:KT H7 He:=λb xs e=>s1 b _ (aF e h.self (λz=>nomatch z)) e;refine⟨⟨ex,s1 _ _ Gf h.wll,λw hw=>?_,ef,es,(by intro e he;cases he),(by intro e he;cases he),h.nd,λb hb=>⟨(h.fr b hb).2,?_⟩,?_⟩,TInv.nil (tb:=⟨x,dx,S,wl,fd,st,ws,[],[]⟩) rfl rfl hS (h.len.trans hn) h.k _,h.sb.trans s1,λb hb=>?_⟩
 .refine(h.wa w hw).keep k λb hb o e=>?_;by_cases z:b=x
  .unfold Wy.own at hb;rcases Wr.mp hb with y|hb
   .exfalso;have e1:=(h.wa w hw).ins;rw[<-y,z,h.self]at e1;have e2:=Wi e1;injection e2 with _ _ e3;have:(wyF w.nm w.pl w.nl w.al).lookup (Wb "ways")=A? (.ref wl):=by rw[<-e3];exact uh
    rw[gy]at this;cases this
   .exact g! z (bx w hw b hb)
  .exact s1 b o z e
 .obtain⟨w,hw,hb⟩:=YX.mp hb;obtain⟨o,e⟩:=bo w hw b hb;exact⟨av e ns,av e nf⟩
 .exact av h.wll ns
 .unfold Tb.mut at hb;rcases Wr.mp hb with rfl|hb
  .exact(h.null nf).1
  rcases Wr.mp hb with rfl|hb
  .exact(h.null ns).1
  .obtain⟨w,hw,hb⟩:=YX.mp hb;exact(h.fr b (iH hw (wN hb))).1
end
theorem om{g:TG}{te:TE}{p:List Key×V->Bool}{Q:VK}
 (zq:∀R:VK,R (.ref d) H->tl σ H R) (hd:H d=A? (.dT kvs)) (hlen:kvs.length<=10000)
 (hs:∀(i:Nat)(kv:List Key×V)(pa b:V6)(H2:Hp)(R:VK)(W':Hp->Prop),kvs[i]?=A? kv->SameB d H H2->H2 pa=A? (.tup [.ref b,kv.2])->H2 b=A? (.tup (kv.1.map kV))->(p kv=Bq->R kv.2 H2)->(p kv=C?->W' H2)->g (.ref pa) (cσ js σ) H2 λzl H3=>tt zl H3 λb H4=>if b=Bq then te zl H4 R else W' H4)
 (hq:∀(D:V6)(H2:Hp),j! H H2->H D=B?->H2 D=A? (.lst ((kvs.filter p).map (·.2)))->Q (.ref D) H2) :
 kT (qM js (nQ tl) g tt te) σ H Q:=by
 refine zq _ ⟨d,kvs,rfl,hd,λo D hD=>?_⟩;have CV:D≠d:=λz=>by rw[z,ac]at hD;cases hD
 have Ho:H D=none:=by rw[aj CV]at hD;exact hD
 refine⟨kvs.length,λj H2=>j<=kvs.length/\SameB d H H2/\H2 d=A? (.frz o (.dT kvs))/\H2 D=A? (.lst (((kvs.take j).filter p).map (·.2))),⟨WY _,λb u hb e=>by rw[aj (av e Ho),aj hb];exact e,by rw[aj CV.symm,ac],ac⟩,?_⟩;rintro j H2 ⟨hj,sb,ed,eD⟩;by_cases B6:j=kvs.length
 .left;refine⟨⟨ed,by lia⟩,upd H2 d (.dT kvs),λb=>?_,?_⟩
  .by_cases hb:b=d
   .rw[hb];exact .inr ⟨o,_,ed,hd,ac⟩
   .exact .inl (aj hb)
  .rw[B6,XU]at eD;refine hq D _ (λb u e=>?_) Ho (by rw[aj CV];exact eD);by_cases hb:b=d
   .rw[hb,hd]at e;rw[hb,ac];exact e
   .rw[aj hb];exact sb b u hb e
 .right;refine⟨by lia,⟨ed,by lia⟩,?_⟩;rintro x H3 ⟨pa,b,kv,hp,rfl,rfl,Aa,eb⟩;have Hq:d≠pa:=λz=>by rw[<-z,ed]at hp;cases hp
  have B4:D≠pa:=λz=>by rw[<-z,eD]at hp;cases hp
  have e2:(kvs.take (j+1)).filter p=(kvs.take j).filter p++(if p kv=Bq then[kv]else[]):=by
   rw[X4,Aa,List.filter_append];show _++List.filter p [kv]=_;rw[ZW,List.filter_nil]
  have hl:(((kvs.take j).filter p).map (·.2)).length<=10000:=by
   rw[V2];have:=List.length_filter_le p (kvs.take j);rw[W9]at this;lia
  have Ir:SameB d H (upd H2 pa (.tup [.ref b,kv.2])):=λc u hc ec=>by rw[aj (av (sb c u hc ec) hp)];exact sb c u hc ec
  refine hs j kv pa b _ _ _ Aa Ir ac (by rw[aj (av eb hp)];exact eb) (λBE=>?_) λBE=>?_
  .refine⟨_,by rw[aj B4];exact eD,aZ (by lia),by lia,λc u hc ec=>?_,?_,?_⟩
   .rw[aj (av ec Ho)];exact Ir c u hc ec
   .rw[aj CV.symm,aj Hq];exact ed
   .rw[ac,e2,b! BE,WB];rfl
  .refine⟨by lia,Ir,by rw[aj Hq];exact ed,?_⟩;rw[aj B4,e2,a! (by rw[BE];exact Wz),ZG];exact eD
def SameO(H H':Hp):Prop:=∀b o,H b=A? o->(∀z,o≠.tbl z)->H' b=A? o
theorem SameO.kt(s:SameO H H'):KT H H':=λb xs e=>s b _ e λ_ z=>nomatch z
end BB
namespace L2
open PySem BB
theorem TabSt.sameO{P:V6}(t:TabSt H P pos qual)(s:SameT P H H'):SameO H H':=λb o e h=>s b o (λz=>by
 rw[z]at e;rcases t with y|⟨_,y,_⟩ <;> · rw[y]at e;cases e;exact h _ rfl) e
end L2
namespace BB
open PySem L2
theorem TbAt.sameO{tb:Tb}(h:TbAt CT CW H tb)(s:SameO H H'):TbAt CT CW H' tb:=by
 refine⟨s _ _ h.ins (λ_ z=>nomatch z),s _ _ h.wl (λ_ z=>nomatch z),λw hw=>?_,s _ _ h.fd (λ_ z=>nomatch z),s _ _ h.st (λ_ z=>nomatch z),λe he=>(h.fe e he).mono s.kt,λe he=>(h.se e he).mono s.kt,h.nd,h.sep,h.n1⟩;have Bm:=h.wa w hw;refine Bm.keep s.kt λb hb o e=>s b o e λz y=>?_;unfold Wy.own at hb;rcases Wr.mp hb with rfl|hb
 .rw[Bm.ins,y]at e;cases e
 .obtain⟨o',e',_,_,h3⟩:=Bm.some_bs b hb;rw[e,y]at e';exact h3 _ (Wi e').symm
def hV(F St:List NtE):List NtE:=F.filter λe=>!decide (e.note∈St.map (·.note))
theorem fo{f:α->β}{p:β->Bool}{r:α->Bool}:∀{l:List α},(∀x∈l,p (f x)=r x)->(l.map f).filter p=(l.filter r).map f
 | [],_=>rfl
 | x::l,h=>by
   rw[WH,ZW,ZW,h x (Wj ..),fo λy hy=>h y (Wo _ hy)];by_cases z:r x=Bq
   .rw[b! z,b! z,WH]
   .rw[a! z,a! z]
def nDv(note:List Int):Dv:=.tup (note.map A!)
theorem va{a b:List Int}(h:nDv a=nDv b):a=b:=by
 unfold nDv at h;injection h with h;exact lm h
theorem tL{note:List Int}(h:H a=A? (.tup (note.map o!))):DAt H (nDv note) (.ref a):=by
 unfold nDv;rw[DAt];exact⟨a,_,D?,h,gM _⟩
theorem qJ:∀{St:List NtE},(∀e∈St,NtA H e)->DAts H (St.map λe=>nDv e.note) (St.map λe=>k! e.na)
 | [],_=>by rw[Ym,Ym,DAts]
 | e::St,h=>by
   rw[WH,WH,DAts];exact⟨_,_,D?,tL (h e (Wj ..)).na,qJ λx hx=>h x (Wo _ hx)⟩
theorem mC:∀{St:List NtE},gG (St.map λe=>nDv e.note)<=3
 | []=>by rw[Ym,gG];lia
 | e::St=>by
   have:=mC (St:=St);have h:=iz e.note;rw[WH,gG]
   have h2:(nDv e.note).deep<=3:=by
    unfold nDv;rw[Dv.deep];lia
   lia
theorem vf{St:List NtE}{note:List Int}:nDv note∈St.map (λe=>nDv e.note)↔note∈St.map (·.note):=by
 constructor
 .intro h;obtain⟨e,he,z⟩:=Wv.mp h;exact Wv.mpr ⟨e,he,va z⟩
 .intro h;obtain⟨e,he,rfl⟩:=Wv.mp h;exact Wv.mpr ⟨e,he,rfl⟩
end BB
namespace L2
open PySem BB
theorem TabSt.frb{P:V6}(t:TabSt H P pos qual)(hS:∀b∈S,∃u,H b=A? u/\(∀φ,u≠.ext φ)/\∀z,u≠.tbl z)(f:FrB S H H'):TabSt H' P pos qual:=by
 have np:∀{z:Array V8},H P=A? (.tbl z)->P∉S:=λe hb=>by
  obtain⟨u,h1,_,h3⟩:=hS _ hb;rw[e]at h1;exact h3 _ (Wi h1).symm
 rcases t with h|⟨c',h1,φ,h2,h3⟩
 .exact .inl (f _ _ (np h) h)
 .refine .inr ⟨c',f _ _ (np h1) h1,φ,f _ _ (λhb=>?_) h2,h3⟩;obtain⟨u,g1,g2,_⟩:=hS _ hb;rw[h2]at g1;exact g2 _ (Wi g1).symm
end L2
namespace BB
open PySem L2
theorem TbAt.mutOk{tb:Tb}(ht:TbAt CT CW H tb):∀b∈tb.mut,∃u,H b=A? u/\(∀φ,u≠.ext φ)/\∀z,u≠.tbl z:=λb hb=>by
 unfold Tb.mut at hb;rcases Wr.mp hb with rfl|hb
 .exact⟨_,ht.fd,λ_ z=>(nomatch z),λ_ z=>nomatch z⟩
 .rcases Wr.mp hb with rfl|hb
  .exact⟨_,ht.st,λ_ z=>(nomatch z),λ_ z=>nomatch z⟩
  .obtain⟨v,hv,hb⟩:=YX.mp hb;obtain⟨kd,Ai,rfl⟩:=Wv.mp hb;exact⟨_,(ht.wa v hv).ag kd Ai,λ_ z=>(nomatch z),λ_ z=>nomatch z⟩
def qi(ks:List Key):List Int:=ks.map λk=>match k with
 |.inl i=>i
 |.inr _=>0
theorem gx:∀note:List Int,qi (gd note)=note
 | []=>rfl
 |i::note=>h! (List.cons i) (gx note)
theorem r6{St:List NtE}:(nfv F).filter (λkv=>!decide (qi kv.1∈St.map (·.note)))=nfv (hV F St):=by
 unfold nfv hV;refine fo λx _=>?_;rw[gx]
theorem gN{St:List NtE}{c:WE->List Nat->Prop}(h:PInv ins rows Ls F St c){e:NtE}:e∈hV F St↔e∈F/\e∉St:=by
 unfold hV;rw[X7];constructor
 .rintro⟨h1,h2⟩;refine⟨h1,λz=>?_⟩;rw[d! ((h.late h1).mpr z)]at h2;cases h2
 .rintro⟨h1,h2⟩;refine⟨h1,?_⟩;rw[c! λz=>h2 ((h.late h1).mp z)];rfl
theorem oW{g:TG}{te:TE}{val:(Int×Int)×Int->V}{Q:VK}
 (zq:∀R:VK,R (.ref d) H->tl σ H R) (hd:H d=A? (.dT (dE es))) (hlen:es.length<=10000)
 (hs:∀(i:Nat)(e:(Int×Int)×Int)(p b:V6)(H2:Hp)(R:VK),es[i]?=A? e->SameB d H H2->H2 p=A? (.tup [.ref b,.int e.2])->H2 b=A? (.tup ((ky e.1).map kV))->R (val e) H2->g (.ref p) (cσ js σ) H2 λzl H3=>te zl H3 R)
 (hq:∀(D:V6)(H2:Hp),j! H H2->H2 D=A? (.lst (es.map val))->Q (.ref D) H2) :
 kT (qM js (nQ tl) g aQ te) σ H Q:=by
 refine zq _ ⟨d,dE es,rfl,hd,λo D hD=>?_⟩;have CV:D≠d:=λz=>by rw[z,ac]at hD;cases hD
 have Ho:H D=none:=by rw[aj CV]at hD;exact hD
 have hl:(dE es).length=es.length:=by unfold dE;rw[V2]
 refine⟨es.length,λj H2=>j<=es.length/\SameB d H H2/\H2 d=A? (.frz o (.dT (dE es)))/\H2 D=A? (.lst ((es.take j).map val)),⟨WY _,λb u hb e=>by rw[aj (av e Ho),aj hb];exact e,by rw[aj CV.symm,ac],ac⟩,?_⟩;rintro j H2 ⟨hj,sb,ed,eD⟩;by_cases B6:j=es.length
 .left;refine⟨⟨ed,by lia⟩,upd H2 d (.dT (dE es)),λb=>?_,?_⟩
  .by_cases hb:b=d
   .rw[hb];exact .inr ⟨o,_,ed,hd,ac⟩
   .exact .inl (aj hb)
  .rw[B6,XU]at eD;refine hq D _ (λb u e=>?_) (by rw[aj CV];exact eD);by_cases hb:b=d
   .rw[hb,hd]at e;rw[hb,ac];exact e
   .rw[aj hb];exact sb b u hb e
 .right;refine⟨by lia,⟨ed,by lia⟩,?_⟩;rintro x H3 ⟨p,b,kv,hp,rfl,rfl,Aa,eb⟩
  obtain⟨e,he,rfl⟩:∃e,es[j]?=A? e/\(ky e.1,o! e.2)=kv:=by
   unfold dE at Aa;rw[V7]at Aa;cases h:es[j]? with
   |none=>rw[h]at Aa;cases Aa
   |some e=>rw[h]at Aa;exact⟨e,D?,Wi Aa⟩
  have Hq:d≠p:=λz=>by rw[<-z,ed]at hp;cases hp
  have B4:D≠p:=λz=>by rw[<-z,eD]at hp;cases hp
  refine hs j e p b _ _ he (λc u hc ec=>by rw[aj (av (sb c u hc ec) hp)];exact sb c u hc ec) ac (by rw[aj (av eb hp)];exact eb) ?_;refine⟨_,by rw[aj B4];exact eD,aZ (by rw[V2,W9];lia),by lia,λc u hc ec=>?_,?_,?_⟩
  .rw[aj (av ec Ho),aj (av (sb c u hc ec) hp)];exact sb c u hc ec
  .rw[aj CV.symm,aj Hq];exact ed
  .rw[ac,X4,he,WB];rfl
theorem pO:∀x σ H(Q Q':St->Hp->Prop),(∀a b,Q a b->Q' a b)->lV K 2 (cP (au i) (cP (au j) lO)) x σ H Q->lV K 2 (cP (au i) (cP (au j) lO)) x σ H Q' :=
 λ_ _ _ _ _ h⟨a,xs,e,hs,hl,v,r,e2,v2,r2,e3,e4,q⟩=>⟨a,xs,e,hs,hl,v,r,e2,v2,r2,e3,e4,h _ _ q⟩
structure WBk(H:Hp)(ins:List (WE×Int))(head:Th)(rows:List (List Th))(ba:V6):Prop where
 ex:∃(ia ha ra:V6)(v2:V)(zy zH:List V6),H ba=A? (.tup [.ref ia,v2,.ref ha,.ref ra])/\H ia=A? (.tup (zy.map k!))/\KsAt H ins zy/\H ra=A? (.tup (zH.map k!))/\WL (RowAt H) rows zH/\At H head ha
theorem WBk.mono{ba:V6}(h:WBk H ins head rows ba)(k:KT H H'):WBk H' ins head rows ba:=by
 obtain⟨ia,ha,ra,v2,zy,zH,e1,e2,e3,e4,e5,e6⟩:=h.ex;exact⟨ia,ha,ra,v2,zy,zH,k _ _ e1,k _ _ e2,e3.mono k,k _ _ e4,t! (λ_ _ e=>e.mono k) e5,e6.mono k⟩
structure WCd(ins:List (WE×Int))(rows:List (List Th))(t:Th)(ar:WE->Nat):Prop where
 gi:GoodN ins
 nq:∀k∈ins,k.1≠q
 rl:rows.length<=1000
 row:∀row∈rows,row.length=ins.length
 pt:∀(a:Nat)(nm:WE)(c:Int),ins[a]?=A? (nm,c)->∀p∈rows.map (λrow=>row.getD a bh),Ars ar p/\p.size<=100/\∀s k:Int,r! s k∈p.walk->(∃k':Nat,k=(k':Int)/\(k':Int)<c)/\∃s':Nat,s=(s':Int)/\s'<rows.length
 ta:Ars ar t
 tc:∀p∈t.walk,p.isCall=C?
 ts:t.size<=100000
 big:rows.length * t.size<=4000
theorem cH(t:Th):(post t []).Nodup:=(g7 t (by intro u h;cases h) YE).2.2.1
theorem rf(t:Th):bZ (post t []):=(g7 t (by intro u h;cases h) YE).2.1
theorem post_of{P:Th->Prop}(hk:∀t,P t->∀u∈t.kids,P u):∀(n:Nat),(∀(t:Th)(L:List Th),t.size<=n->P t->(∀u∈L,P u)->∀u∈post t L,P u)/\(∀(ts:List Th)(L:List Th),aq ts<=n->(∀t∈ts,P t)->(∀u∈L,P u)->∀u∈aP ts L,P u):=by
 intro n;induction n with
 | zero =>
   refine⟨λt L h=>?_,λts L h=>?_⟩
   .have:=I! t;lia
   .cases ts with
    |nil=>intro _ hL u hu;rw[aP]at hu;exact hL u hu
    |cons t ts=>rw[aq]at h;have:=I! t;lia
 | succ n ih =>
   have h1:∀(t:Th)(L:List Th),t.size<=n+1->P t->(∀u∈L,P u)->∀u∈post t L,P u:=λt L h ht hL u hu=>by
    have zV:aq t.kids<=n:=by
     have:=t.size_eq;lia
    have hw:u∈aP t.kids L\/u=t:=by
     rw[post_eq]at hu;split at hu
     .exact .inl hu
     .rcases Wm.mp hu with hu|hu
      .exact .inl hu
      .exact .inr (We.mp hu)
    rcases hw with hw|rfl
    .exact ih.2 _ L zV (hk t ht) hL u hw
    .exact ht
   refine⟨h1,λts=>?_⟩;induction ts with
   |nil=>intro L _ _ hL u hu;rw[aP]at hu;exact hL u hu
   | cons t ts Jg =>
     intro L h ht hL u hu;rw[aq]at h;rw[aP]at hu;exact Jg _ (by lia) (λx hx=>ht x (Wo _ hx)) (h1 t L (by lia) (ht t (Wj ..)) hL) u hu
theorem uu{P:Th->Prop}(hk:∀t,P t->∀u∈t.kids,P u){t:Th}(h:P t):∀u∈post t [],P u:=(post_of hk t.size).1 t [] (Wc _) h (by intro u hu;cases hu)
def ff(ins:List (WE×Int))(rows:List (List Th))(head u:Th):Th:=head.fill (bP ins rows [u])
def Makes(es:CLs)(note:List Int):Prop:=∀e∈es,note[e.1.1.toNat]?=A? e.2
theorem dW{u t:Th}{note:List Int}(nd:Ls.Nodup)(h:jS Ls head t es)(hc:∀s k:Int,r! s k∈head.walk->k=0/\∃s':Nat,s=(s':Int)/\s'<rows.length)(hn:IsNote Ls (aK ins rows u) note)(hl:(aK ins rows u).length=rows.length):Makes es note↔ff ins rows head u=t:=by
 unfold ff;rw[h.iff]
 have key:∀e∈es,note[e.1.1.toNat]?=A? e.2↔Ls[e.2.toNat]?=A? (bP ins rows [u] e.1.1 e.1.2):=λe he=>by
  obtain⟨⟨w,h1,h2⟩,h3⟩:=h.ok e he;obtain⟨h4,s',h5,h6⟩:=hc _ _ h3
  have hx:(aK ins rows u)[s']?=A? (bP ins rows [u] e.1.1 e.1.2):=by
   unfold bP;rw[h4,h5,Wl];show _=A? (List.getD (aK ins rows u) s' bh);rw[Wu,V4 (by lia)];rfl
  rw[h5,Wl,h1,Wl];rw[h5]at hx;rw[hn.iff nd hx]
 exact⟨λz e he=>(key e he).mp (z e he),λz e he=>(key e he).mpr (z e he)⟩
theorem iN{R:α->α->Prop}{l:List α}(h:l.Pairwise R){x y:α}(hi:l[i]?=A? x)(hj:l[j]?=A? y)(MR:i<j):R x y:=by
 obtain⟨h1,rfl⟩:=XN.mp hi;obtain⟨h2,rfl⟩:=XN.mp hj;exact List.pairwise_iff_getElem.mp h i j h1 h2 MR
structure wH(rows:List (List Th))(ar:WE->Nat)(head:Th):Prop where
 ar:Ars ar head
 sz:head.size<=10000
 c:∀s k:Int,r! s k∈head.walk->k=0/\∃s':Nat,s=(s':Int)/\s'<rows.length
def m4(ins:List (WE×Int))(rows:List (List Th))(t:Th):Prop:=∃F St,PInv ins rows (post t []) F St (ClAll ins St.length)/\∀e∈F,e∈St
theorem WCd.full{t:Th}{St:List NtE}(hc:WCd ins rows t ar)(hp:PInv ins rows (post t []) F St (ClAll ins St.length))(zc:∀e∈F,e∈St)(u:Th)(hu:u.Fit ins):∃e∈St,IsNote (post t []) (aK ins rows u) e.note/\e.n<=u.size:=by
 refine PInv.full (rf t) (cH t) (λnm c hm p MU s k hw=>?_) hp zc u.size u (Wc _) hu;obtain⟨a,ha⟩:=Wg.mp hm;obtain⟨row,hr,rfl⟩:=MU;rw[jH hc.gi ha]at hw;exact(hc.pt a nm c ha _ (Wv.mpr ⟨row,hr,rfl⟩)).2.2 s k hw
@[elab_as_elim] theorem dB {G:Hp->Prop} (h:H a=B?) (k:∀ H',j! H H'->H' a=A? o->G H'):G (upd H a o):=k _ (ao h _) ac
theorem uo{s k:Int}:Ars ar (.call s k):=λn ks h=>by
 rw[D!,We]at h;cases h
theorem tY{n:WE}{ks:List Th}(h:ks.length=ar n)(hk:∀u∈ks,Ars ar u):Ars ar (.knot n ks):=λm us hm=>by
 rw[D!]at hm;rcases Wr.mp hm with e|hm
 .injection e with e1 e2;rw[e1,e2];exact h
 .have:∀ts:List Th,(∀u∈ts,Ars ar u)->p! m us∈walks ts->us.length=ar m:=λts=>by
   induction ts with
   |nil=>intro _ h;rw[walks]at h;cases h
   | cons t ts ih =>
     intro ht h;rw[walks]at h;rcases Wm.mp h with h|h
     .exact ht t (Wj ..) m us h
     .exact ih (λu hu=>ht u (Wo _ hu)) h
  exact this ks hk hm
section
variable{k0 k1 k2 k3:WE}
end
end BB
namespace L2
open PySem PySem.Spec PyProof.Rows
theorem uE{l:PySem.W.OpenLaw}{k:Nat}{q:WJ}{d:DefRec}{K:Params->Wf}{ts:List V6}{CX:W0->CXT}{sp:W0->V6->Sp}
 (hn:l.most=A? n) (KO:n<=WD) (EE:d.params.defaults=[]) (hr:Room k callerA)
 (hY:∀(w:W0)(h:Xp),YP w h->(K w.params).In h) (hT:∀(w:W0)(h:Xp),YP w h->∀P∈ts,h.get? P=A? (PySem.W.tabObj #[])) (he:∀P:Params,ts=HD.kP (K P))
 (F:∀(w:W0)(mg:WE->Option V8)(fa:V6)(h:Xp),(K w.params).In h->h.Ns XO mg->mg d.name=A? (.ref fa) ->
  ∃(fd:YO)(c T:V6),(∀(s:Wd)(u:V8),BindsTo s fd ⟨[u],[]⟩ [(x,u)])/\PySem.W.codeHdIn (K w.params) c T=Bq/\(K w.params).lookup T=B? /\
    ∀base:Xp,(K w.params).In base->base.Ns XO mg->Lam mg base c T->bp l.prog w (K w.params) mg base (CX w) k fa fd [x] (sp w T))
 (Bb:∀(w:W0)(T:V6)(H:Hp)(a:V6)(ns:List Int),ns.length<=n->SqL (K w.params) H a (ns.map o!)->H T=A? (.tbl #[])->sp w T [.ref a] H (λv _=>v=.bl Bq) λ_ _ _=>False)
 (MH:∀(w:W0)(H:Hp)(s:Wd)(e:V8)(s':Wd),CX w [] H s (λ_ _ _=>False) e s'->False) :
 PySem.W.WalkO q loose XP YP l.row.toRowW d [] (λf vs=>PySem.call f vs):=by
 refine Att.attach_call hn EE λw s₀ l' mg mb fa o pm cd doc a vs ns G Y ho hd AD Ij FT hints hlen hg=>?_;have KX:=hY w _ Y;obtain⟨fd,c,T,hb,ht,MG,hF⟩:=F w mg fa _ KX G.T.g Ij;have hC:=PySem.W.codeHd_of_K KX ht;have hT:=hT w _ Y T (by rw[he w.params];exact HD.pK ht)
 have AW:l'.heap.BuiltinsAt mg T:=by
  obtain⟨bm,ob,b1,b2,b3,b4,b5,b6⟩:=G.T.bmain;refine⟨bm,ob,b1,b2,λz=>?_,λz=>?_,b3,b4,b5,b6⟩
  .obtain⟨o',es,ep,e,d',_⟩:=G.T.g;rw[z,e]at b3;cases b3;rw[d']at b6;cases b6
  .rw[z,hT]at b3;cases b3;cases b4
 exact sI KX G.T.g G.T.b G.T.builtins G.T.nolimit hg FT hints (Xa hlen KO) hr hC hT AW MG hF hb (λH hS MJ=>Bb w T H a ns hlen hS MJ) λH e s'=>MH w H l' e s'
end L2
namespace BB
open PySem L2
def o6:List Int:=[0,1,2,2,1,3]
def oo(r:Int):Int:=o6.getD (r%6).toNat 0
theorem rG(r:Int):0<=oo r/\oo r<=3:=by
 unfold oo;have h0:=W2 r (by decide:(6:Int)≠0);have h1:=WZ r (by decide:(0:Int)<6);obtain⟨n,hn⟩:=YY h0;rw[hn,Wl];have:n<6:=by lia
 have:∀n:Fin 6,0<=o6.getD n.1 0/\o6.getD n.1 0<=3:=by decide
 exact this ⟨n,by lia⟩
theorem vd(r:Int):atI (o6.map o!) (r%6)=A? (.int (oo r)):=by
 have h0:=W2 r (by decide:(6:Int)≠0);have h1:=WZ r (by decide:(0:Int)<6);refine at_nonneg h0 ?_;have hl:(r%6).toNat<o6.length:=by show _<6;lia
 unfold oo;rw[V7,Wu,V4 hl];rfl
def gD(r:Int):Nat->Int
 |0=>r
 |k+1=>gD r k / 6+(k:Int)
def cz(cell:Int):Int:=1+eT cell%4
def j2(cell:Int):List (WE×Int):=(XS (cz cell).toNat).map λ(k:Nat)=>(nameOf (eT cell / 36) (k:Int),oo (gD (eT cell / 7) k))
def fj(cell:Int):Int:=eT cell / 6%cz cell
def dG(cell:Int):List (WE×Int):=(j2 cell).set (fj cell).toNat (nameOf (eT cell / 36) (fj cell),0)
theorem jy(cell:Int):1<=cz cell/\cz cell<=4:=by
 have:=W2 (eT cell) (by decide:(4:Int)≠0);have:=WZ (eT cell) (by decide:(0:Int)<4);unfold cz;lia
theorem nX(cell:Int):0<=fj cell/\fj cell<cz cell:=by
 have:=jy cell;unfold fj;exact⟨W2 _ (by lia),WZ _ (by lia)⟩
theorem fD(cell:Int):(j2 cell).length=(cz cell).toNat:=by unfold j2;rw[V2,List.length_range]
theorem dY(cell:Int):(dG cell).length=(cz cell).toNat:=by unfold dG;rw[Yq,fD]
theorem jq(h:i<(cz cell).toNat):(j2 cell)[i]?=A? (nameOf (eT cell / 36) (i:Int),oo (gD (eT cell / 7) i)):=by
 unfold j2;rw[V7,List.getElem?_range h];rfl
theorem dj{k:WE×Int}(h:(dG cell)[i]?=A? k):i<(cz cell).toNat/\k.1=nameOf (eT cell / 36) (i:Int)/\0<=k.2/\k.2<=3/\(i=(fj cell).toNat->k.2=0):=by
 have hi:i<(cz cell).toNat:=by
  have:=(glE h);rw[dY]at this;exact this
 have ha:=nX cell;unfold dG at h;by_cases e:(fj cell).toNat=i
 .rw[e,XC (by rw[fD];exact hi)]at h;cases h;have:(i:Int)=fj cell:=by lia
  exact⟨hi,by rw[this],by simp,by simp,λ_=>rfl⟩
 .rw[XD e,jq hi]at h;cases h;exact⟨hi,D?,(rG _).1,(rG _).2,λz=>g! z.symm e⟩
theorem jP(cell:Int):GoodN (dG cell)/\(dG cell).length<=4:=by
 have hm:=jy cell;have ha:=nX cell;refine⟨⟨by rw[dY];lia,by rw[dY];lia,λk hk=>?_,λk hk=>?_,?_,λi j k l hi hj e=>?_⟩,by rw[dY];lia⟩
 .obtain⟨i,hi⟩:=Wg.mp hk;rw[(dj hi).2.1];exact⟨pE _ _,pQ _ _⟩
 .obtain⟨i,hi⟩:=Wg.mp hk;exact⟨(dj hi).2.2.1,(dj hi).2.2.2.1⟩
 .have hl:(fj cell).toNat<(dG cell).length:=by rw[dY];lia
  exact⟨_,Xn hl,(dj (V4 hl)).2.2.2.2 rfl⟩
 .obtain⟨h1,h2,_⟩:=dj hi;obtain⟨h3,h4,_⟩:=dj hj;rw[h2,h4]at e;have:=qy (by lia) (by lia) (by lia) (by lia) e;lia
theorem GoodN.goodK{ks:List (WE×Int)}(g:GoodN ks)(h:ks.length<=4):ie ks:=⟨g.ne,by lia,g.low,g.num,g.zero⟩
def LsT(H:Hp)(ts:List Th)(la:V6):Prop:=∃as:List V6,H la=A? (.lst (as.map k!))/\Ats H ts as
theorem LsT.up(k:KT H H'){ts:List Th}{la:V6}(s:∀o,H la=A? o->H' la=A? o)(h:LsT H ts la):LsT H' ts la:=by
 obtain⟨as,h1,h2⟩:=h;exact⟨as,s _ h1,h2.mono k⟩
theorem LsT.same(s:j! H H'){ts:List Th}{la:V6}(h:LsT H ts la):LsT H' ts la:=h.up (n! s) λo=>s la o
def pickK(Az:List (List Th))(s k:Int):Th:=(Az.getD k.toNat []).getD s.toNat bh
def InK(Az:List (List Th))(p:Th):Prop:=∀s k:Int,r! s k∈p.walk->∃(k' s':Nat)(ts:List Th)(t:Th),k=(k':Int)/\s=(s':Int)/\Az[k']?=A? ts/\ts[s']?=A? t
theorem InK.kid{Az:List (List Th)}{u:Th}(h:InK Az p)(hu:u∈p.kids):InK Az u:=λs k m=>h s k (eh hu _ m)
structure BkC(ins:List (WE×Int))(rows:List (List Th)):Prop where
 gi:GoodN ins
 rl:rows.length<=1000
 row:∀row∈rows,row.length=ins.length
 tl:∀row∈rows,∀p∈row,p.tall<=3/\p.size<=100
 cl:∀(a:Nat)(nm:WE)(c:Int),ins[a]?=A? (nm,c)->∀row∈rows,∀s k:Int,r! s k∈(row.getD a bh).walk->(∃k':Nat,k=(k':Int)/\(k':Int)<c)/\∃s':Nat,s=(s':Int)/\s'<rows.length
theorem dh{t:Th}(h:t.Fit ins):(aK ins rows t).length=rows.length:=by
 cases t with
 |call s k=>rw[F!]at h;exact h.elim
 |knot n ks=>rw[cm,V2]
theorem BkC.inK(h:BkC ins rows){a:Nat}{ks:List Th}(hi:ins[a]?=A? (nm,((ks.length:Nat):Int)))(hk:Fits ins ks)(hr:row∈rows):InK (ks.map (aK ins rows)) (row.getD a bh):=λs k hm=>by
 obtain⟨⟨k',h1,h2⟩,s',h3,h4⟩:=h.cl a nm _ hi row hr s k hm;have hl:k'<ks.length:=by lia
 have e:=V4 hl;have hf:=fC hk _ (Xn hl);have hs:s'<(aK ins rows ks[k']).length:=by rw[dh hf];exact h4
 exact⟨k',s',_,_,h1,h3,by rw[V7,e];rfl,V4 hs⟩
def LsN(H:Hp)(ts:List Th)(la:V6):Prop:=H la=A? (.lst ((ts.map λt=>((t.size:Nat):Int)).map o!))
theorem jz:∀ts:List Th,(ts.map λt=>((t.size:Nat):Int)).sum=((aq ts:Nat):Int)
 | []=>rfl
 | t::ts=>by
   have e:aq (t::ts)=t.size+aq ts:=rfl;rw[WH,List.sum_cons,jz ts,e];lia
theorem Cl.closed{E:List (WE×List Nat)}(h:Cl E Ts):bZ Ts:=λt ht u hu=>by
 obtain⟨i,hi⟩:=Wg.mp ht;have hl:i<E.length:=by rw[h.len];exact(glE hi)
 obtain⟨kids,h1,h2⟩:=h.ent i _ (V4 hl);rw[hi]at h1;cases h1;obtain⟨j,hj⟩:=Wg.mp (show u∈kids from hu);obtain⟨id,_,_,h3⟩:=E! h2 hj;exact V5 h3
open Classical in
noncomputable def ixC(Ls:List Th)(u:Th):Int:=if h:∃j:Nat,Ls[j]?=A? u then((Classical.choose h:Nat):Int)else -1
theorem lG(nd:Ls.Nodup){u:Th}(h:Ls[j]?=A? u):ixC Ls u=(j:Int):=by
 unfold ixC;have hx:∃j:Nat,Ls[j]?=A? u:=⟨j,h⟩;rw[dif_pos hx,dq nd (Classical.choose_spec hx) h]
theorem qq{u:Th}(h:u∉Ls):ixC Ls u=-1:=by
 unfold ixC;exact dif_neg λ⟨j,hj⟩=>h (V5 hj)
theorem qW(nd:Ls.Nodup){u:Th}(h:ixC Ls u=(j:Int)):Ls[j]?=A? u:=by
 by_cases z:u∈Ls
 .obtain⟨i,hi⟩:=Wg.mp z;rw[lG nd hi]at h;have:i=j:=by lia
  rw[<-this];exact hi
 .rw[qq z]at h;lia
theorem tK{note:List Int}(nd:Ls.Nodup)(h:IsNote Ls ms note){s:Nat}{u:Th}(hu:ms[s]?=A? u):note[s]?=A? (ixC Ls u):=by
 rcases h.at' s u hu with⟨j,h1,h2⟩|⟨h1,h2⟩
 .rw[h2,lG nd h1]
 .rw[h2,qq h1]
theorem wM{E:List (WE×List Nat)}(c:Cl E Ls)(m:WE)(us:List Th):(bz (kvsOf E) (.inr m::us.map λu=>(WQ (ixC Ls u):Key))).getD (.int (-1))=.int (ixC Ls (.knot m us)):=by
 cases hv:bz (kvsOf E) (.inr m::us.map λu=>(WQ (ixC Ls u):Key))with
 | some u =>
   obtain⟨i,e,he,hi⟩:=mh (nF hv);have hk:(.inr m::us.map λu=>(WQ (ixC Ls u):Key))=dJ e:=h! ZO he;have hu:u=o! (i:Nat):=h! Prod.snd he
   have AZ:m=e.1/\(us.map λu=>(WQ (ixC Ls u):Key))=e.2.map λ(i:Nat)=>(WQ ((i:Nat):Int):Key):=by
    unfold dJ at hk;injection hk with h1 h2;injection h1 with h1;exact⟨h1,h2⟩
   have hp:WL (λid u=>Ls[id]?=A? u) e.2 us:=by
    refine di ?_ λj id u hid hu=>?_
    .have:=h! XG AZ.2;rw[V2,V2]at this;exact this.symm
    .have:(us.map λu=>(WQ (ixC Ls u):Key))[j]?=(e.2.map λ(i:Nat)=>(WQ ((i:Nat):Int):Key))[j]?:=by rw[AZ.2]
     rw[V7,V7,hid,hu]at this;have:=Wi this;injection this with this;exact qW c.nd this
   have hf:=c.found (n:=e.1) (ids:=e.2) hi hp;rw[hu,AZ.1,lG c.nd hf];rfl
 | none =>
   have zt:p! m us∉Ls:=λhm=>by
    obtain⟨j,hj⟩:=Wg.mp hm;have hl:j<E.length:=by rw[c.len];exact(glE hj)
    obtain⟨e,he⟩:∃e,E[j]?=A? e:=⟨_,V4 hl⟩;obtain⟨kids,h1,h2⟩:=c.ent j e he;rw[hj]at h1;injection h1 with h1;injection h1 with h1 h3;subst h3
    have DW:(us.map λu=>(WQ (ixC Ls u):Key))=e.2.map λ(i:Nat)=>(WQ ((i:Nat):Int):Key):=by
     refine Yp λs=>?_;rw[V7,V7];cases hs:us[s]? with
     | none =>
       have:e.2[s]?=none:=by
        have Ak:=Wx h2;rw[List.getElem?_eq_none_iff]at hs |-;lia
       rw[this];rfl
     | some u =>
       obtain⟨id,hid,_,h4⟩:=E! h2 hs;rw[hid];show A? (WQ (ixC Ls u):Key)=A? (WQ ((id:Nat):Int));rw[lG c.nd h4]
    have Jh:(.inr m::us.map λu=>(WQ (ixC Ls u):Key))=dJ e:=by
     unfold dJ;rw[DW,h1]
    rw[Jh]at hv;exact(iC hv).1 (V5 he)
   rw[qq zt];rfl
def kG(note:List Int)(n:Nat):CLs:=(XS n).map λs:Nat=>((((s:Nat):Int),(0:Int)),note.getD s 0)
theorem sM(note:List Int)(n:Nat):eE (kG note n) ((n:Int),0) (note.getD n 0)=kG note (n+1):=by
 unfold eE;rw[a! λh=>?_]
 .unfold kG;rw[List.range_succ,WB];rfl
 .unfold kG at h;rw[WR]at h;obtain⟨s,hs,e⟩:=Wv.mp h;have:=h! ZO e;have h1:(s:Int)=(n:Int):=this;rw[ZP]at hs;lia
theorem uC{note:List Int}{s:Nat}(h:s<n):dC (kG note n) ((s:Int),0)=A? (note.getD s 0):=by
 have nd:((kG note n).map (·.1)).Nodup:=by
  unfold kG;rw[WR];refine List.Pairwise.map _ (λa b Fn z=>Fn ?_) List.nodup_range;have:=h! ZO z;have h1:(a:Int)=(b:Int):=this;lia
 exact qS nd (e:=(((s:Int),(0:Int)),note.getD s 0)) (Wv.mpr ⟨s,ZP.mpr h,rfl⟩)
theorem tF(note:List Int)(n:Nat):(kG note n).length=n:=by unfold kG;rw[V2,List.length_range]
theorem mm{t:Th}(hc:WCd ins rows t ar)(hf:m4 ins rows t)(ho:Over ins rows (post t [])):False:=by
 obtain⟨F,St,hp,zc⟩:=hf;obtain⟨l,h1,h2,h3⟩:=ho
 have:=sub_len h2 (m:=St.map (·.note)) λx hx=>by
  obtain⟨u,hu,hn⟩:=h3 x hx;obtain⟨e,he,Ec,_⟩:=hc.full hp zc u hu;exact Wv.mpr ⟨e,he,Ec.uniq (cH t) hn⟩
 rw[V2]at this;have Fq:=hp.s30;lia
theorem j3:∀{ts:List Th}{i:Nat}{u:Th},ts[i]?=A? u->aq (ts.take i)+u.size<=aq ts
 | [],_,_,h=>by simp at h
 | t::ts,0,u,h=>by
   have h:t=u:=Wi h;subst h;show 0+t.size<=t.size+aq ts;lia
 | t::ts,i+1,u,h=>by
   have:=j3 (ts:=ts) (i:=i) (u:=u) (by simpa using h);rw[List.take_succ_cons];show t.size+aq (ts.take i)+u.size<=t.size+aq ts;lia
end BB
namespace LAW
open PySem L2 BB
def top(i:Nat):Z5:=PySem.Challenge.pw_boughbook_k49_whole_whence_by_notes.main.body.getD i (.Pass ⟨0,0,0,0⟩)
theorem scm{P:List WE}(a:sc.kind=.function:=by rfl)(b:sc.isCoroutine=false:=by rfl)(c:sc.isGenerator=false:=by rfl)(d:N.Nodup:=by decide +kernel)(e:N.take P.length=P:=by rfl)(f:∀x∈P,sc.names.lookup x=A? .local\/sc.names.lookup x=A? .cell:=by decide +kernel)(g:∀y∈sc.names,y.2≠.free:=by decide +kernel):bX N P sc:=⟨a,b,c,d,e,f,g⟩
abbrev ND(l:List WE):Prop:=l.Nodup
abbrev sC(N:List WE)(k i:Nat):Prop:=bX N (N.take k) (aC (top i))
theorem pW:sC ["thing"] 1 5:=scm
theorem gQ:sC ["thing","met","ahead","part"] 1 6:=scm
theorem pM:sC ["thing"] 1 8:=scm
theorem no:sC ["call"] 1 9:=scm
theorem rQ:sC ["book"] 1 11:=scm
theorem pT:sC ["book"] 1 12:=scm
theorem o7:sC ["book"] 1 13:=scm
theorem nk:sC ["book"] 1 14:=scm
theorem fN:sC ["entries","parts","numbers","done","part","kids"] 3 16:=scm
theorem cT:sC ["row","at","fresh","told","ahead","entry","late"] 2 17:=scm
theorem eZ:sC ["tree","entries","at"] 1 18:=scm
theorem dD:sC ["pattern","row","number","needs","ahead","part","wished"] 3 21:=scm
theorem l4:sC ["rows","bits","knots","kids"] 4 22:=scm
theorem dR:sC ["rows","agreeing","sizes","numbers","told","bits","knots","kids","number"] 4 23:=scm
theorem dM:bX ["self","kind","patterns","row","state","pattern","part"] ["self","kind","patterns","row"] (aC (inClass (top 24) 0)):=scm
theorem cq:bX ["self","state","part","needs","called","kid","wished","bits"] ["self","state","part","needs"] (aC (inClass (top 24) 1)):=scm
theorem jM:bX ["self"] ["self"] (aC (inClass (top 24) 2)):=scm
theorem bf:bX ["self","note","kid","needing","against","state","part","bits"] ["self","note"] (aC (inClass (top 24) 3)):=scm
theorem aJ:bX ["self","last","sizes","told","first","rows","place","agreeing","low","high","bits","knots","kids"] ["self","last","sizes"] (aC (inClass (top 24) 4)):=scm
theorem cw:bX ["self","bits","states","note","number","state","part"] ["self","bits","states"] (aC (inClass (top 24) 5)):=scm
theorem eY:bX ["self","book","row","at","kind"] ["self","book","row"] (aC (inClass (top 25) 0)):=scm
theorem eu:bX ["self","ways","bits","knots","kids","note","tree"] ["self","ways","bits","knots","kids"] (aC (inClass (top 25) 1)):=scm
theorem b7:bX ["self","entry","sizes","ways","bits","knots","kids"] ["self","entry"] (aC (inClass (top 25) 2)):=scm
abbrev fO:Z5:=inClass (top 25) 3
theorem dA:bX ["self","ways","done","late"] ["self"] (aC (inClass (top 25) 3)):=scm
theorem eM:sC ["book","wish","row","at","table"] 2 26:=scm
theorem tH:sC ["needs","note"] 2 27:=scm
theorem dS:sC ["book","wish","row","at","needs","note","tree"] 2 28:=scm
theorem j7:sC ["script","k"] 2 30:=scm
theorem bG:sC ["base","n","letters","word","rest","k","size","at","step"] 2 31:=scm
theorem bR:sC ["cell","mixed","many","rest","kinds","k","at"] 1 32:=scm
theorem eg:sC ["script","many","cells","k"] 2 33:=scm
theorem bO:sC ["cell","outs","states","kids","deep","pair","parts","k","part"] 5 34:=scm
theorem bJ:sC ["own","outs","states","kids","deep","calls","pick","pair","parts","k"] 5 35:=scm
theorem aT:sC ["script","most","deep","ins","outs","states","cells","digits","rules","state","row","k","cell","head"] 3 36:=scm
theorem nR:sC ["name"] 1 37:=scm
theorem dQ:sC ["name","parts","tree","high","many"] 2 38:=scm
theorem bI:sC ["script","kinds","top","most","leaves","made","k","cell","pair","parts","part"] 4 39:=scm
theorem pf:sC ["pattern","kids"] 2 40:=scm
theorem dw:sC ["book","tree","kids","names","at"] 2 41:=scm
theorem j6:sC ["book","tree"] 2 42:=scm
theorem bQ:sC ["script","book","outs","made","wish","trees","tree","most"] 2 43:=scm
theorem iZ:sC ["book","tree","counts"] 2 44:=scm
theorem cY:sC ["book","tree","kids","names","at"] 2 45:=scm
theorem oq:sC ["pattern","kids"] 2 46:=scm
theorem dz:sC ["tree","numbers","entry","kid"] 2 47:=scm
theorem jm:sC ["pattern","table","numbers","entry"] 3 48:=scm
theorem cZ:sC ["book","wish","found","many"] 2 51:=scm
theorem lX:sC ["tree"] 1 52:=scm
theorem cU:sC ["book","wish","found","many"] 2 53:=scm
theorem eU:sC ["script","book","wish","numbers","top","told","found","pair","table","state"] 1 54:=scm
structure FX(K:Wf)(mg:WE->Option V8)(n:WE)(i:Nat)(ps:List WE) where
 f:V6
 d:YO
 F:Fun K n n (top i) f d
 b:Binds K d ps []
 m:mg n=A? (.ref f)
structure FM(K:Wf)(e:V6)(n q:WE)(s:Z5)(ps:List WE) where
 f:V6
 d:YO
 F:Fun K n q s f d
 b:Binds K d ps []
 me:Meth K e n f
structure FMT(K:Wf)(e:V6)(n q:WE)(s:Z5)(ps:List WE) extends FM K e n q s ps where
 tc:V6
 tp:V6
 th:d.code=.ref tc
 t:PySem.W.codeHdIn K tc tp=Bq
 u:K.lookup tp=B?
section
open PySem.W
variable{K:Frag}{n q:WE}{e:V6}{oc kV dc pm cd ct:V8}{od an:Option V6}{sl:Array (Option V8)}{tk:Tok}
abbrev HB(n q:WE)(st:Z5)(ps:List WE):Prop:=∀(kV dc pm:V8)(an:Option V6)(cd ct:V8)(us:List V8),us.length=ps.length->bindArgs (fnOf n q (cA st) (bY st) (aC st) .none kV dc pm an cd ct) ⟨us,[]⟩=pure (ps.zip us)
theorem hb1{p0:WE}(h:∀(kV dc pm:V8)(an:Option V6)(cd ct u0:V8),bindArgs (fnOf n q (cA st) (bY st) (aC st) .none kV dc pm an cd ct) ⟨[u0],[]⟩=pure [(p0,u0)]):HB n q st [p0]:=λa b c d e f us hl=>by obtain⟨u0,rfl⟩:=us1 hl;exact h a b c d e f u0
theorem hb2{p0:WE}(h:∀(kV dc pm:V8)(an:Option V6)(cd ct u0 u1:V8),bindArgs (fnOf n q (cA st) (bY st) (aC st) .none kV dc pm an cd ct) ⟨[u0,u1],[]⟩=pure [(p0,u0),(p1,u1)]):HB n q st [p0,p1]:=λa b c d e f us hl=>by obtain⟨u0,u1,rfl⟩:=us2 hl;exact h a b c d e f u0 u1
theorem hb3{p0:WE}(h:∀(kV dc pm:V8)(an:Option V6)(cd ct u0 u1 u2:V8),bindArgs (fnOf n q (cA st) (bY st) (aC st) .none kV dc pm an cd ct) ⟨[u0,u1,u2],[]⟩=pure [(p0,u0),(p1,u1),(p2,u2)]):HB n q st [p0,p1,p2]:=λa b c d e f us hl=>by obtain⟨u0,u1,u2,rfl⟩:=us3 hl;exact h a b c d e f u0 u1 u2
theorem hb4{p0 p3:WE}(h:∀(kV dc pm:V8)(an:Option V6)(cd ct u0 u1 u2 u3:V8),bindArgs (fnOf n q (cA st) (bY st) (aC st) .none kV dc pm an cd ct) ⟨[u0,u1,u2,u3],[]⟩=pure [(p0,u0),(p1,u1),(p2,u2),(p3,u3)]):HB n q st [p0,p1,p2,p3]:=λa b c d e f us hl=>by obtain⟨u0,u1,u2,u3,rfl⟩:=us4 hl;exact h a b c d e f u0 u1 u2 u3
theorem hb5{p0 p3 p4:WE}(h:∀(kV dc pm:V8)(an:Option V6)(cd ct u0 u1 u2 u3 u4:V8),bindArgs (fnOf n q (cA st) (bY st) (aC st) .none kV dc pm an cd ct) ⟨[u0,u1,u2,u3,u4],[]⟩=pure [(p0,u0),(p1,u1),(p2,u2),(p3,u3),(p4,u4)]):HB n q st [p0,p1,p2,p3,p4]:=λa b c d e f us hl=>by obtain⟨u0,u1,u2,u3,u4,rfl⟩:=us5 hl;exact h a b c d e f u0 u1 u2 u3 u4
noncomputable def fm(a:findIn K (.ref e) n=A? (A? (.ref f)):=by k_is)(i:isFn K (.ref f)=true:=by k_is)(l:K.lookup f=A? ⟨oc,od,.func (fnOf n q (cA st) (bY st) (aC st) .none kV dc pm an cd ct),sl⟩:=by k_is)(c:codeIn K cd q=true:=by k_is)(k:keepIn K (.ref f)=true:=by k_is)(hb:HB n q (st) ps:=by first|exact LAW.hb1 λ_ _ _ _ _ _ _=>rfl|exact LAW.hb2 λ_ _ _ _ _ _ _ _=>rfl|exact LAW.hb3 λ_ _ _ _ _ _ _ _ _=>rfl|exact LAW.hb4 λ_ _ _ _ _ _ _ _ _ _=>rfl|exact LAW.hb5 λ_ _ _ _ _ _ _ _ _ _ _=>rfl):FM K e n q st ps:=⟨f,_,nA l c k,(nA l c k).binds hb,⟨a,i,k⟩⟩
noncomputable def fmt{tc tp:V6}{to:X6}(a:findIn K (.ref e) n=A? (A? (.ref f)):=by k_is)(i:isFn K (.ref f)=true:=by k_is)(l:K.lookup f=A? ⟨oc,od,.func (fnOf n q (cA st) (bY st) (aC st) .none kV dc pm an cd ct),sl⟩:=by k_is)(c:codeIn K cd q=true:=by k_is)(k:keepIn K (.ref f)=true:=by k_is)(hb:HB n q (st) ps:=by first|exact LAW.hb1 λ_ _ _ _ _ _ _=>rfl|exact LAW.hb2 λ_ _ _ _ _ _ _ _=>rfl|exact LAW.hb3 λ_ _ _ _ _ _ _ _ _=>rfl|exact LAW.hb4 λ_ _ _ _ _ _ _ _ _ _=>rfl|exact LAW.hb5 λ_ _ _ _ _ _ _ _ _ _ _=>rfl)(g:cd=.ref tc:=by rfl)(v:K.lookup tc=A? to:=by k_is)(x:tabAt to=A? tp:=by rfl)(t:codeHdIn K tc tp=true:=by kernel_rfl)(u:K.lookup tp=none:=by kernel_rfl):FMT K e n q st ps:=⟨fm a i l c k hb,tc,tp,g,t,u⟩
theorem na(a:findIn K (.ref e) n=A? none:=by k_is):NoAttr K e n:=a
variable(X:K.In h)(G:h.Ns XO mg)
noncomputable def fx{i:Nat}(a:nsIn K XO n=A? (A? (.ref f)):=by k_is)(l:K.lookup f=A? ⟨oc,od,.func (fnOf n n (cA (top i)) (bY (top i)) (aC (top i)) .none kV dc pm an cd ct),sl⟩:=by k_is)(c:codeIn K cd n=true:=by k_is)(k:keepIn K (.ref f)=true:=by k_is)(hb:HB n n (top i) ps:=by first|exact LAW.hb1 λ_ _ _ _ _ _ _=>rfl|exact LAW.hb2 λ_ _ _ _ _ _ _ _=>rfl|exact LAW.hb3 λ_ _ _ _ _ _ _ _ _=>rfl|exact LAW.hb4 λ_ _ _ _ _ _ _ _ _ _=>rfl|exact LAW.hb5 λ_ _ _ _ _ _ _ _ _ _ _=>rfl):FX K mg n i ps:=⟨f,_,nA l c k,(nA l c k).binds hb,mg_of X G a⟩
include X G
theorem bn(a:nsIn K XO n=A? none:=by k_is):mg n=none:=mg_none_of X G a
theorem gn(a:nsIn K XO n=A? (A? (.ref f)):=by k_is):mg n=A? (.ref f):=mg_of X G a
theorem cs(a:nsIn K XO n=A? (A? (.str x tk)):=by k_is):∃tk,mg n=A? (.str x tk):=⟨tk,mg_of X G a⟩
theorem ci{x:Int}(a:nsIn K XO n=A? (A? (.int x tk)):=by k_is):∃tk,mg n=A? (.int x tk):=⟨tk,mg_of X G a⟩
end
theorem pcF{X:Cx}{kk k:Nat}{n:WE}{st:Nat}{es:List Xb}{t:TA}{p:Zb}(g:FX X.K X.mg n st ps)(F:bp X.prog X.w X.K X.mg X.base CX0 k g.f g.d ps sp)(hr:Room kk X.A)(ha:PA X (e::es) t)(hle:k<=kk:=by first|decide|lia)(hg:Gl X n:=by rfl)(Dw:(n == ("__debug__":WE))=false:=by decide)(he:W6 (e::es) X.env=(C?,Yd e X.env)::W6 es X.env:=by rfl)(Ax:(Y1 pos (W6 es X.env)).any (·.1)=false:=by rfl):PE X (.Call (.Name n p) (e::es) [] pos) (ig sp [] E0 t) :=
 cX F (hr.mono hle) hg g.m g.F.kp g.b .nil cW ha Dw he Ax
structure TX(K:Wf)(mg:WE->Option V8) where
 c_CALL_SIGN:∃tk,mg "CALL_SIGN"=A? (.str (Wb "?") tk)
 c_MOST_NOTES:∃tk,mg "MOST_NOTES"=A? (.int (30) tk)
 e_BookError:V6
 x_BookError:mg "BookError"=A? (.ref e_BookError)
 e_Many:V6
 x_Many:mg "Many"=A? (.ref e_Many)
 xe_Many:PySem.W.excIn K e_Many [.type "ValueError",.type "Exception",.type "BaseException",.type "object"] "ValueError.__new__"=Bq
 xg_Many:X5 K (.ref e_Many) "__getattribute__"=A? (A? (.builtin "BaseException.__getattribute__"))
 xh_Many:X5 K (.ref e_Many) "__getattr__"=A? B?
 xc_Many:X5 K (.ref e_Many) "__class__"=A? (A? (.builtin "object.__class__"))
 xo_Many:PySem.W.mroIn K e_Many (.type "object")=A? Bq
 xb_Many:PySem.W.mroIn K e_Many (.type "BaseException")=A? Bq
 hit_Many_Many:PySem.W.exmOne K (.ref e_Many) (.ref e_Many)=A? Bq
 g_0:FX K mg "kids_of" 5 ["thing"]
 g_1:FX K mg "walked" 6 ["thing"]
 g_2:FX K mg "is_call" 8 ["thing"]
 g_3:FX K mg "called_by" 9 ["call"]
 g_4:FX K mg "ins_of" 11 ["book"]
 g_5:FX K mg "head_of" 12 ["book"]
 g_6:FX K mg "rules_of" 13 ["book"]
 g_7:FX K mg "states_of" 14 ["book"]
 g_8:FX K mg "entered" 16 ["entries","parts","numbers"]
 g_9:FX K mg "in_order" 17 ["row","at"]
 g_10:FX K mg "shared_row" 18 ["tree"]
 g_11:FX K mg "needs_of" 21 ["pattern","row","number"]
 g_12:FX K mg "keep_least" 22 ["rows","bits","knots","kids"]
 g_13:FX K mg "longer" 23 ["rows","agreeing","sizes","numbers"]
 g_24:FX K mg "notes_of" 26 ["book","wish"]
 g_25:FX K mg "makes" 27 ["needs","note"]
 g_26:FX K mg "whence" 28 ["book","wish"]
 g_27:FX K mg "_law_cell_at" 30 ["script","k"]
 g_28:FX K mg "_law_name" 31 ["base","n"]
 g_29:FX K mg "_law_kinds" 32 ["cell"]
 g_30:FX K mg "_law_folded" 33 ["script","many"]
 g_31:FX K mg "_law_pattern" 34 ["cell","outs","states","kids","deep"]
 g_32:FX K mg "_law_digits" 35 ["own","outs","states","kids","deep"]
 g_33:FX K mg "_law_book" 36 ["script","most","deep"]
 g_34:FX K mg "_law_leaf" 37 ["name"]
 g_35:FX K mg "_law_over" 38 ["name","parts"]
 g_36:FX K mg "_law_grown" 39 ["script","kinds","top","most"]
 g_37:FX K mg "_law_put" 40 ["pattern","kids"]
 g_38:FX K mg "_law_mades" 41 ["book","tree"]
 g_39:FX K mg "_law_outcome" 42 ["book","tree"]
 g_40:FX K mg "_law_wish" 43 ["script","book"]
 g_41:FX K mg "_law_size" 44 ["book","tree"]
 g_42:FX K mg "_law_counts" 45 ["book","tree"]
 g_43:FX K mg "_law_sum" 46 ["pattern","kids"]
 g_44:FX K mg "_law_parts" 47 ["tree","numbers"]
 g_45:FX K mg "_law_part" 48 ["pattern","table","numbers"]
 g_46:FX K mg "_law_told" 51 ["book","wish"]
 g_47:FX K mg "_law_knots" 52 ["tree"]
 g_48:FX K mg "_law_from" 53 ["book","wish"]
 g_49:FX K mg "law" 54 ["script"]
 e_Ways:V6
 x_Ways:mg "Ways"=A? (.ref e_Ways)
 cl_Ways:Cls K e_Ways
 g_14:FM K e_Ways "__init__" "Ways.__init__" (inClass (top 24) 0) ["self","kind","patterns","row"]
 g_15:FM K e_Ways "add_way" "Ways.add_way" (inClass (top 24) 1) ["self","state","part","needs"]
 g_16:FM K e_Ways "all_bits" "Ways.all_bits" (inClass (top 24) 2) ["self"]
 g_17:FM K e_Ways "take_note" "Ways.take_note" (inClass (top 24) 3) ["self","note"]
 g_18:FM K e_Ways "rows_with" "Ways.rows_with" (inClass (top 24) 4) ["self","last","sizes"]
 g_19:FM K e_Ways "note_by" "Ways.note_by" (inClass (top 24) 5) ["self","bits","states"]
 mi_Ways:PySem.W.makesIn K e_Ways=Bq/\YW K (.ref e_Ways)=Bq
 na_Ways_kind_name:NoAttr K e_Ways "kind_name"
 na_Ways_pairs:NoAttr K e_Ways "pairs"
 na_Ways_needing:NoAttr K e_Ways "needing"
 na_Ways_agreeing:NoAttr K e_Ways "agreeing"
 e_Table:V6
 x_Table:mg "Table"=A? (.ref e_Table)
 cl_Table:Cls K e_Table
 g_20:FM K e_Table "__init__" "Table.__init__" (inClass (top 25) 0) ["self","book","row"]
 g_21:FM K e_Table "enter" "Table.enter" (inClass (top 25) 1) ["self","ways","bits","knots","kids"]
 g_22:FM K e_Table "settle" "Table.settle" (inClass (top 25) 2) ["self","entry"]
 g_23:FMT K e_Table "fill" "Table.fill" (inClass (top 25) 3) ["self"]
 mi_Table:PySem.W.makesIn K e_Table=Bq/\YW K (.ref e_Table)=Bq
 na_Table_states:NoAttr K e_Table "states"
 na_Table_ways:NoAttr K e_Table "ways"
 na_Table_found:NoAttr K e_Table "found"
 na_Table_settled:NoAttr K e_Table "settled"
 n_0:mg "all"=B?
 n_1:mg "enumerate"=B?
 n_2:mg "len"=B?
 n_3:mg "list"=B?
 n_4:mg "max"=B?
 n_5:mg "min"=B?
 n_6:mg "range"=B?
 n_7:mg "reversed"=B?
 n_8:mg "sum"=B?
 n_9:mg "tuple"=B?
 n_10:mg "zip"=B?
theorem TX.X_Many(T:TX K mg):vc K T.e_Many:=⟨T.xe_Many,T.xg_Many,T.xh_Many,T.xc_Many,T.xo_Many,T.xb_Many⟩
theorem zb:ND ["kid","done"]:=by decide +kernel
theorem yB:ND ["kid","fresh"]:=by decide +kernel
theorem xn:ND ["kid"]:=by decide +kernel
theorem yM:ND ["kid","self"]:=by decide +kernel
theorem nK:ND ["knots","note","tree"]:=by decide +kernel
theorem y8:ND ["patterns","at"]:=by decide +kernel
theorem yt:ND ["note","entry","done"]:=by decide +kernel
theorem wO:ND ["state","kid","wished","note"]:=by decide +kernel
theorem yb:ND ["one"]:=by decide +kernel
theorem uF:ND ["pair"]:=by decide +kernel
theorem vY:ND ["part","kids"]:=by decide +kernel
theorem ww:ND ["kid","book"]:=by decide +kernel
theorem vT:ND ["row","kids","at"]:=by decide +kernel
theorem mY:ND ["part"]:=by decide +kernel
theorem wu:ND ["entry"]:=by decide +kernel
theorem xO:ND ["part","table","numbers"]:=by decide +kernel
section
variable(T:TX K mg)
inductive lL(vs:List V)(H:Hp)(Q:VK)(_E:XK):Prop
 |mk (a:V6) (t:Th):vs=[.ref a]->At H t a->(∀(r:V6)(as:List V6)(H':Hp),j! H H'->H' r=A? (.tup (as.map k!))->Ats H' t.kids as->Q (.ref r) H')->lL  vs H Q _E
theorem qe:bp P w K mg base CX0 1 T.g_0.f T.g_0.d ["thing"] lL:=by
 refine T.g_0.F.okA pW λzh A outer s H vs Q E hr h=>?_;obtain⟨a,t,rfl,hA,k⟩:=h
 refine⟨_,(ad (bL (aH cN (aw ay (pv 0) ae (λ_ _=>rfl)) (nB (v:=.str (Wb "?")) rfl T.c_CALL_SIGN.choose_spec ⟨_,D?⟩) (aN _)) (ak (aE (aW af))) aY)
  (ak (aE (bd cQ (pv 0) (bv ae) bH)))),?_⟩
 try dsimp only[zB,ze]
 cases t with
 | knot n ks =>
   rw[At]at hA;refine hid λZZ kZ=>?_;obtain⟨hn,as,h1,h2⟩:=hA;refine kZ ?_;refine⟨_,D?,a,_,0,.str n,D?,D?,i! h1,at0,D?,_,D?,?_⟩;refine fu (λc=>g! (e! c) (λz=>hn (V.str.inj z))) (λ_=>?_);refine⟨_,D?,1,D?,a,_,D?,i! h1,?_,λr hr=>?_⟩
   .intro z;have:=z.1;simp[q!]at this
   .rw[cg];exact k r as _ (ao hr _) ac (h2.mono (iA hr))
 | call sn kn =>
   rw[At]at hA;refine⟨_,D?,a,_,0,.str q,D?,D?,i! hA,at0,D?,_,D?,?_⟩;refine fu (λ_=>?_) (λc=>g! (d! rfl) c);refine⟨by show 0<=WD;decide,λr hr=>?_⟩;exact k r [] _ (ao hr _) ac .nil
inductive mn(vs:List V)(H:Hp)(Q:VK)(_E:XK):Prop
 |mk (a:V6) (t:Th):vs=[.ref a]->At H t a->t.size<=100000->(∀(r:V6)(as:List V6)(H':Hp),j! H H'->H r=B?->H' r=A? (.lst (as.map k!))->Ats H' t.walk as->Q (.ref r) H')->mn  vs H Q _E
theorem rN:bp P w K mg base CX0 2 T.g_1.f T.g_1.d ["thing"] mn:=by
 refine T.g_1.F.okA gQ λzh A outer s H vs Q E hr h=>?_;obtain⟨a,t,rfl,hA,hsz,k⟩:=h
 refine⟨_,(ad (am 1 gQ.nd (bV af))
  (ad (am 2 gQ.nd (bV (aa (pv 0) af)))
  (ad (ja WX (cr (pv 2) (λ_=>rfl)) (ad (am 3 gQ.nd (ku WG Zd Zc kD (pv 2)))
  (ad (aX (cC WG WV WU bi (pv 1) (aa (pv 3) af)))
  (ak (aX (cC WG PySem.F.slot_list_extend PySem.F.type_list_extend ql (pv 2) (aa (uR wP (pcF T.g_0 (qe T) hr (aa (pv 3) af))) af)))))))
  (ak (aE (pv 1)))))),?_⟩
 try dsimp only[zB,ze]
 refine⟨by show 0<=WD;decide,λmt Ji=>?_⟩;refine⟨_,D?,by show 1<=WD;decide,λah Ei=>?_⟩;have Ld:H ah=none:=(ao Ji _).free Ei;have zp:ah≠mt:=λz=>by rw[z,ac]at Ei;cases Ei
 refine⟨λm σ H2=>Ex5 λ(ms as:List V6)(Ms As:List Th)(p:Option V)=>An8 (σ=[A? (.ref a),A? (.ref mt),A? (.ref ah),p]) (j! H H2) (H2 mt=A? (.lst (ms.map k!))) (H2 ah=A? (.lst (as.map k!))) (Ats H2 Ms ms) (Ats H2 As as) (Ms++walks As.reverse=t.walk) (m=aq As),⟨_,[],[a],[],[t],B?,D?,?_,?_,?_,.nil,.cons (hA.mono ?_) .nil,?_,D?⟩,?_⟩
 .exact aM (ao Ji _) Ld
 .rw[aj zp.symm,ac];rfl
 .rw[ac];rfl
 .exact n! (aM (ao Ji _) Ld)
 .simp[walks]
 rintro m σ H2 ⟨ms,as,Ms,As,p,rfl,sm,e1,e2,a1,a2,hw,rfl⟩
 have hlen:ms.length+aq As<=100000:=by
  have h1:=h! XG hw;rw[Wk,jr,Th.walk_len,<-a1.length]at h1;have h2:=mT As;lia
 refine⟨_,D?,_,.inl ⟨_,l! e2,D?⟩,?_⟩;refine fu (λc=>?_) (λc=>?_)
 ·-- a part is taken off
  refine⟨λi' H'=>∃m',m'<aq As/\Ex5 λ(ms as:List V6)(Ms As:List Th)(p:Option V)=>An8 (i'=[A? (.ref a),A? (.ref mt),A? (.ref ah),p]) (j! H H') (H' mt=A? (.lst (ms.map k!))) (H' ah=A? (.lst (as.map k!))) (Ats H' Ms ms) (Ats H' As as) (Ms++walks As.reverse=t.walk) (m'=aq As),λi' H' h=>h,?_⟩;have Bd:as≠[]:=by intro z;subst z;simp at c
  obtain⟨zE,b,rfl⟩:∃zE b,as=zE++[b]:=⟨as.dropLast,as.getLast Bd,(Yr Bd).symm⟩;obtain⟨Us,x,rfl,a3,a4⟩:=a2.snoc_inv;have hs:aq (Us++[x])=aq Us+x.size:=by rw[cn,aq,aq];lia
  have Hm:=x.size_eq;rw[hs]at hlen;refine⟨_,D?,.inl ⟨D?,_,l! e2⟩,ah,_,.ref b,D?,D?,e2,by simp,?_⟩;have d1:((zE++[b]).map k!).dropLast=zE.map k!:=by simp
  rw[d1];refine⟨_,D?,.inl ⟨D?,_,l! (by rw[aj zp.symm];exact e1)⟩,_,D?,mt,_,.ref b,D?,D?,by rw[aj zp.symm];exact e1,lbE (by lia),?_⟩;have k1:KT H2 (upd (upd H2 ah (.lst (zE.map k!))) mt (.lst (ms.map k!++[.ref b]))):=(cL e2).trans (cL (xs:=ms.map k!) (by rw[aj zp.symm];exact e1));refine⟨_,D?,.inl ⟨D?,_,l! (by rw[aj zp,ac])⟩,_,D?,b,x,D?,a4.mono k1,λr ks H3 s3 e3 a5=>?_⟩;refine⟨r,_,D?,i! e3,λl hl=>?_⟩;have l1:l≠ah:=λz=>by rw[z,s3 ah _ (by rw[aj zp,ac])]at hl;cases hl
  have l2:l≠mt:=λz=>by rw[z,s3 mt _ ac]at hl;cases hl
  refine⟨ah,l,_,_,D?,D?,by rw[aj l1.symm];exact s3 ah _ (by rw[aj zp,ac]),i! ac,Yi (aZ ?_),?_⟩
  .have q1:=a3.length;have q2:=a5.length;have q3:=du Us;have q4:=du x.kids;rw[V2,YS,V2];lia
  .have k2:KT H2 (upd (upd H3 l (.tup (ks.map k!).reverse)) ah (.lst (zE.map k!++(ks.map k!).reverse))) :=
    k1.trans ((n! s3).trans ((iA hl).trans (cL (xs:=zE.map k!) (by rw[aj l1.symm];exact s3 ah _ (by rw[aj zp,ac])))))
   have k3:KT H3 (upd (upd H3 l (.tup (ks.map k!).reverse)) ah (.lst (zE.map k!++(ks.map k!).reverse))) :=
    (iA hl).trans (cL (xs:=zE.map k!) (by rw[aj l1.symm];exact s3 ah _ (by rw[aj zp,ac])))
   refine⟨aq (Us++x.kids.reverse),?_,ms++[b],zE++ks.reverse,Ms++[x],Us++x.kids.reverse,A? (.ref b),D?,?_,?_,?_,?_,?_,?_,D?⟩
   .rw[cn,mT,hs];lia
   .have s4:j! H (upd (upd H2 ah (.lst (zE.map k!))) mt (.lst (ms.map k!++[.ref b]))):=aM (aM sm Ld) Ji;have nl:H l=none:=s4.free (s3.free hl);exact aM (aM (s4.trans s3) nl) Ld
   .rw[aj zp.symm,aj l2.symm,s3 mt _ ac,WB];rfl
   .rw[ac,WB,List.map_reverse]
   .exact(a1.mono k2).append (.cons (a4.mono k2) .nil)
   .exact(a3.mono k2).append (a5.mono k3).reverse
   .rw[<-hw,YN,Yw,Yw,YM,jl];show Ms++([x]++(walks x.kids++walks Us.reverse))=Ms++walks (x::Us.reverse);rw[walks,x.walk_eq];rfl
 .have hz:as=[]:=by
   cases as with
   |nil=>rfl
   |cons y ys=>simp at c
  subst hz;have Su:As=[]:=Yo.mp a2.length.symm;subst Su;refine⟨_,D?,k mt ms H2 sm Ji e1 ?_⟩;have Bm:Ms=t.walk:=by simpa[walks]using hw
  rw[<-Bm];exact a1
inductive lJ(vs:List V)(H:Hp)(Q:VK)(_E:XK):Prop
 |mk (a:V6) (t:Th):vs=[.ref a]->At H t a->Q (.bl t.isCall) H->lJ  vs H Q _E
theorem ko:bp P w K mg base CX0 1 T.g_2.f T.g_2.d ["thing"] lJ:=by
 refine T.g_2.F.okA pM λzh A outer s H vs Q E hr h=>?_;obtain⟨a,t,rfl,hA,k⟩:=h;refine⟨_,(ak (aE (gL cN (aw ay (pv 0) ae (λ_ _=>rfl)) (nB (v:=.str (Wb "?")) rfl T.c_CALL_SIGN.choose_spec ⟨_,D?⟩) (aN _)))),?_⟩
 try dsimp only[zB,ze]
 cases t with
 | knot n ks =>
   rw[At]at hA;refine hid λZZ kZ=>?_;obtain⟨hn,as,h1,h2⟩:=hA;refine kZ ?_;refine⟨_,D?,a,_,0,.str n,D?,D?,i! h1,at0,D?,?_⟩;have e:decide (B! n=B! (Wb "?"))=false:=c! (λz=>hn (V.str.inj z));rw[e];exact k
 | call sn kn =>
   rw[At]at hA;refine⟨_,D?,a,_,0,.str q,D?,D?,i! hA,at0,D?,?_⟩;have e:decide (B! q=B! (Wb "?"))=true:=d! rfl;rw[e];exact k
inductive iS(vs:List V)(H:Hp)(Q:VK)(_E:XK):Prop
 |mk (a:V6) (sn kn:Int):vs=[.ref a]->At H (.call sn kn) a->(∀p,H p=B?->Q (.ref p) (upd H p (.tup [.int sn,.int kn])))->iS  vs H Q _E
theorem iP:bp P w K mg base CX0 1 T.g_3.f T.g_3.d ["call"] iS:=by
 refine T.g_3.F.okA no λzh A outer s H vs Q E hr h=>?_;obtain⟨a,sn,kn,rfl,hA,k⟩:=h;refine⟨_,(ak (aE (aW (aa (aw ay (pv 0) ae (λ_ _=>rfl)) (aa (aw ay (pv 0) ae (λ_ _=>rfl)) af))))),?_⟩
 try dsimp only[zB,ze]
 rw[At]at hA;exact⟨_,D?,a,_,1,_,D?,D?,i! hA,at1,_,D?,a,_,2,_,D?,D?,i! hA,at2,lnE rfl,λp hp=>k p hp⟩
inductive m8(vs:List V)(H:Hp)(Q:VK)(_E:XK):Prop
 |mk (b:V6) (v1 v2 v3 v4:V):vs=[.ref b]->H b=A? (.tup [v1,v2,v3,v4])->Q v1 H->m8  vs H Q _E
inductive jU(vs:List V)(H:Hp)(Q:VK)(_E:XK):Prop
 |mk (b:V6) (v1 v2 v3 v4:V):vs=[.ref b]->H b=A? (.tup [v1,v2,v3,v4])->Q v4 H->jU  vs H Q _E
theorem ss:bp P w K mg base CX0 1 T.g_4.f T.g_4.d ["book"] m8:=by
 refine T.g_4.F.okA rQ λzh A outer s H vs Q E hr h=>?_;obtain⟨b,v1,v2,v3,v4,rfl,e,q⟩:=h;refine⟨_,(ak (aE (aw ay (pv 0) ae (λ_ _=>rfl)))),?_⟩
 try dsimp only[zB,ze]
 exact⟨_,D?,b,_,0,v1,D?,D?,i! e,at0,q⟩
theorem jT:bp P w K mg base CX0 1 T.g_6.f T.g_6.d ["book"] jU:=by
 refine T.g_6.F.okA o7 λzh A outer s H vs Q E hr h=>?_;obtain⟨b,v1,v2,v3,v4,rfl,e,q⟩:=h;refine⟨_,(ak (aE (aw ay (pv 0) ae (λ_ _=>rfl)))),?_⟩
 try dsimp only[zB,ze]
 exact⟨_,D?,b,_,3,v4,D?,D?,i! e,br (j:=3) rfl,q⟩
inductive i4(vs:List V)(H:Hp)(Q:VK)(_E:XK):Prop
 |mk (b:V6) (v1 v2 v3:V) (ra:V6) (xs:List V):vs=[.ref b]->H b=A? (.tup [v1,v2,v3,.ref ra])->H ra=A? (.tup xs)->Q (.int xs.length) H->i4  vs H Q _E
theorem nE:bp P w K mg base CX0 2 T.g_7.f T.g_7.d ["book"] i4:=by
 refine T.g_7.F.okA nk λzh A outer s H vs Q E hr h=>?_;obtain⟨b,v1,v2,v3,ra,xs,rfl,e,e2,q⟩:=h;refine⟨_,(ak (aE (aB aA rfl T.n_2 WW (aa (pcF T.g_6 (jT T) hr (aa (pv 0) af)) af)))),?_⟩
 try dsimp only[zB,ze]
 exact⟨_,D?,b,_,_,_,_,D?,e,ra,_,D?,.inr (i! e2),q⟩
inductive kO(vs:List V)(H:Hp)(Q:VK)(_E:XK):Prop
 |mk (b:V6) (v1 v2 v3 v4:V):vs=[.ref b]->H b=A? (.tup [v1,v2,v3,v4])->Q v3 H->kO  vs H Q _E
theorem qv:bp P w K mg base CX0 1 T.g_5.f T.g_5.d ["book"] kO:=by
 refine T.g_5.F.okA pT λzh A outer s H vs Q E hr h=>?_;obtain⟨b,v1,v2,v3,v4,rfl,e,q⟩:=h;refine⟨_,(ak (aE (aw ay (pv 0) ae (λ_ _=>rfl)))),?_⟩
 try dsimp only[zB,ze]
 exact⟨_,D?,b,_,2,v3,D?,D?,i! e,br (j:=2) rfl,q⟩
def nV(i:Nat):V:=.int (i:Nat)
theorem kz(n:WE)(ids:List Nat):(dJ (n,ids)).map kV=B! n::ids.map nV:=by
 unfold dJ;rw[WH,WR];rfl
theorem iI{F:α->β->Prop}:∀{a:List α}{b:List β},WL F a b->WL (λy x=>F x y) b a
 |_,_,.nil=>.nil
 |_,_,.cons h t=>.cons h (iI t)
inductive lA(vs:List V)(H:Hp)(Q:VK)(_E:XK):Prop
 |mk (ea la na:V6) (as:List V6) (t:Th) (E0:List (WE×List Nat)) (T0:List Th) (MV:List (List Key×V)) (g:Int->Int->Th) (All:List Th):vs=[.ref ea,.ref la,.ref na]->H ea=A? (.dT (kvsOf E0))->Cl E0 T0->(∀e∈E0,e.2.length<=100000)->H la=A? (.lst (as.map k!))->Ats H t.walk as->H na=A? (.dT MV)->na≠ea->(∀s k,r! s k∈t.walk->∃j:Nat,bz MV (ky (s,k))=A? (.int (j:Nat))/\T0[j]?=A? (g s k))->t.size<=100000->(∀u∈T0,u∈All)->(∀n ks,p! n ks∈t.walk->(p! n ks).fill g∈All)->All.length<=900000->(∀(E:List (WE×List Nat))(Ts:List Th)(at':Nat)(H':Hp),(∀b o,b≠ea->H b=A? o->H' b=A? o)->H' ea=A? (.dT (kvsOf E))->Cl E Ts->T0 <+: Ts->(∀u∈Ts,u∈All)->Ts[at']?=A? (t.fill g)->(∀e∈E,e.2.length<=100000)->Q (.int (at':Nat)) H')->lA  vs H Q _E
theorem pG:bp P w K mg base CX0 2 T.g_8.f T.g_8.d ["entries","parts","numbers"] lA:=by
 refine T.g_8.F.okA fN λzh A outer s H vs Q E hr h=>?_;obtain⟨ea,la,na,as,t,E0,T0,MV,g,All,rfl,ee,Gg,MW,el,hw,B7,Bd,Ae,hsz,Jj,MX,Sv,q⟩:=h
 refine⟨_,(ad (am 3 fN.nd (bV af))
  (ad (bA WX rfl (xy rfl T.n_7 (pv 1)) (pgN 4 fN.nd) (ak (bL (cr (pcF T.g_2 (ko T) hr (aa (pv 4) af)) (λ_=>rfl)) (ak (aX (cC WG WV WU bi (pv 3) (aa (fH (cK hr) (pv 2) (pcF T.g_3 (iP T) hr (aa (pv 4) af)) (λ_ _=>rfl)) af)))) (ad (dN (i:=5) (N:=["kid","done"]) (js:=[B?,A? 3]) (g:=(au 0)) (tt:=aQ) (te:=(yq K "list" (yx) (bu 1))) fN.nd rfl (Or.inl rfl) rfl (bK rfl (by decide +kernel) (by decide +kernel) rfl rfl rfl) (cf (bd cQ (pv 4) (bv ae) bH)) (λ_ _ _ _ _ _=>(pgN 0 zb)) (aD rfl) (λ_ _ _ _ _ _=>aU) (λ_ _ _ _ _ _=>(ku WG Zd Zc kD (pv 1))))
  (ak (aX (cC WG WV WU bi (pv 3) (aa (cC PySem.F.plainAttrs_dict Z9 PySem.F.type_dict_setdefault (ip (cK hr)) (pv 0) (aa (ax dO (bd rH (pv 4) bH (bv ae)) (bT bc rfl T.n_9 Xh (aa (pv 5) af))) (aa (aB gJ rfl T.n_2 WW (aa (pv 0) af)) af))) af))))))))
  (ak (aE (aw aS (pv 3) ae (λ_ _=>rfl)))))),?_⟩
 try dsimp only[zB,ze]
 have Ay:as.length=t.walk.length:=hw.length;have Cc:=t.walk_len;obtain⟨AW,hok⟩:=vE g t;obtain⟨zw,BX⟩:∃zw,zw=t.walk.map (db g):=⟨_,rfl⟩;rw[<-BX]at AW hok;have zq:zw.length=t.walk.length:=by rw[BX,V2]
 refine⟨lnE rfl,λdn Co=>?_⟩;have Hr:dn≠ea:=λz=>by rw[z,ee]at Co;cases Co
 have EG:la≠ea:=aF el ee (by intro z;cases z);refine⟨_,D?,la,_,D?,l! (ao Co _ _ _ el),?_⟩
 refine vI (K:=K) (a:=la) (xs:=as.map k!) (λi σ H2=>Ex5 λc4 c5 ds E Ts=>An9 (σ=[A? (.ref ea),A? (.ref la),A? (.ref na),A? (.ref dn),c4,c5]) ((∀b o,b≠ea->H b=A? o->H2 b=A? o)) (H2 ea=A? (.dT (kvsOf E))) (H2 dn=A? (.lst (ds.map nV))) (Cl E Ts) (WL (λu id=>Ts[id]?=A? u) (bl (zw.drop (zw.length - i))).reverse ds) (T0 <+: Ts) ((∀u∈Ts,u∈All)) (∀e∈E,e.2.length<=100000))
  ⟨B?,B?,[],E0,T0,rfl,λb o hb e=>ao Co _ _ _ e,by rw[aj Hr.symm];exact ee,ac,Gg,by rw[Nat.sub_zero,List.drop_length];exact .nil,List.prefix_rfl,Jj,MW⟩ (λi σ H2 _⟨_,_,_,_,_,_,s2,_,_,_,_,_,_,_⟩=>l! (s2 _ _ EG el)) ?_ ?_
 .rintro i y σ H2 hi hy ⟨c4,c5,ds,E,Ts,rfl,s2,e2,EN,zm,AU,Al,AK,Gh⟩
  have Le:E.length<=900000:=by
   rw[zm.len];exact Xa (fz zm.nd AK) Sv
  rw[V2,Ay,<-zq]at hi hy;refine hid λZZ kZ=>?_;obtain⟨pa,rfl,B5⟩:=cB hy;obtain⟨p,hp,MY⟩:=hw.get B5;have MZ:KT H H2:=λb xs e=>s2 b _ (aF e ee (by intro z;cases z)) e;have Ej:=MY.mono MZ;have hn:zw.length - 1 - i<zw.length:=by lia
  have hx:zw[zw.length - 1 - i]?=A? (db g p):=by rw[BX,V7,<-BX,hp];rfl
  have Hs:zw.drop (zw.length - 1 - i)=db g p::zw.drop (zw.length - i):=by
   rw[List.drop_eq_getElem_cons hn,show zw.length - 1 - i+1=zw.length - i by lia];congr 1;rw[V4 hn]at hx;exact Wi hx
  have EO:=hok.drop (zw.length - 1 - i);rw[Hs]at EO;have DX:zw.length - (i+1)=zw.length - 1 - i:=by lia
  have Ml:(bl (zw.drop (zw.length - i))).length<=100000:=by
   have:=pJ (zw.drop (zw.length - i));rw[Xm]at this;lia
  obtain⟨S',Lf⟩:=uP g t (i:=zw.length - 1 - i) hp;refine kZ ?_;rw[<-BX,Hs]at Lf;generalize zw.drop (zw.length - i)=S at Hs AU EO Ml Lf;cases p with
  | call sn kn =>
    obtain⟨j,Fs,Eh⟩:=Ae sn kn (V5 hp)
    have Sw:Ts[j]?=A? (g sn kn):=by
     obtain⟨r,rfl⟩:=Al;rw[WS (glE Eh)];exact Eh
    have M0:=s2 _ _ Bd B7;refine⟨_,D?,pa,.call sn kn,D?,Ej,Bq,D?,?_⟩;refine de ?_;have Sy:=EN;refine⟨_,D?,.inl ⟨D?,_,l! EN⟩,_,D?,_,D?,pa,sn,kn,D?,Ej,λp3 Be=>?_⟩;refine gU Be λH3 s3 e3=>?_;have e3:H3 p3=A? (.tup ((ky (sn,kn)).map kV)):=e3;have hg:DGet H3 na (.ref p3) (A? (.int (j:Nat))):=by have:=O! (s3 _ _ M0) e3;rw[Fs]at this;exact this
    refine⟨na,_,D?,hg,dn,_,_,D?,D?,s3 _ _ EN,aZ (by rw[V2];have:=Wx AU;rw[YS]at this;lia),?_⟩;refine⟨_,_,ds++[j],E,Ts,D?,λb o hb e=>?_,?_,?_,zm,?_,Al,AK,Gh⟩
    .rw[aj (av e Co)];exact s3 _ _ (s2 b o hb e)
    .rw[aj Hr.symm];exact s3 _ _ e2
    .rw[ac,WB];rfl
    .rw[DX,Hs,db,bl,Xx];exact v! AU (.cons Sw .nil)
  |knot n ts =>
  rw[db,TopsOk]at EO;have Jk:=Ej;rw[At]at Jk;refine hid λZZ kZ=>?_;obtain⟨Jl,CY,Dl,M1⟩:=Jk;have Cp:CY.length=ts.length:=M1.length;obtain⟨m,hm⟩:∃m,m=ts.length:=⟨_,rfl⟩;refine kZ ?_;rw[<-hm]at EO Cp;have Gi:bl (db g (.knot n ts)::S)=.knot n ((bl S).take m)::(bl S).drop m:=by rw[db,bl,<-hm]
  refine⟨_,D?,pa,.knot n ts,D?,Ej,C?,D?,?_⟩;refine da ?_;refine⟨_,D?,1,D?,pa,_,D?,i! Dl,?_,λp2 zG=>?_⟩
  .rintro⟨z,_⟩;rw[Wq,show(1:Int)=((1:Nat):Int)by rfl,w!]at z;lia
  dsimp only;rw[cg];refine gU zG λH3 s3 e3=>?_;have ER:=s3 _ _ EN;have M3:p2≠dn:=aF e3 ER (by intro z;cases z);refine⟨p2,D?,⟨_,i! e3⟩,λD hD=>?_⟩;have CV:D≠dn:=λz=>by rw[z,ER]at hD;cases hD
  refine⟨m,λj H4=>An3 (j<=m) ((∀b o,H3 b=A? o->b≠dn->H4 b=A? o)) (Ex2 λ(Ek ks:List Nat)=>An4 (H4 dn=A? (.lst (Ek.map nV))) (H4 D=A? (.lst (ks.map nV))) (WL (λu id=>Ts[id]?=A? u) ((bl S).drop j).reverse Ek) (WL (λu id=>Ts[id]?=A? u) ((bl S).take j) ks)),
   ⟨WY _,λb o e hb=>?_,ds,[],?_,?_,?_,?_⟩,?_⟩
  .rw[aj (av e hD)];exact e
  .rw[aj CV.symm];exact ER
  .rw[ac];rfl
  .rw[ZR];exact AU
  .rw[Yj];exact .nil
  rintro j H4 ⟨hj,kp,Ek,ks,ed,eD,Ft,hd2⟩;have DY:=kp _ _ e3 M3;by_cases MS:j=m
  .left;refine⟨⟨_,i! DY,by rw[V2];lia⟩,?_⟩;subst MS;have M4:=kp _ _ (s3 _ _ Dl) (aF (s3 _ _ Dl) ER (by intro z;cases z));have PJ:=kp _ _ (s3 _ _ e2) Hr.symm;have zZ:((bl S).take j).length=ks.length:=Wx hd2;have Dh:((bl S).drop j).reverse.length=Ek.length:=Wx Ft;rw[W9]at zZ;rw[YS,Xm]at Dh;refine⟨_,D?,.inl ⟨D?,_,l! ed⟩,_,D?,.inr (.inr (.inl ⟨D?,.inr ⟨_,PJ⟩⟩)),_,D?,1,D?,pa,_,D?,M4,λp3 H5 s5 e5=>?_⟩;rw[qV]at e5;refine⟨_,D?,D,_,D?,.inl ⟨l! (s5 _ _ eD),λp4 Fu=>?_⟩⟩;refine gU Fu λH6 s6 e6=>?_;refine oy (s6 _ _ e5) e6 (by rw[V2];show 1+ks.length<=1000000;lia) λp5 H7 s7 e7=>?_;have ES:=s5.trans (s6.trans s7);have M5:=ES _ _ PJ;have PK:=ES _ _ ed;have Vy:E.length<1000000:=by lia
   have PL:∀b o,b≠ea->H b=A? o->H7 b=A? o:=λb o hb e=>ES _ _ (kp b o (s3 _ _ (s2 b o hb e)) (av e Co));refine⟨_,D?,ea,_,D?,M5,ea,p5,_,dJ (n,ks),kvsOf E,D?,D?,M5,by rw[kz];exact e7,aZ (by rw[fq];lia),λu hu=>?_,λAu=>?_⟩
   .obtain⟨i0,rfl,M6⟩:=kR hu;have Lg:=zm.found M6 (iI hd2);refine⟨dn,_,_,D?,D?,PK,lbE (by lia),?_⟩;refine⟨_,_,Ek++[i0],E,Ts,D?,λb o hb e=>?_,?_,?_,zm,?_,Al,AK,Gh⟩
    .rw[aj (av e Co)];exact PL b o hb e
    .rw[aj Hr.symm];exact M5
    .rw[ac,WB];rfl
    .rw[DX,Hs,Gi,Xx];exact v! Ft (.cons Lg .nil)
   .obtain⟨ET,CZ⟩:=iC Au;rw[fq,CZ];have M7:=zm.snoc ET (iI hd2)
    have up:∀(u:Th)(id:Nat),Ts[id]?=A? u->(Ts++[p! n ((bl S).take j)])[id]?=A? u:=λu id h=>by
     rw[WS (glE h)];exact h
    refine⟨dn,_,_,D?,D?,by rw[aj Hr];exact PK,lbE (by lia),?_⟩
    refine⟨_,_,Ek++[E.length],E++[(n,ks)],Ts++[.knot n ((bl S).take j)],D?,λb o hb e=>?_,?_,?_,M7,?_,Al.trans (List.prefix_append _ _),λu hu=>?_,λe he=>by
     rcases Wm.mp he with he|he
     .exact Gh e he
     .rw[We.mp he];show ks.length<=100000;lia⟩
    .rw[aj (av e Co),aj hb];exact PL b o hb e
    .rw[aj Hr.symm,ac]
    .rw[ac,WB];rfl
    .rw[DX,Hs,Gi,Xx];refine v! (t! up Ft) (.cons ?_ .nil);rw[zm.len];simp
    .rcases Wm.mp hu with hu|hu
     .exact AK u hu
     .rw[We.mp hu];rw[Gi]at Lf;rw[(ZY Lf).1];exact MX n ts (V5 hp)
  .right;have Fp:j<m:=by lia
   refine⟨Fp,⟨_,_,i! DY,V4 (by rw[V2];lia)⟩,?_⟩;rintro x' H5 ⟨e1,_⟩;have Ce:H5=H4:=e1;subst Ce;have PM:j<(bl S).length:=by lia
   have Sz:(bl S).drop j=(bl S)[j]::(bl S).drop (j+1):=List.drop_eq_getElem_cons PM;rw[Sz,Xx]at Ft
   have zp:Ek≠[]:=by
    intro z;subst z;have:=Wx Ft;rw[Wk]at this;simp at this
   refine hid λZZ kZ=>?_;obtain⟨Ht,b,rfl⟩:∃Ht b,Ek=Ht++[b]:=⟨Ek.dropLast,Ek.getLast zp,(Yr zp).symm⟩;obtain⟨Us,x2,SD,hU,hb2⟩:=P2.snoc_inv Ft;obtain⟨e5,e6⟩:=List.append_inj' SD rfl;refine kZ ?_;cases e6;subst e5;have zx:((bl S).take j).length=ks.length:=Wx hd2;rw[W9]at zx;refine⟨_,D?,.inl ⟨D?,_,l! ed⟩,dn,_,nV b,D?,D?,ed,by simp,?_⟩;have d1:((Ht++[b]).map nV).dropLast=Ht.map nV:=by simp
   rw[d1];have SE:(upd H5 dn (.lst (Ht.map nV))) D=A? (.lst (ks.map nV)):=by rw[aj CV];exact eD
   refine⟨_,SE,lbE (by lia),Fp,λb' o e zJ=>?_,Ht,ks++[b],?_,?_,hU,?_⟩
   .rw[aj (av e hD),aj zJ];exact kp b' o e zJ
   .rw[aj CV.symm,ac]
   .rw[ac,WB];rfl
   .rw[X4,V4 PM];exact v! hd2 (.cons hb2 .nil)
 .rintro σ H2 ⟨c4,c5,ds,E,Ts,rfl,s2,e2,EN,zm,AU,Al,AK,Gh⟩;rw[V2,Ay,<-zq,Y3,ZR,AW]at AU
  obtain⟨at',rfl,zY⟩:∃at',ds=[at']/\Ts[at']?=A? (t.fill g):=by
   have M8:WL (λu id=>Ts[id]?=A? u) [t.fill g] ds:=AU;cases M8 with
   |cons a b=>cases b;exact⟨_,D?,a⟩
  refine⟨_,D?,dn,_,0,.int (at':Nat),D?,D?,l! EN,at0,q E Ts at' H2 s2 e2 zm Al AK zY Gh⟩
def EnA(H:Hp)(e:WE×List Nat)(b:V6):Prop:=H b=A? (.tup (.str e.1::e.2.map nV))
theorem iG{F:α->β->Prop}{a:List α}{b:List β}(h:WL F a b){x:α}{y:β}(hx:a[i]?=A? x)(hy:b[i]?=A? y):F x y:=by
 obtain⟨y',h1,h2⟩:=u! h hx;rw[hy]at h1;cases h1;exact h2
theorem rb{F:α->β->Prop}{c:α}{l2:List α}:∀{l1:List α}{ks:List β},WL F (l1++c::l2) ks->∃k1 kc k2,ks=k1++kc::k2/\WL F l1 k1/\F c kc/\WL F l2 k2
 | [],_,.cons h t=>⟨[],_,_,rfl,.nil,h,t⟩
 | x::l1,_,.cons h t=>by
   refine hid λZZ kZ=>?_;obtain⟨k1,kc,k2,e,h1,h2,h3⟩:=rb t;refine kZ ?_;exact⟨_::k1,kc,k2,by rw[e];rfl,.cons h h1,h2,h3⟩
theorem xU{F:α->β->Prop}:∀{a:List α},(∀x∈a,∃y,F x y)->∃b,WL F a b
 | [],_=>⟨[],.nil⟩
 | x::a,h=>by
   obtain⟨y,hy⟩:=h x (Wj ..);obtain⟨b,hb⟩:=xU λz hz=>h z (Wo _ hz);exact⟨y::b,.cons hy hb⟩
theorem oB{F:α->β->Prop}{a:List α}{b:List β}(h:WL F a b){y:β}(hy:y∈b):∃x∈a,F x y:=by
 refine hid λZZ kZ=>?_;obtain⟨i,hi⟩:=Wg.mp hy;obtain⟨x,hx,hf⟩:=E! h hi;refine kZ ?_;exact⟨x,V5 hx,hf⟩
theorem tw{F:α->β->Prop}{a:List α}{b:List β}(h:WL F a b){x:α}(hx:x∈a):∃y∈b,F x y:=by
 refine hid λZZ kZ=>?_;obtain⟨i,hi⟩:=Wg.mp hx;obtain⟨y,hy,hf⟩:=u! h hi;refine kZ ?_;exact⟨y,V5 hy,hf⟩
theorem pD:∀{l:List Nat}{N:Nat},l.Pairwise (· > ·)->(∀a∈l,a<N)->l.length<=N
 | [],_,_,_=>WY _
 | a::l,N,h,hN=>by
   obtain⟨h1,h2⟩:=List.pairwise_cons.mp h;have:=pD h2 h1;have:=hN a (Wj ..);rw[Wq];lia
def qC(as:List Nat):Nat:=match as.getLast? with|none=>0 |some a=>a+1
theorem mW(as:List Nat)(a:Nat):qC (as++[a])=a+1:=by
 unfold qC;rw[List.getLast?_concat]
theorem vJ{as:List Nat}{N:Nat}(h:∀a∈as,a<N):qC as<=N:=by
 unfold qC;cases e:as.getLast? with
 |none=>exact WY _
 |some a=>exact h a (List.mem_of_getLast? e)
inductive jR(vs:List V)(H:Hp)(Q:VK)(_E:XK):Prop
 |mk (ra:V6) (at':Nat) (bs:List V6) (E:List (WE×List Nat)) (Ts:List Th) (t:Th):vs=[.ref ra,.int (at':Nat)]->H ra=A? (.lst (bs.map k!))->WL (EnA H) E bs->Cl E Ts->Ts[at']?=A? t->E.length<=900000->(∀e∈E,e.2.length<=100000)->(∀(r tp:V6)(cs:List V6)(To:List (WE×List Nat))(ix:Nat)(H':Hp),j! H H'->H' r=A? (.tup [.ref tp,.int (ix:Nat)])->H' tp=A? (.tup (cs.map k!))->WL (EnA H') To cs->Cl To (post t [])->(post t [])[ix]?=A? t->Q (.ref r) H')->jR  vs H Q _E
theorem oj:bp P w K mg base CX0 1 T.g_9.f T.g_9.d ["row","at"] jR:=by
 refine T.g_9.F.okA cT λzh A outer s H vs Q E hr h=>?_;obtain⟨ra,at',bs,E,Ts,t,rfl,era,Lh,zm,zY,Le,SF,q⟩:=h
 refine⟨_,(ad (am 2 cT.nd kB)
  (ad (am 3 cT.nd (bV af))
  (ad (am 4 cT.nd (bV (aa (pv 1) af)))
  (ad (ja WX (cr (pv 4) (λ_=>rfl)) (ad (am 5 cT.nd (aw aS (pv 0) (aw aS (pv 4) (oA nh ae) (λ_ _=>rfl)) (λ_ _=>rfl)))
  (ad (dN (i:=6) (N:=["kid","fresh"]) (js:=[B?,A? 2]) (g:=(au 0)) (tt:=(tB (qF (bu 0) (bu 1)))) (te:=(bu 0)) cT.nd rfl (Or.inl rfl) rfl (bK rfl (by decide +kernel) (by decide +kernel) rfl rfl rfl) (cf (bd cQ (pv 5) (bv ae) bH)) (λ_ _ _ _ _ _=>(pgN 0 yB)) (aD rfl) (λ_ _ _ _ _ _=>i8 (lu (fh (cK hr) (pv 0) (pv 1)))) (λ_ _ _ _ _ _=>(pv 0)))
  (ak (bL (cr (pv 6) (λ_=>rfl)) (ak (aX (cC WG WV WU bi (pv 4) (aa (aw aS (pv 6) ae (λ_ _=>rfl)) af)))) (ad (gR (cK hr) (pv 2) (ku WG Zd Zc kD (pv 4)) (aB aA rfl T.n_2 WW (aa (pv 3) af)) rfl)
  (ak (aX (cC WG WV WU bi (pv 3) (aa (ax dO (bd rH (pv 5) bH (bv ae)) (bT bc rfl T.n_9 Xh (aa (be (N:=["kid","fresh"]) (js:=[B?,A? 2]) (g:=(au 0)) (tt:=aQ) (te:=(v9 (bu 1) (bu 0))) rfl (bK rfl (by decide +kernel) (by decide +kernel) rfl rfl rfl) (cf (bd cQ (pv 5) (bv ae) bH)) (λ_ _ _ _ _ _=>(pgN 0 yB)) (aD rfl) (λ_ _ _ _ _ _=>aU) (λ_ _ _ _ _ _=>(fH (cK hr) (pv 1) (pv 0) (λ_ _=>rfl)))) af))) af))))))))))
  (ak (aE (aW (aa (bT bc rfl T.n_9 Xh (aa (pv 3) af)) (aa (fH (cK hr) (pv 2) (pv 1) (λ_ _=>rfl)) af))))))))),?_⟩
 try dsimp only[zB,ze]
 have AW:E.length=bs.length:=Wx Lh;intro fr EJ;dsimp only[au];refine gU EJ λH1 s1 e1=>?_;have e1:H1 fr=A? (.dK (fkv [])):=e1;refine⟨lnE rfl,λtl zq=>?_⟩;have s2:j! H1 (upd H1 tl (.lst [])):=ao zq _;have e2:(upd H1 tl (.lst [])) tl=A? (.lst (([]:List V6).map k!)):=ac;have M9:H tl=none:=s1.free zq;have PN:fr≠tl:=λz=>by rw[<-z,e1]at zq;cases zq
 generalize(upd H1 tl (.lst []))=H2 at s2 e2 |-;refine⟨_,D?,lnE rfl,λah Ei=>?_⟩;have s3:j! H2 (upd H2 ah (.lst [.int (at':Nat)])):=ao Ei _;have e3:(upd H2 ah (.lst [.int (at':Nat)])) ah=A? (.lst ([at'].map nV)):=ac;have Jm:H ah=none:=(s1.trans s2).free Ei;have M':fr≠ah:=λz=>by rw[<-z,s2 _ _ e1]at Ei;cases Ei
 have A':tl≠ah:=λz=>by rw[<-z,e2]at Ei;cases Ei
 generalize(upd H2 ah (.lst [.int (at':Nat)]))=H3 at s3 e3 |-;have BF:=s1.trans (s2.trans s3);refine⟨λm σ H4=>Ex8 λ(as FI:List Nat)(xs L:List Th)(To:List (WE×List Nat))(cs:List V6)(c5 c6:Option V)=>xD (σ=[A? (.ref ra),A? (.int (at':Nat)),A? (.ref fr),A? (.ref tl),A? (.ref ah),c5,c6]) (j! H H4) (H4 fr=A? (.dK (fkv FI))) (H4 tl=A? (.lst (cs.map k!))) (H4 ah=A? (.lst (as.map nV))) (WL (EnA H4) To cs) (Cl To L) (WL (λid u=>Ts[id]?=A? u) FI L) (WL (λid u=>Ts[id]?=A? u) as xs) (BB.finish xs.reverse L=post t []) (bZ L) ((∀x∈xs,x∉L)) (as.Pairwise (· > ·)) (m=unt E.length FI * (E.length+1)+qC as),⟨_,[at'],[],[t],[],[],[],B?,B?,D?,BF,s3 _ _ (s2 _ _ e1),s3 _ _ e2,e3,.nil,⟨D?,YE,λi e h=>by simp at h⟩,.nil,.cons zY .nil,D?,λu hu=>by(cases hu),λu _ hu=>by(cases hu),List.pairwise_singleton ..,rfl⟩,?_⟩;rintro m σ H4 ⟨as,FI,xs,L,To,cs,c5,c6,rfl,s4,El,Na,Nb,Em,Eo,Dm,Hm,zX,Li,zt,Jn,rfl⟩;have SG:To.length=cs.length:=Wx Em;have SH:FI.length=L.length:=Wx Dm;have Lj:=Eo.len;refine⟨_,D?,_,.inl ⟨_,l! Nb,D?⟩,?_⟩;refine fu (λcc=>?_) (λcc=>?_)
 .refine ⟨λi' H'=>∃m',m'<unt E.length FI * (E.length+1)+qC as/\Ex8 λ(as FI:List Nat)(xs L:List Th)(To:List (WE×List Nat))(cs:List V6)(c5 c6:Option V)=>xD (i'=[A? (.ref ra),A? (.int (at':Nat)),A? (.ref fr),A? (.ref tl),A? (.ref ah),c5,c6]) (j! H H') (H' fr=A? (.dK (fkv FI))) (H' tl=A? (.lst (cs.map k!))) (H' ah=A? (.lst (as.map nV))) (WL (EnA H') To cs) (Cl To L) (WL (λid u=>Ts[id]?=A? u) FI L) (WL (λid u=>Ts[id]?=A? u) as xs) (BB.finish xs.reverse L=post t []) (bZ L) ((∀x∈xs,x∉L)) (as.Pairwise (· > ·)) (m'=unt E.length FI * (E.length+1)+qC as),λi' H' h=>h,?_⟩;have Bd:as≠[]:=by intro z;subst z;simp at cc
  refine hid λZZ kZ=>?_;obtain⟨zE,a,rfl⟩:∃zE a,as=zE++[a]:=⟨as.dropLast,as.getLast Bd,(Yr Bd).symm⟩
  obtain⟨Jo,x,rfl,Jp,Jq⟩:∃Jo x,xs=Jo++[x]/\WL (λid u=>Ts[id]?=A? u) zE Jo/\Ts[a]?=A? x:=by
   obtain⟨us,v,e1,h1,h2⟩:=P2.snoc_inv (iI Hm |> λh=>(show WL (λu id=>Ts[id]?=A? u) xs (zE++[a])from h));exact⟨us,v,e1,iI h1,h2⟩
  rw[Yw,Y5,Zf,BB.finish]at zX;have PQ:a<E.length:=by rw[zm.len];exact(glE Jq)
  have Jr:∀p∈zE++[a],p<E.length:=λp hp=>by
   obtain⟨u,_,hu⟩:=tw Hm hp;rw[zm.len];exact(glE hu)
  obtain⟨e,Nc⟩:∃e,E[a]?=A? e:=⟨_,V4 PQ⟩;obtain⟨n,ids⟩:=e;obtain⟨kids,Nf,C2⟩:=zm.ent a _ Nc;dsimp only at Nf C2;rw[Jq]at Nf;have Lk:x=.knot n kids:=Wi Nf;have Gj:=SF _ (V5 Nc);dsimp only at Gj;obtain⟨b,hb,SI⟩:=u! Lh Nc;refine kZ ?_;have eb:H4 b=A? (.tup (.str n::ids.map nV)):=s4 _ _ SI;have Ng:x∉L:=zt x (WK _ (Wj ..))
  have z9:∀id u,Ts[id]?=A? u->(id∈FI↔u∈L):=λid u hu=>by
   constructor
   .intro h;obtain⟨y,hy,hf⟩:=tw Dm h;rw[hu]at hf;cases hf;exact hy
   .intro h;obtain⟨j,hj,hf⟩:=oB Dm h;rw[dq zm.nd hu hf];exact hj
  have Fv:atI ((zE++[a]).map nV) (-1)=A? (nV a):=by
   rw[WB];exact uy _ _
  refine⟨_,D?,_,D?,1,D?,ah,_,_,nV a,D?,D?,l! Nb,Fv,ra,_,_,.ref b,D?,D?,l! (s4 _ _ era),at_nonneg (by lia) (by rw[Wl,V7,hb];rfl),?_⟩;dsimp only[au];refine⟨_,D?,1,D?,b,_,D?,i! eb,?_,λp2 zG=>?_⟩
  .rintro⟨z,_⟩;rw[Wq,show(1:Int)=((1:Nat):Int)by rfl,w!]at z;lia
  dsimp only;rw[cg];refine gU zG λH5 s5 e5=>?_;have Nh:=s5 _ _ El;refine⟨p2,D?,⟨_,i! e5⟩,eR ids (λid=>decide (id∉FI)) nV (i! e5) (by rw[V2]) (by rw[V2];lia) (λi y z Hx R hy hz sx r=>?_) (λi y z Hx R hy hz _ sx r=>?_) (λD hD=>?_)⟩
  .rw[V7,hz]at hy;cases hy;refine⟨_,D?,_,D?,fr,_,D?,DGet.k (k:=WQ ((z:Nat):Int)) (sx _ _ Nh),_,D?,?_⟩;rw[qm];have:(!decide (z∈FI))=decide (z∉FI):=by by_cases h:z∈FI <;> simp[h]
   rw[this];exact r
  .rw[V7,hz]at hy;cases hy;exact⟨_,D?,r⟩
  refine gU hD λH6 s6 e6=>?_;have Ba:=s5.trans s6;have C3:=Ba _ _ Nb;refine⟨_,D?,_,.inl ⟨_,l! e6,D?⟩,?_⟩;refine fu (λc1=>?_) (λc1=>?_)
  .refine hid λZZ kZ=>?_
   obtain⟨c,Fw,Js⟩:∃c Fw,(ids.filter λid=>decide (id∉FI))=c::Fw:=by
    cases hf:(ids.filter λid=>decide (id∉FI))with
    |nil=>rw[hf]at c1;cases c1
    |cons c r=>exact⟨c,r,D?⟩
   obtain⟨pre,rest,DW,Al,SJ,_⟩:=List.filter_eq_cons_iff.mp Js;have Ni:c∉FI:=e! SJ;rw[DW]at C2;obtain⟨k1,kc,k2,Jt,AZ,⟨Ep,PR⟩,zx⟩:=rb C2;refine kZ ?_;rw[Js]at e6;refine⟨_,D?,.inl ⟨D?,_,l! C3⟩,_,D?,D,_,0,nV c,D?,D?,l! e6,at0,ah,_,_,D?,D?,C3,aZ ?_,?_⟩
   .rw[V2];have:=pD Jn Jr;lia
   have BE:∀u∈k1,u∈L:=λu hu=>by
    obtain⟨id,hid,hf⟩:=oB AZ hu;have h1:id∈FI:=Decidable.byContradiction λz=>Al id hid (d! z);exact(z9 id u hf.2).mp h1
   have Nj:kc∉L:=λz=>Ni ((z9 c kc PR).mpr z);have s7:j! H (upd H6 ah (.lst ((zE++[a]).map nV++[nV c]))):=aM (s4.trans Ba) Jm;refine⟨_,?_,zE++[a]++[c],FI,Jo++[x]++[kc],L,To,cs,_,_,D?,s7,by rw[aj M'];exact Ba _ _ El,by rw[aj A'];exact Ba _ _ Na,by rw[ac,WB (l₂:=[c])];rfl,t! (λe' b' h'=>?_) Em,Eo,Dm,v! Hm (.cons PR .nil),?_,Li,?_,?_,D?⟩
   .rw[mW,mW];lia
   .have G':H6 b'=A? (.tup (.str e'.1::e'.2.map nV)):=Ba _ _ h';show(upd H6 ah _) b'=_;rw[aj (aF G' C3 (by intro z;cases z))];exact G'
   .rw[Yw,Y5,Zf,BB.finish,Yw,Y5,Zf,BB.finish];rw[<-zX];congr 1;rw[<-sS Li Eo.nd (t:=x) (c:=kc) (pre:=k1) (rest:=k2) (by rw[Lk];exact Jt) BE]
   .intro y hy;rcases Wm.mp hy with hy|hy
    .exact zt y hy
    .rw[We.mp hy];exact Nj
   .rw[Zp];refine⟨Jn,List.pairwise_singleton ..,λp hp r hr=>?_⟩;rw[We.mp hr];rcases Wm.mp hp with hp|hp
    .have:=(Zp.mp Jn).2.2 p hp a (Wj ..);lia
    .rw[We.mp hp];exact Ep
  .have zc:∀id∈ids,id∈FI:=λid hid=>Decidable.byContradiction λz=>by
    have hm:id∈ids.filter λid=>decide (id∉FI):=X7.mpr ⟨hid,d! z⟩;cases hf:(ids.filter λid=>decide (id∉FI))with
    |nil=>rw[hf]at hm;cases hm
    |cons c r=>rw[hf]at c1;exact c1 rfl
   have SK:∀u∈kids,u∈L:=λu hu=>by
    obtain⟨id,hid,hf⟩:=oB C2 hu;exact(z9 id u hf.2).mp (zc id hid)
   have Nk:a∉FI:=λz=>Ng ((z9 a x Jq).mp z);have CC:post x L=L++[x]:=sf Li (by rw[Lk];exact SK) Ng;refine hid λZZ kZ=>?_;obtain⟨_,Ju,_,_⟩:=g7 x Li Eo.nd;rw[CC]at Ju zX;obtain⟨js,Er⟩:∃js,WL (λid j=>FI[j]?=A? id) ids js:=xU λid hid=>Wg.mp (zc id hid);refine kZ ?_;have Dg:ids.length=js.length:=Wx Er
   have Vz:FI.length<=900000:=by
    have h1:=fz Eo.nd (m:=Ts) λu hu=>by
     obtain⟨id,_,hid⟩:=oB Dm hu;exact V5 hid
    have h2:=Wx Dm;have h3:=zm.len;lia
   have Jv:=Ba _ _ Na;have Nl:=Ba _ _ El;refine⟨_,D?,tl,_,D?,.inl (l! Jv),_,D?,_,D?,.inl ⟨D?,_,l! C3⟩,ah,_,nV a,D?,D?,C3,by simp,?_⟩;have d1:((zE++[a]).map nV).dropLast=zE.map nV:=by simp
   rw[d1];have Gk:(upd H6 ah (.lst (zE.map nV))) fr=A? (.dK (fkv FI)):=by rw[aj M'];exact Nl
   have Jw:(upd H6 ah (.lst (zE.map nV))) ah=A? (.lst (zE.map nV)):=ac;have Jx:(upd H6 ah (.lst (zE.map nV))) tl=A? (.lst (cs.map k!)):=by rw[aj A'];exact Jv
   have s7:j! H (upd H6 ah (.lst (zE.map nV))):=aM (s4.trans Ba) Jm;have k7:KT H4 (upd H6 ah (.lst (zE.map nV))):=(n! Ba).trans (cL C3);generalize(upd H6 ah (.lst (zE.map nV)))=H7 at Gk Jw Jx s7 k7 |-;refine⟨fr,_,D?,DPut.k (k:=WQ ((a:Nat):Int)) Gk (aZ (by rw[u5];lia)),?_⟩;rw[(jo (uN Nk)).2];have hv:o! ((cs.map k!).length:Nat)=o! (FI.length:Nat):=by rw[V2,<-SG,Lj,SH]
   rw[hv,<-tN];have Gm:(upd H7 fr (.dK (fkv (FI++[a])))) fr=A? (.dK (fkv (FI++[a]))):=ac;have Jy:(upd H7 fr (.dK (fkv (FI++[a])))) ah=A? (.lst (zE.map nV)):=by rw[aj M'.symm];exact Jw
   have Gn:(upd H7 fr (.dK (fkv (FI++[a])))) tl=A? (.lst (cs.map k!)):=by rw[aj PN.symm];exact Jx
   have s8:j! H (upd H7 fr (.dK (fkv (FI++[a])))):=aM s7 EJ;have k8:KT H7 (upd H7 fr (.dK (fkv (FI++[a])))):=λb' ys e=>by rw[aj (aF e Gk (by intro z;cases z))];exact e
   generalize(upd H7 fr (.dK (fkv (FI++[a]))))=H8 at Gm Jy Gn s8 k8 |-;have PU:=k7.trans k8;have PV:=PU _ _ eb;dsimp only;refine⟨_,D?,.inl ⟨D?,_,l! Gn⟩,_,D?,1,D?,b,_,D?,PV,λp3 H9 s9 e9=>?_⟩;rw[qV]at e9;have SM:=s9 _ _ PV;refine⟨_,D?,1,D?,b,_,D?,i! SM,?_,λp4 Fu=>?_⟩
   .rintro⟨z,_⟩;rw[Wq,show(1:Int)=((1:Nat):Int)by rfl,w!]at z;lia
   dsimp only;rw[cg];refine gU Fu λHA sA eA=>?_;have Nn:=(s9.trans sA) _ _ Gm;refine⟨p4,D?,⟨_,i! eA⟩,eR (ids.zip js) (λ_=>Bq) (λz=>nV z.2) (i! eA) (by rw[ZD,V2];lia) (by rw[V2];lia) (λi y z Hx R hy hz sx r=>r) (λi y z Hx R hy hz _ sx r=>?_) (λD2 Gp=>?_)⟩
   .obtain⟨h1,h2⟩:=X0.mp hz;rw[V7,h1]at hy;cases hy;have hF:=iG Er h1 h2
    have Gq:bz (fkv (FI++[a])) (WQ ((z.1:Nat):Int):Key)=A? (nV z.2):=by
     cases Jz:bz (fkv (FI++[a])) (WQ ((z.1:Nat):Int):Key)with
     | none =>
       have:=(jo Jz).1;exact g! (Wt _ (V5 hF)) this
     | some u =>
       obtain⟨j0,rfl,CD⟩:=iY Jz
       have Fs:j0<FI.length:=by
        rcases Nat.lt_or_ge j0 FI.length with h|h
        .exact h
        .rw[W4 h]at CD
         have h0:j0 - FI.length=0:=by
          have:=(glE CD);simp at this;lia
         rw[h0]at CD;have e0:a=z.1:=Wi CD;exact g! (e0 ▸ V5 hF) Nk
       rw[WS Fs]at CD;obtain⟨u1,SN,SO⟩:=u! Dm CD;obtain⟨u2,SQ,PX⟩:=u! Dm hF;rw[SO]at PX;cases PX;rw[dq Eo.nd SN SQ];rfl
    refine⟨_,D?,_,D?,fr,_,D?,?_,r⟩;rw[<-Gq];exact DGet.k (k:=WQ ((z.1:Nat):Int)) (sx _ _ Nn)
   rw[filter_tt]
   have SR:(ids.zip js).map (λz=>nV z.2)=js.map nV:=by
    have:(ids.zip js).map (λz=>nV z.2)=((ids.zip js).map (·.2)).map nV:=by rw[WR];rfl
    rw[this,List.map_snd_zip (by lia)]
   rw[SR];refine gU Gp λHB sB eB=>?_;refine⟨D2,_,D?,.inl ⟨l! eB,λp6 SS=>?_⟩⟩;refine gU SS λHC sC eC=>?_;have PY:=sA.trans (sB.trans sC);refine oy (PY _ _ e9) eC (by rw[V2];show 1+js.length<=1000000;lia) λp7 HD sD eD=>?_;have JA:=s9.trans (PY.trans sD);have JB:=JA _ _ Gn;refine⟨tl,_,_,D?,D?,JB,lbE (by lia),?_⟩;have kE:KT HD (upd HD tl (.lst (cs.map k!++[.ref p7]))):=cL JB
   have B6:WL (λj u=>L[j]?=A? u) js kids:=by
    refine di (by rw[<-Dg];exact Wx C2) λi j u hj hu=>?_;obtain⟨id,hid,Np⟩:=E! C2 hu;obtain⟨u',DM,Di⟩:=u! Dm (iG Er hid hj);rw[Np.2]at Di;cases Di;exact DM
   have Nq:(n,js)∉To:=λz=>by
    obtain⟨i,hi⟩:=Wg.mp z;have:=Eo.found hi B6;rw[<-Lk]at this;exact Ng (V5 this)
   have Cd:=Eo.snoc Nq B6;rw[<-Lk]at Cd;refine⟨_,?_,zE,FI++[a],Jo,L++[x],To++[(n,js)],cs++[p7],_,_,D?,aM (s8.trans JA) M9,by rw[aj PN];exact JA _ _ Gm,uAE,by rw[aj A'.symm];exact JA _ _ Jy,?_,Cd,v! Dm (.cons Jq .nil),Jp,zX,Ju,?_,(Zp.mp Jn).1,D?⟩
   .have h1:=xh (N:=E.length) (F:=FI) PQ Nk;have h2:=vJ (as:=zE) (N:=E.length) λp hp=>Jr p (Wt _ hp);have h3:(unt E.length (FI++[a])+1) * (E.length+1)<=unt E.length FI * (E.length+1):=YL _ h1;rw[Nat.add_mul,Nat.one_mul]at h3;lia
   .refine v! (t! (λe' b' h'=>?_) Em) (.cons ?_ .nil)
    .exact(PU.trans ((n! JA).trans kE)) _ _ h'
    .exact kE _ _ eD
   .intro y hy SU;rcases Wm.mp SU with h|h
    .exact zt y (Wt _ hy) h
    .rw[We.mp h]at hy;obtain⟨id,hid,hf⟩:=oB Jp hy;have:=dq zm.nd hf Jq;have:=(Zp.mp Jn).2.2 id hid a (Wj ..);lia
 .have hz:as=[]:=by
   cases as with
   |nil=>rfl
   |cons y ys=>simp at cc
  subst hz;have Nr:xs=[]:=Yo.mp (Wx Hm).symm;subst Nr;have hL:L=post t []:=zX;subst hL;refine hid λZZ kZ=>?_;obtain⟨_,_,_,SV⟩:=g7 t (L:=[]) (λu hu=>by cases hu) YE;obtain⟨ix,AN⟩:=Wg.mp SV;obtain⟨id,hid,JC⟩:=E! Dm AN;refine kZ ?_;have Nt:=dq zm.nd JC zY;subst Nt;refine⟨_,D?,tl,_,D?,.inl ⟨l! Na,λtp DZ=>?_⟩⟩;have s5:=ao DZ (.tup (cs.map k!))
  have Gq:bz (fkv FI) (WQ ((id:Nat):Int):Key)=A? (nV ix):=by
   cases Jz:bz (fkv FI) (WQ ((id:Nat):Int):Key)with
   |none=>exact g! (V5 hid) (jo Jz).1
   | some u =>
     obtain⟨j0,rfl,CD⟩:=iY Jz;obtain⟨u',DM,Di⟩:=u! Dm CD;rw[JC]at Di;cases Di;rw[dq Eo.nd DM AN];rfl
  refine⟨_,D?,_,D?,fr,nV ix,D?,?_,lnE rfl,λr Bn=>?_⟩
  .rw[<-Gq];exact DGet.k (k:=WQ ((id:Nat):Int)) (s5 _ _ El)
  have s6:=s5.trans (ao Bn (.tup [.ref tp,nV ix]));exact q r tp cs To ix _ (s4.trans s6) ac (ao Bn _ _ _ ac) (t! (λe' b' h'=>s6 _ _ h') Em) Eo AN
inductive hZ(vs:List V)(H:Hp)(Q:VK)(_E:XK):Prop
 |mk (a:V6) (t:Th):vs=[.ref a]->At H t a->(∀p∈t.walk,p.isCall=C?)->t.size<=100000->(∀(r tp:V6)(cs:List V6)(To:List (WE×List Nat))(ix:Nat)(H':Hp),j! H H'->H' r=A? (.tup [.ref tp,.int (ix:Nat)])->H' tp=A? (.tup (cs.map k!))->WL (EnA H') To cs->Cl To (post t [])->(post t [])[ix]?=A? t->Q (.ref r) H')->hZ  vs H Q _E
theorem nD:∀{ts:List Th}{as:List V6},WL (At H) ts as->Ats H ts as
 |_,_,.nil=>.nil
 |_,_,.cons h t=>.cons h (nD t)
theorem uw{E:List (WE×List Nat)}{bs:List V6}(h:WL (λ(kv:List Key×V)b=>H b=A? (.tup (kv.1.map kV))) (kvsOf E) bs):WL (EnA H) E bs:=by
 refine di (by rw[<-fq];exact Wx h) λj e b he hb=>?_
 have hk:(kvsOf E)[j]?=A? (dJ e,o! (j:Nat)):=by
  unfold kvsOf;rw[V7,List.getElem?_zipIdx,he];simp
 have:=iG h hk hb;dsimp only at this;rw[show e=(e.1,e.2)from rfl,kz]at this;exact this
theorem ii:bp P w K mg base CX0 3 T.g_10.f T.g_10.d ["tree"] hZ:=by
 refine T.g_10.F.okA eZ λzh A outer s H vs Q E hr h=>?_;obtain⟨a,t,rfl,hA,zt,hsz,q⟩:=h
 refine⟨_,(ad (am 1 eZ.nd d7)
  (ad (am 2 eZ.nd (pcF T.g_8 (pG T) hr (aa (pv 1) (aa (pcF T.g_1 (rN T) hr (aa (pv 0) af)) (aa d7 af)))))
  (ak (aE (pcF T.g_9 (oj T) hr (aa (bT (ll rfl) rfl T.n_3 PyProof.Rows.boot_list (aa (pv 1) af)) (aa (pv 2) af))))))),?_⟩
 try dsimp only[zB,ze]
 intro en Dj;dsimp only[au];refine gU Dj λH1 s1 e1=>?_;have e1:H1 en=A? (.dT (kvsOf [])):=e1;refine⟨_,D?,_,D?,a,t,D?,hA.mono (n! s1),hsz,λr as H2 s2 nr er hw=>?_⟩;intro nu Nu;dsimp only;refine gU Nu λH3 s3 e3=>?_;have PZ:=s2.trans s3;have zp:nu≠en:=λz=>by rw[z,s2 _ _ e1]at Nu;cases Nu
 refine⟨en,r,nu,as,t,[],[],[],r!,t.walk.map (·.fill r!),D?,PZ _ _ e1,⟨D?,YE,λi e h=>by simp at h⟩,(λe he=>by cases he),s3 _ _ er,hw.mono (n! s3),e3,zp,λs k hm=>(by have:=zt _ hm;cases this),hsz,(λu hu=>by cases hu),λn ks hm=>Wv.mpr ⟨_,hm,rfl⟩,by rw[V2,t.walk_len];lia,λE Ts at' H4 k4 e4 zm _ AK zY Gh=>?_⟩;rw[qX]at zY;have s4:j! H H4:=λb o e=>k4 b o (av e Dj) (PZ b o (s1 b o e));refine⟨_,D?,en,_,D?,e4,λl bs hl Lh=>?_⟩;dsimp only;refine gU hl λH5 s5 e5=>?_
 have Le:E.length<=900000:=by
  rw[zm.len];exact Xa (fz zm.nd AK) (by rw[V2,t.walk_len];lia)
 refine⟨_,D?,l,at',bs,E,Ts,t,D?,e5,t! (λe' b' h'=>s5 _ _ h') (uw Lh),zm,zY,Le,Gh,λr' tp cs To ix H6 s6 h1 h2 h3 h4 h5=>?_⟩;exact q r' tp cs To ix H6 (s4.trans (s5.trans s6)) h1 h2 h3 h4 h5
inductive jY(vs:List V)(H:Hp)(Q:VK)(_E:XK):Prop
 |mk (pa rt:V6) (n:Nat) (p u:Th) (cs:List V6) (To:List (WE×List Nat)) (Ls:List Th) (ar:WE->Nat):vs=[.ref pa,.ref rt,.int (n:Nat)]->At H p pa->H rt=A? (.tup (cs.map k!))->WL (EnA H) To cs->Cl To Ls->Ls[n]?=A? u->Ars ar p->(∀t∈Ls,Ars ar t)->p.size<=10000->(∀H',j! H H'->(∀g,p.fill g≠u)->Q .non H')->(∀(d:V6)(es:CLs)(H':Hp),j! H H'->H d=B?->H' d=A? (.dT (dE es))->jS Ls p u es->Q (.ref d) H')->jY  vs H Q _E
theorem jV:bp P w K mg base CX0 2 T.g_11.f T.g_11.d ["pattern","row","number"] jY:=by
 refine T.g_11.F.okA dD λzh A outer s H vs Q E hr h=>?_;obtain⟨pa,rt,n,p,u,cs,To,Ls,ar,rfl,hA,JD,Em,zm,hn,SW,SX,hsz,q1,q2⟩:=h
 refine⟨_,(ad (am 3 dD.nd d7)
  (ad (am 4 dD.nd (bV (aa (aW (aa (pv 0) (aa (pv 2) af))) af)))
  (ad (ja WX (cr (pv 4) (λ_=>rfl)) (ad (iB (ku WG Zd Zc kD (pv 4)) (bM rfl (az (pgN 5 dD.nd) (az (pgN 6 dD.nd) bg))))
  (ak (bL (cr (pcF T.g_2 (ko T) hr (aa (pv 5) af)) (λ_=>rfl)) (ak (bL (aH sZ (cC PySem.F.plainAttrs_dict Z9 PySem.F.type_dict_setdefault (ip (cK hr)) (pv 3) (aa (pcF T.g_3 (iP T) hr (aa (pv 5) af)) (aa (pv 6) af))) (pv 6) (aN _)) (ak (aE fP)) aY)) (ak (bL (aH sZ (aw ay (pv 5) ae (λ_ _=>rfl)) (aw ay (aw ay (pv 1) (pv 6) (λ_ _=>rfl)) ae (λ_ _=>rfl)) (aN _)) (ak (aE fP)) (ak (aX (cC WG PySem.F.slot_list_extend PySem.F.type_list_extend sJ (pv 4) (aa (qd rfl rfl T.n_3 rfl T.n_10 (aa (bd cQ (pv 5) (bv ae) bH) (aa (bd cQ (aw ay (pv 1) (pv 6) (λ_ _=>rfl)) (bv ae) bH) af))) af))))))))))
  (ak (aE (pv 3)))))),?_⟩
 try dsimp only[zB,ze]
 intro d hd;dsimp only[au];refine gU hd λH1 s1 e1=>?_;have e1:H1 d=A? (.dT (dE [])):=e1;refine⟨_,D?,_,D?,lnE rfl,λt0 Fx=>⟨lnE rfl,λal Ay=>?_⟩⟩;have CU:d≠al:=λz=>by rw[<-z,(ao Fx _) _ _ e1]at Ay;cases Ay
 have s2:j! H (upd (upd H1 t0 (.tup [.ref pa,.int (n:Nat)])) al (.lst [.ref t0])):=s1.trans ((ao Fx _).trans (ao Ay _));have P0:(upd (upd H1 t0 (.tup [.ref pa,.int (n:Nat)])) al (.lst [.ref t0])) d=A? (.dT (dE [])):=(ao Ay _) _ _ ((ao Fx _) _ _ e1);have Hu:(upd (upd H1 t0 (.tup [.ref pa,.int (n:Nat)])) al (.lst [.ref t0])) t0=A? (.tup [.ref pa,.int (n:Nat)]):=(ao Ay _) _ _ ac;have P1:(upd (upd H1 t0 (.tup [.ref pa,.int (n:Nat)])) al (.lst [.ref t0])) al=A? (.lst (([t0]:List V6).map k!)):=ac
 have JE:H al=none:=by
  cases z:H al with
  |none=>rfl
  |some o=>rw[(ao Fx _) _ _ (s1 _ _ z)]at Ay;cases Ay
 generalize(upd (upd H1 t0 (.tup [.ref pa,.int (n:Nat)])) al (.lst [.ref t0]))=H2 at s2 P0 Hu P1 |-
 refine⟨λm σ H3=>Ex5 λ(as:List V6)(As:List (Th×Nat))(es:CLs)(c5 c6:Option V)=>An8 (σ=[A? (.ref pa),A? (.ref rt),A? (.int (n:Nat)),A? (.ref d),A? (.ref al),c5,c6]) (j! H H3) (H3 al=A? (.lst (as.map k!))) (H3 d=A? (.dT (dE es))) (WL (NdAt H3) As as) (NeedI Ls p u es As) (es.length+aq (As.map (·.1))<=10000) (m=aq (As.map (·.1))),
  ⟨_,[t0],[(p,n)],[],B?,B?,D?,s2,P1,P0,.cons ⟨pa,Hu,hA.mono (n! s2)⟩ .nil,NeedI.start hn,?_,D?⟩,?_⟩
 .show 0+aq [p]<=10000;rw[aq,aq];lia
 rintro m σ H3 ⟨as,As,es,c5,c6,rfl,s3,ea,ed,Ll,hN,JF,rfl⟩;have hlen:As.length=as.length:=Wx Ll;have SY:=iF (As.map (·.1));rw[V2]at SY;refine⟨_,D?,_,.inl ⟨_,l! ea,D?⟩,?_⟩;refine fu (λc=>?_) (λc=>?_)
 .refine⟨_,λi' H' h=>h,?_⟩;have Bd:as≠[]:=by intro z;subst z;simp at c
  refine hid λZZ kZ=>?_;obtain⟨zE,b,rfl⟩:∃zE b,as=zE++[b]:=⟨as.dropLast,as.getLast Bd,(Yr Bd).symm⟩;obtain⟨JG,⟨part,w⟩,rfl,Nv,pb,eb,P4⟩:=P2.snoc_inv Ll;refine kZ ?_;dsimp only at eb P4;rw[WB,cn]at JF |-;have JH:aq ((([(part,w)]:List (Th×Nat))).map (·.1))=part.size:=by show aq [part]=_;rw[aq,aq];lia
  rw[JH]at JF |-;have AO:=part.size_eq;refine⟨_,D?,.inl ⟨D?,_,l! ea⟩,al,_,.ref b,D?,D?,ea,by simp,b,_,D?,i! ((aj (aF eb ea (λz=>nomatch z))).trans eb),D?,_,_,D?,_,_,D?,D?,?_⟩;dsimp only[au];have Ft:((zE++[b]).map k!).dropLast=zE.map k!:=by simp
  rw[Ft];have k4:KT H3 (upd H3 al (.lst (zE.map k!))):=cL ea;have s4:j! H (upd H3 al (.lst (zE.map k!))):=aM s3 JE;have C4:(upd H3 al (.lst (zE.map k!))) d=A? (.dT (dE es)):=(aj CU).trans ed;have Hv:(upd H3 al (.lst (zE.map k!))) al=A? (.lst (zE.map k!)):=ac;have VA:∀b,H b=B?->b≠al->b≠d->True:=λ_ _ _ _=>trivial;generalize(upd H3 al (.lst (zE.map k!)))=H4 at k4 s4 C4 Hv |-;have Fu:=P4.mono k4;have Nw:=t! (λa' b' h'=>NdAt.mono k4 h') Nv;refine⟨_,D?,pb,part,D?,Fu,_,D?,?_⟩;cases part with
  | call sn kn =>
    rw[show(r! sn kn).isCall=Bq from rfl];refine de ?_;refine⟨_,D?,.inr (.inr (.inl ⟨D?,.inr ⟨_,C4⟩⟩)),_,D?,pb,sn,kn,D?,Fu,λcc Ez=>⟨_,D?,?_⟩⟩;refine gU Ez λH5 s5 Nx=>?_;have Nx:H5 cc=A? (.tup ((ky (sn,kn)).map kV)):=Nx;have P5:=t! (λa' b' h'=>NdAt.mono (n! s5) h') Nw;have Ck:(dE es).length=es.length:=by unfold dE;rw[V2]
    refine⟨d,cc,.int (w:Nat),ky (sn,kn),dE es,D?,D?,s5 _ _ C4,Nx,aZ (by lia),λu' hu=>?_,λhu=>?_⟩
    .rw[i9]at hu;obtain⟨v,hv,rfl⟩:=WA.mp hu;refine⟨_,D?,D?,_,D?,?_⟩;by_cases z:v=(w:Int)
     .subst z;rw[d! rfl];refine da ⟨_,?_,zE,JG,es,_,_,rfl,s4.trans s5,s5 _ _ Hv,s5 _ _ C4,P5,hN.same hv,by lia,rfl⟩;lia
     .rw[c! (λy=>z (V.int.inj y))];refine de ?_;exact q1 _ (s4.trans s5) (hN.clash zm.nd hv z)
    .rw[i9]at hu
     have hv:dC es (sn,kn)=none:=by
      cases z:dC es (sn,kn)with
      |none=>rfl
      |some v=>rw[z]at hu;cases hu
     refine⟨_,D?,D?,_,D?,?_⟩;rw[d! rfl,nH];have k6:KT H5 (upd H5 d (.dT (dE (eE es (sn,kn) (w:Int))))):=λb xs e=>by rw[aj (aF e (s5 _ _ C4) (λz=>nomatch z))];exact e
     have VB:=oF es (sn,kn) (w:Int);refine da ⟨_,?_,zE,JG,eE es (sn,kn) (w:Int),_,_,rfl,aM (s4.trans s5) hd,(aj CU.symm).trans (s5 _ _ Hv),ac,t! (λa' b' h'=>NdAt.mono k6 h') P5,hN.put hv,by lia,rfl⟩;lia
  | knot nm ks =>
    rw[show(p! nm ks).isCall=C? from rfl];refine da ?_;have hw:=hN.ix (.knot nm ks,w) (by simp);dsimp only at hw;refine hid λZZ kZ=>?_;obtain⟨e0,Hf⟩:∃e0,To[w]?=A? e0:=⟨_,V4 (by rw[zm.len];exact hw)⟩;obtain⟨Ny,ids⟩:=e0;obtain⟨kids,Lm,JI⟩:=zm.ent w _ Hf;dsimp only at Lm JI;have C2:WL (λid u=>Ls[id]?=A? u) ids kids:=t! (λ_ _ h'=>h'.2) JI;obtain⟨ca,Ep,FZ⟩:=u! Em Hf;have S3:H ca=A? (.tup (.str Ny::ids.map nV)):=FZ;have JJ:=s4 _ _ S3;have JK:=s4 _ _ JD;rw[At]at Fu;obtain⟨Jl,Ao,P6,JL⟩:=Fu;refine kZ ?_;refine⟨_,D?,pb,_,0,.str nm,D?,D?,i! P6,at0,_,D?,_,D?,rt,_,(w:Int),.ref ca,D?,D?,i! JK,br (j:=w) (gmE Ep),ca,_,0,.str Ny,D?,D?,i! JJ,at0,D?,_,D?,?_⟩;by_cases BY:nm=Ny
    .subst BY;rw[d! rfl];refine da ?_
     have zZ:ks.length=kids.length:=by
      have Bc:=hN.sub (.knot nm ks,w) (by simp);have h1:=SW nm ks (Bc _ (by show _∈(p! nm ks).walk;rw[D!];exact Wj ..));have h2:=(SX _ (V5 Lm)).len;lia
     refine⟨_,D?,.inl ⟨D?,_,l! Hv⟩,?_⟩
     have hx:∀(x:V)(l:List V),¬(q! (x::l).length 0 (A? 1)=0/\q! (x::l).length (x::l).length B?=(x::l).length):=λx l z=>by
      have:=z.1;simp[q!]at this
     refine⟨_,D?,1,D?,pb,_,D?,i! P6,hx _ _,λr1 Nz=>?_⟩;rw[cg];refine gU Nz λH5 s5 NA=>?_;refine⟨_,D?,_,D?,rt,_,(w:Int),.ref ca,D?,D?,i! (s5 _ _ JK),br (j:=w) (gmE Ep),1,D?,ca,_,D?,i! (s5 _ _ JJ),hx _ _,λr2 S4=>?_⟩;rw[cg];refine gU S4 λH6 s6 Hw=>?_;refine⟨r1,r2,_,_,D?,i! (s6 _ _ NA),i! Hw,λl ts H7 s7 nl el Bf=>?_⟩;have ES:=s5.trans (s6.trans s7);have P7:=ES _ _ Hv;have VC:al≠l:=λz=>by rw[<-z,s6 _ _ (s5 _ _ Hv)]at nl;cases nl
     have zq:=Wx Bf;have P8:=JL.length;have Gj:ids.length=kids.length:=Wx C2;rw[ZD,V2,V2]at zq;have VD:=iF ks;refine⟨al,l,_,_,D?,D?,P7,el,Yi (aZ ?_),?_⟩
     .have h1:=iF (JG.map (·.1));rw[V2]at h1;have h2:JG.length=zE.length:=Wx Nw;have h3:(p! nm ks).size=aq ks+1:=by rw[K!]
      rw[V2,V2];lia
     have k8:KT H7 (upd H7 al (.lst (zE.map k!++ts.map k!))):=cL P7;have hz:aq ((ks.zip ids).map (·.1))=aq ks:=mM ks ids (by lia);have h3:(p! nm ks).size=aq ks+1:=by rw[K!]
     refine⟨_,?_,zE++ts,JG++ks.zip ids,es,_,_,D?,aM (s4.trans ES) JE,by rw[ac,WB],(aj CU).trans (ES _ _ C4),v! (t! (λa' b' h'=>NdAt.mono ((n! ES).trans k8) h') Nw) (di (by rw[ZD];lia) λj a b ha hb=>?_),hN.knot Lm C2 zZ,?_,D?⟩
     .rw[WB,cn,hz];lia
     .refine hid λZZ kZ=>?_;obtain⟨t1,i1⟩:=a;obtain⟨h4,h5⟩:=X0.mp ha;obtain⟨ka,Av,S5⟩:=JL.at h4;refine kZ ?_;refine⟨ka,k8 _ _ ?_,S5.mono ((n! ES).trans k8)⟩;exact iG Bf (x:=(k! ka,nV i1)) (X0.mpr ⟨by rw[V7,Av];rfl,by rw[V7,h5];rfl⟩) hb
     .rw[WB,cn,hz];lia
    .rw[c! (λy=>BY (V.str.inj y))];refine de ?_;exact q1 _ s4 (hN.other Lm BY)
 .have has:as=[]:=by
   cases as with
   |nil=>rfl
   |cons b as=>simp at c
  subst has
  have S6:As=[]:=by
   cases As with
   |nil=>rfl
   |cons a As=>simp at hlen
  subst S6;exact⟨_,D?,q2 d es H3 s3 hd ed hN.done⟩
inductive fg(vs:List V)(H:Hp)(Q:VK)(_E:XK):Prop
 |mk (d ka:V6) (b n:Int) (ks:List Nat) (D:List Cand):vs=[.ref d,.int b,.int n,.ref ka]->dH H d D->(D.map (·.b)).Nodup->H ka=A? (.tup (ks.map nW))->D.length<1000000->(∀(H':Hp)(D':List Cand),SameB d H H'->dH H' d D'->Kept D ⟨b,n,ks⟩ D'->Q .non H')->fg  vs H Q _E
theorem ik:bp P w K mg base CX0 1 T.g_12.f T.g_12.d ["rows","bits","knots","kids"] fg:=by
 refine T.g_12.F.okA l4 λzh A outer s H vs Q E hr h=>?_;obtain⟨d,ka,b,n,ks,D,rfl,⟨kvs,ed,hD⟩,Bo,zQ,hl,q⟩:=h;refine⟨_,(ak (bL (PW.pt (rE (lu (fh (cK hr) (pv 1) (pv 0))) (nJ (aH gb (pv 2) (aw ay (fH (cK hr) (pv 0) (pv 1) (λ_ _=>rfl)) ae (λ_ _=>rfl)) (aN _))))) (ak (gR (cK hr) (pv 0) (pv 1) (aW (aa (pv 2) (aa (pv 3) af))) rfl)) aY)),?_⟩
 try dsimp only[zB,ze]
 have zZ:D.length=kvs.length:=Wx hD;have zV:=l8 hD
 have Ln:(kvs.map (·.1)).Nodup:=by
  rw[zV];have:=mD Bo;rw[WR]at this;exact this
 have put:∀D',(∀p,H p=B?->WL (RowE (upd (upd H p (.tup [.int n,.ref ka])) d (.dK (putK kvs (WQ b) (.ref p))))) D' (putK kvs (WQ b) (.ref p)))->Kept D ⟨b,n,ks⟩ D'->∀p,H p=B?->Q .non (upd (upd H p (.tup [.int n,.ref ka])) d (.dK (putK kvs (WQ b) (.ref p)))):=λD' h1 h2 p hp =>
  q _ D' (λc u hc e=>by rw[aj hc,aj (av e hp)];exact e) ⟨_,ac,h1 p hp⟩ h2
 have kt:∀p,H p=B?->KT H (upd (upd H p (.tup [.int n,.ref ka])) d (.dK (putK kvs (WQ b) (.ref p)))):=λp hp c xs e=>by
  rw[aj (aF e ed (λz=>nomatch z)),aj (av e hp)];exact e
 have ent:∀p,H p=B?->RowE (upd (upd H p (.tup [.int n,.ref ka])) d (.dK (putK kvs (WQ b) (.ref p)))) ⟨b,n,ks⟩ (WQ b,.ref p):=λp hp=>by
  have Hq:p≠d:=λz=>by rw[z,ed]at hp;cases hp
  exact⟨D?,p,ka,D?,(aj Hq).trans ac,kt p hp _ _ zQ⟩
 have pd:∀p,H p=B?->(upd H p (.tup [.int n,.ref ka])) d=A? (.dK kvs):=λp hp=>by rw[aj (av ed hp)];exact ed
 have z9:∀v,bz kvs (WQ b)=A? v->∃(i:Nat)(e:Cand),kvs[i]?=A? (WQ b,v)/\D[i]?=A? e/\e.b=b/\∃a Lo,v=.ref a/\H a=A? (.tup [.int e.n,.ref Lo]):=λv hv=>by
  obtain⟨i,hi⟩:=Wg.mp (nF hv);obtain⟨e,he,h1,a,Lo,h2,h3,_⟩:=E! hD hi;exact⟨i,e,hi,he,(Sum.inl.inj h1).symm,a,Lo,h2,h3⟩
 have CZ:(bz kvs (WQ b)=B?\/∃(i:Nat)(e:Cand)(v:V),kvs[i]?=A? (WQ b,v)/\D[i]?=A? e/\e.b=b/\n<=e.n)->∀p,H p=B?->Q .non (upd (upd H p (.tup [.int n,.ref ka])) d (.dK (putK kvs (WQ b) (.ref p)))):=λh p hp=>by
  rcases h with h|⟨i,e,v,h1,h2,h3,h4⟩
  .have hk:=lf h
   have hb:b∉D.map (·.b):=λz=>hk (by
    rw[zV];obtain⟨c,hc,e⟩:=Wv.mp z;exact Wv.mpr ⟨c,hc,by rw[e]⟩)
   refine put (D++[⟨b,n,ks⟩]) (λp hp=>?_) ⟨by rw[Wk];exact Wc _,λS hS=>hS.add hb⟩ p hp;have:=ent p hp;have k1:=kt p hp;rw[ow hk]at this k1 |-;exact v! (t! (λ_ _ h=>h.mono k1) hD) (.cons this .nil)
  .refine put (D.set i ⟨b,n,ks⟩) (λp hp=>?_) ⟨by rw[Yq];lia,λS hS=>hS.set h2 h3 h4⟩ p hp;have:=ent p hp;have k1:=kt p hp;rw[oJ Ln h1]at this k1 |-;exact wz (t! (λ_ _ h=>h.mono k1) hD) i this
 have done:(bz kvs (WQ b)=B?\/∃(i:Nat)(e:Cand)(v:V),kvs[i]?=A? (WQ b,v)/\D[i]?=A? e/\e.b=b/\n<=e.n)->∀p,H p=B?->∃a H4,k! d=.ref a/\DPut (upd H p (.tup [.int n,.ref ka])) a (.int b) (.ref p) H4/\Q .non H4:=λh p hp=>⟨d,_,rfl,DPut.k (k:=WQ b) (pd p hp) (aZ (by lia)),CZ h p hp⟩;refine⟨_,D?,_,D?,d,_,D?,DGet.k (k:=WQ b) ed,_,D?,?_⟩;cases hv:bz kvs (WQ b)with
 |none=>exact de (de ⟨_,rfl,_,rfl,lnE rfl,λp hp=>⟨_,rfl,_,rfl,done (.inl hv) p hp⟩⟩)
 | some v =>
   refine da ?_;refine hid λZZ kZ=>?_;obtain⟨i,e,h1,h2,h3,a,Lo,rfl,h4⟩:=z9 v hv;refine kZ ?_;refine⟨_,D?,_,D?,_,D?,d,_,D?,by rw[<-hv];exact DGet.k (k:=WQ b) ed,a,_,0,.int e.n,D?,D?,i! h4,at0,_,_,D?,D?,_,D?,?_⟩;by_cases zf:n<e.n
   .rw[d! zf];exact de ⟨_,rfl,_,rfl,lnE rfl,λp hp=>⟨_,rfl,_,rfl,done (.inr ⟨i,e,_,h1,h2,h3,by lia⟩) p hp⟩⟩
   .rw[c! zf];refine da (q H D SameB.refl ⟨kvs,ed,hD⟩ ⟨by lia,λS hS=>hS.keep (V5 h2) h3 (by show e.n<=n;lia)⟩)
inductive jC(vs:List V)(H:Hp)(Q:VK)(_E:XK):Prop
 |mk (d ag sz nl:V6) (A Z:List Int) (ns:List Nat) (D:List Cand):vs=[.ref d,.ref ag,.ref sz,.ref nl]->dH H d D->H ag=A? (.lst (A.map o!))->H sz=A? (.lst (Z.map o!))->H nl=A? (.lst (ns.map nW))->(∀n∈ns,n<A.length/\n<Z.length)->D.length * ns.length<=900000->(∀e∈D,e.ks.length<=10)->(∀(r:V6)(H':Hp)(D':List Cand),j! H H'->H r=B?->dH H' r D'->D'.length<=D.length * ns.length->Least (λx=>∃e∈D,∃n∈ns,x=e.ext A Z n) D'->Q (.ref r) H')->jC  vs H Q _E
theorem r8:bp P w K mg base CX0 2 T.g_13.f T.g_13.d ["rows","agreeing","sizes","numbers"] jC:=by
 refine T.g_13.F.okA dR λzh A outer s H vs Q E hr h=>?_;obtain⟨d,ag,sz,nl,A,Z,ns,D,rfl,⟨kvs,ed,hD⟩,P9,Hz,D0,AV,hlen,zV,q⟩:=h
 refine⟨_,(ad (am 4 dR.nd kB)
  (ad (gK (bA WX rfl (kC (pv 0)) (bM rfl (az (pgN 5 dR.nd) (az (bM rfl (az (pgN 6 dR.nd) (az (pgN 7 dR.nd) bg))) bg))) (ak (bA WX rfl (b9 (pv 3)) (pgN 8 dR.nd) (ak (aX (pcF T.g_12 (ik T) hr (aa (pv 4) (aa (ax pL (pv 5) (aw aS (pv 1) (pv 8) (λ_ _=>rfl))) (aa (ax bF (pv 6) (aw aS (pv 2) (pv 8) (λ_ _=>rfl))) (aa (ax dO (pv 7) (aW (aa (pv 8) af))) af)))))))))))
  (ak (aE (pv 4))))),?_⟩
 try dsimp only[zB,ze]
 intro td EU;dsimp only[au];refine gU EU λH1 s1 e1=>?_;have Fo:td≠d:=λz=>by rw[z,ed]at EU;cases EU
 have Dh:D.length=kvs.length:=Wx hD;have Qa:∀{H3:Hp},SameB d H H3->KT H H3:=λ{H3}s b xs e=>s b _ (aF e ed (λz=>nomatch z)) e;refine⟨_,D?,d,kvs,D?,s1 _ _ ed,λo=>?_⟩
 refine jI (a:=d) (o:=o) (kvs:=kvs) (λi σ H3=>Ex5 λ(c5 c6 c7 c8:Option V)(Dt:List Cand)=>An6 (σ=[A? (.ref d),A? (.ref ag),A? (.ref sz),A? (.ref nl),A? (.ref td),c5,c6,c7,c8]) (SameB d H H3) (H3 d=A? (.frz o (.dK kvs))) (dH H3 td Dt) (Dt.length<=i * ns.length) (Least (λx=>∃e∈D.take i,∃n∈ns,x=e.ext A Z n) Dt))
  ⟨B?,B?,B?,B?,[],rfl,λb u hb e=>by rw[aj hb];exact s1 _ _ e,ac,⟨[],(aj Fo).trans e1,.nil⟩,WY _,?_⟩ (λi σ H3 _⟨_,_,_,_,_,_,_,e,_,_,_⟩=>e) ?_ ?_
 .refine Least.nil.congr λc=>⟨λz=>z.elim,λ⟨e,he,_⟩=>?_⟩;rw[Yj]at he;cases he
 .rintro i kv p σ H3 Aa hp ⟨c5,c6,c7,c8,Dt,rfl,s3,Bg,⟨kt,NB,Gr⟩,Es,hle⟩;refine hid λZZ kZ=>?_;obtain⟨e,he,AZ,a,ka,zx,ea,zQ⟩:=E! hD Aa;have VE:i<kvs.length:=(glE Aa);obtain⟨k,v⟩:=kv;refine kZ ?_;dsimp only at AZ zx;subst AZ zx;refine gU hp λH4 s4 ep=>?_;have ep:H4 p=A? (.tup [.int e.b,.ref a]):=ep;have Et:SameB d H H4:=λb u hb z=>s4 _ _ (s3 b u hb z);refine⟨p,_,D?,i! ep,D?,_,_,D?,_,_,D?,⟨a,_,D?,i! (Qa Et _ _ ea),D?,_,_,D?,_,_,D?,D?,D?,?_⟩⟩;dsimp only[au];have EV:∀{b:V6}{xs:List V},H b=A? (.lst xs)->b≠d:=λe=>aF e ed (λz=>nomatch z)
  have hmul:i * ns.length+ns.length<=D.length * ns.length:=by
   rw[<-Nat.succ_mul];exact YL _ (by lia)
  refine⟨_,D?,nl,D?,⟨_,l! (Et _ _ (EV D0) D0)⟩,?_⟩
  refine fF (K:=K) (a:=nl) (xs:=ns.map nW) (λj σ H5=>Ex2 λ(c8:Option V)(Dt:List Cand)=>An6 (σ=[A? (.ref d),A? (.ref ag),A? (.ref sz),A? (.ref nl),A? (.ref td),A? (.int e.b),A? (.int e.n),A? (.ref ka),c8]) (SameB d H H5) (H5 d=A? (.frz o (.dK kvs))) (dH H5 td Dt) (Dt.length<=i * ns.length+j) (Least (λx=>(∃e∈D.take i,∃n∈ns,x=e.ext A Z n)\/∃n∈ns.take j,x=e.ext A Z n) Dt))
   ⟨c8,Dt,rfl,Et,s4 _ _ Bg,⟨kt,s4 _ _ NB,t! (λ_ _ h=>h.mono (n! s4)) Gr⟩,Es,hle.congr λc=>⟨.inl,λz=>z.elim id λ⟨n,hn,_⟩=>?_⟩⟩ (λj σ H5 _⟨_,_,_,z,_,_,_,_⟩=>l! (z _ _ (EV D0) D0)) ?_ ?_
  .rw[Yj]at hn;cases hn
  .rintro j x σ H5 hx ⟨c8,Dt,rfl,s5,NC,Gs,NF,EW⟩
   obtain⟨n,hn,rfl⟩:∃n,ns[j]?=A? n/\nW n=x:=by
    rw[V7]at hx;exact WA.mp hx
   have hj:j<ns.length:=(glE hn);obtain⟨S7,S8⟩:=AV n (V5 hn);have gA:A[n]?=A? (A.getD n 0):=by rw[Wu,V4 S7];rfl
   have gZ:Z[n]?=A? (Z.getD n 0):=by rw[Wu,V4 S8];rfl
   refine⟨_,D?,_,D?,_,D?,_,D?,ag,_,(n:Int),.int (A.getD n 0),D?,D?,l! (s5 _ _ (EV P9) P9),br (j:=n) (gmE gA),_,_,D?,D?,?_⟩;refine⟨_,D?,_,D?,_,D?,sz,_,(n:Int),.int (Z.getD n 0),D?,D?,l! (s5 _ _ (EV Hz) Hz),br (j:=n) (gmE gZ),_,_,D?,D?,?_⟩;have NG:=Qa s5 _ _ zQ
   have go:∀(r:V6)(H6:Hp),j! H5 H6->H6 r=A? (.tup ((e.ks++[n]).map nW))->fg [.ref td,.int (Xk e.b (A.getD n 0)),.int (e.n+Z.getD n 0),.ref r] H6 (λv H7=>Ex2 λ(c8:Option V)(Dt:List Cand)=>An6 ([A? (k! d),A? (.ref ag),A? (.ref sz),A? (.ref nl),A? (.ref td),A? (.int e.b),A? (.int e.n),A? (.ref ka),A? (nW n)]=[A? (.ref d),A? (.ref ag),A? (.ref sz),A? (.ref nl),A? (.ref td),A? (.int e.b),A? (.int e.n),A? (.ref ka),c8]) (SameB d H H7) (H7 d=A? (.frz o (.dK kvs))) (dH H7 td Dt) (Dt.length<=i * ns.length+(j+1)) (Least (λx=>(∃e∈D.take i,∃n∈ns,x=e.ext A Z n)\/∃n∈ns.take (j+1),x=e.ext A Z n) Dt)) E0:=λr H6 s6 er=>by
    obtain⟨Fy,S9,JM⟩:=Gs;refine⟨td,r,_,_,e.ks++[n],Dt,D?,⟨Fy,s6 _ _ S9,t! (λ_ _ h=>h.mono (n! s6)) JM⟩,EW.nd,er,by lia,λH7 D7 s7 EX hK=>⟨_,D7,D?,λb u hb z=>?_,s7 _ _ Fo.symm (s6 _ _ NC),EX,by have:=hK.len;lia,(hK.least _ EW).congr λc=>?_⟩⟩
    .by_cases K':b=td
     .rw[K',EU]at z;cases z
     .exact s7 _ _ K' (s6 _ _ (s5 _ _ hb z))
    .rw[take_snoc hn];constructor
     .rintro((h|⟨m,hm,h⟩)|h)
      .exact .inl h
      .exact .inr ⟨m,Wt _ hm,h⟩
      .exact .inr ⟨n,by simp,h⟩
     .rintro(h|⟨m,hm,h⟩)
      .exact .inl (.inl h)
      .rcases Wm.mp hm with hm|hm
       .exact .inl (.inr ⟨m,hm,h⟩)
       .rw[We.mp hm]at h;exact .inr h
   refine⟨_,D?,_,D?,lnE rfl,λp2 zG=>?_⟩;have s6:j! H5 (upd H5 p2 (.tup [nW n])):=ao zG _;have DY:(upd H5 p2 (.tup [nW n])) p2=A? (.tup [nW n]):=ac;have zZ:=zV e (V5 he);refine⟨ka,p2,_,_,D?,D?,i! (s6 _ _ NG),i! DY,Yi (aZ (by rw[V2];show e.ks.length+1<=1000000;lia)),λGu=>go p2 _ s6 ?_,λ_ h=>(by cases h),λ_ _ p3 Be=>?_⟩
   .have hz:e.ks=[]:=List.map_eq_nil_iff.mp Gu;rw[hz];exact DY
   .refine go p3 _ (s6.trans (ao Be _)) ?_;rw[ac,WB];rfl
  .rintro σ H5 ⟨c8,Dt,rfl,s5,NC,Gs,NF,EW⟩;refine⟨_,_,_,_,Dt,D?,s5,NC,Gs,?_,EW.congr λc=>?_⟩
   .rw[V2]at NF;rw[Nat.succ_mul];exact NF
   .rw[show ns.take (ns.map nW).length=ns from Xv (by rw[V2];exact Wc _),take_snoc he];constructor
    .rintro(⟨e',zP,h⟩|h)
     .exact⟨e',Wt _ zP,h⟩
     .exact⟨e,by simp,h⟩
    .rintro⟨e',zP,h⟩;rcases Wm.mp zP with zP|zP
     .exact .inl ⟨e',zP,h⟩
     .rw[We.mp zP]at h;exact .inr h
 .rintro σ H3 ⟨c5,c6,c7,c8,Dt,rfl,s3,Bg,⟨kt,NB,Gr⟩,Es,hle⟩;rw[Xv (by lia)]at hle;rw[<-Dh]at Es;have k4:KT H3 (upd H3 d (.dK kvs)):=λb xs e=>by rw[aj (aF e Bg (λz=>nomatch z))];exact e
  refine⟨upd H3 d (.dK kvs),λb=>?_,_,D?,q td _ Dt (λb u e=>?_) EU ⟨kt,(aj Fo).trans NB,t! (λ_ _ h=>h.mono k4) Gr⟩ Es hle⟩
  .by_cases hb:b=d
   .rw[hb];exact .inr ⟨o,_,Bg,s1 _ _ ed,ac⟩
   .exact .inl (aj hb)
  .by_cases hb:b=d
   .rw[hb,ed]at e;rw[hb,ac];exact e
   .rw[aj hb];exact s3 b u hb e
inductive fk(C:V6)(vs:List V)(H:Hp)(Q:VK)(_E:XK):Prop
 |mk (w:Wy):vs=[.ref w.x]->WyAt C H w->w.ps.length<=1000000->Q (.int (ones w.ps.length)) H->fk C vs H Q _E
inductive fZ(C:V6)(vs:List V)(H:Hp)(Q:VK)(_E:XK):Prop
 |mk (w:Wy) (b:Int) (S:Nat):vs=[.ref w.x,.int b,.int (S:Nat)]->WyAt C H w->w.ps.length<=1000000->S<=100000->0<=b->(∀q∈w.ps,∃s:Nat,q.1=(s:Int)/\s<S)->(∀(r:V6)(note:List Int)(H':Hp),j! H H'->H' r=A? (.tup (note.map o!))->NoteBy w.ps b S w.ps.length note->Q (.ref r) H')->fZ C vs H Q _E
theorem dv:bp P w K mg base CX0 1 T.g_16.f T.g_16.d ["self"] (fk T.e_Ways):=by
 refine T.g_16.F.okA jM λzh A outer s H vs Q E hr h=>?_;obtain⟨w,rfl,hw,hl,q⟩:=h;refine⟨_,(ak (aE (ax iD (ax ue ae (aB aA rfl T.n_2 WW (aa (bB (pv 0) rfl) af))) ae))),?_⟩
 try dsimp only[zB,ze]
 refine⟨_,D?,w.x,T.e_Ways,w.dx,_,_,D?,hw.ins,T.cl_Ways,T.na_Ways_pairs,rD,w.pl,_,D?,.inl (l! hw.pl),_,_,D?,D?,⟨by lia,by rw[V2];lia,by decide⟩,_,_,D?,D?,?_⟩;rw[V2,Int.one_mul,Wl];exact q
theorem j9:bp P w K mg base CX0 1 T.g_19.f T.g_19.d ["self","bits","states"] (fZ T.e_Ways):=by
 refine T.g_19.F.okA cw λzh A outer s H vs Q E hr h=>?_;obtain⟨w,b,S,rfl,hw,hl,hS,hb,zM,q⟩:=h
 refine⟨_,(ad (am 3 cw.nd (ax uK (bV (aa (oA nh ae) af)) (pv 2)))
  (ad (bA WX rfl (iV rfl T.n_1 (bB (pv 0) rfl)) (bM rfl (az (pgN 4 cw.nd) (az (bM rfl (az (pgN 5 cw.nd) (az (pgN 6 cw.nd) bg))) bg))) (ak (bL (aH cN (ax pL (ax wV (pv 1) (pv 4)) ae) ae (aN _)) (ak (iB (pv 6) (nG (pv 3) (pv 5) set_list))) aY)))
  (ak (aE (bT bc rfl T.n_9 Xh (aa (pv 3) af)))))),?_⟩
 try dsimp only[zB,ze]
 refine⟨_,D?,lnE rfl,λl0 Ik=>?_⟩;refine gU Ik λH0 s0 e0=>?_;refine⟨_,D?,l0,_,_,D?,D?,e0,by lia,by lia,Yi (aZ (by rw[Wl];show 1 * S<=1000000;lia)),λnl CF=>?_⟩;dsimp only[au]
 have NH:(W7 ((S:Nat):Int).toNat [o! (-1)]).flatten=(W7 S (-1:Int)).map o!:=by
  rw[Wl,List.map_replicate];generalize S=n;induction n with
  |zero=>rfl
  |succ n ih=>rw[X3,X3,Zi,ih];rfl
 rw[NH];have s1:j! H (upd H0 nl (.lst ((W7 S (-1:Int)).map o!))):=s0.trans (ao CF _)
 have NI:H nl=none:=by
  cases z:H nl with
  |none=>rfl
  |some o=>rw[s0 _ _ z]at CF;cases CF
 have e1:(upd H0 nl (.lst ((W7 S (-1:Int)).map o!))) nl=A? (.lst ((W7 S (-1:Int)).map o!)):=ac;generalize(upd H0 nl (.lst ((W7 S (-1:Int)).map o!)))=H1 at s1 e1 |-;refine⟨_,D?,w.x,T.e_Ways,w.dx,_,_,D?,s1 _ _ hw.ins,T.cl_Ways,T.na_Ways_pairs,rD,w.pl,D?,⟨_,l! (s1 _ _ hw.pl)⟩,?_⟩
 refine gX (K:=K) (a:=w.pl) (xs:=w.ps.map λq=>k! q.2.2) (λj σ H2=>Ex4 λ(c4 c5 c6:Option V)(note:List Int)=>An4 (σ=[A? (.ref w.x),A? (.int b),A? (.int (S:Nat)),A? (.ref nl),c4,c5,c6]) (j! H H2) (H2 nl=A? (.lst (note.map o!))) (NoteBy w.ps b S j note))
  ⟨B?,B?,B?,_,rfl,s1,e1,NoteBy.zero _ _ _⟩ (λj σ H2 _⟨_,_,_,_,_,s,_,_⟩=>l! (s _ _ hw.pl)) ?_ ?_
 .rintro j x p σ H2 hx hp ⟨c4,c5,c6,note,rfl,s2,en,hN⟩;rw[V7]at hx;obtain⟨q',hq,rfl⟩:=WA.mp hx;refine gU hp λH3 s3 ep=>?_;have Qb:=V5 hq;have Ta:=s3 _ _ (s2 _ _ (hw.pr q' Qb));have hj:=(glE hq);refine⟨p,_,D?,i! ep,D?,_,_,D?,_,_,D?,⟨q'.2.2,_,D?,i! Ta,D?,_,_,D?,_,_,D?,D?,D?,?_⟩⟩;dsimp only[au];refine⟨_,D?,_,D?,_,_,D?,D?,by lia,_,_,D?,D?,D?,_,D?,?_⟩;rw[kh,show(Xk (b / 2 ^ ((j:Nat):Int).toNat) 1 == 1)=bt b j from by rw[<-wR hb j];exact(Bool.beq_eq_decide_eq ..)];have hlen:=hN.len;obtain⟨s0,Ge,KY⟩:=zM q' Qb;refine fu (λc=>?_) (λc=>?_)
  .refine⟨_,D?,_,D?,_,D?,nl,_,q'.1,s0,D?,D?,s3 _ _ en,?_,?_⟩
   .rw[Ge,V2,hlen];unfold ixN;rw[b! (by lia),b! (by lia),Wl]
   .refine⟨_,_,_,note.set s0 q'.2.1,D?,aM (s2.trans s3) NI,?_,hN.set hq c Ge⟩;rw[ac,List.map_set]
  .exact⟨_,_,_,note,D?,s2.trans s3,s3 _ _ en,hN.skip hq (by cases z:bt b j with|false=>rfl|true=>exact g! z c)⟩
 .rintro σ H2 ⟨c4,c5,c6,note,rfl,s2,en,hN⟩;rw[V2]at hN;refine⟨_,D?,nl,_,D?,.inl ⟨l! en,λr hr=>?_⟩⟩;exact q r note _ (s2.trans (ao hr _)) ac hN
inductive eJ(C:V6)(vs:List V)(H:Hp)(Q:VK)(_E:XK):Prop
 |mk (w:Wy) (na:V6) (note:List Int) (Ws:List cy):vs=[.ref w.x,.ref na]->WyAt C H w->H na=A? (.tup (note.map o!))->w.ps.length=Ws.length->Ws.length<=1000000->(∀(k:Nat)(kd:Kd),w.ks[k]?=A? kd->NeedT Ws k kd.es)->(∀kd∈w.ks,(∀e∈kd.es,∃c:Nat,e.1.1=(c:Int)/\c<note.length)/\kd.ag.length<1000000)->(∀(H':Hp)(zg:List Kd),FrB (w.ks.map (·.a)) H H'->WyAt C H' {w with ks:=zg}->Took Ws note w.ks w.ks.length zg->Q .non H')->eJ C vs H Q _E
theorem jf:bp P w K mg base CX0 2 T.g_17.f T.g_17.d ["self","note"] (eJ T.e_Ways):=by
 refine T.g_17.F.okA bf λzh A outer s H vs Q E hr h=>?_;obtain⟨w,na,note,Ws,rfl,hw,B7,AO,Jb,hN,Ck,q⟩:=h
 refine⟨_,(ak (bA WX rfl (iV rfl T.n_1 (bB (pv 0) rfl)) (bM rfl (az (pgN 2 bf.nd) (az (pgN 3 bf.nd) bg))) (ad (am 4 bf.nd ae)
  (ad (gK (bA WX rfl (gW (pv 3)) (bM rfl (az (bM rfl (az (pgN 5 bf.nd) (az (pgN 6 bf.nd) bg))) (az (pgN 7 bf.nd) bg))) (ak (bL (aH sZ (aw ay (pv 1) (pv 5) (λ_ _=>rfl)) (pv 6) (aN _)) (ak (xb (i:=4) bf.nd rfl (Or.inl rfl) (pv 7) ym)) aY))))
  (ak (aX (cC WG WV WU bi (aw aS (bB (pv 0) rfl) (pv 2) (λ_ _=>rfl)) (aa (ax pL (jn (pv 0) T.cl_Ways T.g_16.me (dv T) (hr.mono (by first|decide|lia)) T.g_16.b .nil cW ) (oA xf (pv 4))) af)))))))),?_⟩
 try dsimp only[zB,ze]
 refine⟨_,D?,w.x,T.e_Ways,w.dx,_,_,D?,hw.ins,T.cl_Ways,T.na_Ways_needing,ub,w.nl,D?,⟨_,l! hw.nl⟩,?_⟩
 refine gX (K:=K) (a:=w.nl) (xs:=w.ks.map λk=>k! k.d) (λk σ H2=>Ex7 λ(c2 c3 c4 c5 c6 c7:Option V)(zg:List Kd)=>An4 (σ=[A? (.ref w.x),A? (.ref na),c2,c3,c4,c5,c6,c7]) (FrB (w.ks.map (·.a)) H H2) (WyAt T.e_Ways H2 {w with ks:=zg}) (Took Ws note w.ks k zg))
  ⟨B?,B?,B?,B?,B?,B?,w.ks,rfl,FrB.refl,hw,Took.zero _ _ _⟩ (λk σ H2 _⟨_,_,_,_,_,_,zg,_,_,h,ht⟩=>?_) ?_ ?_
 .have:=h.nl;dsimp only at this
  rw[show(zg.map λk=>k! k.d)=(w.ks.map λk=>k! k.d)from by
   have:=h! (ZQ k!) ht.map.2;rw[WR,WR]at this;exact this]at this
  exact l! this
 .rintro k x p σ H2 hx hp ⟨c2,c3,c4,c5,c6,c7,zg,rfl,f2,NJ,ht⟩;rw[V7]at hx;obtain⟨kd,Ai,rfl⟩:=WA.mp hx;have zD:=ht.hi k kd (Wc _) Ai;have JN:=V5 zD;have AX:=V5 Ai;have Lp:=hN k kd Ai;obtain⟨Tc,Ay⟩:=Ck kd AX;refine gU hp λH3 s3 ep=>?_;have f3:=f2.trans (J! s3);have BZ:=NJ.same s3
  have Td:∀{b:V6}{o:HO},H b=A? o->(∀xs,o≠.lst xs)->b∉w.ks.map (·.a):=λe zt z=>by
   obtain⟨AM,hm,e'⟩:=Wv.mp z;have:=hw.ag AM hm;rw[e',e]at this;exact zt _ (Wi this)
  have Qc:∀{H3:Hp},FrB (w.ks.map (·.a)) H H3->KT H H3:=λf b xs e=>f b _ (Td e λxs z=>by cases z) e;have Bg:H3 kd.d=A? (.dT (dE kd.es)):=BZ.nd kd JN;refine⟨p,_,D?,i! ep,D?,_,_,D?,_,_,D?,D?,?_⟩;dsimp only[au];refine⟨_,D?,kd.d,_,D?,Bg,λo=>?_⟩
  refine lj (a:=kd.d) (o:=o) (es:=kd.es) (λj σ H4=>Ex4 λ(c5 c6 c7:Option V)(x:Int)=>An4 (σ=[A? (.ref w.x),A? (.ref na),A? (.int (k:Nat)),A? (.ref kd.d),A? (.int x),c5,c6,c7]) (SameB kd.d H3 H4) (H4 kd.d=A? (.frz o (.dT (dE kd.es)))) (Agst kd.es note Ws.length j x))
   ⟨_,_,_,0,rfl,z!,ac,Agst.zero _ _ _⟩ (λj σ H4 _⟨_,_,_,_,_,_,e,_⟩=>e) ?_ ?_
  .rintro j e p2 b σ H4 he zG eb ⟨c5,c6,c7,x,rfl,s4,C4,hA⟩;refine gU zG λH5 s5 DY=>?_;have B8:=V5 he;refine hid λZZ kZ=>?_;obtain⟨c,hc,Gv⟩:=Tc e B8;have NK:=s5 _ _ (s4 _ _ (aF (Qc f3 _ _ B7) Bg (λz=>nomatch z)) (Qc f3 _ _ B7));obtain⟨Qd,Qe⟩:=hA.step he (Lp.rng e B8);obtain⟨v,hv⟩:∃v,note[c]?=A? v:=⟨_,V4 Gv⟩;refine kZ ?_;refine⟨p2,_,D?,i! DY,D?,.ref b,_,D?,⟨b,_,D?,i! (s5 _ _ eb),D?,_,_,D?,_,_,D?,D?,_,_,D?,D?,?_⟩⟩;dsimp only[au];refine⟨_,D?,_,D?,na,_,e.1.1,.int v,D?,D?,i! NK,?_,_,D?,D?,_,D?,?_⟩
   .rw[hc];exact br (j:=c) (gmE hv)
   rw[hc,Wl,hv]at Qd Qe;have Qf:SameB kd.d H3 H5:=λb u hb z=>s5 _ _ (s4 b u hb z);by_cases z:v=e.1.2
   .rw[z,d! rfl];exact da ⟨_,_,_,x,rfl,Qf,s5 _ _ C4,Qd (by rw[z])⟩
   .rw[c! (λy=>z (V.int.inj y))];exact de ⟨_,rfl,_,rfl,_,_,rfl,rfl,_,_,_,_,rfl,Qf,s5 _ _ C4,Qe (λy=>z (Wi y))⟩
  .rintro σ H4 ⟨c5,c6,c7,x,rfl,s4,C4,hA⟩;obtain⟨b0,bb⟩:=hA.done Lp
   have s5:j! H3 (upd H4 kd.d (.dT (dE kd.es))):=λb u z=>by
    by_cases hb:b=kd.d
    .rw[hb,Bg]at z;rw[hb,ac];exact z
    .rw[aj hb];exact s4 b u hb z
   refine⟨upd H4 kd.d (.dT (dE kd.es)),λb=>?_,?_⟩
   .by_cases hb:b=kd.d
    .rw[hb];exact .inr ⟨o,_,C4,Bg,ac⟩
    .exact .inl (aj hb)
   generalize(upd H4 kd.d (.dT (dE kd.es)))=H5 at s5 |-;have By:=BZ.same s5;have Qg:H5 kd.a=_:=By.ag kd JN;refine⟨_,D?,w.x,T.e_Ways,w.dx,_,_,D?,By.ins,T.cl_Ways,T.na_Ways_agreeing,qN,_,D?,w.al,_,(k:Int),.ref kd.a,D?,D?,l! By.al,br (j:=k) (by rw[V7];show(zg[k]?).map _=_;rw[zD];rfl),.inl ⟨D?,_,l! Qg⟩,?_⟩;refine⟨_,D?,w.x,w.dx,_,D?,By.ins,gy,{w with ks:=zg},D?,By,(by show w.ps.length<=1000000;lia),?_⟩;refine⟨_,D?,_,D?,_,_,D?,D?,kd.a,_,_,D?,D?,Qg,lbE (by lia),?_⟩;rw[show(ones ({w with ks:=zg}:Wy).ps.length)=ones Ws.length from by rw[<-AO]];have EY:=By.setAg (l:=kd.ag++[Xk (ones Ws.length) (XF x)]) zD;rw[WB]at EY;exact⟨_,_,_,_,_,_,_,D?,f3.trans ((J! s5).trans (L! (Wv.mpr ⟨kd,AX,D?⟩))),EY,ht.step Ai b0 bb⟩
 .rintro σ H2 ⟨c2,c3,c4,c5,c6,c7,zg,rfl,f2,NJ,ht⟩;rw[V2]at ht;exact q H2 zg f2 NJ ht
inductive eI(C:V6)(vs:List V)(H:Hp)(Q:VK)(_E:XK):Prop
 |mk (w:Wy) (sz:V6) (last:Nat) (Z:List Int):vs=[.ref w.x,.int (last:Nat),.ref sz]->WyAt C H w->w.ps.length<=1000000->H sz=A? (.lst (Z.map o!))->last<Z.length->last<=30->w.ks.length<=3->(∀k∈w.ks,last<k.ag.length)->(∀(r:V6)(H':Hp)(D:List Cand),j! H H'->H r=B?->dH H' r D->D.length<=100000->Least (λc=>∃ks:List Nat,ks.length=w.ks.length/\((∀n∈ks,n<=last)/\last∈ks)/\c=cnd (w.ks.map (·.ag)) Z (ones w.ps.length) ks) D->Q (.ref r) H')->eI C vs H Q _E
theorem jb:bp P w K mg base CX0 3 T.g_18.f T.g_18.d ["self","last","sizes"] (eI T.e_Ways):=by
 refine T.g_18.F.okA aJ λzh A outer s H vs Q E hr h=>?_;obtain⟨w,sz,last,Z,rfl,hw,AO,Hz,VF,Te,Lq,Tf,q⟩:=h
 refine⟨_,(ad (am 3 aJ.nd kB)
  (ad (bA WX rfl (bU rfl T.n_6 (aa (aB aA rfl T.n_2 WW (aa (bB (pv 0) rfl) af)) af)) (pgN 4 aJ.nd) (ad (am 5 aJ.nd (ve (sX (jn (pv 0) T.cl_Ways T.g_16.me (dv T) (hr.mono (by first|decide|lia)) T.g_16.b .nil cW ) (aW (aa ae (aa (aW af) af))) uV) rfl rfl (by decide) (by decide)))
  (ad (bA WX rfl (iV rfl T.n_1 (bB (pv 0) rfl)) (bM rfl (az (pgN 6 aJ.nd) (az (pgN 7 aJ.nd) bg))) (ad (am 8 aJ.nd (pj (aH cN (pv 6) (pv 4) (aN _)) (pv 1) ae))
  (ad (am 9 aJ.nd (pj (aH gb (pv 6) (pv 4) (aN _)) (pv 1) (ax bF (pv 1) ae)))
  (ak (am 5 aJ.nd (pcF T.g_13 (r8 T) hr (aa (pv 5) (aa (pv 7) (aa (pv 2) (aa (sW rfl rfl T.n_3 rfl T.n_6 (aa (pv 8) (aa (pv 9) af))) af))))))))))
  (ak (gK (bA WX rfl (kC (pv 5)) (bM rfl (az (pgN 10 aJ.nd) (az (bM rfl (az (pgN 11 aJ.nd) (az (pgN 12 aJ.nd) bg))) bg))) (ak (aX (pcF T.g_12 (ik T) hr (aa (pv 3) (aa (pv 10) (aa (pv 11) (aa (pv 12) af)))))))))))))
  (ak (aE (pv 3))))),?_⟩
 try dsimp only[zB,ze]
 intro td EU;dsimp only[au];refine gU EU λH1 s1 e1=>?_;have pw:∀p,p<=3->31 ^ p<=29791:=λp hp=>Xa (Yb (by decide) hp) (by decide);refine⟨_,D?,w.x,T.e_Ways,w.dx,_,_,D?,s1 _ _ hw.ins,T.cl_Ways,T.na_Ways_agreeing,qN,w.al,_,D?,.inl (l! (s1 _ _ hw.al)),_,D?,by lia,by rw[V2];lia,?_⟩;rw[V2,Wl]
 refine cj (lo:=0) (n:=w.ks.length) (λf σ H2=>yy λ(c4 c5 c6 c7 c8 c9 CG CH CI:Option V)(Dt:List Cand)=>An5 (σ=[A? (.ref w.x),A? (.int (last:Nat)),A? (.ref sz),A? (.ref td),c4,c5,c6,c7,c8,c9,CG,CH,CI]) (j! H H2) (dH H2 td Dt) (Dt.length<=f * 29791) (Least (λc=>∃f',f'<f/\SrcP (w.ks.map (·.ag)) Z (ones w.ps.length) (loF last f') (hiF last f') w.ks.length c) Dt))
  ⟨B?,B?,B?,B?,B?,B?,B?,B?,B?,[],rfl,s1,⟨[],e1,.nil⟩,WY _,Least.nil.congr λc=>⟨λz=>z.elim,λ⟨f',h,_⟩=>g! h (ZA _)⟩⟩ ?_ ?_
 .rintro f σ H2 hf ⟨c4,c5,c6,c7,c8,c9,CG,CH,CI,Dt,rfl,s2,⟨kt,Hu,Gr⟩,Ak,Gw⟩;rw[Int.zero_add];dsimp only[au];intro rd G7
  have BG:∀{b:V6},H2 b=B?->H b=none:=λ{b}z=>by
   cases y:H b with
   |none=>rfl
   |some o=>rw[s2 _ _ y]at z;cases z
  have s3:j! H2 (upd H2 rd (.dK [])):=ao G7 _;have e3:(upd H2 rd (.dK [])) rd=A? (.dK []):=ac;have Tg:rd≠td:=λz=>by rw[z,Hu]at G7;cases G7
  generalize(upd H2 rd (.dK []))=H3 at s3 e3 |-;have BZ:=hw.same (s2.trans s3);refine⟨_,D?,w.x,w.dx,_,D?,BZ.ins,gy,w,D?,BZ,AO,?_⟩;refine⟨lnE rfl,λt0 Fx=>⟨lnE rfl,λt1 Ap=>?_⟩⟩;have s4:j! H3 (upd (upd H3 t0 (.tup [])) t1 (.tup [.int 0,.ref t0])):=(ao Fx _).trans (ao Ap _);have Qh:(upd (upd H3 t0 (.tup [])) t1 (.tup [.int 0,.ref t0])) t0=A? (.tup []):=(ao Ap _) _ _ ac;have Qi:(upd (upd H3 t0 (.tup [])) t1 (.tup [.int 0,.ref t0])) t1=A? (.tup [.int 0,.ref t0]):=ac;generalize(upd (upd H3 t0 (.tup [])) t1 (.tup [.int 0,.ref t0]))=H4 at s4 Qh Qi |-;refine⟨s4 _ _ e3,[(WQ (ones w.ps.length),.ref t1)],D?,(by show 1<=15;decide),?_⟩;have Ij:jw [] [((WQ (ones w.ps.length):Key),k! t1)]=[(WQ (ones w.ps.length),.ref t1)]:=rfl;rw[Ij];have Ti:=s4 _ _ e3;have s5:j! H2 (upd H4 rd (.dK [((WQ (ones w.ps.length):Key),k! t1)])):=aM (s3.trans s4) G7;have k5:KT H4 (upd H4 rd (.dK [((WQ (ones w.ps.length):Key),k! t1)])):=λb xs z=>by rw[aj (aF z Ti (λy=>nomatch y))];exact z
  have Gx:dH (upd H4 rd (.dK [((WQ (ones w.ps.length):Key),k! t1)])) rd [⟨ones w.ps.length,0,[]⟩]:=⟨_,ac,.cons ⟨rfl,t1,t0,rfl,k5 _ _ Qi,k5 _ _ Qh⟩ .nil⟩;generalize(upd H4 rd (.dK [((WQ (ones w.ps.length):Key),k! t1)]))=H5 at s5 Gx |-;dsimp only[au];refine⟨_,D?,w.x,T.e_Ways,w.dx,_,_,D?,s5 _ _ (s2 _ _ hw.ins),T.cl_Ways,T.na_Ways_agreeing,qN,w.al,D?,⟨_,l! (s5 _ _ (s2 _ _ hw.al))⟩,?_⟩
  refine gX (K:=K) (a:=w.al) (xs:=w.ks.map λk=>k! k.a) (λp σ H6=>Ex9 λ(r:V6)(c6 c7 c8 c9 CG CH CI:Option V)(D:List Cand)=>An6 (σ=[A? (.ref w.x),A? (.int (last:Nat)),A? (.ref sz),A? (.ref td),A? (.int (f:Nat)),A? (.ref r),c6,c7,c8,c9,CG,CH,CI]) (j! H2 H6) ((r≠td/\H r=B?)) (dH H6 r D) (D.length<=31 ^ p) (Least (SrcP (w.ks.map (·.ag)) Z (ones w.ps.length) (loF last f) (hiF last f) p) D))
   ⟨rd,_,_,_,_,_,_,_,_,rfl,s5,⟨Tg,BG G7⟩,Gx,Wc 1,(Least.one _).congr λc=>SrcP.zero ..⟩ (λp σ H6 _⟨_,_,_,_,_,_,_,_,_,_,s,_,_,_,_⟩=>l! (s _ _ (s2 _ _ hw.al))) ?_ ?_
  .rintro p x p0 σ H6 hx JO ⟨r,c6,c7,c8,c9,CG,CH,CI,D,rfl,s6,EZ,⟨kr,JP,Lr⟩,JQ,hle⟩;rw[V7]at hx;obtain⟨kd,Ai,rfl⟩:=WA.mp hx;have AX:=V5 Ai;have Ax:=(glE Ai);refine gU JO λH7 s7 ep=>?_;refine⟨p0,_,D?,i! ep,D?,_,_,D?,_,_,D?,D?,?_⟩;dsimp only[au];refine aR (λi' H'=>An2 (H'=H7) (i'=[A? (.ref w.x),A? (.int (last:Nat)),A? (.ref sz),A? (.ref td),A? (.int (f:Nat)),A? (.ref r),A? (.int (p:Nat)),A? (.ref kd.a),A? (.int (loF last f p:Nat)),c9,CG,CH,CI])) (λkk hk=>?_) ?_
   .refine⟨_,D?,_,D?,D?,_,D?,?_⟩;by_cases z:p=f
    .rw[d! (show o! ((p:Nat):Int)=o! ((f:Nat):Int)by rw[z])];refine de ⟨_,rfl,hk _ _ ⟨rfl,?_⟩⟩;unfold loF;rw[b! z];rfl
    .rw[c! (show¬o! ((p:Nat):Int)=o! ((f:Nat):Int)fromλy=>z (by injection y with y;lia))];refine da (hk _ _ ⟨rfl,?_⟩);unfold loF;rw[a! z];rfl
   rintro i' H' ⟨rfl,rfl⟩;refine aR (λi' C5=>C5=H'/\i'=[A? (.ref w.x),A? (.int (last:Nat)),A? (.ref sz),A? (.ref td),A? (.int (f:Nat)),A? (.ref r),A? (.int (p:Nat)),A? (.ref kd.a),A? (.int (loF last f p:Nat)),A? (.int (hiF last f p:Nat)),CG,CH,CI]) (λkk hk=>?_) ?_
   .refine⟨_,D?,_,D?,_,_,D?,D?,_,D?,?_⟩;by_cases z:p<f
    .rw[d! (show(p:Int)<(f:Int)by lia)];refine de ⟨_,rfl,hk _ _ ⟨rfl,?_⟩⟩;unfold hiF;rw[b! z];rfl
    .rw[c! (show¬(p:Int)<(f:Int)by lia)];refine da ⟨_,rfl,_,_,rfl,rfl,hk _ _ ⟨rfl,?_⟩⟩;unfold hiF;rw[a! z];rfl
   rintro i' C5 ⟨rfl,rfl⟩;have Rj:loF last f p<=last:=by unfold loF;split <;> lia
   have VG:hiF last f p<=last+1:=by unfold hiF;split <;> lia
   refine⟨_,D?,_,D?,_,D?,_,D?,_,D?,loF last f p,hiF last f p,D?,by lia,by lia,λnl CF=>?_⟩;have s8:j! C5 (upd C5 nl (.lst ((Zo (loF last f p) (hiF last f p - loF last f p)).map nW))):=ao CF _;have D0:(upd C5 nl (.lst ((Zo (loF last f p) (hiF last f p - loF last f p)).map nW))) nl=A? (.lst ((Zo (loF last f p) (hiF last f p - loF last f p)).map nW)):=ac;show jC _ (upd C5 nl (.lst ((Zo (loF last f p) (hiF last f p - loF last f p)).map nW))) _ _;generalize(upd C5 nl (.lst ((Zo (loF last f p) (hiF last f p - loF last f p)).map nW)))=H8 at s8 D0 |-;have Lu:j! H2 H8:=s6.trans (s7.trans s8);have Qj:=s7.trans s8;have zG:p<=2:=by lia
   have Tj:31 ^ p<=961:=Xa (Yb (by decide) zG) (by decide);have AV:(Zo (loF last f p) (hiF last f p - loF last f p)).length<=31:=by rw[List.length_range'];lia
   have hmul:D.length * (Zo (loF last f p) (hiF last f p - loF last f p)).length<=31 ^ p * 31:=Nat.mul_le_mul JQ AV;have hA:(w.ks.map (·.ag)).getD p []=kd.ag:=by rw[Wu,V7,Ai];rfl
   refine⟨r,kd.a,sz,nl,kd.ag,Z,_,D,D?,⟨kr,Qj _ _ JP,t! (λ_ _ h=>h.mono (n! Qj)) Lr⟩,Lu _ _ (s2 _ _ (hw.ag kd AX)),Lu _ _ (s2 _ _ Hz),D0,λn hn=>?_,by lia,λe he=>?_,λr' H9 D9 s9 nr NL VH NM=>?_⟩
   .have:=(List.mem_range'_1.mp hn).2;have:=Tf kd AX;lia
   .refine hid λZZ kZ=>?_;obtain⟨ks,h1,_,h3⟩:=hle.sub e he;refine kZ ?_;rw[h3,xz];lia
   .have Bn:H2 r'=none:=by
     cases y:H2 r' with
     |none=>rfl
     |some o=>rw[Lu _ _ y]at nr;cases nr
    refine⟨r',_,_,_,_,_,_,_,D9,D?,Lu.trans s9,⟨λz=>(by rw[z,Hu]at Bn;cases Bn),BG Bn⟩,NL,by rw[Nat.pow_succ];lia,?_⟩;have:=hle.trans NM;rw[<-hA]at this;exact this.congr λc=>SrcP.succ _ _ _ _ _ _ _ (λn=>by rw[List.mem_range'_1];lia) c
  .rintro σ H6 ⟨r,c6,c7,c8,c9,CG,CH,CI,D,rfl,s6,⟨EZ,Qk⟩,⟨kvs,JP,Lr⟩,JQ,hle⟩;rw[V2]at JQ hle;have VI:=Xa JQ (pw _ Lq);have Tn:D.length=kvs.length:=Wx Lr;refine⟨_,D?,r,kvs,D?,JP,λo=>?_⟩;have k0:KT H6 (upd H6 r (.frz o (.dK kvs))):=λb xs z=>by rw[aj (aF z JP (λy=>nomatch y))];exact z
   have NN:=s2.trans s6
   refine jI (a:=r) (o:=o) (kvs:=kvs) (λj σ H7=>Ex4 λ(CG CH CI:Option V)(Gy:List Cand)=>An7 (σ=[A? (.ref w.x),A? (.int (last:Nat)),A? (.ref sz),A? (.ref td),A? (.int (f:Nat)),A? (.ref r),c6,c7,c8,c9,CG,CH,CI]) (j! H H7) (H7 r=A? (.frz o (.dK kvs))) (WL (RowE H7) D kvs) (dH H7 td Gy) (Gy.length<=f * 29791+j) (Least (λc=>(∃f',f'<f/\SrcP (w.ks.map (·.ag)) Z (ones w.ps.length) (loF last f') (hiF last f') w.ks.length c)\/∃e∈D.take j,c=e) Gy))
    ⟨CG,CH,CI,Dt,rfl,λb u z=>by rw[aj (λy=>by rw[y,Qk]at z;cases z)];exact NN _ _ z,ac,t! (λ_ _ h=>h.mono k0) Lr,⟨kt,(aj EZ.symm).trans (s6 _ _ Hu),t! (λ_ _ h=>(h.mono (n! s6)).mono k0) Gr⟩,Ak,Gw.congr λc=>⟨.inl,λz=>z.elim id λ⟨e,he,_⟩=>by rw[Yj]at he;cases he⟩⟩ (λj σ H7 _⟨_,_,_,_,_,_,e,_,_,_,_⟩=>e) ?_ ?_
   .rintro j kv p0 σ H7 Aa JO ⟨CG,CH,CI,Gy,rfl,s7,Cq,EX,⟨NO,Lw,Gz⟩,Tp,D1⟩;refine hid λZZ kZ=>?_;obtain⟨e,he,AZ,a,ka,zx,ea,zQ⟩:=E! EX Aa;have Dg:=(glE Aa);obtain⟨k,v⟩:=kv;refine kZ ?_;dsimp only at AZ zx;subst AZ zx;refine gU JO λH8 s8 ep=>?_;have ep:H8 p0=A? (.tup [.int e.b,.ref a]):=ep;refine⟨p0,_,D?,i! ep,D?,_,_,D?,_,_,D?,⟨a,_,D?,i! (s8 _ _ ea),D?,_,_,D?,_,_,D?,D?,D?,?_⟩⟩;dsimp only[au];refine⟨_,D?,_,D?,_,D?,_,D?,td,ka,e.b,e.n,e.ks,Gy,D?,⟨NO,s8 _ _ Lw,t! (λ_ _ h=>h.mono (n! s8)) Gz⟩,D1.nd,s8 _ _ zQ,by lia,λH9 D9 s9 NL hK=>?_⟩;have k9:KT H8 H9:=λb xs z=>s9 _ _ (aF z (s8 _ _ Lw) (λy=>nomatch y)) z;refine⟨_,_,_,D9,D?,λb u z=>s9 _ _ (λy=>by rw[y,EU]at z;cases z) (s8 _ _ (s7 _ _ z)),s9 _ _ EZ (s8 _ _ Cq),t! (λ_ _ h=>(h.mono (n! s8)).mono k9) EX,NL,by have:=hK.len;lia,(hK.least _ D1).congr λc=>?_⟩;rw[take_snoc he];constructor
    .rintro((h|⟨e',zP,h⟩)|h)
     .exact .inl h
     .exact .inr ⟨e',Wt _ zP,h⟩
     .exact .inr ⟨e,by simp,h⟩
    .rintro(h|⟨e',zP,h⟩)
     .exact .inl (.inl h)
     .rcases Wm.mp zP with zP|zP
      .exact .inl (.inr ⟨e',zP,h⟩)
      .rw[We.mp zP]at h;exact .inr h
   .rintro σ H7 ⟨CG,CH,CI,Gy,rfl,s7,Cq,EX,⟨NO,Lw,Gz⟩,Tp,D1⟩;rw[Xv (by lia)]at D1;have k8:KT H7 (upd H7 r (.dK kvs)):=λb xs z=>by rw[aj (aF z Cq (λy=>nomatch y))];exact z
    refine⟨upd H7 r (.dK kvs),λb=>?_,_,_,_,_,_,_,_,_,_,Gy,D?,λb u z=>by rw[aj (λy=>by rw[y,Qk]at z;cases z)];exact s7 _ _ z,⟨NO,(aj EZ.symm).trans Lw,t! (λ_ _ h=>h.mono k8) Gz⟩,?_,(D1.join hle).congr λc=>?_⟩
    .by_cases hb:b=r
     .rw[hb];exact .inr ⟨o,_,Cq,JP,ac⟩
     .exact .inl (aj hb)
    .rw[Nat.succ_mul];lia
    .constructor
     .rintro(⟨f',h1,h2⟩|h)
      .exact⟨f',by lia,h2⟩
      .exact⟨f,by lia,h⟩
     .rintro⟨f',h1,h2⟩;by_cases z:f'=f
      .rw[z]at h2;exact .inr h2
      .exact .inl ⟨f',by lia,h2⟩
 .rintro σ H2 ⟨c4,c5,c6,c7,c8,c9,CG,CH,CI,Dt,rfl,s2,Gr,Ak,Gw⟩;refine⟨_,D?,q td H2 Dt s2 EU Gr (by lia) (Gw.congr λc=>?_)⟩;constructor
  .rintro⟨f',Di,ks,h1,h2,h3⟩;exact⟨ks,h1,(lH h1).mp ⟨f',Di,h2⟩,h3⟩
  .rintro⟨ks,h1,h2,h3⟩;obtain⟨f',Di,h4⟩:=(lH h1).mpr h2;exact⟨f',Di,ks,h1,h4,h3⟩
def yD(C:V6)(w:Wy)(s p:Int)(Ws:List cy)(nv:V)(H:Hp)(Q:VK):Prop:=(nv=.non/\Q .non H)\/∃(d:V6)(L:CLs),nv=.ref d/\H d=A? (.dT (dE L))/\d∉w.ks.map (·.d)/\L.length<=100/\(∀e∈L,∃k:Nat,e.1.2=(k:Int)/\k<w.ks.length)/\∀(H':Hp)(a:V6)(zg:List Kd),FrB (w.pl::w.ks.map (·.d)) H H'->WyAt C H' {w with ps:=w.ps++[(s,p,a)],ks:=zg}->(∀(k:Nat)(kd:Kd),zg[k]?=A? kd->NeedT (Ws++[(s,p,L)]) k kd.es/\kd.es.length<=100 * (Ws.length+1))->zg.map Kd.sh=w.ks.map Kd.sh->Q .non H'
inductive f8(C:V6)(vs:List V)(H:Hp)(Q:VK)(_E:XK):Prop
 |mk (w:Wy) (s p:Int) (nv:V) (Ws:List cy):vs=[.ref w.x,.int s,.int p,nv]->WyAt C H w->w.ps.length=Ws.length->Ws.length<=5000->(∀(k:Nat)(kd:Kd),w.ks[k]?=A? kd->NeedT Ws k kd.es/\kd.es.length<=100 * Ws.length)->yD C w s p Ws nv H Q->f8 C vs H Q _E
theorem j8:bp P w K mg base CX0 1 T.g_15.f T.g_15.d ["self","state","part","needs"] (f8 T.e_Ways):=by
 refine T.g_15.F.okA cq λzh A outer s H vs Q E hr h=>?_;obtain⟨w,st,pt,nv,Ws,rfl,hw,AO,Jb,hN,Tq⟩:=h
 refine⟨_,(ak (bL (aH og (pv 3) fP (aN _)) (ad (gK (bA WX rfl (gW (pv 3)) (bM rfl (az (bM rfl (az (pgN 4 cq.nd) (az (pgN 5 cq.nd) bg))) (az (pgN 6 cq.nd) bg))) (ad (am 7 cq.nd (oR (cK hr) (aw aS (bB (pv 0) rfl) (pv 5) (λ_ _=>rfl)) (aW (aa (pv 4) (aa (pv 6) af))) ae ⟨D?,D?,D?,D?⟩))
  (ak (gR (cK hr) (aw aS (bB (pv 0) rfl) (pv 5) (λ_ _=>rfl)) (aW (aa (pv 4) (aa (pv 6) af))) (ax yn (pv 7) (ax ue ae (aB aA rfl T.n_2 WW (aa (bB (pv 0) rfl) af)))) rfl)))))
  (ak (aX (cC WG WV WU bi (bB (pv 0) rfl) (aa (aW (aa (pv 1) (aa (pv 2) af))) af))))) aY)),?_⟩
 try dsimp only[zB,ze]
 rcases Tq with⟨rfl,q⟩|⟨d,L,rfl,ed,Co,Lj,Tr,q⟩
 .exact⟨_,D?,D?,_,D?,da q⟩
 refine⟨_,D?,D?,_,D?,de ?_⟩;refine⟨_,D?,d,_,D?,ed,λo=>?_⟩;have Tt:∀k∈w.ks,k.d≠d:=λk hk z=>Co (Wv.mpr ⟨k,hk,z⟩);have k0:KT H (upd H d (.frz o (.dT (dE L)))):=λb xs z=>by rw[aj (aF z ed (λy=>nomatch y))];exact z
 have HE:WyAt T.e_Ways (upd H d (.frz o (.dT (dE L)))) w:=hw.keep k0 λb hb u e=>by
  refine(aj ?_).trans e;rintro rfl;rw[ed]at e;unfold Wy.own at hb;simp only[Wr,Wm]at hb;rcases hb with rfl|rfl|rfl|rfl|hb|hb
  .rw[hw.ins]at ed;cases ed
  .rw[hw.pl]at ed;cases ed
  .rw[hw.nl]at ed;cases ed
  .rw[hw.al]at ed;cases ed
  .exact Co hb
  .obtain⟨kd,hm,e'⟩:=Wv.mp hb;have:=hw.ag kd hm;rw[e',ed]at this;cases this
 refine lj (a:=d) (o:=o) (es:=L) (λj σ H3=>Ex5 λ(c4 c5 c6 c7:Option V)(zg:List Kd)=>An6 (σ=[A? (.ref w.x),A? (.int st),A? (.int pt),A? (.ref d),c4,c5,c6,c7]) (FrB (d::w.ks.map (·.d)) H H3) (H3 d=A? (.frz o (.dT (dE L)))) (WyAt T.e_Ways H3 {w with ks:=zg}) ((∀(k:Nat)(kd:Kd),zg[k]?=A? kd->NeedT (Ws++[(st,pt,L.take j)]) k kd.es/\kd.es.length<=100 * Ws.length+j)) (zg.map Kd.sh=w.ks.map Kd.sh))
  ⟨B?,B?,B?,B?,w.ks,rfl,L! (Wj ..),ac,HE,λk kd hk=>⟨by rw[Yj];exact(hN k kd hk).1.more st pt,(hN k kd hk).2⟩,rfl⟩ (λj σ H3 _⟨_,_,_,_,_,_,_,e,_,_,_⟩=>e) ?_ ?_
 .rintro j e p2 b σ H3 he zG eb ⟨c4,c5,c6,c7,zg,rfl,f3,Bg,BZ,JR,ED⟩;refine gU zG λH4 s4 DY=>?_;refine hid λZZ kZ=>?_;obtain⟨k,hk,zZ⟩:=Tr e (V5 he)
  have hlen:zg.length=w.ks.length:=by
   have:=h! XG ED;rw[V2,V2]at this;exact this
  obtain⟨kd,Ai⟩:∃kd,zg[k]?=A? kd:=⟨_,V4 (by lia)⟩;have AX:=V5 Ai;obtain⟨Lp,Df⟩:=JR k kd Ai;refine kZ ?_;have VJ:=(glE he)
  have Tu:zg.map (·.d)=w.ks.map (·.d):=by
   have:=h! (ZQ (·.1)) ED;rw[WR,WR]at this;exact this
  have JS:kd.d∈w.ks.map (·.d):=by rw[<-Tu];exact Wv.mpr ⟨kd,AX,rfl⟩
  have Ln:kd.d≠d:=λz=>Co (z ▸ JS);have B9:=BZ.same s4;refine⟨p2,_,D?,i! DY,D?,.ref b,_,D?,⟨b,_,D?,i! (s4 _ _ eb),D?,_,_,D?,_,_,D?,D?,_,_,D?,D?,?_⟩⟩;dsimp only[au];refine⟨_,D?,w.x,T.e_Ways,w.dx,_,_,D?,B9.ins,T.cl_Ways,T.na_Ways_needing,ub,_,D?,w.nl,_,e.1.2,.ref kd.d,D?,D?,l! B9.nl,?_,kd.d,D?,.inr ⟨_,.inl (B9.nd kd AX)⟩,_,D?,_,D?,lnE rfl,λc1 Tv=>?_⟩
  .rw[hk];exact br (j:=k) (by rw[V7];show(zg[k]?).map _=_;rw[Ai];rfl)
  refine gU Tv λH5 s5 NP=>?_;have NP:H5 c1=A? (.tup ((ky (e.1.1,e.2)).map kV)):=NP;have By:=B9.same s5;refine⟨_,O! (By.nd kd AX) NP,?_⟩;rw[i9];have hg:((dC kd.es (e.1.1,e.2)).map o!).getD (.int 0)=.int ((dC kd.es (e.1.1,e.2)).getD 0):=by cases dC kd.es (e.1.1,e.2) <;> rfl
  rw[hg];dsimp only[au];refine⟨_,D?,_,D?,w.x,T.e_Ways,w.dx,_,_,D?,By.ins,T.cl_Ways,T.na_Ways_pairs,rD,w.pl,_,D?,.inl (l! By.pl),_,_,D?,D?,⟨by lia,by rw[V2];show((w.ps.length:Nat):Int)<=_;lia,by decide⟩,_,_,D?,D?,?_⟩;refine⟨_,D?,w.x,T.e_Ways,w.dx,_,_,D?,By.ins,T.cl_Ways,T.na_Ways_needing,ub,_,D?,w.nl,_,e.1.2,.ref kd.d,D?,D?,l! By.nl,?_,_,D?,_,D?,lnE rfl,λc2 Bj=>?_⟩
  .rw[hk];exact br (j:=k) (by rw[V7];show(zg[k]?).map _=_;rw[Ai];rfl)
  refine gU Bj λH6 s6 NQ=>?_;have NQ:H6 c2=A? (.tup ((ky (e.1.1,e.2)).map kV)):=NQ;have NR:=By.same s6;refine⟨kd.d,_,D?,DPut.t (NR.nd kd AX) NQ (aZ (by unfold dE;rw[V2];lia)),?_⟩;rw[nH,V2,show(({w with ks:=zg}:Wy).ps.length)=Ws.length from AO];have EY:=NR.setEs (es:=eE kd.es (e.1.1,e.2) (Ys ((dC kd.es (e.1.1,e.2)).getD 0) (1 * 2 ^ ((Ws.length:Nat):Int).toNat))) Ai;have Ql:=s4.trans (s5.trans s6);refine⟨_,_,_,_,_,D?,f3.trans ((J! Ql).trans (L! (Wo _ JS))),(aj Ln.symm).trans (Ql _ _ Bg),EY,λk' AM zD=>?_,?_⟩
  .rw[X4,he];show NeedT (Ws++[(st,pt,L.take j++[e])]) k' AM.es/\_;by_cases z:k=k'
   .subst z;rw[XC (show k<zg.length by lia)]at zD;cases zD;have h1:=Lp.put (c:=e.1.1) (w:=e.2);rw[<-hk]at h1;have h2:=oF kd.es (e.1.1,e.2) (Ys ((dC kd.es (e.1.1,e.2)).getD 0) (1 * 2 ^ ((Ws.length:Nat):Int).toNat));exact⟨h1,Xa h2 (by lia)⟩
   .rw[XD z]at zD;obtain⟨h1,h2⟩:=JR k' AM zD;exact⟨h1.other (by rw[hk];lia),by lia⟩
  .rw[<-ED];exact map_set _ Ai rfl
 .rintro σ H3 ⟨c4,c5,c6,c7,zg,rfl,f3,Bg,BZ,JR,ED⟩;rw[XU]at JR;have k4:KT H3 (upd H3 d (.dT (dE L))):=λb xs z=>by rw[aj (aF z Bg (λy=>nomatch y))];exact z
  have B9:=BZ.keep (H':=upd H3 d (.dT (dE L))) k4 λb hb u e=>by
   refine(aj ?_).trans e;rintro rfl;rw[Bg]at e;unfold Wy.own at hb;simp only[Wr,Wm]at hb;rcases hb with rfl|rfl|rfl|rfl|hb|hb
   .have:=BZ.ins;rw[Bg]at this;cases this
   .have:=BZ.pl;rw[Bg]at this;cases this
   .have:=BZ.nl;rw[Bg]at this;cases this
   .have:=BZ.al;rw[Bg]at this;cases this
   .obtain⟨kd,hm,e'⟩:=Wv.mp hb;have:=BZ.nd kd hm;rw[e',Bg]at this;cases this
   .obtain⟨kd,hm,e'⟩:=Wv.mp hb;have:=BZ.ag kd hm;rw[e',Bg]at this;cases this
  have f4:FrB (w.pl::w.ks.map (·.d)) H (upd H3 d (.dT (dE L))):=λb u hb z=>by
   by_cases Lx:b=d
   .rw[Lx,ed]at z;rw[Lx,ac];exact z
   .rw[aj Lx];exact f3 b u (λy=>(Wr.mp y).elim Lx λy=>hb (Wo _ y)) z
  refine⟨upd H3 d (.dT (dE L)),λb=>?_,?_⟩
  .by_cases hb:b=d
   .rw[hb];exact .inr ⟨o,_,Bg,ed,ac⟩
   .exact .inl (aj hb)
  generalize(upd H3 d (.dT (dE L)))=H4 at B9 f4 |-;refine⟨_,D?,w.x,T.e_Ways,w.dx,_,_,D?,B9.ins,T.cl_Ways,T.na_Ways_pairs,rD,.inl ⟨D?,_,l! B9.pl⟩,_,D?,_,D?,lnE rfl,λa ha=>?_⟩;refine gU ha λH5 s5 ea=>?_;have By:=B9.same s5;refine⟨w.pl,_,_,D?,D?,By.pl,aZ (by rw[V2];show w.ps.length<=1000000;lia),?_⟩
  exact q _ a zg (f4.trans ((J! s5).trans (L! (Wj ..)))) (By.addP ea) (λk kd hk=>by
   obtain⟨h1,h2⟩:=JR k kd hk;exact⟨h1,by lia⟩) ED
structure WIn(H:Hp)(rt:V6)(cs:List V6)(To:List (WE×List Nat))(Ls:List Th)(ar:WE->Nat)(m S:Nat)(pats:List Th):Prop where
 rt:H rt=A? (.tup (cs.map k!))
 to:WL (EnA H) To cs
 cl:Cl To Ls
 aL:∀t∈Ls,Ars ar t
 ap:∀p∈pats,Ars ar p/\p.size<=100/\∀s k:Int,r! s k∈p.walk->(∃k':Nat,k=(k':Int)/\k'<m)/\∃s':Nat,s=(s':Int)/\s'<S
 hS:pats.length=S
 big:S * Ls.length<=4000
theorem WIn.mono{rt:V6}{cs:List V6}{To:List (WE×List Nat)}{S:Nat}(h:WIn H rt cs To Ls ar m S pats)(k:KT H H'):WIn H' rt cs To Ls ar m S pats :=
 ⟨k _ _ h.rt,t! (λ_ _ z=>k _ _ z) h.to,h.cl,h.aL,h.ap,h.hS,h.big⟩
structure WOk(Ls pats:List Th)(w:Wy)(Ws:List cy):Prop where
 sp:WSp Ls pats (λ_ _=>True) Ws
 ps:w.ps.map (λq=>(q.1,q.2.1))=Ws.map (λq=>(q.1,q.2.1))
 nt:∀(k:Nat)(kd:Kd),w.ks[k]?=A? kd->NeedT Ws k kd.es/\kd.es.length<=100 * Ws.length
 len:Ws.length<=4000
structure WI(C:V6)(H:Hp)(w0:Wy)(Ls pats:List Th)(H7:Hp)(w:Wy)(Ws:List cy)(d:Nat->Nat->Prop)(n:Nat):Prop where
 sb:SameB w0.x H H7
 wa:WyAt C H7 w
 eq:w.x=w0.x/\w.nm=w0.nm/\w.pl=w0.pl/\w.nl=w0.nl/\w.al=w0.al
 sh:w.ks.map Kd.sh=w0.ks.map Kd.sh
 sp:WSp Ls pats d Ws
 ps:w.ps.map (λq=>(q.1,q.2.1))=Ws.map (λq=>(q.1,q.2.1))
 nt:∀(k:Nat)(kd:Kd),w.ks[k]?=A? kd->NeedT Ws k kd.es/\kd.es.length<=100 * Ws.length
 len:Ws.length<=n
theorem WI.same{w0:Wy}{w:Wy}{d d':Nat->Nat->Prop}{n':Nat}(h:WI C H w0 Ls pats H7 w Ws d n)(s:j! H7 H8)(e:∀st pt,(∃p,pats[st]?=A? p)->(∃u,Ls[pt]?=A? u)->d' st pt->d st pt)(hn:n<=n'):WI C H w0 Ls pats H8 w Ws d' n' :=
 ⟨h.sb.trans (y! s),h.wa.same s,h.eq,h.sh,h.sp.congr e,h.ps,h.nt,Xa h.len hn⟩
theorem WI.psl{w0:Wy}{w:Wy}{d:Nat->Nat->Prop}(h:WI C H w0 Ls pats H7 w Ws d n):w.ps.length=Ws.length:=by
 have:=h! XG h.ps;rw[V2,V2]at this;exact this
inductive jd(C:V6)(vs:List V)(H:Hp)(Q:VK)(_E:XK):Prop
 |mk (x dx ka pa rt:V6) (nm:WE) (m S:Nat) (pats:List Th) (GA cs:List V6) (To:List (WE×List Nat)) (Ls:List Th) (ar:WE->Nat):vs=[.ref x,.ref ka,.ref pa,.ref rt]->H x=A? (.ins C dx [])->H ka=A? (.tup [.str nm,.int (m:Nat)])->m<=3->H pa=A? (.lst (GA.map k!))->Ats H pats GA->WIn H rt cs To Ls ar m S pats->(∀(w:Wy)(H':Hp)(Ws:List cy),w.x=x->w.nm=nm->SameB x H H'->WyAt C H' w->w.ks.length=m->(∀k∈w.ks,k.ag=[])->WOk Ls pats w Ws->(∀b∈w.pl::w.nl::w.al::(w.ks.map (·.d)++w.ks.map (·.a)),H b=B?)->Q .non H')->jd C vs H Q _E
theorem nZ:bp P w K mg base CX0 3 T.g_14.f T.g_14.d ["self","kind","patterns","row"] (jd T.e_Ways):=by
 refine T.g_14.F.okA dM λzh A outer s H vs Q E hr h=>?_;obtain⟨x,dx,ka,pa,rt,nm,m,S,pats,GA,cs,To,Ls,ar,rfl,ex,zQ,hm,Dl,AO,z9,q⟩:=h
 refine⟨_,(ad (gh (pv 0) (aw ay (pv 1) ae (λ_ _=>rfl)) rfl)
  (ad (gh (pv 0) (bV af) rfl)
  (ad (gh (pv 0) (be (N:=["kid"]) (js:=[B?]) (g:=(au 0)) (tt:=aQ) (te:=tM) rfl (bK rfl (by decide +kernel) (by decide +kernel) rfl rfl rfl) (bU rfl T.n_6 (aa (aw ay (pv 1) ae (λ_ _=>rfl)) af)) (λ_ _ _ _ _ _=>(pgN 0 xn)) (aD rfl) (λ_ _ _ _ _ _=>aU) (λ_ _ _ _ _ _=>d7)) rfl)
  (ad (gh (pv 0) (be (N:=["kid"]) (js:=[B?]) (g:=(au 0)) (tt:=aQ) (te:=(xY iT)) rfl (bK rfl (by decide +kernel) (by decide +kernel) rfl rfl rfl) (bU rfl T.n_6 (aa (aw ay (pv 1) ae (λ_ _=>rfl)) af)) (λ_ _ _ _ _ _=>(pgN 0 xn)) (aD rfl) (λ_ _ _ _ _ _=>aU) (λ_ _ _ _ _ _=>(bV af))) rfl)
  (ak (bA WX rfl (iV rfl T.n_1 (pv 2)) (bM rfl (az (pgN 4 dM.nd) (az (pgN 5 dM.nd) bg))) (ak (bA WX rfl (bU rfl T.n_6 (aa (aB aA rfl T.n_2 WW (aa (pv 3) af)) af)) (pgN 6 dM.nd) (ak (aX (fK (pv 0) T.cl_Ways T.g_15.me (j8 T) (hr.mono (by first|decide|lia)) T.g_15.b .nil cW (aa (pv 4) (aa (pv 6) (aa (pcF T.g_11 (jV T) hr (aa (pv 5) (aa (pv 3) (aa (pv 6) af)))) af)))))))))))))),?_⟩
 try dsimp only[zB,ze]
 refine⟨_,D?,ka,_,0,.str nm,D?,D?,i! zQ,at0,_,D?,x,T.e_Ways,dx,_,D?,ex,T.cl_Ways,T.na_Ways_kind_name,(by show 0<1000;decide),?_⟩;have b1:SameB x H (upd H x (.ins T.e_Ways dx (aO (Wb "kind_name") (.str nm) []))):=z!;have x1:(upd H x (.ins T.e_Ways dx (aO (Wb "kind_name") (.str nm) []))) x=A? (.ins T.e_Ways dx (aO (Wb "kind_name") (.str nm) [])):=ac
 have fr:∀{H1:Hp}{o:HO},SameB x H H1->H1 x=A? o->∀b,H1 b=B?->H b=B?/\b≠x:=λ{H1 o}s e b z=>by
  have hb:b≠x:=λy=>by rw[y,e]at z;cases z
  refine⟨?_,hb⟩;cases y:H b with
  |none=>rfl
  |some u=>rw[s b u hb y]at z;cases z
 generalize(upd H x (.ins T.e_Ways dx (aO (Wb "kind_name") (.str nm) [])))=H1 at b1 x1 |-;refine⟨lnE rfl,λpl Ax=>?_⟩;obtain⟨Qm,Ly⟩:=fr b1 x1 pl Ax;refine⟨_,D?,x,T.e_Ways,dx,_,D?,(aj Ly.symm).trans x1,T.cl_Ways,T.na_Ways_pairs,(by show 1<1000;decide),?_⟩;have b2:SameB x H (upd (upd H1 pl (.lst [])) x (.ins T.e_Ways dx (aO (Wb "pairs") (.ref pl) (aO (Wb "kind_name") (.str nm) [])))):=b1.trans ((y! (ao Ax _)).trans z!);have x2:(upd (upd H1 pl (.lst [])) x (.ins T.e_Ways dx (aO (Wb "pairs") (.ref pl) (aO (Wb "kind_name") (.str nm) [])))) x=A? (.ins T.e_Ways dx (aO (Wb "pairs") (.ref pl) (aO (Wb "kind_name") (.str nm) []))):=ac;have p2:(upd (upd H1 pl (.lst [])) x (.ins T.e_Ways dx (aO (Wb "pairs") (.ref pl) (aO (Wb "kind_name") (.str nm) [])))) pl=A? (.lst []):=(aj Ly).trans ac;generalize(upd (upd H1 pl (.lst [])) x (.ins T.e_Ways dx (aO (Wb "pairs") (.ref pl) (aO (Wb "kind_name") (.str nm) []))))=H2 at b2 x2 p2 |-;have kx:ka≠x:=aF zQ ex (λz=>nomatch z);refine⟨_,D?,ka,_,1,.int (m:Nat),D?,D?,i! (b2 _ _ kx zQ),at1,(m:Nat),D?,by lia,by lia,?_⟩;rw[Wl];refine pc (n:=m) (o:=.dT []) (by lia) (λi H3 R _ hR=>λd hd=>hR d hd) λnl H3 ds CF s3 e3 dl Tw AU=>?_;obtain⟨Tx,Qn⟩:=fr b2 x2 nl CF;refine⟨_,D?,x,T.e_Ways,dx,_,D?,s3 _ _ x2,T.cl_Ways,T.na_Ways_needing,(by show 2<1000;decide),?_⟩;have b3:=b2.trans (y! s3)
 have Lz:∀d∈ds,d≠x/\H d=none:=λd hd=>by
  obtain⟨h1,h2,h3⟩:=AU d hd;obtain⟨h4,h5⟩:=fr b2 x2 d h2;exact⟨h5,h4⟩
 have b4:SameB x H (upd H3 x (.ins T.e_Ways dx (aO (Wb "needing") (.ref nl) (aO (Wb "pairs") (.ref pl) (aO (Wb "kind_name") (.str nm) []))))):=b3.trans z!;have x4:(upd H3 x (.ins T.e_Ways dx (aO (Wb "needing") (.ref nl) (aO (Wb "pairs") (.ref pl) (aO (Wb "kind_name") (.str nm) []))))) x=A? (.ins T.e_Ways dx (aO (Wb "needing") (.ref nl) (aO (Wb "pairs") (.ref pl) (aO (Wb "kind_name") (.str nm) [])))):=ac;have p4:(upd H3 x (.ins T.e_Ways dx (aO (Wb "needing") (.ref nl) (aO (Wb "pairs") (.ref pl) (aO (Wb "kind_name") (.str nm) []))))) pl=A? (.lst []):=(aj Ly).trans (s3 _ _ p2);have n4:(upd H3 x (.ins T.e_Ways dx (aO (Wb "needing") (.ref nl) (aO (Wb "pairs") (.ref pl) (aO (Wb "kind_name") (.str nm) []))))) nl=A? (.lst (ds.map k!)):=(aj Qn).trans e3;have d4:∀d∈ds,(upd H3 x (.ins T.e_Ways dx (aO (Wb "needing") (.ref nl) (aO (Wb "pairs") (.ref pl) (aO (Wb "kind_name") (.str nm) []))))) d=A? (.dT (dE [])):=λd hd=>(aj (Lz d hd).1).trans (AU d hd).1;generalize(upd H3 x (.ins T.e_Ways dx (aO (Wb "needing") (.ref nl) (aO (Wb "pairs") (.ref pl) (aO (Wb "kind_name") (.str nm) [])))))=H4 at b4 x4 p4 n4 d4 |-;refine⟨_,D?,ka,_,1,.int (m:Nat),D?,D?,i! (b4 _ _ kx zQ),at1,(m:Nat),D?,by lia,by lia,?_⟩;rw[Wl];refine pc (n:=m) (o:=.lst []) (by lia) (λi H5 R _ hR=>⟨lnE rfl,λd hd=>hR d hd⟩) λal H5 as Ay s5 e5 Tz and' has=>?_;obtain⟨TB,TC⟩:=fr b4 x4 al Ay;refine⟨_,D?,x,T.e_Ways,dx,_,D?,s5 _ _ x4,T.cl_Ways,T.na_Ways_agreeing,(by show 3<1000;decide),?_⟩
 have Qo:∀a∈as,a≠x/\H a=none:=λa ha=>by
  obtain⟨h1,h2,h3⟩:=has a ha;obtain⟨h4,h5⟩:=fr b4 x4 a h2;exact⟨h5,h4⟩
 rw[vA nm pl nl al];have TF:pl≠nl:=λz=>by rw[z,CF]at p2;cases p2
 have TH:pl≠al:=λz=>by rw[z,Ay]at p4;cases p4
 have TJ:nl≠al:=λz=>by rw[z,Ay]at n4;cases n4
 obtain⟨md,ma,me⟩:=tZ (ds:=ds) (as:=as) (dl.trans Tz.symm);have Ai:∀k∈iJ ds as,k.d∈ds/\k.a∈as:=λk hk=>⟨by rw[<-md];exact Wv.mpr ⟨k,hk,rfl⟩,by rw[<-ma];exact Wv.mpr ⟨k,hk,rfl⟩⟩
 have zZ:(iJ ds as).length=m:=by
  have:=h! XG md;rw[V2]at this;exact this.trans dl
 have b6:SameB x H (upd H5 x (.ins T.e_Ways dx (wyF nm pl nl al))):=b4.trans ((y! s5).trans z!)
 have HE:WyAt T.e_Ways (upd H5 x (.ins T.e_Ways dx (wyF nm pl nl al))) ⟨x,dx,nm,pl,nl,al,[],iJ ds as⟩:=by
  refine⟨ac,(aj Ly).trans (s5 _ _ p4),(by intro q hq;cases hq),?_,?_,λk hk=>?_,λk hk=>?_,TF,TH,TJ,λk hk=>?_,?_,?_⟩
  .have:=h! (ZQ k!) md;rw[WR]at this;exact((aj Qn).trans (s5 _ _ n4)).trans (h! (λz=>A? (HO.lst z)) this.symm)
  .have:=h! (ZQ k!) ma;rw[WR]at this;exact((aj TC).trans e5).trans (h! (λz=>A? (HO.lst z)) this.symm)
  .have h1:=(Ai k hk).1;rw[(me k hk).1];exact(aj (Lz _ h1).1).trans (s5 _ _ (d4 _ h1))
  .have h1:=(Ai k hk).2;rw[(me k hk).2];exact(aj (Qo _ h1).1).trans (has _ h1).1
  .obtain⟨_,h2,h3⟩:=has _ (Ai k hk).2;exact⟨λz=>(by rw[z,p4]at h2;cases h2),λz=>(by rw[z,n4]at h2;cases h2),h3⟩
  .exact(h! List.Nodup ma).mpr and'
  .exact(h! List.Nodup md).mpr Tw
 have GB:∀b∈pl::ds,H b=none:=λb hb=>by
  rcases Wr.mp hb with rfl|hb
  .exact Qm
  .exact(Lz b hb).2
 have HF:WI T.e_Ways H ⟨x,dx,nm,pl,nl,al,[],iJ ds as⟩ Ls pats (upd H5 x (.ins T.e_Ways dx (wyF nm pl nl al))) ⟨x,dx,nm,pl,nl,al,[],iJ ds as⟩ [] (λ_ _=>False) 0 :=
  ⟨b6,HE,⟨rfl,rfl,rfl,rfl,rfl⟩,rfl,WSp.nil _ _,rfl,λk kd hk=>by
   have:=(me kd (V5 hk)).1;rw[this];exact⟨NeedT.nil k,WY _⟩,WY _⟩
 generalize(upd H5 x (.ins T.e_Ways dx (wyF nm pl nl al)))=H6 at HF |-
 have LA:∀w:Wy,w.ks.map Kd.sh=(iJ ds as).map Kd.sh->w.ks.map (·.d)=ds/\w.ks.map (·.a)=as/\(∀k∈w.ks,k.ag=[])/\w.ks.length=m:=λw h=>by
  have h1:=h! (ZQ (·.1)) h;have h2:=h! (ZQ (·.2.1)) h;have h3:=h! XG h;rw[WR,WR]at h1 h2;rw[V2,V2]at h3;refine⟨(show w.ks.map (·.d)=(iJ ds as).map (·.d)from h1).trans md,(show w.ks.map (·.a)=(iJ ds as).map (·.a)from h2).trans ma,λk hk=>?_,h3.trans zZ⟩;obtain⟨k',zD,e⟩:=Wv.mp (h ▸ Wv.mpr ⟨k,hk,rfl⟩);have e2:k'.ag=k.ag:=h! (λz:V6×V6×List Int=>z.2.2) e;rw[<-e2];exact(me k' zD).2
 clear HE b6 b4 x4 p4 n4 d4 b3 s3 s5 AU has;have Qp:pa≠x:=aF Dl ex (λz=>nomatch z);refine⟨_,D?,pa,D?,⟨_,l! (HF.sb _ _ Qp Dl)⟩,?_⟩
 refine gX (K:=K) (a:=pa) (xs:=GA.map k!) (λi σ H7=>Ex5 λ(c4 c5 c6:Option V)(w:Wy)(Ws:List cy)=>An2 (σ=[A? (.ref x),A? (.ref ka),A? (.ref pa),A? (.ref rt),c4,c5,c6]) (WI T.e_Ways H ⟨x,dx,nm,pl,nl,al,[],iJ ds as⟩ Ls pats H7 w Ws (λs _=>s<i) (i * Ls.length)))
  ⟨B?,B?,B?,_,[],rfl,HF.same (λ_ _ e=>e) (λs _ _ _ h=>by lia) (WY _)⟩ (λi σ H7 _⟨_,_,_,_,_,_,h⟩=>l! (h.sb _ _ Qp Dl)) ?_ ?_
 .rintro i x' p σ H7 hx hp ⟨c4,c5,c6,w,Ws,rfl,hI⟩;rw[V7]at hx;refine hid λZZ kZ=>?_;obtain⟨pi,JT,rfl⟩:=WA.mp hx;obtain⟨pat,BV,Ej⟩:=AO.get JT;have Lb:=V5 BV;have Ah:=(glE BV);obtain⟨TL,hsz,Bz⟩:=z9.ap pat Lb;refine kZ ?_;refine gU hp λH8 s8 ep=>?_;have NS:∀{H9:Hp},SameB x H H9->KT H H9:=λ{H9}s b xs e=>s b _ (aF e ex (λz=>nomatch z)) e
  have NT:cs.length=Ls.length:=by
   have h1:To.length=cs.length:=Wx z9.to;rw[<-h1,z9.cl.len]
  refine⟨p,_,D?,i! ep,D?,_,_,D?,_,_,D?,D?,?_⟩;dsimp only[au];have NU:SameB x H H8:=hI.sb.trans (y! s8)
  have VL:Ls.length<=4000:=by
   have h1:=z9.hS;have h2:=z9.big;have:1 * Ls.length<=S * Ls.length:=YL _ (by lia);lia
  refine⟨_,D?,rt,_,D?,.inr (i! (NS NU _ _ z9.rt)),_,D?,by lia,by rw[V2];lia,?_⟩;rw[V2,Wl,NT]
  refine cj (lo:=0) (n:=Ls.length) (λj σ H9=>Ex3 λ(c6:Option V)(w:Wy)(Ws:List cy)=>An2 (σ=[A? (.ref x),A? (.ref ka),A? (.ref pa),A? (.ref rt),A? (.int (i:Nat)),A? (.ref pi),c6]) (WI T.e_Ways H ⟨x,dx,nm,pl,nl,al,[],iJ ds as⟩ Ls pats H9 w Ws (λs pt=>s<i\/(s=i/\pt<j)) (i * Ls.length+j)))
   ⟨c6,w,Ws,rfl,hI.same s8 (λs pt _ _ h=>by lia) (Wc _)⟩ ?_ ?_
  .rintro j σ H9 hj ⟨c6,w,Ws,rfl,Aw⟩;rw[Int.zero_add];refine hid λZZ kZ=>?_;obtain⟨u,hu⟩:∃u,Ls[j]?=A? u:=⟨_,V4 hj⟩;have JU:=z9.mono (NS Aw.sb);have TM:=Ej.mono (NS Aw.sb);obtain⟨g1,g2,g3,g4,g5⟩:=Aw.eq;obtain⟨h1,h2,h3,h4⟩:=LA w Aw.sh;refine kZ ?_
   have Cc:Ws.length<=5000:=by
    have q1:=Aw.len;have q2:(i+1) * Ls.length<=S * Ls.length:=YL _ (by have:=z9.hS;lia);have q3:=z9.big;rw[Nat.succ_mul]at q2;lia
   have NV:∀{G8:Hp},j! H9 G8->WyAt T.e_Ways G8 w:=λs=>Aw.wa.same s;refine⟨_,D?,x,w.dx,_,D?,by rw[<-(show w.x=x from g1)];exact Aw.wa.ins,gy,_,D?,_,D?,_,D?,_,D?,_,D?,pi,rt,j,pat,u,cs,To,Ls,ar,D?,TM,JU.rt,JU.to,z9.cl,hu,TL,z9.aL,by lia,λG8 Fe zt=>?_,λd L G8 Fe Co ed hL=>?_⟩
   .refine⟨w,_,_,_,Ws,by rw[g1];rfl,NV Fe,Aw.psl,Cc,Aw.nt,.inl ⟨D?,?_⟩⟩;refine⟨_,w,Ws,D?,⟨Aw.sb.trans (y! Fe),NV Fe,Aw.eq,Aw.sh,(Aw.sp.none BV hu zt).congr λs pt _ _ h=>?_,Aw.ps,Aw.nt,by have:=Aw.len;lia⟩⟩;lia
   .have EE:d∉w.ks.map (·.d):=λz=>by
     obtain⟨kd,hm,e⟩:=Wv.mp z;have:=Aw.wa.nd kd hm;rw[e,Co]at this;cases this
    refine⟨w,_,_,_,Ws,by rw[g1];rfl,NV Fe,Aw.psl,Cc,Aw.nt,.inr ⟨d,L,D?,ed,EE,by have:=mX hL;lia,λe he=>?_,λRt a zg TN NW TQ ED=>?_⟩⟩
    .obtain⟨k',e1,e2⟩:=(Bz _ _ (hL.ok e he).2).1;exact⟨k',e1,by lia⟩
    .refine⟨_,_,Ws++[(_,_,L)],D?,⟨?_,NW,⟨g1,g2,g3,g4,g5⟩,ED.trans Aw.sh,(Aw.sp.add BV hu hL).congr λs pt _ _ h=>?_,?_,?_,?_⟩⟩
     .intro b o hb e;refine TN b o (λz=>?_) (Fe _ _ (Aw.sb b o hb e));rw[h1,g3]at z;rw[GB b z]at e;cases e
     .lia
     .rw[WB,WB,Aw.ps];rfl
     .intro k kd hk;rw[Wk,WM];exact TQ k kd hk
     .rw[Wk,WM];have:=Aw.len;lia
  .rintro σ H9 ⟨c6,w,Ws,rfl,Aw⟩;refine⟨_,_,_,w,Ws,D?,Aw.same (λ_ _ e=>e) (λs pt _ BD h=>?_) (by rw[Nat.succ_mul];exact Wc _)⟩;obtain⟨u,hu⟩:=BD;have:=(glE hu);lia
 .rintro σ H7 ⟨c4,c5,c6,w,Ws,rfl,hI⟩;refine hid λZZ kZ=>?_;obtain⟨h1,h2,h3,h4⟩:=LA w hI.sh;obtain⟨g1,g2,g3,g4,g5⟩:=hI.eq;refine kZ ?_;have Ax:pats.length=GA.length:=AO.length.symm;refine q w H7 Ws g1 g2 hI.sb hI.wa h4 h3 ⟨hI.sp.congr λs pt hs _ _=>?_,hI.ps,hI.nt,?_⟩ λb hb=>?_
  .obtain⟨p,hp⟩:=hs;have:=(glE hp);rw[V2];lia
  .have:=hI.len;rw[V2,<-Ax,z9.hS]at this;exact Xa this z9.big
  .rw[h1,h2,g3,g4,g5]at hb;simp only[Wr,Wm]at hb;rcases hb with rfl|rfl|rfl|hb|hb
   .exact Qm
   .exact Tx
   .exact TB
   .exact(Lz b hb).2
   .exact(Qo b hb).2
inductive gB(CT CW CM:V6)(vs:List V)(H:Hp)(Q:VK)(E:XK):Prop
 |mk (tb:Tb) (w:Wy) (b:Int) (n:Nat) (ka:V6) (ks:List Nat):vs=[.ref tb.x,.ref w.x,.int b,.int (n:Nat),.ref ka]->TbAt CT CW H tb->w∈tb.ws->H ka=A? (.tup (ks.map nW))->(∀k∈ks,k<tb.settled.length)->ks.length<=3->0<=b->(∀q∈w.ps,∃s:Nat,q.1=(s:Int)/\s<tb.S)->w.ps.length<=1000000->tb.S<=100000->(tb.found.map (·.note)).Nodup->tb.found.length<=30->w.nm≠q->(∀(note:List Int)(H':Hp),NoteBy w.ps b tb.S w.ps.length note->note∉tb.found.map (·.note)->tb.found.length=30->j! H H'->E (.ref CM) B? H')->(∀(c:NtE)(H':Hp)(F':List NtE),NoteBy w.ps b tb.S w.ps.length c.note->c.n=n+1->c.t=.knot w.nm (aG tb.settled ks)->Entd tb.found c F'->SameB tb.fd H H'->TbAt CT CW H' {tb with found:=F'}->Q .non H')->gB CT CW CM vs H Q E
theorem fU:bp P w K mg base (CX1 P w) 2 T.g_21.f T.g_21.d ["self","ways","bits","knots","kids"] (gB T.e_Table T.e_Ways T.e_Many):=by
 refine T.g_21.F.ok1 eu (λvs H Q E h=>?_) (λzh A outer s H vs Q E hr h=>?_)
 .obtain⟨tb,w,b,n,ka,ks,rfl,_⟩:=h;rfl
 obtain⟨tb,w,b,n,ka,ks,rfl,ht,Eu,zQ,zV,zZ,hb,zM,AO,hS,Bo,VM,Jl,qE,q⟩:=h
 refine⟨_,(ad (am 5 eu.nd (fK (pv 1) T.cl_Ways T.g_19.me (j9 T) (hr.mono (by first|decide|lia)) T.g_19.b .nil cW (aa (pv 2) (aa (bB (pv 0) rfl) af))))
  (ad (bL (PW.pt (gC (lu (fh (cK hr) (pv 5) (bB (pv 0) rfl))) (fJ (aH cN (aB gJ rfl T.n_2 WW (aa (bB (pv 0) rfl) af)) (nB (v:=.int (30)) rfl T.c_MOST_NOTES.choose_spec ⟨_,D?⟩) (aN _))))) (ak (ux T.X_Many T.x_Many gp)) aY)
  (ak (bL (PW.pt (rE (lu (fh (cK hr) (pv 5) (bB (pv 0) rfl))) (nJ (aH gb (ax bF (pv 3) ae) (aw ay (fH (cK hr) (bB (pv 0) rfl) (pv 5) (λ_ _=>rfl)) ae (λ_ _=>rfl)) (aN _))))) (ad (am 6 eu.nd (ax ny (aW (aa (bB (pv 1) rfl) af)) (bT bc rfl T.n_9 Xh (aa (be (N:=["kid","self"]) (js:=[B?,A? 0]) (g:=(au 0)) (tt:=aQ) (te:=(tOp (eF K) (tOp (yA K) (xZ K (bu 1) "settled") (bu 0)) (tC (.int 2)))) rfl (bK rfl (by decide +kernel) (by decide +kernel) rfl rfl rfl) (cf (pv 4)) (λ_ _ _ _ _ _=>(pgN 0 yM)) (aD rfl) (λ_ _ _ _ _ _=>aU) (λ_ _ _ _ _ _=>(aw ay (aw aS (bB (pv 1) rfl) (pv 0) (λ_ _=>rfl)) ae (λ_ _=>rfl)))) af))))
  (ak (gR (cK hr) (bB (pv 0) rfl) (pv 5) (aW (aa (ax bF (pv 3) ae) (aa (pv 5) (aa (pv 6) af)))) rfl))) aY)))),?_⟩
 try dsimp only[zB,ze]
 have AY:=ht.wa w Eu;refine⟨_,D?,w.x,w.dx,_,D?,AY.ins,gy,_,D?,_,D?,tb.x,T.e_Table,tb.dx,_,_,D?,ht.ins,T.cl_Table,T.na_Table_states,yp,w,b,tb.S,D?,AY,AO,hS,hb,zM,λr note H1 s1 er hN=>?_⟩;dsimp only[au];have Ap:=ht.same s1;have ek:H1 r=A? (.tup ((gd note).map kV)):=by rw[um];exact er
 refine aR (λi' H'=>i'=[A? (.ref tb.x),A? (.ref w.x),A? (.int b),A? (.int (n:Nat)),A? (.ref ka),A? (.ref r),B?]/\H'=H1/\(note∉tb.found.map (·.note)->tb.found.length≠30)) (λkk hk=>?_) ?_
 .refine⟨_,D?,_,D?,tb.x,T.e_Table,tb.dx,_,_,D?,Ap.ins,T.cl_Table,T.na_Table_found,kM,tb.fd,_,D?,O! Ap.fd ek,_,D?,?_⟩;cases hv:bz (nfv tb.found) (gd note)with
  | some v =>
    refine hid λZZ kZ=>?_;obtain⟨i,e,h1,h2,_⟩:=rg hv;refine kZ ?_;exact da (da (hk _ _ ⟨rfl,rfl,λz=>g! (Wv.mpr ⟨e,V5 h1,h2⟩) z⟩))
  | none =>
    refine de ⟨_,rfl,tb.x,T.e_Table,tb.dx,_,_,rfl,Ap.ins,T.cl_Table,T.na_Table_found,kM,tb.fd,_,rfl,Ap.fd,rfl,_,rfl,?_⟩;rw[ki];by_cases z:tb.found.length=30
    .rw[d! (show o! ((tb.found.length:Nat):Int)=o! 30 by rw[z];rfl)];exact de (qE note H1 hN (lh hv) z s1)
    .rw[c! (show¬o! ((tb.found.length:Nat):Int)=o! 30 fromλy=>z (by injection y with y;lia))];exact da (hk _ _ ⟨rfl,rfl,λ_=>z⟩)
 rintro i' H' ⟨rfl,rfl,Fq⟩;refine cE (λb' C5=>C5=H'/\(b'=Bq->∃F':NtE->List NtE,∀c:NtE,c.note=note->c.n=n+1->putK (nfv tb.found) (gd c.note) (.ref c.a)=nfv (F' c)/\Entd tb.found c (F' c))/\(b'=C?->∃e∈tb.found,e.note=note/\e.n<=n+1)) (λk2 zx=>?_) ?_ ?_
 .refine⟨_,D?,_,D?,tb.x,T.e_Table,tb.dx,_,_,D?,Ap.ins,T.cl_Table,T.na_Table_found,kM,tb.fd,_,D?,O! Ap.fd ek,_,D?,?_⟩;cases hv:bz (nfv tb.found) (gd note)with
  | none =>
    refine de (zx _ _ ⟨rfl,λ_=>⟨λc=>tb.found++[c],λc hc _=>?_⟩,λz=>(nomatch z)⟩);subst hc;exact⟨vQ hv,.add (lh hv) (Fq (lh hv))⟩
  | some v =>
    obtain⟨i,e,h1,h2,rfl⟩:=rg hv;have B8:=V5 h1;have NX:=Ap.fe e B8;refine da ⟨_,rfl,_,_,rfl,rfl,_,rfl,tb.x,T.e_Table,tb.dx,_,_,rfl,Ap.ins,T.cl_Table,T.na_Table_found,kM,_,rfl,tb.fd,_,rfl,by rw[<-hv];exact O! Ap.fd ek,e.a,_,0,.int (e.n:Nat),rfl,rfl,i! NX.a,at0,_,_,rfl,rfl,_,rfl,?_⟩;by_cases z:n+1<e.n
    .rw[d! (show(n:Int)+1<(e.n:Int)by lia)];refine zx _ _ ⟨rfl,λ_=>⟨λc=>tb.found.set i c,λc hc Gv=>?_⟩,λz=>(nomatch z)⟩;subst hc;exact⟨vi Bo h1 h2,.set i e h1 h2 (by lia)⟩
    .rw[c! (show¬(n:Int)+1<(e.n:Int)by lia)];exact zx _ _ ⟨rfl,λz=>(nomatch z),λ_=>⟨e,B8,h2,by lia⟩⟩
 .rintro C5 ⟨rfl,hF,_⟩;obtain⟨F',TR⟩:=hF rfl;refine aR (λQq H5=>Ex1 λtr=>An3 (Qq=[A? (.ref tb.x),A? (.ref w.x),A? (.int b),A? (.int (n:Nat)),A? (.ref ka),A? (.ref r),A? (.ref tr)]) (j! C5 H5) (At H5 (.knot w.nm (aG tb.settled ks)) tr)) (λkk hk=>?_) ?_
  .refine⟨_,D?,w.x,T.e_Ways,w.dx,_,_,D?,(Ap.wa w Eu).ins,T.cl_Ways,T.na_Ways_kind_name,yd,lnE rfl,λp1 Ar=>?_⟩;refine gU Ar λH2 s2 Qr=>?_;have GC:=Ap.same s2;have JV:=s2 _ _ (s1 _ _ zQ);refine⟨_,D?,ka,D?,⟨_,i! JV⟩,cb ks (λk=>k! (((tb.settled[k]?).map (·.ta)).getD 0)) (i! JV) (by rw[V2]) (by rw[V2];lia) (λi x z H3 R W' hx hz s3 hR=>?_) (λD H3 hD s3 e3=>?_)⟩
   .rw[V7,hz]at hx;cases hx;have LB:=zV z (V5 hz);have ez:=V4 LB;have NY:=GC.same s3;have TU:=NY.se _ (Xn LB);refine⟨_,D?,tb.x,T.e_Table,tb.dx,_,_,D?,NY.ins,T.cl_Table,T.na_Table_settled,l5,_,D?,tb.st,_,(z:Int),.ref (tb.settled[z]).a,D?,D?,l! NY.st,br (j:=z) (gmE ez),_,_,2,.ref (tb.settled[z]).ta,D?,D?,i! TU.a,at2,?_⟩;have:=hR H3 (λ_ _ e=>e);rw[ez]at this;exact this
   .have Ll:=rF (H:=H3) zV λe he=>((GC.same s3).se e he);refine⟨D,_,D?,.inl ⟨l! e3,λp2 zG=>?_⟩⟩;refine gU zG λH4 s4 DY=>?_;have LC:(ks.map λk=>k! (((tb.settled[k]?).map (·.ta)).getD 0))=(ks.map λk=>((tb.settled[k]?).map (·.ta)).getD 0).map k!:=by rw[WR];rfl
    have Dn:=s2.trans (s3.trans s4)
    have mk:∀(tr:V6)(H5:Hp),j! H4 H5->H5 tr=A? (.tup (.str w.nm::(ks.map λk=>k! (((tb.settled[k]?).map (·.ta)).getD 0))))->At H5 (.knot w.nm (aG tb.settled ks)) tr:=λtr H5 s5 e5=>by
     rw[LC]at e5;rw[At];exact⟨Jl,_,e5,Ll.mono (n! (s4.trans s5))⟩
    refine⟨p1,p2,_,_,D?,D?,i! (s4 _ _ (s3 _ _ Qr)),i! DY,by simp,Yi (aZ (by rw[V2];show 1+_<=1000000;lia)),λGu=>?_,λ_ p3 Be=>?_⟩
    .refine hk _ _ ⟨p1,rfl,Dn,mk p1 H4 (λ_ _ e=>e) ?_⟩;rw[Gu];exact s4 _ _ (s3 _ _ Qr)
    .exact hk _ _ ⟨p3,rfl,Dn.trans (ao Be _),mk p3 _ (ao Be _) ac⟩
  rintro Qq H5 ⟨tr,rfl,s5,TV⟩;refine⟨_,D?,_,_,D?,D?,_,D?,_,D?,lnE rfl,λpe TY=>?_⟩;refine gU TY λH6 s6 TZ=>?_;have Fz:=s5.trans s6;have LD:=Ap.same Fz;refine⟨_,D?,tb.x,T.e_Table,tb.dx,_,_,D?,LD.ins,T.cl_Table,T.na_Table_found,kM,_,D?,tb.fd,_,D?,DPut.t LD.fd (Fz _ _ ek) (aZ (by rw[ki];lia)),?_⟩;have hc:=TR ⟨n+1,note,.knot w.nm (aG tb.settled ks),pe,r,tr⟩ rfl rfl;have h1:=hc.1;dsimp only at h1;rw[h1];refine q ⟨n+1,note,.knot w.nm (aG tb.settled ks),pe,r,tr⟩ _ _ hN rfl rfl hc.2 ((y! (s1.trans Fz)).trans z!) (LD.setFound λe he=>?_);rcases hc.2.mem e he with he|rfl
  .exact LD.fe e he
  .exact⟨TZ,Fz _ _ er,TV.mono (n! s6)⟩
 .rintro C5 ⟨rfl,_,hF⟩;refine hid λZZ kZ=>?_;obtain⟨e,he,h1,h2⟩:=hF rfl;refine kZ ?_;exact q ⟨n+1,note,.knot w.nm (aG tb.settled ks),0,0,0⟩ C5 tb.found hN rfl rfl (.keep e he h1 h2) (y! s1) Ap
inductive fW(CT CW CM:V6)(vs:List V)(H:Hp)(Q:VK)(E:XK):Prop
 |mk (tb:Tb) (e:NtE) (ins:List (WE×Int)) (rows:List (List Th)) (Ls:List Th) (old:List NtE) (cl:WE->List Nat->Prop):vs=[.ref tb.x,.ref e.a]->TbAt CT CW H tb->TInv ins rows Ls old tb.ws.length cl tb->GoodN ins->Ls.Nodup->tb.S<=100000->e∈tb.found->e∉tb.settled->(∀y∈tb.found,y∉tb.settled->keyLt y.key e.key=C?)->(∀H',FrB tb.mut H H'->Over ins rows Ls->E (.ref CM) B? H')->(∀(zr:Tb)(H':Hp),FrB tb.mut H H'->TbAt CT CW H' zr->zr.x=tb.x->zr.settled=tb.settled++[e]->zr.mut=tb.mut->zr.ws.length=tb.ws.length->TInv ins rows Ls tb.settled zr.ws.length (λnm ks=>(cl nm ks/\∀k∈ks,k<tb.settled.length)\/((∃m:Nat,ins[m]?=A? (nm,((ks.length:Nat):Int)))/\(∀n∈ks,n<=tb.settled.length)/\tb.settled.length∈ks)) zr->Q .non H')->fW CT CW CM vs H Q E
theorem jF:bp P w K mg base (CX1 P w) 4 T.g_22.f T.g_22.d ["self","entry"] (fW T.e_Table T.e_Ways T.e_Many):=by
 refine T.g_22.F.ok1 b7 (λvs H Q E h=>?_) (λzh A outer s H vs Q E hr h=>?_)
 .obtain⟨tb,e,ins,rows,Ls,old,cl,rfl,_⟩:=h;rfl
 obtain⟨tb,e,ins,rows,Ls,old,cl,rfl,ht,hI,hg,Bo,hS,LF,Ck,Cn,qE,q⟩:=h
 refine⟨_,(ad (aX (cC WG WV WU bi (bB (pv 0) rfl) (aa (pv 1) af)))
  (ad (dN (i:=2) (N:=["knots","note","tree"]) (js:=[B?,B?,B?]) (g:=(lV K 3 (cP (au 0) (cP (au 1) (cP (au 2) lO))))) (tt:=aQ) (te:=(bu 0)) b7.nd rfl (Or.inl rfl) rfl (bK rfl (by decide +kernel) (by decide +kernel) rfl rfl rfl) (b9 (bB (pv 0) rfl)) (λ_ _ _ _ _ _=>(bM rfl (az (pgN 0 nK) (az (pgN 1 nK) (az (pgN 2 nK) bg))))) (jp (ck bC (aD rfl) (ck bC (aD rfl) (ck bC (aD rfl) jD)))) (λ_ _ _ _ _ _=>aU) (λ_ _ _ _ _ _=>(pv 0)))
  (ak (bA Z6 rfl (b9 (bB (pv 0) rfl)) (pgN 3 b7.nd) (ad (aX (fK (pv 3) T.cl_Ways T.g_17.me (jf T) (hr.mono (by first|decide|lia)) T.g_17.b .nil cW (aa (aw ay (pv 1) ae (λ_ _=>rfl)) af)))
  (ak (gK (bA Z6 rfl (kC (fK (pv 3) T.cl_Ways T.g_18.me (jb T) (hr.mono (by first|decide|lia)) T.g_18.b .nil cW (aa (ax iD (aB aA rfl T.n_2 WW (aa (pv 2) af)) ae) (aa (pv 2) af)))) (bM rfl (az (pgN 4 b7.nd) (az (bM rfl (az (pgN 5 b7.nd) (az (pgN 6 b7.nd) bg))) bg))) (ak (aX (fK (pv 0) T.cl_Table T.g_21.me (fU T) (hr.mono (by first|decide|lia)) T.g_21.b .nil pC (aa (pv 3) (aa (pv 4) (aa (pv 5) (aa (pv 6) af))))))))))))))),?_⟩
 try dsimp only[zB,ze]
 obtain⟨HF,NZ⟩:=hI.settle LF Ck Cn;have NX:=ht.fe e LF;have Fq:(tb.settled++[e]).length<=30:=HF.p.s30;rw[Wk,WM]at Fq;refine⟨_,D?,tb.x,T.e_Table,tb.dx,_,_,D?,ht.ins,T.cl_Table,T.na_Table_settled,l5,.inl ⟨D?,_,l! ht.st⟩,_,D?,tb.st,_,_,D?,D?,ht.st,lbE (by lia),?_⟩;have f1:FrB tb.mut H (upd H tb.st (.lst ((tb.settled.map λe=>k! e.a)++[.ref e.a]))):=L! (by unfold Tb.mut;simp);have Ap:=ht.push NX;generalize(upd H tb.st (.lst ((tb.settled.map λe=>k! e.a)++[.ref e.a])))=H1 at f1 Ap |-;refine⟨_,D?,tb.x,T.e_Table,tb.dx,_,_,D?,Ap.ins,T.cl_Table,T.na_Table_settled,l5,tb.st,D?,⟨_,l! Ap.st⟩,iQ (tb.settled++[e]) (λy=>o! (y.n:Nat)) (l! Ap.st) (by rw[V2]) (by rw[V2,Wk,WM];lia) (λi x z H2 R W' hx hz s2 hR=>?_) (λsz H2 hsz s2 Hz=>?_)⟩
 .rw[V7,hz]at hx;cases hx;have GD:=(Ap.same s2).se z (V5 hz);refine⟨z.a,_,D?,i! GD.a,D?,_,_,D?,_,_,D?,_,_,D?,D?,?_⟩;exact⟨_,D?,hR H2 (λ_ _ e=>e)⟩
 dsimp only[au];have GC:=Ap.same s2
 have N0:sz∉tb.mut:=λz=>by
  have D3:∀{b:V6}{o:HO},H1 b=A? o->b≠sz:=λe z=>by rw[z,hsz]at e;cases e
  unfold Tb.mut at z;rcases Wr.mp z with z|z
  .exact D3 Ap.fd z.symm
  .rcases Wr.mp z with z|z
   .exact D3 Ap.st z.symm
   .obtain⟨v,hv,z⟩:=YX.mp z;obtain⟨kd,Ai,z⟩:=Wv.mp z;exact D3 ((Ap.wa v hv).ag kd Ai) z
 refine⟨_,D?,tb.x,T.e_Table,tb.dx,_,_,D?,GC.ins,T.cl_Table,T.na_Table_ways,vX,tb.wl,D?,⟨_,l! GC.wl⟩,?_⟩
 refine fF (K:=K) (a:=tb.wl) (xs:=tb.ws.map λw=>k! w.x) (λi σ H3=>Ex5 λ(c3 c4 c5 c6:Option V)(zr:Tb)=>An5 (σ=[A? (.ref tb.x),A? (.ref e.a),A? (.ref sz),c3,c4,c5,c6]) (FrB tb.mut H2 H3) (TbAt T.e_Table T.e_Ways H3 zr) ((zr.x=tb.x/\zr.settled=tb.settled++[e]/\zr.mut=tb.mut/\zr.ws.map (·.x)=tb.ws.map (·.x)/\zr.wl=tb.wl)) (TInv ins rows Ls tb.settled i (λnm ks=>(cl nm ks/\∀k∈ks,k<tb.settled.length)\/((∃m:Nat,m<i/\ins[m]?=A? (nm,((ks.length:Nat):Int)))/\(∀n∈ks,n<=tb.settled.length)/\tb.settled.length∈ks)) zr))
  ⟨B?,B?,B?,B?,{tb with settled:=tb.settled++[e]},rfl,FrB.refl,GC,⟨rfl,rfl,rfl,rfl,rfl⟩,HF.congr λnm ks z=>z.elim id λz=>?_⟩ (λi σ H3 _⟨_,_,_,_,zr,_,_,h3,⟨_,_,_,hx,hw⟩,_⟩=>?_) ?_ ?_
 .refine hid λZZ kZ=>?_;obtain⟨⟨m,hm,_⟩,_⟩:=z;refine kZ ?_;exact g! hm (ZA _)
 .have:=h3.wl;have e3:=h! (ZQ k!) hx;rw[WR,WR]at e3;rw[hw,show(zr.ws.map λw=>k! w.x)=(tb.ws.map λw=>k! w.x)from e3]at this;exact l! this
 .rintro i x σ H3 hx ⟨c3,c4,c5,c6,zr,rfl,f3,h3,⟨x1,x2,x3,x4,x5⟩,GF⟩
  have Gf:∃w',zr.ws[i]?=A? w'/\x=.ref w'.x:=by
   have BL:(tb.ws.map (·.x))[i]?.map k!=A? x:=by rw[<-V7,WR];exact hx
   rw[<-x4,V7,Option.map_map]at BL;obtain⟨w',h1,h2⟩:=WA.mp BL;exact⟨w',h1,h2.symm⟩
  obtain⟨w',Bm,rfl⟩:=Gf;have Eu:=V5 Bm;have AY:=h3.wa w' Eu;have Qs:e∈zr.settled:=by rw[x2];simp
  have JW:=h3.se e Qs;obtain⟨Ws,hk⟩:=GF.k i w' Bm;rw[a! (Xy _)]at hk;have Am:=GF.p.f1 e (GF.p.s1 e Qs);dsimp only[au];refine⟨_,D?,w'.x,w'.dx,_,D?,AY.ins,gy,_,D?,e.a,_,1,.ref e.na,D?,D?,i! JW.a,at1,w',e.na,e.note,Ws,D?,AY,JW.na,hk.psl,(by have:=hk.len;lia),hk.nt,λkd Ai=>⟨λy hy=>?_,by have:=hk.ag.len kd Ai;lia⟩,λH4 zg f4 B9 HG=>?_⟩
  .rw[Am.note.len,cM Am];exact hk.nc kd Ai y hy
  have VN:zg.length=w'.ks.length:=HG.len;have AF:=hk.take HG;have hi:=(XN.mp Bm).1
  have AK:∀b∈w'.ks.map (·.a),b∈tb.mut:=λb hb=>by
   rw[<-x3];unfold Tb.mut;exact Wo _ (Wo _ (YX.mpr ⟨w',Eu,hb⟩))
  refine hid λZZ kZ=>?_
  obtain⟨t3,h4,⟨y1,y2,y3,y4,y5⟩,N1,BZ⟩:∃t3:Tb,TbAt T.e_Table T.e_Ways H4 t3/\(t3.x=tb.x/\t3.settled=tb.settled++[e]/\t3.mut=tb.mut/\t3.ws.map (·.x)=tb.ws.map (·.x)/\t3.wl=tb.wl)/\TInv ins rows Ls tb.settled (i+1) (λnm ks=>(cl nm ks/\∀k∈ks,k<tb.settled.length)\/((∃m:Nat,m<i/\ins[m]?=A? (nm,((ks.length:Nat):Int)))/\(∀n∈ks,n<=tb.settled.length)/\tb.settled.length∈ks)) t3/\t3.ws[i]?=A? {w' with ks:=zg}:=by
   refine⟨{zr with ws:=zr.ws.set i {w' with ks:=zg}},h3.setWy Bm f4 B9 rfl ?_,⟨x1,x2,?_,?_,x5⟩,GF.take x2 Bm hk HG,XC hi⟩
   .unfold Wy.bs;show w'.pl::w'.nl::w'.al::(zg.map (·.d)++zg.map (·.a))=_;rw[HG.map.1,HG.map.2]
   .rw[<-x3];unfold Tb.mut;show zr.fd::zr.st::(zr.ws.set i _).flatMap _=_;rw[List.flatMap_def,List.flatMap_def,map_set _ Bm (by show zg.map (·.a)=_;exact HG.map.1)]
   .rw[<-x4];exact map_set (λw:Wy=>w.x) Bm rfl
  refine kZ ?_;have N2:FrB tb.mut H2 H4:=f3.trans (f4.more AK)
  have JX:H4 sz=A? (.lst (((tb.settled++[e]).map λy=>((y.n:Nat):Int)).map o!)):=by
   rw[WR];exact N2 _ _ N0 Hz
  have N3:∀k∈zg,k.ag.length=tb.settled.length+1:=λk hk=>by
   have:=AF.ag.len k hk;rw[Wk,WM]at this;exact this
  refine⟨_,D?,w'.x,w'.dx,_,D?,B9.ins,gy,_,D?,sz,_,D?,.inl (l! JX),_,_,D?,D?,_,D?,{w' with ks:=zg},sz,tb.settled.length,(tb.settled++[e]).map λy=>((y.n:Nat):Int),?_,B9,?_,JX,?_,?_,?_,λk hk=>?_,λr H5 D s5 hr Gx JQ hle=>?_⟩
  .rw[V2,V2,Wk,WM];refine h! (λz:Int=>[k! w'.x,.int z,.ref sz]) ?_;lia
  .have:=AF.len;have h':=AF.psl;lia
  .rw[V2,Wk,WM];lia
  .lia
  .exact AF.m3
  .rw[N3 k hk];lia
  obtain⟨kvs,FA,Gx⟩:=Gx;refine⟨r,kvs,D?,FA,λo=>?_⟩;have k0:KT H5 (upd H5 r (.frz o (.dK kvs))):=λb xs z=>by rw[aj (aF z FA (λy=>nomatch y))];exact z
  have EJ:∀{Ha:Hp}{u:HO},FrB tb.mut H4 Ha->FrB tb.mut H4 (upd Ha r u):=λf b u hb z=>by rw[aj (λy=>by rw[y,hr]at z;cases z)];exact f b u hb z
  have Dh:D.length=kvs.length:=Wx Gx;have zM:∀y∈tb.settled++[e],Told ins rows Ls y:=λy hy=>N1.p.f1 y (N1.p.s1 y (by rw[y2];exact hy))
  refine jI (a:=r) (o:=o) (kvs:=kvs) (λj σ H7=>Ex4 λ(c4 c5 c6:Option V)(t:Tb)=>An8 (σ=[A? (.ref tb.x),A? (.ref e.a),A? (.ref sz),A? (.ref w'.x),c4,c5,c6]) (FrB tb.mut H4 H7) (H7 r=A? (.frz o (.dK kvs))) (WL (RowE H7) D kvs) (TbAt T.e_Table T.e_Ways H7 t) ((t.x=tb.x/\t.settled=tb.settled++[e]/\t.mut=tb.mut/\t.ws.map (·.x)=tb.ws.map (·.x)/\t.wl=tb.wl/\t.ws[i]?=A? {w' with ks:=zg})) ((∀c∈D.take j,∃note,NoteBy w'.ps c.b rows.length w'.ps.length note)) (TInv ins rows Ls tb.settled (i+1) (λnm ks=>((cl nm ks/\∀k∈ks,k<tb.settled.length)\/((∃m:Nat,m<i/\ins[m]?=A? (nm,((ks.length:Nat):Int)))/\(∀n∈ks,n<=tb.settled.length)/\tb.settled.length∈ks))\/(nm=w'.nm/\∃c∈D.take j,ks=c.ks)) t))
   ⟨c4,c5,c6,t3,rfl,EJ (J! s5),ac,t! (λ_ _ h=>h.mono k0) Gx,(h4.same s5).beside FA (λ_ z=>nomatch z) (λ_ z=>nomatch z) (λ_ z=>nomatch z) (λ_ _ _ z=>nomatch z),⟨y1,y2,y3,y4,y5,BZ⟩,?_,N1.congr λnm ks z=>z.elim id λ⟨_,c,hc,_⟩=>?_⟩ (λj σ H7 _⟨_,_,_,_,_,_,e7,_,_,_,_,_⟩=>e7) ?_ ?_
  .intro c hc;rw[Yj]at hc;cases hc
  .rw[Yj]at hc;cases hc
  .rintro j kv p0 σ H7 Aa JO ⟨d4,d5,d6,t,rfl,f7,Cq,EX,h7,⟨z1,z2,z3,z4,z5,z6⟩,LG,Cr⟩;refine hid λZZ kZ=>?_;obtain⟨c,hc,AZ,a,ka,zx,ea,zQ⟩:=E! EX Aa;have T1:=V5 hc;obtain⟨k,v⟩:=kv;refine kZ ?_;dsimp only at AZ zx;subst AZ zx;refine gU JO λH8 s8 ep=>?_;have ep:H8 p0=A? (.tup [.int c.b,.ref a]):=ep;refine hid λZZ kZ=>?_;obtain⟨js,Dg,⟨Fs,Eh⟩,N4⟩:=hle.sub c T1;have Es:js.length=zg.length:=Dg
   have Er:∀n∈js,n<(tb.settled++[e]).length:=λn hn=>by
    rw[Wk,WM];have:=Fs n hn;lia
   obtain⟨Gv,JY⟩:=kX (AG:=zg.map (·.ag)) (all:=ones w'.ps.length) js Er (λy hy=>(zM y hy).n);refine kZ ?_;have Cs:c=cnd (zg.map (·.ag)) ((tb.settled++[e]).map λy=>((y.n:Nat):Int)) (ones w'.ps.length) js:=N4;rw[<-Cs]at Gv JY
   have T2:0<=c.b:=by
    have:=(AF.ag.bits (Z:=(tb.settled++[e]).map λy=>((y.n:Nat):Int)) Es Er).1;rw[<-AF.psl]at this;rw[Cs];exact this
   have h8:=h7.same s8;refine⟨p0,_,D?,i! ep,D?,_,_,D?,_,_,D?,⟨a,_,D?,i! (s8 _ _ ea),D?,_,_,D?,_,_,D?,D?,D?,?_⟩⟩;dsimp only[au];have JZ:H8 tb.x=A? (.ins T.e_Table t.dx (tbF t.S t.wl t.fd t.st)):=by rw[<-z1];exact h8.ins
   have Ar:=Cr.p;refine⟨_,D?,tb.x,t.dx,_,D?,JZ,nU,_,D?,_,D?,_,D?,_,D?,t,{w' with ks:=zg},c.b,aq (aG (tb.settled++[e]) js),ka,c.ks,?_,h8,V5 z6,s8 _ _ zQ,?_,?_,T2,?_,?_,?_,Ar.f2,Ar.f3,AF.nq,λnote H9 hN zt hF s9=>?_,λx H9 F' hN Qt Hn hE Bc h9=>?_⟩
   .rw[z1,Gv];rfl
   .rw[JY,z2];exact Er
   .rw[JY,Es];exact AF.m3
   .rw[Cr.S];exact AF.pz
   .have:=AF.len;have h':=AF.psl;lia
   .rw[Cr.S,<-hI.S];exact hS
   .rw[Cr.S,Cs]at hN;have:=AF.told (c:=⟨(p! w'.nm (aG (tb.settled++[e]) js)).size,note,.knot w'.nm (aG (tb.settled++[e]) js),0,0,0⟩) hg Bo zM Es Er hN rfl rfl;exact qE H9 ((f1.trans (J! s2)).trans (N2.trans (f7.trans (J! (s8.trans s9))))) (Ar.over hF zt this.fit this.note)
   .have N5:=hN;rw[Cr.S]at N5;rw[Cr.S,Cs]at hN;rw[JY,z2]at Hn;have hx:=AF.told hg Bo zM Es Er hN Hn Qt;have k9:KT H8 H9:=λb xs z=>Bc _ _ (aF z h8.fd (λy=>nomatch y)) z;refine⟨_,_,_,{t with found:=F'},D?,f7.trans ((J! s8).trans λb u hb z=>Bc b u (λy=>hb (by rw[y,<-z3];unfold Tb.mut;simp)) z),Bc _ _ (aF (s8 _ _ Cq) h8.fd (λy=>nomatch y)) (s8 _ _ Cq),t! (λ_ _ h=>(h.mono (n! s8)).mono k9) EX,h9,⟨z1,z2,z3,z4,z5,z6⟩,λc' z8=>?_,?_⟩
    .rw[take_snoc hc]at z8;rcases Wm.mp z8 with z8|z8
     .exact LG c' z8
     .rw[We.mp z8];exact⟨_,N5⟩
    .refine(Cr.enter (nm:=w'.nm) (js:=js) hE hx (by rw[z2];exact Hn) (λy hy=>?_) (by rw[z2];exact Er)).congr λnm ks z=>?_
     .rw[z2]at hy;have h1:=NZ y hy;have h2:=(zM e (by simp)).n;have h3:e.t∈aG (tb.settled++[e]) js:=Wv.mpr ⟨_,Eh,by rw[W4 (Wc _),Y3];rfl⟩;have h4:=tG h3;have h5:x.n=aq (aG (tb.settled++[e]) js)+1:=Qt;lia
     .rcases z with z|⟨rfl,c',z8,rfl⟩
      .exact .inl (.inl z)
      .rw[take_snoc hc]at z8;rcases Wm.mp z8 with z8|z8
       .exact .inl (.inr ⟨rfl,c',z8,rfl⟩)
       .rw[We.mp z8];exact .inr ⟨rfl,JY⟩
  .rintro σ H7 ⟨d4,d5,d6,t,rfl,f7,Cq,EX,h7,⟨z1,z2,z3,z4,z5,z6⟩,LG,Cr⟩;rw[Xv (by lia)]at LG Cr;refine⟨H7,Thaws.refl _ _,_,_,_,_,t,D?,N2.trans f7,h7,⟨z1,z2,z3,z4,z5⟩,Cr.more λnm ks z=>?_⟩
   .rcases z with z|⟨⟨m,hm,FC⟩,AZ,zx⟩
    .exact .inl (.inl (.inl z))
    .by_cases y:m=i
     .subst y;right;have BY:=AF.nm;rw[FC]at BY;injection BY with BY;have e1:nm=w'.nm:=h! ZO BY;have e2:((ks.length:Nat):Int)=((zg.length:Nat):Int):=h! Prod.snd BY;have zZ:ks.length=zg.length:=by lia
      subst e1
      have CJ:∀{l:List Nat},(∀n∈l,n<=tb.settled.length)->∀n∈l,n<(tb.settled++[e]).length:=λh n hn=>by
       rw[Wk,WM];have:=h n hn;lia
      refine hid λZZ kZ=>?_;obtain⟨c0,J0,T3,KR⟩:=hle.le _ ⟨ks,zZ,⟨AZ,zx⟩,rfl⟩;obtain⟨js,Dg,⟨Fs,Eh⟩,N4⟩:=hle.sub c0 J0;obtain⟨a1,a2⟩:=kX (AG:=zg.map (·.ag)) (all:=ones w'.ps.length) js (CJ Fs) (λy hy=>(zM y hy).n);obtain⟨b1,b2⟩:=kX (AG:=zg.map (·.ag)) (all:=ones w'.ps.length) ks (CJ AZ) (λy hy=>(zM y hy).n);have Cs:c0=cnd (zg.map (·.ag)) ((tb.settled++[e]).map λy=>((y.n:Nat):Int)) (ones w'.ps.length) js:=N4;rw[<-Cs]at a1 a2;obtain⟨y,hy,g1,g2⟩:=Cr.p.cl w'.nm c0.ks (.inr ⟨rfl,c0,J0,rfl⟩);rw[z2,a2]at g1 g2;obtain⟨note,hN⟩:=LG c0 J0;refine kZ ?_;have n1:=AF.ag.note (nm:=w'.nm) (js:=js) (Z:=(tb.settled++[e]).map λy=>((y.n:Nat):Int)) Bo (AF.ix hg) rfl AF.sp AF.ps Dg (CJ Fs) zM (λy hy=>cM (zM y hy)) AF.call (by rw[Cs]at hN;exact hN);have n2:=AF.ag.note (nm:=w'.nm) (js:=ks) (Z:=(tb.settled++[e]).map λy=>((y.n:Nat):Int)) Bo (AF.ix hg) rfl AF.sp AF.ps zZ (CJ AZ) zM (λy hy=>cM (zM y hy)) AF.call (by rw[T3]at hN;exact hN);refine⟨y,hy,by rw[z2,g1.uniq Bo n1];exact n2,?_⟩;have T4:c0.n<=((aq (aG (tb.settled++[e]) ks):Nat):Int):=by rw[<-b1];exact KR
      rw[z2];have q1:(p! w'.nm (aG (tb.settled++[e]) js)).size=aq (aG (tb.settled++[e]) js)+1:=rfl;have q2:(p! w'.nm (aG (tb.settled++[e]) ks)).size=aq (aG (tb.settled++[e]) ks)+1:=rfl;lia
     .exact .inl (.inl (.inr ⟨⟨m,by lia,FC⟩,AZ,zx⟩))
 .rintro σ H3 ⟨c3,c4,c5,c6,zr,rfl,f3,h3,⟨x1,x2,x3,x4,x5⟩,GF⟩;have hl:=h! XG x4;rw[V2,V2]at hl;rw[V2]at GF;refine q zr H3 ((f1.trans (J! s2)).trans f3) h3 x1 x2 x3 hl ?_;rw[hl];refine GF.congr λnm ks z=>z.imp id λ⟨⟨m,hm⟩,z⟩=>⟨⟨m,?_,hm⟩,z⟩;rw[hI.n];exact(glE hm)
def aI:Xb:=match bY fO with
 | [_,.While _ [_,_,.Expr (.Call _ [.Call _ _ [⟨_,l,_⟩] _] _ _) _] _ _]=>l
 |_=>.Name "" ⟨0,0,0,0⟩
def xq:Xb->Arguments
 |.Lambda p _ _ _=>p
 |_=>cA fO
def wB:Xb->Xb
 |.Lambda _ b _ _=>b
 |e=>e
def vR:Xb->Y2
 |.Lambda _ _ s _=>s
 |_=>aC fO
def bW:Xb->Zb
 |.Lambda _ _ _ p=>p
 |_=>⟨0,0,0,0⟩
def dF:WE:="Table.fill.<locals>."++"<lambda>"
def tE(f c':V6):Sp:=λvs H Q _=>∃e:NtE,vs=[.ref e.a]/\LamAt H f c' "<lambda>" dF (xq aI) (wB aI) (vR aI) []/\CodeAt H c' dF/\NtA H e/\∀(κ:V6)(H':Hp),j! H H'->lU H' κ e.key->Q (.ref κ) H'
theorem wC:pk ["entry"] ["entry"] [] (vR aI):=by
 refine⟨D?,D?,D?,by decide +kernel,by decide +kernel,D?,by decide +kernel,by decide +kernel,λx h=>?_,λx y c1 h1 h2=>?_⟩
 .exfalso;have hm:=X2 h;have zc:∀z∈(vR aI).names,z.2≠.free:=by decide +kernel
  exact zc _ hm rfl
 .exact g! (X2 h1) (by simp)
include T in
theorem wZ(f c':V6):sH P w K mg base CX0 2 f (tE f c'):=by
 refine xc (k:=1) (c':=c') (name:="<lambda>") (qual:=dF) (params:=xq aI) (body:=wB aI) wC (λpm BQ us hl=>?_) (λvs H Q E h=>?_) λA outer s H vs Q E hr h=>?_
 .obtain⟨u,rfl⟩:=us1 hl;rfl
 .obtain⟨e,rfl,hl,hc,_,_⟩:=h;exact⟨D?,hl,hc,λb' hb=>(nomatch hb),λx c1 hx=>(nomatch hx)⟩
 .obtain⟨e,rfl,hl,hc,he,q⟩:=h;refine⟨_,[],.nil,bd cQ (pv 0) bH (bv ae),?_⟩;have e0:fgt (([]:List (WE×V6)).map (·.2)) H=H:=funext λb=>eQ (λz=>nomatch z);rw[e0];refine⟨_,D?,_,D?,e.a,_,D?,i! he.a,?_,λp hp=>?_⟩
  .show¬(q! 3 0 B?=0/\q! 3 3 (A? 2)=3);decide
  have e1:rst (([]:List (WE×V6)).map (·.2)) H (upd H p (.tup (d8 [.int (e.n:Nat),.ref e.na,.ref e.ta] B? (A? 2))))=upd H p (.tup [.int (e.n:Nat),.ref e.na]):=funext λb=>a! (λz=>nomatch z);refine Eq.subst (motive:=λh=>Q (.ref p) h) e1.symm (q p _ (ao hp _) ⟨e.na,ac,?_⟩);exact ao hp _ _ _ he.na
theorem WOk.kok{a:Nat}{w:Wy}(h:WOk Ls (rows.map λrow=>row.getD a bh) w Ws)(hi:ins[a]?=A? (nm,((m:Nat):Int)))(hn:w.nm=nm)(hm:w.ks.length=m)(m3:m<=3)(ha:∀k∈w.ks,k.ag=[])
 (hc:∀p∈rows.map (λrow=>row.getD a bh),∀s k:Int,r! s k∈p.walk->(∃k':Nat,k=(k':Int)/\k'<m)/\∃s':Nat,s=(s':Int)/\s'<rows.length) (nq:nm≠q):KOk ins rows Ls [] a w Ws :=
 ⟨by rw[hn,hm];exact hi,by lia,h.sp,h.ps,λk kd hk=>(h.nt k kd hk).1,h.len,by rw[hm];exact hc,KAg.nil ha,by rw[hn];exact nq⟩
inductive g8(C CW:V6)(vs:List V)(H:Hp)(Q:VK)(_E:XK):Prop
 |mk (x dx ba ia ra rt:V6) (v2 v3:V) (zy zH:List V6) (ins:List (WE×Int)) (rows:List (List Th)) (cs:List V6) (To:List (WE×List Nat)) (Ls:List Th) (ar:WE->Nat):vs=[.ref x,.ref ba,.ref rt]->H x=A? (.ins C dx [])->H ba=A? (.tup [.ref ia,v2,v3,.ref ra])->H ia=A? (.tup (zy.map k!))->KsAt H ins zy->H ra=A? (.tup (zH.map k!))->WL (RowAt H) rows zH->ins.length<=1000->rows.length<=1000->(∀row∈rows,row.length=ins.length)->(∀(a:Nat)(nm:WE)(c:Int),ins[a]?=A? (nm,c)->nm≠q/\∃m:Nat,c=(m:Int)/\m<=3/\WIn H rt cs To Ls ar m rows.length (rows.map λrow=>row.getD a bh))->(∀(tb:Tb)(H':Hp),tb.x=x->tb.settled=[]->tb.S=rows.length->SameB x H H'->TbAt C CW H' tb->TInv ins rows Ls [] tb.ws.length (λ_ _=>False) tb->(∀b∈tb.mut,H b=B?)->Q .non H')->g8 C CW vs H Q _E
theorem lQ:bp P w K mg base CX0 5 T.g_20.f T.g_20.d ["self","book","row"] (g8 T.e_Table T.e_Ways):=by
 refine T.g_20.F.okA eY λzh A outer s H vs Q E hr h=>?_;obtain⟨x,dx,ba,ia,ra,rt,v2,v3,zy,zH,ins,rows,cs,To,Ls,ar,rfl,ex,J1,LH,zV,era,GG,Ah,J2,zU,z9,q⟩:=h
 refine⟨_,(ad (gh (pv 0) (pcF T.g_7 (nE T) hr (aa (pv 1) af)) rfl)
  (ad (gh (pv 0) (bV af) rfl)
  (ad (bA WX rfl (vo rfl T.n_1 (pcF T.g_4 (ss T) hr (aa (pv 1) af))) (bM rfl (az (pgN 3 eY.nd) (az (pgN 4 eY.nd) bg))) (ak (aX (cC WG WV WU bi (bB (pv 0) rfl) (aa (rC ⟨T.mi_Ways.1,T.g_14.me.1,T.g_14.me.2,T.mi_Ways.2⟩ (nZ T) (hr.mono (by first|decide|lia)) rfl T.x_Ways T.g_14.b .nil cW (aa (pv 4) (aa (be (N:=["patterns","at"]) (js:=[B?,A? 3]) (g:=(au 0)) (tt:=aQ) (te:=(tOp (eF K) (bu 0) (bu 1))) rfl (bK rfl (by decide +kernel) (by decide +kernel) rfl rfl rfl) (cf (pcF T.g_6 (jT T) hr (aa (pv 1) af))) (λ_ _ _ _ _ _=>(pgN 0 y8)) (aD rfl) (λ_ _ _ _ _ _=>aU) (λ_ _ _ _ _ _=>(aw ay (pv 0) (pv 1) (λ_ _=>rfl)))) (aa (pv 2) af)))) af)))))
  (ad (gh (pv 0) d7 rfl)
  (ak (gh (pv 0) (bV af) rfl)))))),?_⟩
 try dsimp only[zB,ze]
 have Qu:rows.length=zH.length:=Wx GG;have T5:ins.length=zy.length:=Wx zV;have nx:∀{b:V6}{xs:List V},H b=A? (.tup xs)->b≠x:=λe=>aF e ex (λz=>nomatch z);refine⟨_,D?,ba,_,_,_,ra,_,D?,J1,era,_,D?,x,T.e_Table,dx,_,D?,ex,T.cl_Table,T.na_Table_states,(by show 0<1000;decide),?_⟩;rw[V2,<-Qu];have b1:SameB x H (upd H x (.ins T.e_Table dx (aO (Wb "states") (.int (rows.length:Nat)) []))):=z!;have x1:(upd H x (.ins T.e_Table dx (aO (Wb "states") (.int (rows.length:Nat)) []))) x=A? (.ins T.e_Table dx (aO (Wb "states") (.int (rows.length:Nat)) [])):=ac;generalize(upd H x (.ins T.e_Table dx (aO (Wb "states") (.int (rows.length:Nat)) [])))=H1 at b1 x1 |-;refine⟨lnE rfl,λwl Cc=>?_⟩;have Gf:wl≠x:=λz=>by rw[z,x1]at Cc;cases Cc
 have T6:H wl=none:=by
  cases z:H wl with
  |none=>rfl
  |some o=>rw[b1 wl o Gf z]at Cc;cases Cc
 refine⟨_,D?,x,T.e_Table,dx,_,D?,(aj Gf.symm).trans x1,T.cl_Table,T.na_Table_ways,(by show 1<1000;decide),?_⟩
 have I0:TiI T.e_Table T.e_Ways H x dx wl ins rows Ls 0 rows.length (upd (upd H1 wl (.lst [])) x (.ins T.e_Table dx (aO (Wb "ways") (.ref wl) (aO (Wb "states") (.int (rows.length:Nat)) [])))) [] :=
  ⟨b1.trans ((y! (ao Cc _)).trans z!),ac,(aj Gf).trans ac,T6,(by intro w hw;cases hw),(by intro b hb;cases hb),YE,rfl,λa w hw=>by simp at hw⟩
 generalize(upd (upd H1 wl (.lst [])) x (.ins T.e_Table dx (aO (Wb "ways") (.ref wl) (aO (Wb "states") (.int (rows.length:Nat)) []))))=H2 at I0 |-;refine⟨_,D?,ba,_,_,_,_,D?,I0.sb _ _ (nx J1) J1,ia,D?,⟨_,i! (I0.sb _ _ (nx LH) LH)⟩,?_⟩
 refine ug (K:=K) (a:=ia) (xs:=zy.map k!) (λi σ H3=>Ex3 λ(c3 c4:Option V)(ws:List Wy)=>An2 (σ=[A? (.ref x),A? (.ref ba),A? (.ref rt),c3,c4]) (TiI T.e_Table T.e_Ways H x dx wl ins rows Ls i rows.length H3 ws))
  ⟨B?,B?,[],rfl,I0⟩ (λi σ H3 _⟨_,_,_,_,h⟩=>i! (h.sb _ _ (nx LH) LH)) ?_ ?_
 .rintro i x' p σ H3 hx hp ⟨c3,c4,ws,rfl,I3⟩;rw[V7]at hx;refine hid λZZ kZ=>?_;obtain⟨ka,Av,rfl⟩:=WA.mp hx;obtain⟨⟨nm,c⟩,hi,zQ⟩:=E! zV Av;obtain⟨Jl,m,rfl,Lq,hW⟩:=z9 i nm c hi;refine kZ ?_;have T7:=(glE hi);have I4:=I3.same (ao (p:=p) hp (.tup [.int (i:Nat),.ref ka]));have ep:(upd H3 p (.tup [.int (i:Nat),.ref ka])) p=A? (.tup [.int (i:Nat),.ref ka]):=ac;generalize(upd H3 p (.tup [.int (i:Nat),.ref ka]))=H4 at I4 ep |-;refine⟨p,_,D?,i! ep,D?,_,_,D?,_,_,D?,D?,?_⟩;dsimp only[au];refine⟨_,D?,x,T.e_Table,dx,_,_,D?,I4.self,T.cl_Table,T.na_Table_ways,uh,.inl ⟨D?,_,l! I4.wll⟩,?_⟩;have kt:∀{H9:Hp},SameB x H H9->KT H H9:=λ{H9}s b xs e=>s b _ (nx e) e;have E2:=kt I4.sb _ _ era;have N6:=t! (λ_ _ e=>RowAt.mono (kt I4.sb) e) GG;refine⟨_,D?,_,D?,ba,_,_,_,_,D?,I4.sb _ _ (nx J1) J1,ra,D?,⟨_,i! E2⟩,gP (F:=λH(row:List Th)a=>At H (row.getD i bh) a) (xs:=zH.map k!) rows (λH1 H2 z p kt h=>h.mono kt) (by rw[V2];exact Qu) (by rw[V2];lia) (λj Hx sx hj=>⟨_,_,i! (sx _ _ E2),V4 hj⟩) (λHx sx=>⟨_,i! (sx _ _ E2),Wc _⟩) (λj Hx y Hy sx hj hy=>⟨hy.1,hy.2 _ (i! (sx _ _ E2))⟩) (λj y row Hx R W' hy HH sx hR=>?_) (λpa H5 GA B5 s5 Dl MU=>?_)⟩
  .rw[V7]at hy;refine hid λZZ kZ=>?_;obtain⟨rj,N7,rfl⟩:=WA.mp hy;obtain⟨as,T8,has⟩:=(iG N6 HH N7).mono (n! sx);have T9:=zU row (V5 HH)
   have GH:row[i]?=A? (row.getD i bh):=by
    rw[Wu,V4 (by lia)];rfl
   obtain⟨ai,EF,Ua⟩:=has.get' GH;refine kZ ?_;refine⟨_,D?,_,D?,rj,_,(i:Nat),.ref ai,D?,D?,i! T8,?_,hR Hx ai (λ_ _ e=>e) Ua⟩;exact br (gmE EF)
  have I5:=I4.same s5;refine⟨_,D?,λy dy hy Lc zp=>?_⟩;have Ub:=hW.mono (kt I5.sb);have VO:wl≠y:=av I5.wll hy;have BS:∀{b:V6}{o:HO},H5 b=A? o->(upd (upd H5 dy (.own y)) y (.ins T.e_Ways dy [])) b=A? o:=λe=>by rw[aj (av e hy),aj (av e Lc)];exact e
  have k5:KT H5 (upd (upd H5 dy (.own y)) y (.ins T.e_Ways dy [])):=λb xs e=>BS e;refine⟨y,dy,ka,pa,rt,nm,m,rows.length,_,GA,cs,To,Ls,ar,D?,ac,BS (kt I5.sb _ _ zQ),Lq,BS Dl,nD (P2.mapl (R:=At (upd (upd H5 dy (.own y)) y (.ins T.e_Ways dy []))) (f:=λrow:List Th=>row.getD i bh) (t! (λ_ _ e=>At.mono k5 e) MU)),Ub.mono k5,λw H8 Ws wx wn NU Uc wm Ud Ue Ug=>?_⟩;have Uh:j! H5 H8:=l9 hy Lc NU;have I8:=I5.same Uh
  have GI:∀b∈w.bs,H5 b=none:=λb hb=>by
   have:=Ug b hb;cases z:H5 b with
   |none=>rfl
   |some o=>rw[BS z]at this;cases this
  have I9:=I8.add Uc (λb hb=>⟨(I5.null (GI b hb)).1,(I5.null (GI b hb)).2.2⟩) (λb hb z=>by
   obtain⟨v,hv,Ui⟩:=YX.mp z;obtain⟨o,e,_⟩:=(I5.wa v hv).some_bs b Ui;rw[GI b hb]at e;cases e) ⟨Ws,Ue.kok hi wn wm Lq Ud (λp hp=>(hW.ap p hp).2.2) Jl⟩
  refine⟨D?,wl,_,_,D?,D?,I8.wll,aZ (by rw[V2,I8.len];lia),?_⟩;exact⟨_,_,_,D?,wx ▸ I9⟩
 .rintro σ H3 ⟨c3,c4,ws,rfl,I3⟩;rw[V2,<-T5]at I3;refineλfd J3=>?_;have e3:(upd H3 fd (.dT [])) x=A? (.ins T.e_Table dx (lP rows.length wl)):=(aj (I3.null J3).2.1.symm).trans I3.self;refine⟨_,D?,x,T.e_Table,dx,_,D?,e3,T.cl_Table,T.na_Table_found,(by show 2<1000;decide),?_⟩;have b4:SameB x H3 (upd (upd H3 fd (.dT [])) x (.ins T.e_Table dx (aO (Wb "found") (.ref fd) (lP rows.length wl)))):=(y! (ao J3 _)).trans z!;have x4:(upd (upd H3 fd (.dT [])) x (.ins T.e_Table dx (aO (Wb "found") (.ref fd) (lP rows.length wl)))) x=A? (.ins T.e_Table dx (aO (Wb "found") (.ref fd) (lP rows.length wl))):=ac;have f4:(upd (upd H3 fd (.dT [])) x (.ins T.e_Table dx (aO (Wb "found") (.ref fd) (lP rows.length wl)))) fd=A? (.dT []):=(aj (I3.null J3).2.1).trans ac;generalize(upd (upd H3 fd (.dT [])) x (.ins T.e_Table dx (aO (Wb "found") (.ref fd) (lP rows.length wl))))=H4 at b4 x4 f4 |-;refine⟨lnE rfl,λst zM=>?_⟩;have N8:st≠x:=λz=>by rw[z,x4]at zM;cases zM
  have Uj:st≠fd:=λz=>by rw[z,f4]at zM;cases zM
  have KS:H3 st=none:=by
   cases z:H3 st with
   |none=>rfl
   |some o=>rw[b4 st o N8 z]at zM;cases zM
  refine⟨_,D?,x,T.e_Table,dx,_,D?,(aj N8.symm).trans x4,T.cl_Table,T.na_Table_settled,(by show 3<1000;decide),?_⟩;rw[tR];refine hid λZZ kZ=>?_;obtain⟨h1,h2,h3,h4⟩:=I3.done (fd:=fd) (st:=st) (Hd:=H4) (He:=upd (upd H4 st (.lst [])) x (.ins T.e_Table dx (tbF rows.length wl fd st))) rfl rfl (b4.trans ((y! (ao zM _)).trans z!)) ac ((aj (I3.null J3).2.1).trans ((aj Uj.symm).trans f4)) ((aj N8).trans ac) J3 KS;refine kZ ?_;exact q _ _ rfl rfl rfl h3 h1 h2 h4
inductive iq(CT CW CM tp:V6)(vs:List V)(H:Hp)(Q:VK)(E:XK):Prop
 |mk (tb:Tb) (ins:List (WE×Int)) (rows:List (List Th)) (Ls:List Th):vs=[.ref tb.x]->TbAt CT CW H tb->TInv ins rows Ls [] tb.ws.length (λ_ _=>False) tb->GoodN ins->Ls.Nodup->tb.S<=100000->tb.settled=[]->TabSt H tp (bW aI) dF->(∀H',FrB (tp::tb.mut) H H'->TabSt H' tp (bW aI) dF->Over ins rows Ls->E (.ref CM) B? H')->(∀(zr:Tb)(H':Hp),FrB (tp::tb.mut) H H'->TabSt H' tp (bW aI) dF->TbAt CT CW H' zr->zr.x=tb.x->PInv ins rows Ls zr.found zr.settled (ClAll ins zr.settled.length)->(∀e∈zr.found,e∈zr.settled)->Q .non H')->iq CT CW CM tp vs H Q E
theorem kQ(L:Lam mg base T.g_23.tc T.g_23.tp):bp P w K mg base (CX1 P w) 6 T.g_23.f T.g_23.d ["self"] (iq T.e_Table T.e_Ways T.e_Many T.g_23.tp):=by
 refine T.g_23.F.okT1 T.g_23.th dA (λvs H Q E h=>?_) (λA outer s H vs Q E hr h=>?_)
 .obtain⟨tb,ins,rows,Ls,rfl,_⟩:=h;rfl
 obtain⟨tb,ins,rows,Ls,rfl,ht,hI,hg,Bo,hS,Ge,AA,qE,q⟩:=h
 refine⟨_,(ad (bA Z6 rfl (b9 (bB (pv 0) rfl)) (pgN 1 dA.nd) (ak (bL (wT (cr (bB (pv 1) rfl) (λ_=>rfl))) (ak (aX (fK (pv 0) T.cl_Table T.g_21.me (fU T) (hr.mono (by first|decide|lia)) T.g_21.b .nil pC (aa (pv 1) (aa (jn (pv 1) T.cl_Ways T.g_16.me (dv T) (hr.mono (by first|decide|lia)) T.g_16.b .nil cW ) (aa ae (aa (aW af) af))))))) aY)))
  (ak (ja Z6 (aH gb (aB aA rfl T.n_2 WW (aa (bB (pv 0) rfl) af)) (aB gJ rfl T.n_2 WW (aa (bB (pv 0) rfl) af)) (aN _)) (ad (am 2 dA.nd (be (N:=["knots","note","tree"]) (js:=[B?,B?,B?]) (g:=(lV K 3 (cP (au 0) (cP (au 1) (cP (au 2) lO))))) (tt:=aQ) (te:=(bu 1)) rfl (bK rfl (by decide +kernel) (by decide +kernel) rfl rfl rfl) (b9 (bB (pv 0) rfl)) (λ_ _ _ _ _ _=>(bM rfl (az (pgN 0 nK) (az (pgN 1 nK) (az (pgN 2 nK) bg))))) (jp (ck bC (aD rfl) (ck bC (aD rfl) (ck bC (aD rfl) jD)))) (λ_ _ _ _ _ _=>aU) (λ_ _ _ _ _ _=>(pv 1))))
  (ad (gK (dN (i:=3) (N:=["note","entry","done"]) (js:=[B?,B?,A? 2]) (g:=(lV K 2 (cP (au 0) (cP (au 1) lO)))) (tt:=(mK (tOp (qY K 150) (bu 0) (bu 2)))) (te:=(bu 1)) dA.nd rfl (Or.inl rfl) rfl (bK rfl (by decide +kernel) (by decide +kernel) rfl rfl rfl) (gW (bB (pv 0) rfl)) (λ_ _ _ _ _ _=>(bM rfl (az (pgN 0 yt) (az (pgN 1 yt) bg)))) (jp (ck bC (aD rfl) (ck bC (aD rfl) jD))) (λ_ _ _ _ _ _=>i8 (aH (sN (B:=150) (tJ hr)) (pv 0) (pv 2) (by with_unfolding_all rfl))) (λ_ _ _ _ _ _=>(pv 1))))
  (ak (aX (fK (pv 0) T.cl_Table T.g_22.me (jF T) (hr.mono (by first|decide|lia)) T.g_22.b .nil pC (aa (uS (k:=2) rfl (hr.mono (by first|decide|lia)) rfl T.n_5 (aa (pv 3) af) (xx (pos:=bW aI) (params:=xq aI) (body:=wB aI) (scope:=vR aI) (cl:=[]) L rfl rfl)) af))))))))),?_⟩
 try dsimp only[zB,ze]
 refine⟨_,D?,tb.x,T.e_Table,tb.dx,_,_,D?,ht.ins,T.cl_Table,T.na_Table_ways,vX,tb.wl,D?,⟨_,l! ht.wl⟩,?_⟩
 refine fF (K:=K) (a:=tb.wl) (xs:=tb.ws.map λw=>k! w.x) (λi σ H1=>Ex4 λ(c1 c2 c3:Option V)(zr:Tb)=>An5 (σ=[A? (.ref tb.x),c1,B?,B?]) (FrB tb.mut H H1) (TbAt T.e_Table T.e_Ways H1 zr) ((zr.x=tb.x/\zr.settled=[]/\zr.mut=tb.mut/\zr.ws=tb.ws/\zr.wl=tb.wl/\zr.S=tb.S)) (TInv ins rows Ls [] zr.ws.length (λnm ks=>(∃m:Nat,m<i/\ins[m]?=A? (nm,0))/\ks=[]) zr))
  ⟨B?,B?,B?,tb,rfl,FrB.refl,ht,⟨rfl,Ge,rfl,rfl,rfl,rfl⟩,hI.congr λnm ks z=>?_⟩ (λi σ H1 _⟨_,_,_,zr,_,_,h1,⟨_,_,_,hw,hl,_⟩,_⟩=>?_) ?_ ?_
 .refine hid λZZ kZ=>?_;obtain⟨⟨m,hm,_⟩,_⟩:=z;refine kZ ?_;exact g! hm (ZA _)
 .have:=h1.wl;rw[hw,hl]at this;exact l! this
 .rintro i x σ H1 hx ⟨c1,c2,c3,zr,rfl,f1,h1,⟨x1,x2,x3,x4,x5,x6⟩,D4⟩;rw[V7]at hx;obtain⟨w',Bm,rfl⟩:=WA.mp hx;have N9:zr.ws[i]?=A? w':=by rw[x4];exact Bm
  have Eu:=V5 N9;have AY:=h1.wa w' Eu;have Ah:=(glE N9);obtain⟨Ws,hk⟩:=D4.k i w' N9;rw[b! Ah]at hk;dsimp only[au];refine⟨_,D?,w'.x,T.e_Ways,w'.dx,_,_,D?,AY.ins,T.cl_Ways,T.na_Ways_agreeing,qN,!w'.ks.isEmpty,.inl ⟨_,l! AY.al,by cases w'.ks <;> rfl⟩,?_⟩;cases Jh:w'.ks.isEmpty with
  | true =>
    have zV:w'.ks=[]:=List.isEmpty_iff.mp Jh;refine de ⟨_,rfl,tb.x,zr.dx,_,rfl,by rw[<-x1];exact h1.ins,nU,_,rfl,_,rfl,w'.x,w'.dx,_,rfl,AY.ins,gy,w',rfl,AY,(by have:=hk.len;have h':=hk.psl;lia),lnE rfl,λka Av=>?_⟩;refine gU Av λH2 s2 zQ=>?_;have h2:=h1.same s2;have Ar:=D4.p;have Oa:([]:List Nat).length=w'.ks.length:=by rw[zV];rfl
    have CD:∀n∈([]:List Nat),n<zr.settled.length:=by intro n hn;cases hn
    have J4:∀e∈zr.settled,Told ins rows Ls e:=λe he=>by rw[x2]at he;cases he
    have GJ:ones w'.ps.length=(cnd (w'.ks.map (·.ag)) [] (ones w'.ps.length) []).b:=rfl;refine⟨zr,w',ones w'.ps.length,0,ka,[],?_,h2,Eu,zQ,CD,by simp,?_,by rw[D4.S];exact hk.pz,(by have:=hk.len;have h':=hk.psl;lia),by rw[x6];exact hS,Ar.f2,Ar.f3,hk.nq,λnote H3 hN zt hF s3=>?_,λc H3 F' hN Gv Qv hE Bc h3=>?_⟩
    .rw[x1];rfl
    .rw[GJ,hk.psl];exact(hk.ag.bits (Z:=[]) Oa CD).1
    .rw[D4.S,GJ]at hN;have:=hk.told (c:=⟨(p! w'.nm (aG zr.settled [])).size,note,.knot w'.nm (aG zr.settled []),0,0,0⟩) hg Bo J4 Oa CD hN rfl rfl;refine qE H3 (((f1.trans (J! (s2.trans s3))).more λb hb=>Wo _ hb)) ?_ (Ar.over hF zt this.fit this.note);exact AA.frb ht.mutOk (f1.trans (J! (s2.trans s3)))
    .have N5:=hN;rw[D4.S,GJ]at hN;have hx:=hk.told hg Bo J4 Oa CD hN Qv (by rw[Gv];rfl);refine⟨_,B?,B?,{zr with found:=F'},D?,f1.trans (((J! s2).trans λb u hb z=>Bc b u (λy=>hb (by rw[y,<-x3];unfold Tb.mut;simp)) z)),h3,⟨x1,x2,x3,x4,x5,x6⟩,?_⟩;refine(D4.enter (nm:=w'.nm) (js:=[]) hE hx Qv (λy hy=>?_) CD).congr λnm ks z=>?_
     .rw[x2]at hy;cases hy
     .obtain⟨⟨m,hm,FC⟩,rfl⟩:=z;by_cases y:m=i
      .subst y;have BY:=hk.nm;rw[FC]at BY;exact .inr ⟨h! ZO (Wi BY),rfl⟩
      .exact .inl ⟨⟨m,by lia,FC⟩,rfl⟩
  | false =>
    have zV:w'.ks≠[]:=λz=>by rw[z]at Jh;cases Jh
    refine da ⟨_,B?,B?,zr,rfl,f1,h1,⟨x1,x2,x3,x4,x5,x6⟩,D4.congr λnm ks z=>?_⟩;obtain⟨⟨m,hm,FC⟩,rfl⟩:=z;by_cases y:m=i
    .subst y;have BY:=hk.nm;rw[FC]at BY;have:=h! Prod.snd (Wi BY);have h0:(0:Int)=((w'.ks.length:Nat):Int):=this;exact g! (Yo.mp (by lia)) zV
    .exact⟨⟨m,by lia,FC⟩,D?⟩
 rintro σ H1 ⟨c1,c2,c3,Uk,rfl,f1,h1,⟨x1,x2,x3,x4,x5,x6⟩,D4⟩;rw[V2]at D4;have J5:=AA.frb ht.mutOk f1
 refine⟨λm σ H2=>Ex4 λ(d1 d2 d3:Option V)(t:Tb)=>An9 (σ=[A? (.ref tb.x),d1,d2,d3]) (FrB (T.g_23.tp::tb.mut) H H2) (TabSt H2 T.g_23.tp (bW aI) dF) (TbAt T.e_Table T.e_Ways H2 t) (t.x=tb.x) (t.mut=tb.mut) (t.S=tb.S) ((∃old,TInv ins rows Ls old t.ws.length (ClAll ins t.settled.length) t)) (m=30 - t.settled.length),
  ⟨_,_,_,_,Uk,D?,f1.more (λb hb=>Wo _ hb),J5,h1,x1,x3,x6,⟨[],D4.congr λnm ks z=>?_⟩,D?⟩,?_⟩
 .obtain⟨⟨m,hm⟩,hk⟩:=z;rw[x2]at hk
  have:ks=[]:=by
   cases ks with
   |nil=>rfl
   |cons k ks=>exact g! (hk k (Wj ..)) (ZA _)
  subst this;refine⟨⟨m,?_,hm⟩,D?⟩;have:=(glE hm);have h':=D4.n;rw[x4]at h';lia
 rintro m σ H2 ⟨d1,d2,d3,t,rfl,f2,AQ,h2,y1,y3,y6,⟨old,J6⟩,rfl⟩;have zG:=J6.p;have B0:H2 tb.x=A? (.ins T.e_Table t.dx (tbF t.S t.wl t.fd t.st)):=by rw[<-y1];exact h2.ins
 refine⟨_,D?,tb.x,T.e_Table,t.dx,_,_,D?,B0,T.cl_Table,T.na_Table_settled,l5,t.st,_,D?,.inl (l! h2.st),_,D?,tb.x,T.e_Table,t.dx,_,_,D?,B0,T.cl_Table,T.na_Table_found,kM,t.fd,_,D?,h2.fd,_,_,D?,D?,_,D?,?_⟩;rw[V2,ki];by_cases zf:t.settled.length<t.found.length
 .rw[d! (show((t.settled.length:Nat):Int)<((t.found.length:Nat):Int)by lia)];refine de ⟨_,λi' H' h=>h,?_⟩;obtain⟨e0,Hf,KR⟩:=zG.some_late zf;have VP:=zG.s30;have VQ:=zG.f3;refine⟨_,D?,tb.x,T.e_Table,t.dx,_,_,D?,B0,T.cl_Table,T.na_Table_settled,l5,t.st,D?,⟨_,l! h2.st⟩,iQ t.settled (λe=>k! e.na) (l! h2.st) (by rw[V2]) (by rw[V2];lia) (λi x z H3 R W' hx hz s3 hR=>?_) (λdn H3 Co s3 EN=>?_)⟩
  .rw[V7,hz]at hx;cases hx;have GD:=(h2.same s3).se z (V5 hz);refine⟨z.a,_,D?,i! GD.a,D?,_,_,D?,_,_,D?,_,_,D?,D?,?_⟩;exact⟨_,D?,hR H3 (λ_ _ e=>e)⟩
  have h3:=h2.same s3;have J7:=AQ.mono s3;dsimp only[au];change kT _ _ _ _;refine om (d:=t.fd) (kvs:=nfv t.found) (p:=λkv=>!decide (qi kv.1∈t.settled.map (·.note))) (λR hR=>⟨_,rfl,tb.x,T.e_Table,t.dx,_,_,rfl,s3 _ _ B0,T.cl_Table,T.na_Table_found,kM,hR⟩) h3.fd (by rw[ki];lia) (λi kv pa b H4 R W' Aa DU Dl eb Ob Oc=>?_) (λla H4 s4 EG HI=>?_)
  .obtain⟨e,he,rfl⟩:∃e,t.found[i]?=A? e/\(gd e.note,k! e.a)=kv:=by
    unfold nfv at Aa;rw[V7]at Aa;exact WA.mp Aa
   dsimp only at Dl eb Ob Oc;rw[um]at eb;have EE:dn≠t.fd:=aF EN h3.fd (λz=>nomatch z);have k4:KT H3 H4:=λc xs ec=>DU c _ (aF ec h3.fd (λz=>nomatch z)) ec;refine⟨pa,_,D?,i! Dl,D?,_,_,D?,_,_,D?,D?,?_⟩;dsimp only[au];refine⟨_,D?,_,D?,dn,_,nDv e.note,t.settled.map λe=>nDv e.note,D?,l! (DU _ _ EE EN),tL eb,qJ λy hy=>(h3.se y hy).mono k4,Xa mC (by decide),λr hr=>⟨r,D?,?_⟩⟩;have LC:r=Bq↔e.note∉t.settled.map (·.note):=hr.trans (not_congr vf);rw[gx]at Ob Oc;by_cases z:e.note∈t.settled.map (·.note)
   .have:r=false:=by
     cases r with
     |false=>rfl
     |true=>exact g! z (LC.mp rfl)
    subst this;refine Oc ?_;rw[d! z];rfl
   .rw[LC.mpr z];refine⟨_,D?,Ob ?_⟩;rw[c! z];rfl
  rw[r6]at HI;have h4:=h3.same s4;have Bp:=J7.mono s4;have Dn:=s3.trans s4;dsimp only[au]
  refine⟨_,D?,tb.x,t.dx,_,D?,Dn _ _ B0,nU,_,D?,Bp,λf c' H5 s5 et AD J8 hf=>?_⟩;have HJ:=Bp.sameO s5;have h5:=h4.sameO HJ;have J9:=HJ _ _ HI (λ_ z=>nomatch z);have B1:TabSt H5 T.g_23.tp (bW aI) dF:=.inr ⟨c',et,AD⟩;have Ul:FrB (T.g_23.tp::tb.mut) H2 H5:=λb o hb e=>s5 b o (λz=>hb (by rw[z];exact Wj ..)) (Dn b o e)
  have Qw:(nfv (hV t.found t.settled)).map (·.2)=(hV t.found t.settled).map λe=>k! e.a:=by
   unfold nfv;rw[WR];rfl
  rw[Qw]at J9;have Ad:0<(hV t.found t.settled).length:=List.length_pos_of_mem ((gN zG).mpr ⟨Hf,KR⟩)
  have Qx:∀{i:Nat}{x:V},((hV t.found t.settled).map λe=>k! e.a)[i]?=A? x->∃e,(hV t.found t.settled)[i]?=A? e/\x=.ref e.a:=λh=>by
   rw[V7]at h;obtain⟨e,h1,h2⟩:=WA.mp h;exact⟨e,h1,h2.symm⟩
  refine⟨la,f,_,λi=>(((hV t.found t.settled)[i]?).map NtE.key).getD (0,[]),tE f c',D?,D?,J9,by rw[V2];exact Ad,wZ T f c',λi x H6 hx s6=>?_,λi x H6 hx s6 Cn=>?_⟩
  .obtain⟨e,he,rfl⟩:=Qx hx;have B8:=((gN zG).mp (V5 he)).1;refine⟨e,D?,J8.mono s6,AD.mono s6,(h5.same s6).fe e B8,λκ H7 s7 hk=>⟨κ,D?,s7,?_⟩⟩;rw[he];exact hk
  obtain⟨e,he,rfl⟩:=Qx hx;obtain⟨LF,Ck⟩:=(gN zG).mp (V5 he);have h6:=h5.same s6;have Qy:FrB (T.g_23.tp::tb.mut) H2 H6:=Ul.trans (J! s6);have FD:=B1.mono s6;have sub:∀b∈t.mut,b∈T.g_23.tp::tb.mut:=λb hb=>by rw[y3]at hb;exact Wo _ hb
  refine⟨t,e,ins,rows,Ls,old,_,by rw[y1];rfl,h6,J6,hg,Bo,by rw[y6];exact hS,LF,Ck,λy hy Cw=>?_,λH7 f7 ho=>qE H7 (f2.trans (Qy.trans (f7.more sub))) (FD.frb h6.mutOk f7) ho,λt' H7 f7 h7 z1 z2 z3 z4 Cr=>?_⟩
  .obtain⟨j,hj⟩:=Wg.mp ((gN zG).mpr ⟨hy,Cw⟩);have:=Cn j (by rw[V2];exact(glE hj));rw[hj,he]at this;exact this
  have KY:=Cr.p.s30;rw[z2,Wk,WM]at KY;refine⟨30 - t'.settled.length,?_,_,_,_,t',D?,f2.trans (Qy.trans (f7.more sub)),FD.frb h6.mutOk f7,h7,z1.trans y1,z3.trans y3,?_,⟨_,Cr.congr λnm ks z=>?_⟩,D?⟩
  .rw[z2,Wk,WM];lia
  .have g1:=Cr.S;have g2:=J6.S;lia
  .rw[z2,Wk,WM]at z;rcases z.succ with z|z
   .exact .inl z
   .exact .inr z
 .rw[c! (show¬((t.settled.length:Nat):Int)<((t.found.length:Nat):Int)by lia)];refine da ?_;exact q t H2 f2 AQ h2 y1 zG (zG.all (by lia))
inductive oE(vs:List V)(H:Hp)(Q:VK)(_E:XK):Prop
 |mk (d na:V6) (es:CLs) (note:List Int):vs=[.ref d,.ref na]->H d=A? (.dT (dE es))->H na=A? (.tup (note.map o!))->es.length<=10000->note.length<=1000000->(∀e∈es,∃s:Nat,e.1.1=(s:Int)/\s<note.length)->(∀(b:Bool)(H':Hp),j! H H'->(b=Bq↔Makes es note)->Q (.bl b) H')->oE  vs H Q _E
theorem uc:bp P w K mg base CX0 1 T.g_25.f T.g_25.d ["needs","note"] oE:=by
 refine T.g_25.F.okA tH λzh A outer s H vs Q E hr h=>?_;obtain⟨d,na,es,note,rfl,ed,B7,Df,CF,Ck,q⟩:=h;refine⟨_,(ak (aE (aB (tO rfl) rfl T.n_0 PyProof.Rows.boot_all (aa (vh (be (N:=["state","kid","wished","note"]) (js:=[B?,B?,B?,A? 1]) (g:=(lV K 2 (cP (lV K 2 (cP (au 0) (cP (au 1) lO))) (cP (au 2) lO)))) (tt:=aQ) (te:=(tOp (rEq) (tOp (eF K) (bu 3) (bu 0)) (bu 2))) rfl (bK rfl (by decide +kernel) (by decide +kernel) rfl rfl rfl) (gW (pv 0)) (λ_ _ _ _ _ _=>(bM rfl (az (bM rfl (az (pgN 0 wO) (az (pgN 1 wO) bg))) (az (pgN 2 wO) bg)))) (jp (ck pO (jp (ck bC (aD rfl) (ck bC (aD rfl) jD))) (ck bC (aD rfl) jD))) (λ_ _ _ _ _ _=>aU) (λ_ _ _ _ _ _=>(gL cN (aw ay (pv 3) (pv 0) (λ_ _=>rfl)) (pv 2) (aN _))))) af)))),?_⟩
 try dsimp only[zB,ze]
 change kT _ _ _ _;refine oW (d:=d) (es:=es) (val:=λe=>V.bl ((note[e.1.1.toNat]?).getD 0 == e.2)) (λR hR=>⟨_,rfl,hR⟩) ed Df (λi e p b H2 R he sb ep eb hR=>?_) (λD H2 s2 eD=>?_)
 .obtain⟨s',h1,h2⟩:=Ck e (V5 he);have Bo:na≠d:=aF B7 ed (λz=>nomatch z);have Um:H2 b=A? (.tup [.int e.1.1,.int e.1.2]):=eb;refine⟨p,_,D?,i! ep,D?,_,_,D?,⟨b,_,D?,i! Um,D?,_,_,D?,_,_,D?,D?,_,_,D?,D?,?_⟩⟩;dsimp only[au];refine⟨_,D?,_,D?,na,_,(s':Int),.int (note[s']),D?,by rw[h1],i! (sb _ _ Bo B7),br (j:=s') (by rw[V7,V4 h2];rfl),_,D?,D?,?_⟩
  have:V.bl (decide (o! note[s']=o! e.2))=V.bl ((note[e.1.1.toNat]?).getD 0 == e.2):=by
   rw[kh,h1,Wl,V4 h2];rfl
  rw[this];exact hR
 .refine⟨D,es.map λe=>(note[e.1.1.toNat]?).getD 0 == e.2,D?,?_,q _ H2 s2 ?_⟩
  .rw[WR];exact l! eD
  .rw[List.all_map,Zs];unfold Makes;refine forall_congr' λe=>forall_congr' λhe=>?_;obtain⟨s',h1,h2⟩:=Ck e he;show((note[e.1.1.toNat]?).getD 0 == e.2)=Bq↔_;rw[h1,Wl,V4 h2,beq_iff_eq];exact⟨λz=>h! A? z,λz=>Wi z⟩
inductive gm(CT CW CM tp:V6)(vs:List V)(H:Hp)(Q:VK)(E:XK):Prop
 |mk (ba wa:V6) (ins:List (WE×Int)) (head:Th) (rows:List (List Th)) (t:Th) (ar:WE->Nat):vs=[.ref ba,.ref wa]->WBk H ins head rows ba->At H t wa->WCd ins rows t ar->TabSt H tp (bW aI) dF->(∀H',SameT tp H H'->TabSt H' tp (bW aI) dF->Over ins rows (post t [])->E (.ref CM) B? H')->(∀(l:V6)(ps:List V6)(F St:List NtE)(H':Hp),SameT tp H H'->TabSt H' tp (bW aI) dF->H' l=A? (.lst (ps.map k!))->WL (λ(e:NtE)p=>H' p=A? (.tup [.ref e.na,.ref e.ta])) St ps->(∀e∈St,NtA H' e)->PInv ins rows (post t []) F St (ClAll ins St.length)->(∀e∈F,e∈St)->Q (.ref l) H')->gm CT CW CM tp vs H Q E
theorem iR(L:Lam mg base T.g_23.tc T.g_23.tp):bp P w K mg base (CX1 P w) 8 T.g_24.f T.g_24.d ["book","wish"] (gm T.e_Table T.e_Ways T.e_Many T.g_23.tp):=by
 refine T.g_24.F.ok1 eM (λvs H Q E h=>?_) (λzh A outer s H vs Q E hr h=>?_)
 .obtain⟨ba,wa,ins,head,rows,t,ar,rfl,_⟩:=h;rfl
 obtain⟨ba,wa,ins,head,rows,t,ar,rfl,hb,hA,hc,AA,qE,q⟩:=h
 refine⟨_,(ad (iB (pcF T.g_10 (ii T) hr (aa (pv 1) af)) (bM rfl (az (pgN 2 eM.nd) (az (pgN 3 eM.nd) bg))))
  (ad (am 4 eM.nd (rC ⟨T.mi_Table.1,T.g_20.me.1,T.g_20.me.2,T.mi_Table.2⟩ (lQ T) (hr.mono (by first|decide|lia)) rfl T.x_Table T.g_20.b .nil cW (aa (pv 0) (aa (pv 2) af))))
  (ad (aX (jn (pv 4) T.cl_Table T.g_23.me (kQ T L) (hr.mono (by first|decide|lia)) T.g_23.b .nil pC ))
  (ak (aE (be (N:=["knots","note","tree"]) (js:=[B?,B?,B?]) (g:=(lV K 3 (cP (au 0) (cP (au 1) (cP (au 2) lO))))) (tt:=aQ) (te:=(xV (cD (bu 1) (cD (bu 2) iT)))) rfl (bK rfl (by decide +kernel) (by decide +kernel) rfl rfl rfl) (b9 (bB (pv 4) rfl)) (λ_ _ _ _ _ _=>(bM rfl (az (pgN 0 nK) (az (pgN 1 nK) (az (pgN 2 nK) bg))))) (jp (ck bC (aD rfl) (ck bC (aD rfl) (ck bC (aD rfl) jD)))) (λ_ _ _ _ _ _=>aU) (λ_ _ _ _ _ _=>(aW (aa (pv 1) (aa (pv 2) af)))))))))),?_⟩
 try dsimp only[zB,ze]
 refine⟨_,D?,wa,t,D?,hA,hc.tc,hc.ts,λr rt cs To ix H1 s1 er JD Em zm AN=>?_⟩;refine⟨r,_,D?,i! er,D?,_,_,D?,_,_,D?,D?,?_⟩;dsimp only[au];refine⟨_,D?,_,D?,λx dx hx Qz zp=>?_⟩;have LI:∀{b:V6}{o:HO},H1 b=A? o->(upd (upd H1 dx (.own x)) x (.ins T.e_Table dx [])) b=A? o:=λe=>by rw[aj (av e hx),aj (av e Qz)];exact e
 have k1:KT H (upd (upd H1 dx (.own x)) x (.ins T.e_Table dx [])):=λb xs e=>LI (s1 _ _ e);refine hid λZZ kZ=>?_;obtain⟨ia,ha,ra,v2,zy,zH,e1,e2,e3,e4,e5,e6⟩:=(hb.mono k1).ex;refine kZ ?_
 have Lj:(post t []).length<=t.size:=by
  have:=(t8 t []).2;rw[Za]at this;lia
 refine⟨x,dx,ba,ia,ra,rt,v2,.ref ha,zy,zH,ins,rows,cs,To,post t [],ar,D?,ac,e1,e2,e3,e4,e5,(by have:=hc.gi.le;lia),hc.rl,hc.row,λa nm c hi=>⟨hc.nq _ (V5 hi),?_⟩,λtb H2 z1 z2 z3 DA h2 J6 EJ=>?_⟩
 .have Ae:=hc.gi.num _ (V5 hi);obtain⟨m,rfl⟩:=YY Ae.1;refine⟨m,D?,by have:=Ae.2;dsimp only at this;lia,LI JD,t! (λ_ _ e=>LI e) Em,zm,uu (λu hu v hv=>Ars.kids hu hv) hc.ta,λp hp=>?_,V2 _,Xa (Nat.mul_le_mul_left _ Lj) hc.big⟩;obtain⟨h1,h3,h4⟩:=hc.pt a nm _ hi p hp;refine⟨h1,h3,λs k hm=>?_⟩;refine hid λZZ kZ=>?_;obtain⟨⟨k',h5,h6⟩,h7⟩:=h4 s k hm;refine kZ ?_;exact⟨⟨k',h5,by lia⟩,h7⟩
 have s2:j! H1 H2:=l9 hx Qz DA;have Ab:=s1.trans s2;have AQ:=AA.mono Ab
 have nul:∀b∈tb.mut,H b=none:=λb zJ=>by
  have:=EJ b zJ;cases z:H b with
  |none=>rfl
  |some o=>rw[LI (s1 _ _ z)]at this;cases this
 have toT:∀{H3:Hp},FrB (T.g_23.tp::tb.mut) H2 H3->SameT T.g_23.tp H H3:=λf b o zJ e=>f b o (λz=>by
  rcases Wr.mp z with z|z
  .exact zJ z
  .rw[nul b z]at e;cases e) (Ab b o e)
 refine⟨D?,?_⟩;refine⟨_,D?,x,tb.dx,_,D?,by rw[<-z1];exact h2.ins,nU,tb,ins,rows,post t [],by rw[z1];rfl,h2,J6,hc.gi,cH t,by rw[z3];have:=hc.rl;lia,z2,AQ,λH3 f3 t3 ho=>qE H3 (toT f3) t3 ho,λt' H3 f3 t3 h3 y1 Be zc=>?_⟩;have Uo:=Be.s30;refine⟨_,D?,x,T.e_Table,t'.dx,_,_,D?,by rw[<-z1,<-y1];exact h3.ins,T.cl_Table,T.na_Table_settled,l5,t'.st,D?,⟨_,l! h3.st⟩,gP (F:=λH(e:NtE)p=>H p=A? (.tup [.ref e.na,.ref e.ta])) (xs:=t'.settled.map λe=>k! e.a) t'.settled (λHa Hb z p kt h=>kt _ _ h) (by rw[V2]) (by rw[V2];lia) (λi Hx sx hi=>⟨_,_,l! (sx _ _ h3.st),V4 hi⟩) (λHx sx=>⟨_,l! (sx _ _ h3.st),Wc _⟩) (λi Hx y Hy sx hi hy=>⟨hy.1,hy.2 _ (l! (sx _ _ h3.st))⟩) (λi y z Hx R W' hy hz sx hR=>?_) (λl H4 ps hl s4 el AO=>?_)⟩
 .rw[V7,hz]at hy;cases hy;have GD:=(h3.same sx).se z (V5 hz);refine⟨z.a,_,D?,i! GD.a,D?,_,_,D?,_,_,D?,_,_,D?,D?,?_⟩;dsimp only[au];exact⟨_,D?,_,D?,lnE rfl,λp hp=>hR _ p (ao hp _) ac⟩
 .refine q l ps t'.found t'.settled H4 ((toT f3).trans (s4.t _)) (t3.mono s4) el AO (λe he=>(h3.se e he).mono (n! s4)) Be zc
inductive jG(CT CW CM tp:V6)(vs:List V)(H:Hp)(Q:VK)(E:XK):Prop
 |mk (ba wa:V6) (ins:List (WE×Int)) (head:Th) (rows:List (List Th)) (t:Th) (ar:WE->Nat):vs=[.ref ba,.ref wa]->WBk H ins head rows ba->At H t wa->WCd ins rows t ar->wH rows ar head->TabSt H tp (bW aI) dF->(∀H',SameT tp H H'->TabSt H' tp (bW aI) dF->Over ins rows (post t [])->E (.ref CM) B? H')->(∀H',SameT tp H H'->TabSt H' tp (bW aI) dF->m4 ins rows t->(∀u:Th,u.Fit ins->ff ins rows head u≠t)->Q .non H')->(∀(ua:V6)(u:Th)(H':Hp),SameT tp H H'->TabSt H' tp (bW aI) dF->m4 ins rows t->At H' u ua->u.Fit ins->u.tall<=31->ff ins rows head u=t->(∀v:Th,v.Fit ins->ff ins rows head v=t->u.size<=v.size)->Q (.ref ua) H')->jG CT CW CM tp vs H Q E
theorem qA(L:Lam mg base T.g_23.tc T.g_23.tp):bp P w K mg base (CX1 P w) 10 T.g_26.f T.g_26.d ["book","wish"] (jG T.e_Table T.e_Ways T.e_Many T.g_23.tp):=by
 refine T.g_26.F.ok1 dS (λvs H Q E h=>?_) (λzh A outer s H vs Q E hr h=>?_)
 .obtain⟨ba,wa,ins,head,rows,t,ar,rfl,_⟩:=h;rfl
 obtain⟨ba,wa,ins,head,rows,t,ar,rfl,hb,hA,hc,hh,AA,qE,q0,q⟩:=h
 refine⟨_,(ad (iB (pcF T.g_10 (ii T) hr (aa (pv 1) af)) (bM rfl (az (pgN 2 dS.nd) (az (pgN 3 dS.nd) bg))))
  (ad (am 4 dS.nd (pcF T.g_11 (jV T) hr (aa (pcF T.g_5 (qv T) hr (aa (pv 0) af)) (aa (pv 2) (aa (pv 3) af)))))
  (ad (bA Z6 rfl (b9 (cX (iR T L) (hr.mono (by first|decide|lia)) rfl T.g_24.m T.g_24.F.kp T.g_24.b .nil pC (aa (pv 0) (aa (pv 1) af)))) (bM rfl (az (pgN 5 dS.nd) (az (pgN 6 dS.nd) bg))) (ak (bL (PW.pt (gC (aH og (pv 4) fP (aN _)) (fJ (cr (pcF T.g_25 (uc T) hr (aa (pv 4) (aa (pv 5) af))) (λ_=>rfl))))) (ak (aE (pv 6))) aY)))
  (ak (aE fP))))),?_⟩
 try dsimp only[zB,ze]
 refine⟨_,D?,wa,t,D?,hA,hc.tc,hc.ts,λr rt cs To ix H1 s1 er JD Em zm AN=>?_⟩;refine⟨r,_,D?,i! er,D?,_,_,D?,_,_,D?,D?,?_⟩;dsimp only[au];have hb1:=hb.mono (n! s1);refine hid λZZ kZ=>?_;obtain⟨ia,ha,ra,v2,zy,zH,e1,e2,e3,e4,e5,e6⟩:=hb1.ex;refine kZ ?_;refine aR (λi' H'=>Ex1 λ(nv:V)=>An3 (i'=[A? (.ref ba),A? (.ref wa),A? (.ref rt),A? (.int (ix:Nat)),A? nv,B?,B?]) (j! H1 H') (((nv=.non/\∀g,head.fill g≠t)\/∃(d:V6)(es:CLs),nv=.ref d/\H' d=A? (.dT (dE es))/\jS (post t []) head t es))) (λkk hk=>?_) ?_
 .refine⟨_,D?,ba,_,_,_,_,D?,e1,_,D?,_,D?,ha,rt,ix,head,t,cs,To,post t [],ar,D?,e6,JD,Em,zm,AN,hh.ar,uu (λu hu v hv=>Ars.kids hu hv) hc.ta,hh.sz,λH2 s2 zt=>?_,λd es H2 s2 _ ed hn=>?_⟩
  .exact hk _ _ ⟨.non,rfl,s2,.inl ⟨rfl,zt⟩⟩
  .exact hk _ _ ⟨.ref d,rfl,s2,.inr ⟨d,es,rfl,ed,hn⟩⟩
 rintro i' H2 ⟨nv,rfl,s2,QA⟩;have Ab:=s1.trans s2;have AQ:=AA.mono Ab;refine⟨_,D?,_,D?,ba,wa,ins,head,rows,t,ar,D?,hb.mono (n! Ab),hA.mono (n! Ab),hc,AQ,λH3 s3 t3 ho=>qE H3 ((Ab.t _).trans s3) t3 ho,λl ps F St H3 s3 t3 el AO HK hp zc=>?_⟩;have Up:=AQ.sameO s3;have FE:m4 ins rows t:=⟨F,St,hp,zc⟩;have J':St.length=ps.length:=Wx AO;have E5:∀e∈St,Told ins rows (post t []) e:=λe he=>hp.f1 e (hp.s1 e he);refine⟨l,D?,⟨_,l! el⟩,?_⟩
 refine fF (K:=K) (a:=l) (xs:=ps.map k!) (λi σ H4=>Ex2 λ(c5 c6:Option V)=>An3 (σ=[A? (.ref ba),A? (.ref wa),A? (.ref rt),A? (.int (ix:Nat)),A? nv,c5,c6]) (j! H3 H4) (∀e∈St.take i,ff ins rows head e.t≠t))
  ⟨B?,B?,rfl,λ_ _ e=>e,by intro e he;rw[Yj]at he;cases he⟩ (λi σ H4 _⟨_,_,_,s4,_⟩=>l! (s4 _ _ el)) ?_ ?_
 .rintro i x σ H4 hx ⟨c5,c6,rfl,s4,zt⟩;rw[V7]at hx;obtain⟨p,JT,rfl⟩:=WA.mp hx;obtain⟨e,he,ep⟩:=E! AO JT;have B8:=V5 he;have zp:=HK e B8;have Am:=E5 e B8;refine⟨p,_,D?,i! (s4 _ _ ep),D?,_,_,D?,_,_,D?,D?,?_⟩;dsimp only[au]
  have Ka:ff ins rows head e.t≠t->∀f∈St.take (i+1),ff ins rows head f.t≠t:=λh f hf=>by
   rw[take_snoc he]at hf;rcases Wm.mp hf with hf|hf
   .exact zt f hf
   .rw[We.mp hf];exact h
  rcases QA with⟨rfl,F9⟩|⟨d,es,rfl,ed,hn⟩
  .refine⟨_,D?,D?,_,D?,?_⟩;rw[d! (show V.non=V.non from rfl)];refine da (da ⟨_,_,rfl,s4,Ka λz=>?_⟩);exact F9 _ z
  .have C4:=s4 _ _ (Up _ _ ed (λ_ z=>nomatch z));refine⟨_,D?,D?,_,D?,?_⟩;rw[c! (show¬k! d=V.non fromλz=>nomatch z)];have CF:e.note.length=rows.length:=by rw[Am.note.len,cM Am]
   have BY:(∀e'∈es,∃s:Nat,e'.1.1=(s:Int)/\s<e.note.length):=λe' zP=>by
    obtain⟨_,s',h1,h2⟩:=hh.c _ _ (hn.ok e' zP).2;exact⟨s',h1,by lia⟩
   refine de ⟨_,rfl,_,rfl,d,e.na,es,e.note,rfl,C4,s4 _ _ zp.na,?_,?_,BY,λb H5 s5 Uq=>⟨b,rfl,?_⟩⟩
   .exact Xa (mX hn) hh.sz
   .have:=hc.rl;lia
   have Kb:=Uq.trans (dW (cH t) hn hh.c Am.note (cM Am));cases b with
   |false=>exact da ⟨_,_,rfl,s4.trans s5,Ka λz=>by cases Kb.mpr z⟩
   | true =>
     refine de ⟨_,rfl,?_⟩;refine q e.ta e.t H5 ((Ab.t _).trans (s3.trans ((s4.trans s5).t _))) (t3.mono (s4.trans s5)) FE (zp.ta.mono (n! (s4.trans s5))) Am.fit (by have:=hp.t2 e (hp.s1 e B8);have Fq:=hp.s30;lia) (Kb.mp rfl) λv hv Ur=>?_;refine hid λZZ kZ=>?_;obtain⟨f,hf,Ey,LJ⟩:=hc.full hp zc v hv
     have Kc:(aK ins rows v).length=rows.length:=by
      cases v with
      |call s k=>rw[F!]at hv;exact hv.elim
      |knot n ks=>rw[cm,V2]
     have h1:=(dW (cH t) hn hh.c Ey Kc).mpr Ur;have h2:=(dW (cH t) hn hh.c (E5 f hf).note (cM (E5 f hf))).mp h1;obtain⟨j,hj⟩:=Wg.mp hf;refine kZ ?_
     have Od:i<=j:=by
      refine Zu λz=>?_;exact zt f (V5 (i:=j) (by rw[List.getElem?_take,b! (by lia)];exact hj)) h2
     have Dj:e.n<=f.n:=by
      rcases Nat.eq_or_lt_of_le Od with z|z
      .subst z;rw[he]at hj;cases hj;exact Wc _
      .have:=iN hp.s2 he hj z;have:=nw this;have h9:(e.n:Int)<=(f.n:Int):=this;lia
     have:=Am.n;lia
 .rintro σ H4 ⟨c5,c6,rfl,s4,zt⟩;rw[V2,<-J',XU]at zt;refine q0 H4 ((Ab.t _).trans (s3.trans (s4.t _))) (t3.mono s4) FE λu hu ho=>?_;refine hid λZZ kZ=>?_;obtain⟨f,hf,Ey,LJ⟩:=hc.full hp zc u hu;refine kZ ?_;rcases QA with⟨rfl,F9⟩|⟨d,es,rfl,ed,hn⟩
  .exact F9 _ ho
  .have Kc:(aK ins rows u).length=rows.length:=by
    cases u with
    |call s k=>rw[F!]at hu;exact hu.elim
    |knot n ks=>rw[cm,V2]
   have h1:=(dW (cH t) hn hh.c Ey Kc).mpr ho;exact zt f hf ((dW (cH t) hn hh.c (E5 f hf).note (cM (E5 f hf))).mp h1)
inductive f9(K:Wf)(vs:List V)(H:Hp)(Q:VK)(_E:XK):Prop
 |mk (a:V6) (ns:List Int) (k:Int):vs=[.ref a,.int k]->SqL K H a (ns.map o!)->0<=k->Q (.int (cellAt ns k)) H->f9 K vs H Q _E
theorem bE:bp P w K mg base CX0 1 T.g_27.f T.g_27.d ["script","k"] (f9 K):=by
 refine T.g_27.F.okA j7 λzh A outer s H vs Q E hr h=>?_;obtain⟨a,ns,k,rfl,hS,h0,q⟩:=h
 refine⟨_,(ad (bL (aH gb (pv 1) (aB aA rfl T.n_2 WW (aa (pv 0) af)) (aN _)) (ak (aE (ax bq (aw aS (pv 0) (pv 1) (λ_ _=>rfl)) (ax qb ae ae)))) aY)
  (ak (aE ae))),?_⟩
 try dsimp only[zB,ze]
 refine⟨_,D?,_,D?,a,_,D?,.inl hS,_,_,D?,D?,_,D?,?_⟩;refine fu (λc=>?_) (λc=>?_)
 .have c':k<(((ns.map o!).length:Nat):Int):=e! c;rw[V2]at c';refine⟨_,D?,_,D?,a,_,k,_,D?,D?,hS,int_at h0 c',_,_,D?,D?,⟨by decide,by decide,by decide⟩,_,_,D?,D?,?_,?_⟩
  .show(0:Int)<10 ^ 60;decide
  .have e:cellAt ns k=ns.getD k.toNat 0%10 ^ 60:=by unfold cellAt;rw[b! c']
   rw[e]at q;exact q
 .have c':¬k<(((ns.map o!).length:Nat):Int):=of_decide_eq_false (Bool.eq_false_iff.mpr c);rw[V2]at c';have e:cellAt ns k=0:=by unfold cellAt;rw[a! c']
  rw[e]at q;exact q
inductive iM(vs:List V)(H:Hp)(Q:VK)(_E:XK):Prop
 |mk (base n:Int):vs=[.int base,.int n]->0<=base->0<=n->Q (.str (nameOf base n)) H->iM  vs H Q _E
theorem n8:bp P w K mg base CX0 1 T.g_28.f T.g_28.d ["base","n"] iM:=by
 refine T.g_28.F.okA bG λzh A outer s H vs Q E hr h=>?_;obtain⟨b,n,rfl,h0,hn,q⟩:=h
 refine⟨_,(ad (am 2 bG.nd gp)
  (ad (am 3 bG.nd gp)
  (ad (am 4 bG.nd (ax bN (pv 0) ae))
  (ad (bA WX rfl (bU rfl T.n_6 (aa ae af)) (pgN 5 bG.nd) (ad (am 3 bG.nd (ax iK (pv 3) (aw qu (pv 2) (ax bq (pv 4) ae) (λ_ _=>rfl))))
  (ak (am 4 bG.nd (ax bN (pv 4) ae)))))
  (ad (bL (aH cN (ax bq (pv 0) ae) ae (aN _)) (ak (aE (bd pY (pv 3) bH (bv (ax bF (pv 1) ae))))) aY)
  (ad (am 6 bG.nd (ax bF ae (ax bq (ax bN (pv 0) ae) ae)))
  (ad (am 7 bG.nd (ax bq (ax bq (ax bN (pv 0) ae) ae) (pv 6)))
  (ad (am 8 bG.nd (aw qu (pv 2) (ax bq (ax bF (cC PySem.F.plainAttrs_str PySem.F.slot_str_index PySem.F.type_str_index tz (pv 2) (aa (aw qu (pv 3) (pv 7) (λ_ _=>rfl)) af)) (pv 1)) ae) (λ_ _=>rfl)))
  (ak (aE (ax iK (ax iK (bd pY (pv 3) bH (bv (pv 7))) (pv 8)) (bd pY (pv 3) (bv (ax bF (pv 7) ae)) (bv (pv 6)))))))))))))),?_⟩
 try dsimp only[zB,ze]
 refine⟨_,D?,_,_,D?,D?,⟨by decide,by decide⟩,?_⟩;refine⟨8,D?,by decide,by decide,?_⟩;refine cj (n:=8) (λi σ H2=>Ex1 λkv=>An2 (H2=H) (σ=[A? (.int b),A? (.int n),A? (.str dP),A? (.str (cR (b / 112) i)),A? (.int (b / 112 / 26 ^ i)),kv,B?,B?,B?])) ⟨B?,rfl,?_⟩ ?_ ?_
 .have e1:cR (b / 112) 0=Wb "":=by
   show(⟨([]:List Nat).toArray⟩:WE)=Wb "";decide +kernel
  have e2:b / 112 / 26 ^ 0=b / 112:=by rw[Int.pow_zero,Int.ediv_one]
  rw[e1,e2];rfl
 .rintro i σ H2 hi ⟨kv,rfl,rfl⟩;have h1:=W2 (b / 112 / 26 ^ i) (by decide:(26:Int)≠0);have h2:=WZ (b / 112 / 26 ^ i) (by decide:(0:Int)<26);refine⟨_,D?,_,D?,_,D?,_,_,D?,D?,(by show(0:Int)<26;decide),dP,_,_,D?,D?,cF (by rw[jX];decide),mL h1 h2,_,_,D?,D?,cF ?_,?_⟩
  .rw[dU];show i+1<=1000000;lia
  .refine⟨_,D?,_,_,D?,D?,⟨by decide,by decide⟩,A? (.int (0+i)),D?,?_⟩
   have e1:b / 112 / 26 ^ (i+1)=b / 112 / 26 ^ i / 26:=by
    rw[Int.pow_succ,Int.ediv_ediv_of_nonneg (Int.le_of_lt (Int.pow_pos (by decide)))]
   rw[p9,e1];rfl
 .rintro σ H2 ⟨kv,rfl,rfl⟩;have hw:=dU (b / 112) 8;refine⟨_,D?,_,_,D?,D?,(by show(0:Int)<2;decide),D?,_,D?,?_⟩;refine fu (λc=>?_) (λc=>?_)
  .have c':b%2=1:=V.int.inj (e! c);refine⟨_,D?,_,D?,_,_,D?,D?,_,D?,_,D?,cF (by rw[hw];decide),?_⟩;have e:nameOf b n=fG (cR (b / 112) 8) B? (A? (n+1)):=by unfold nameOf;rw[b! c']
   rw[e]at q;exact q
  .have c':¬b%2=1:=λz=>c (d! (h! o! z));have hs:=jx b;have ha:=sU b;refine⟨_,D?,_,_,D?,D?,⟨by decide,by decide⟩,_,_,D?,D?,(by show(0:Int)<8;decide),_,_,D?,D?,?_⟩;refine⟨_,D?,_,_,D?,D?,⟨by decide,by decide⟩,_,_,D?,D?,(by show(0:Int)<7;decide),_,D?,_,_,D?,D?,(by show(0:Int)<eN b;lia),?_⟩;have hk:(nAt b).toNat<8:=by lia
   have AY:atI (cR (b / 112) 8).cps.toList (nAt b)=A? (97+((b / 112 / 26 ^ (nAt b).toNat)%26).toNat):=by
    refine at_nonneg ha.1 ?_;show(fY (b / 112) 8)[(nAt b).toNat]?=_;unfold fY;rw[V7,List.getElem?_range hk];rfl
   have h1:=W2 (b / 112 / 26 ^ (nAt b).toNat) (by decide:(26:Int)≠0);have h2:=WZ (b / 112 / 26 ^ (nAt b).toNat) (by decide:(0:Int)<26);have h3:=W2 ((((b / 112 / 26 ^ (nAt b).toNat)%26).toNat:Int)+n) (by decide:(26:Int)≠0);have h4:=WZ ((((b / 112 / 26 ^ (nAt b).toNat)%26).toNat:Int)+n) (by decide:(0:Int)<26);refine⟨_,D?,_,D?,D?,_,D?,_,D?,_,nAt b,_,D?,D?,cF (by rw[hw];decide),AY,dP,_,_,[],D?,D?,sE _ (by lia),_,D?,_,_,D?,D?,_,_,D?,D?,(by show(0:Int)<26;decide),dP,_,_,D?,D?,cF (by rw[jX];decide),mL h3 h4,?_⟩;have l1:=eS (cR (b / 112) 8) B? (A? (nAt b));have l2:=eS (cR (b / 112) 8) (A? (nAt b+1)) (A? (eN b));rw[hw]at l1 l2;refine⟨_,D?,_,D?,_,D?,_,D?,cF (by rw[hw];decide),_,D?,_,_,D?,D?,cF ?_,_,D?,_,D?,_,_,D?,D?,_,D?,_,D?,_,D?,_,D?,cF (by rw[hw];decide),_,_,D?,D?,cF ?_,?_⟩
   .show(fG (cR (b / 112) 8) B? (A? (nAt b))).length+1<=1000000;lia
   .rw[strLen_append];show(fG (cR (b / 112) 8) B? (A? (nAt b))).length+1+(fG (cR (b / 112) 8) (A? (nAt b+1)) (A? (eN b))).length<=1000000;lia
   .have e:nameOf b n=fG (cR (b / 112) 8) B? (A? (nAt b))++⟨#[lK b n]⟩++fG (cR (b / 112) 8) (A? (nAt b+1)) (A? (eN b)):=by unfold nameOf;rw[a! c']
    rw[e]at q;exact q
inductive ij(vs:List V)(H:Hp)(Q:VK)(_E:XK):Prop
 |mk (cell:Int):vs=[.int cell]->0<=cell->(∀(r:V6)(as:List V6)(H':Hp),j! H H'->H' r=A? (.tup (as.map k!))->KsAt H' (dG cell) as->Q (.ref r) H')->ij  vs H Q _E
theorem g9:bp P w K mg base CX0 2 T.g_29.f T.g_29.d ["cell"] ij:=by
 refine T.g_29.F.okA bR λzh A outer s H vs Q E hr h=>?_;obtain⟨cell,rfl,h0,q⟩:=h
 refine⟨_,(ad (am 1 bR.nd (ax bF (ax fM (pv 0) ae) ae))
  (ad (am 2 bR.nd (ax bF ae (ax bq (pv 1) ae)))
  (ad (am 3 bR.nd (ax bN (pv 1) ae))
  (ad (am 4 bR.nd (bV af))
  (ad (bA WX rfl (bU rfl T.n_6 (aa (pv 2) af)) (pgN 5 bR.nd) (ad (aX (cC WG WV WU bi (pv 4) (aa (aW (aa (pcF T.g_28 (n8 T) hr (aa (ax bN (pv 1) ae) (aa (pv 5) af))) (aa (aw aS (bV (aa ae (aa ae (aa ae (aa ae (aa ae (aa ae af))))))) (ax bq (pv 3) ae) (λ_ _=>rfl)) af))) af)))
  (ak (am 3 bR.nd (ax bF (ax bN (pv 3) ae) (pv 5))))))
  (ad (am 6 bR.nd (ax bq (ax bN (pv 1) ae) (pv 2)))
  (ad (iB (aW (aa (aw ay (aw aS (pv 4) (pv 6) (λ_ _=>rfl)) ae (λ_ _=>rfl)) (aa ae af))) (nG (pv 4) (pv 6) set_list))
  (ak (aE (bT bc rfl T.n_9 Xh (aa (pv 4) af))))))))))),?_⟩
 try dsimp only[zB,ze]
 have hM:=u7 h0;have hm:=jy cell;have ha:=nX cell;refine⟨_,D?,_,_,D?,D?,.inr ⟨by decide,by decide⟩,_,_,D?,D?,?_⟩;refine⟨_,D?,_,_,D?,D?,(by show(0:Int)<4;decide),_,_,D?,D?,?_⟩;refine⟨_,D?,_,_,D?,D?,⟨by decide,by decide⟩,?_⟩;refine⟨lnE rfl,λkl zZ=>?_⟩;refine⟨_,D?,cz cell,D?,by lia,by lia,?_⟩
 refine cj (n:=(cz cell).toNat) (λi σ H2=>Ex2 λkv as=>An4 (σ=[A? (.int cell),A? (.int (eT cell)),A? (.int (cz cell)),A? (.int (gD (eT cell / 7) i)),A? (.ref kl),kv,B?]) (j! H H2) (H2 kl=A? (.lst (as.map k!))) (KsAt H2 ((j2 cell).take i) as))
  ⟨B?,[],rfl,ao zZ _,ac,.nil⟩ ?_ ?_
 .rintro i σ H2 hi ⟨kv,as,rfl,sm,e,hp⟩;have hb:0<=eT cell / 36:=Int.ediv_nonneg hM (by decide)
  have hl:as.length=i:=by
   have:=Wx hp;rw[W9,fD]at this;lia
  refine⟨_,D?,.inl ⟨D?,_,l! e⟩,_,D?,_,_,D?,D?,⟨by decide,by decide⟩,_,D?,eT cell / 36,0+(i:Int),D?,hb,by lia,lnE rfl,λvl Kc=>?_⟩;refine dB Kc λH3 s3 e3=>?_;have sm:=sm.trans s3;have e:=s3 _ _ e;have hp:=hp.mono (n! s3);refine⟨_,D?,_,_,D?,D?,(by show(0:Int)<6;decide),vl,_,_,_,D?,D?,l! e3,vd _,lnE rfl,λp B3=>?_⟩;have BE:kl≠p:=av e B3;refine⟨kl,_,_,D?,D?,by rw[aj BE];exact e,lbE (by lia),?_⟩;refine⟨_,D?,_,_,D?,D?,⟨by decide,by decide⟩,_,D?,_,_,D?,D?,A? (.int (0+(i:Int))),as++[p],?_,aM (aM sm (sm.free B3)) zZ,?_,?_⟩
  .have e1:gD (eT cell / 7) (i+1)=gD (eT cell / 7) i / 6+(0+(i:Int)):=by rw[gD];lia
   rw[e1];rfl
  .rw[ac,WB];rfl
  .have Mz:i<(cz cell).toNat:=hi;rw[X4,jq Mz];have kt:KT H3 (upd (upd H3 p (.tup [.str (nameOf (eT cell / 36) (0+(i:Int))),.int (oo (gD (eT cell / 7) i))])) kl (.lst (as.map k!++[.ref p]))):=(iA B3).trans (cL (xs:=as.map k!) (by rw[aj BE];exact e));refine v! (hp.mono kt) (.cons ?_ .nil);show(upd (upd H3 p _) kl _) p=_;rw[aj BE.symm,ac,Int.zero_add]
 .rintro σ H2 ⟨kv,as,rfl,sm,e,hp⟩;have hk:(j2 cell).take (cz cell).toNat=j2 cell:=by rw[<-fD,XU]
  rw[hk]at hp
  have hl:as.length=(cz cell).toNat:=by
   have:=Wx hp;rw[fD]at this;lia
  obtain⟨pa,B5,QB⟩:=u! hp (jq (cell:=cell) (i:=(fj cell).toNat) (by lia));have zY:atI (as.map k!) (fj cell)=A? (.ref pa):=at_nonneg ha.1 (gmE B5);have Ke:(((fj cell).toNat:Nat):Int)=fj cell:=by lia
  rw[Ke]at QB;refine⟨_,D?,_,_,D?,D?,⟨by decide,by decide⟩,_,D?,_,_,D?,D?,(by show(0:Int)<cz cell;lia),?_⟩;refine⟨_,D?,_,D?,kl,_,fj cell,.ref pa,D?,D?,l! e,zY,pa,_,0,_,D?,D?,i! QB,at0,lnE rfl,λp B3=>?_⟩;have BE:kl≠p:=av e B3;refine⟨_,D?,_,D?,kl,_,fj cell,(fj cell).toNat,D?,D?,by rw[aj BE];exact e,?_,?_⟩
  .unfold ixN;rw[b! ha.1,b! (by rw[V2,hl];lia)]
  .refine⟨_,D?,kl,_,D?,.inl ⟨l! ac,λl Dc=>?_⟩⟩;have kt:KT H2 (upd (upd H2 p (.tup [.str (nameOf (eT cell / 36) (fj cell)),.int 0])) kl (.lst ((as.map k!).set (fj cell).toNat (.ref p)))):=(iA B3).trans (cL (xs:=as.map k!) (by rw[aj BE];exact e));refine q l (as.set (fj cell).toNat p) _ (aM (aM (aM sm (sm.free B3)) zZ) ?_) ?_ ?_
   .exact(aM (aM sm (sm.free B3)) zZ).free Dc
   .rw[ac,List.map_set]
   .have MZ:=kt.trans (iA (o:=.tup ((as.map k!).set (fj cell).toNat (.ref p))) Dc);refine P2.set ?_ _ (hp.mono MZ)
    have J':p≠l:=by
     intro z;rw[<-z,aj BE.symm,ac]at Dc;cases Dc
    show(upd _ l _) p=_;rw[aj J',aj BE.symm,ac]
theorem vg(n:Nat)(z:Int):(W7 n [o! z]).flatten=(W7 n z).map o!:=by
 induction n with
 |zero=>rfl
 |succ n ih=>rw[X3,Zi,ih,X3];rfl
inductive gf(K:Wf)(vs:List V)(H:Hp)(Q:VK)(_E:XK):Prop
 |mk (a:V6) (xs:List V) (many:Int):vs=[.ref a,.int many]->H a=A? (.lst xs)->(∀v∈xs,∃z,v=.int z)->xs.length<=1000->1<=many->many<=1000->(∀(r:V6)(cs:List Int)(H':Hp),j! H H'->H' r=A? (.lst (cs.map o!))->cs.length=many.toNat->Q (.ref r) H')->gf K vs H Q _E
theorem lb:bp P w K mg base CX0 1 T.g_30.f T.g_30.d ["script","many"] (gf K):=by
 refine T.g_30.F.okA eg λzh A outer s H vs Q E hr h=>?_;obtain⟨a,xs,many,rfl,ea,hint,QC,m1,m2,q⟩:=h
 refine⟨_,(ad (am 2 eg.nd (ax uK (bV (aa ae af)) (pv 1)))
  (ad (bA WX rfl (bU rfl T.n_6 (aa (aB aA rfl T.n_2 WW (aa (pv 0) af)) af)) (pgN 3 eg.nd) (ak (iB (ax bq (ax bF (ax fM (aw aS (pv 2) (ax bq (pv 3) (pv 1)) (λ_ _=>rfl)) ae) (aw aS (pv 0) (pv 3) (λ_ _=>rfl))) (ax qb ae ae)) (nG (pv 2) (ax bq (pv 3) (pv 1)) set_list))))
  (ak (aE (pv 2))))),?_⟩
 try dsimp only[zB,ze]
 refine⟨lnE rfl,λl1 Bv=>?_⟩;refine gU Bv λH1 s1 e1=>?_;refine⟨_,D?,l1,_,_,D?,D?,e1,by lia,by lia,cF (by show 1 * many.toNat<=1000000;lia),λkl zZ=>?_⟩;dsimp only;rw[vg];have s2:j! H (upd H1 kl (.lst ((W7 many.toNat (0:Int)).map o!))):=s1.trans (ao zZ _);have e2:(upd H1 kl (.lst ((W7 many.toNat (0:Int)).map o!))) kl=A? (.lst ((W7 many.toNat (0:Int)).map o!)):=ac;have Ut:H kl=none:=s1.free zZ;generalize(upd H1 kl (.lst ((W7 many.toNat (0:Int)).map o!)))=H2 at s2 e2 |-;refine⟨_,D?,a,_,D?,.inl (l! (s2 _ _ ea)),_,D?,by lia,by lia,?_⟩
 refine cj (n:=((xs.length:Nat):Int).toNat) (λi σ H3=>Ex2 λ(kv:Option V)(cs:List Int)=>An4 (σ=[A? (.ref a),A? (.int many),A? (.ref kl),kv]) (j! H H3) (H3 kl=A? (.lst (cs.map o!))) (cs.length=many.toNat))
  ⟨B?,_,rfl,s2,e2,List.length_replicate⟩ ?_ ?_
 .rintro i σ H3 hi ⟨kv,cs,rfl,s3,e3,zm⟩
  have BM:i<xs.length:=by
   have:i<((xs.length:Nat):Int).toNat:=hi;lia
  have y0:=W2 (0+(i:Int)) (show many≠0 by lia);have y1:=WZ (0+(i:Int)) (show 0<many by lia);obtain⟨ix,AN⟩:∃ix:Nat,(0+(i:Int))%many=(ix:Int):=⟨_,(Int.toNat_of_nonneg y0).symm⟩;obtain⟨c,hc⟩:∃c,cs[ix]?=A? c:=⟨_,V4 (by lia)⟩;obtain⟨x,hx⟩:∃x,xs[i]?=A? x:=⟨_,V4 BM⟩;obtain⟨z,rfl⟩:=hint x (V5 hx);refine⟨_,D?,_,D?,_,D?,_,_,D?,D?,(by show 0<many;lia),kl,_,_,.int c,D?,D?,l! e3,at_nonneg y0 (by rw[AN,Wl,V7,hc];rfl),_,_,D?,D?,.inr ⟨by decide,by decide⟩,?_⟩;refine⟨_,D?,_,D?,a,_,_,.int z,D?,D?,l! (s3 _ _ ea),at_nonneg (by lia) (by rw[show(0+(i:Int)).toNat=i by lia];exact hx),_,_,D?,D?,_,_,D?,D?,⟨by decide,by decide,by decide⟩,_,_,D?,D?,(by show(0:Int)<10 ^ 60;decide),?_⟩;refine⟨_,D?,_,D?,_,D?,_,_,D?,D?,(by show 0<many;lia),kl,_,_,ix,D?,D?,e3,?_,?_⟩
  .rw[AN];unfold ixN;rw[b! (by lia),b! (by rw[V2];lia)];simp
  .refine⟨_,cs.set ix ((c * 31+z)%10 ^ 60),D?,aM s3 Ut,?_,by rw[Yq];exact zm⟩;rw[ac,List.map_set];rfl
 .rintro σ H3 ⟨kv,cs,rfl,s3,e3,zm⟩;exact⟨_,D?,q kl cs H3 s3 e3 zm⟩
theorem jJ:∀{ks:List (WE×Int)}{as:List V6},KsAt H ks as->∀z∈ks.zip as,z.1∈ks/\KAt H z.1 z.2
 |_,_,.nil,z,hz=>by simp at hz
 | _,_,.cons (a:=k) (b:=a) r t,z,hz=>by
   rw[ZI]at hz;rcases Wr.mp hz with rfl|hz
   .exact⟨Wj ..,r⟩
   .obtain⟨h1,h2⟩:=jJ t z hz;exact⟨Wo _ h1,h2⟩
theorem kH{te:TE}{kr:V6}{Ao:List V6}{ks:List (WE×Int)}(e:H kr=A? (.tup (Ao.map k!)))(zV:KsAt H ks Ao)(g:ie ks)
 (Dz:∀(z:WE×Int)(ka:V6)(H2:Hp)(R:Bool->Hp->Prop),j! H H2->KAt H2 z ka->R (decide (o! z.2=o! 0)) H2->tt ((cσ js σ).set 0 (A? (.ref ka))) H2 R)
 (Am:∀(ka:V6)(H2:Hp)(R:VK),R (.ref ka) H2->te ((cσ js σ).set 0 (A? (.ref ka))) H2 R)
 (q:∀(D:V6)(k0:WE×Int)(ka:V6)(rs:List V)(H':Hp),H D=B?->j! H H'->H' D=A? (.lst (.ref ka::rs))->k0∈ks->k0.2=0->KAt H' k0 ka->fin D H') :
 ∀D,H D=B?->∃(n:Nat)(W:Nat->Hp->Prop),W 0 (upd H D (.lst []))/\fV js (au 0) tt te σ (Itt K kr) D n W λH'=>fin D H':=by
 have zZ:ks.length=Ao.length:=Wx zV;have Oe:=g.le;have LB:(ks.zip Ao).length=ks.length:=by rw[ZD];lia
 have Mm:∀(i:Nat)(x:V)(z:(WE×Int)×V6),(Ao.map k!)[i]?=A? x->(ks.zip Ao)[i]?=A? z->x=.ref z.2:=λi x z hx hz=>by
  obtain⟨ka,rfl,Av⟩:=cB hx;obtain⟨h1,h2⟩:=X0.mp hz;rw[Av]at h2;cases h2;rfl
 refine eR (ks.zip Ao) (λz=>decide (o! z.1.2=o! 0)) (λz=>.ref z.2) (i! e) (by rw[LB,V2];exact zZ) (by rw[V2];lia) (λi x z H2 R hx hz sm r=>?_) (λi x z H2 R hx hz _ sm r=>?_) (λD hD=>?_)
 .rw[Mm i x z hx hz];have:=(jJ zV z (V5 hz)).2;exact Dz z.1 z.2 H2 R sm (sm _ _ this) r
 .rw[Mm i x z hx hz];exact Am z.2 H2 R r
 .obtain⟨k,hk,Ca⟩:=g.zero;obtain⟨i,hi,rfl⟩:=List.getElem_of_mem hk;have hz:(ks.zip Ao)[i]'(by lia)∈(ks.zip Ao).filter λz=>decide (o! z.1.2=o! 0):=X7.mpr ⟨Xn _,by rw[List.getElem_zip];exact d! (h! o! Ca)⟩
  have zc:∀z∈(ks.zip Ao).filter λz=>decide (o! z.1.2=o! 0),z.1∈ks/\z.1.2=0/\KAt H z.1 z.2:=λz hz=>by
   obtain⟨h1,h2⟩:=X7.mp hz;obtain⟨h3,h4⟩:=jJ zV z h1;exact⟨h3,V.int.inj (e! h2),h4⟩
  generalize((ks.zip Ao).filter λz=>decide (o! z.1.2=o! 0))=bs at hz zc |-;cases bs with
  |nil=>cases hz
  | cons z0 bs =>
    obtain⟨h1,h2,h3⟩:=zc z0 (Wj ..);exact q D z0.1 z0.2 _ _ hD (ao hD _) ac h1 h2 (ao hD _ _ _ h3)
inductive fX(n:Nat)(vs:List V)(H:Hp)(Q:VK)(_E:XK):Prop
 |mk (cell:Int) (oa:V6) (zK:List V6) (outs:List (WE×Int)) (S C deep:Int):vs=[.int cell,.ref oa,.int S,.int C,.int deep]->H oa=A? (.tup (zK.map k!))->KsAt H outs zK->ie outs->0<=S->S<=20->0<=C->C<=3->0<=deep->deep<(n:Int)->(∀(t:Th)(r:V6)(H':Hp),j! H H'->At H' t r->t.FitS outs S C->t.tall<=deep.toNat+1->Q (.ref r) H')->fX n vs H Q _E
theorem dI:∀n:Nat,bp P w K mg base CX0 (n+2) T.g_31.f T.g_31.d ["cell","outs","states","kids","deep"] (fX n)
 |0=>⟨λ_ _ _ _ h=>by obtain⟨_,_,_,_,_,_,_,_,_,_,_,_,_,_,_,h1,h2,_⟩:=h;lia,λ_ _ _ _ _ _ _ _ _ _ _ _ _ h=>by obtain⟨_,_,_,_,_,_,_,_,_,_,_,_,_,_,_,h1,h2,_⟩:=h;lia⟩
 | n+1=>by
   have ih:=dI n;refine T.g_31.F.okA bO λzh A outer s H vs Q E hr h=>?_;obtain⟨cell,oa,zK,outs,S,C,deep,rfl,eo,zV,g,S0,S1,C0,C1,d0,d1,q⟩:=h
   refine⟨_,(ad (bL (PW.pt (gC (aH uL (ax fM (pv 2) (pv 3)) ae (aN _)) (fJ (PW.pt (rE (aH gb (ax bq (pv 0) ae) ae (aN _)) (nJ (PW.pt (gC (aH cN (pv 4) ae (aN _)) (fJ (aH gb (ax bq (pv 0) ae) ae (aN _))))))))))) (ak (aE (aW (aa gp (aa (ax bq (ax bN (pv 0) ae) (pv 2)) (aa (ax bq (ax bN (ax bN (pv 0) ae) (pv 2)) (pv 3)) af)))))) aY)
    (ad (am 5 bO.nd (aw ay (pv 1) (ax bq (ax bN (pv 0) ae) (aB aA rfl T.n_2 WW (aa (pv 1) af))) (λ_ _=>rfl)))
    (ad (bL (aH cN (pv 4) ae (aN _)) (ak (am 5 bO.nd (aw aS (be (N:=["one"]) (js:=[B?]) (g:=(au 0)) (tt:=(mK (tOp (rEq) (tOp (eF K) (bu 0) (tC (.int 1))) (tC (.int 0))))) (te:=(bu 0)) rfl (bK rfl (by decide +kernel) (by decide +kernel) rfl rfl rfl) (cf (pv 1)) (λ_ _ _ _ _ _=>(pgN 0 yb)) (aD rfl) (λ_ _ _ _ _ _=>i8 (aH cN (aw ay (pv 0) ae (λ_ _=>rfl)) ae (aN _))) (λ_ _ _ _ _ _=>(pv 0))) ae (λ_ _=>rfl)))) aY)
    (ad (am 6 bO.nd (aW af))
    (ad (bA WX rfl (bU rfl T.n_6 (aa (aw ay (pv 5) ae (λ_ _=>rfl)) af)) (pgN 7 bO.nd) (ad (am 8 bO.nd (cX (ih) (hr.mono (Wc _)) rfl T.g_31.m T.g_31.F.kp T.g_31.b .nil cW (aa (ax bq (ax fM (ax bF (ax bF (ax bN (pv 0) ae) (pv 7)) ae) ae) ae) (aa (pv 1) (aa (pv 2) (aa (pv 3) (aa (ax iD (pv 4) ae) af)))))))
    (ak (am 6 bO.nd (ax dO (pv 6) (aW (aa (pv 8) af)))))))
    (ak (aE (ax dO (aW (aa (aw ay (pv 5) ae (λ_ _=>rfl)) af)) (pv 6))))))))),?_⟩
   try dsimp only[zB,ze]
   have zZ:outs.length=zK.length:=Wx zV;have Oe:=g.le;have AZ:=g.ne;refine aR (λi' H'=>An2 (H=H') (i'=[A? (.int cell),A? (.ref oa),A? (.int S),A? (.int C),A? (.int deep),B?,B?,B?,B?])) (λkk hk=>?_) ?_
   .refine cE (λb H'=>An2 (H=H') ((b=Bq->0<S/\0<C))) (λk2 zx=>?_) (λH' hb=>?_) (λH' hb=>?_)
    .refine⟨_,D?,_,D?,_,_,D?,D?,.inl ⟨by lia,by lia⟩,_,_,D?,D?,_,D?,?_⟩;refine fu (λc1=>?_) (λc1=>zx _ _ ⟨rfl,λz=>g! z Wz⟩)
     have Kf:0<S/\0<C:=by
      have LK:0<S * C:=e! c1;refine⟨?_,?_⟩
      .rcases Int.lt_or_eq_of_le S0 with h|h
       .exact h
       .rw[<-h]at LK;simp at LK
      .rcases Int.lt_or_eq_of_le C0 with h|h
       .exact h
       .rw[<-h]at LK;simp at LK
     refine⟨_,D?,_,_,D?,D?,(by show(0:Int)<5;decide),_,_,D?,D?,_,D?,?_⟩;refine fu (λc2=>zx _ _ ⟨rfl,λ_=>Kf⟩) (λc2=>?_);refine⟨_,D?,D?,_,D?,?_⟩;refine fu (λc3=>?_) (λc3=>zx _ _ ⟨rfl,λ_=>Kf⟩);exact⟨_,D?,_,_,D?,D?,(by show(0:Int)<5;decide),_,_,D?,D?,_,D?,zx _ _ ⟨D?,λ_=>Kf⟩⟩
    .obtain⟨rfl,hb⟩:=hb;obtain⟨hS,hC⟩:=hb rfl;refine⟨_,D?,_,_,D?,D?,⟨by decide,by decide⟩,_,D?,_,_,D?,D?,hS,_,D?,_,_,D?,D?,⟨by decide,by decide⟩,_,D?,_,_,D?,D?,⟨hS,by lia⟩,_,D?,_,_,D?,D?,hC,lnE rfl,λca Ep=>?_⟩;have y0:=W2 (cell / 5) (show S≠0 by lia);have y1:=WZ (cell / 5) hS;have y2:=W2 (cell / 5 / S) (show C≠0 by lia);have y3:=WZ (cell / 5 / S) hC;refine q (.call (cell / 5%S) (cell / 5 / S%C)) ca _ (ao Ep _) ?_ ?_ ?_
     .rw[At];exact ac
     .rw[H!];exact⟨y0,by lia,y2,by lia⟩
     .rw[x!];lia
    .obtain⟨rfl,_⟩:=hb;exact hk _ _ ⟨rfl,rfl⟩
   rintro i' H' ⟨rfl,rfl⟩;have m0:=W2 (cell / 5) (show((zK.map k!).length:Int)≠0 by rw[V2];lia);have m1:=WZ (cell / 5) (show(0:Int)<((zK.map k!).length:Int)by rw[V2];lia);refine hid λZZ kZ=>?_;obtain⟨k0,Ca⟩:∃k0,outs[(cell / 5%((zK.map k!).length:Int)).toNat]?=A? k0:=⟨_,V4 (by rw[V2]at m0 m1 |-;lia)⟩;obtain⟨ka,Av,zQ⟩:=u! zV Ca;refine kZ ?_;refine⟨_,D?,_,D?,_,_,D?,D?,⟨by decide,by decide⟩,_,D?,oa,_,D?,.inr (i! eo),_,_,D?,D?,(by show(0:Int)<((zK.map k!).length:Int);rw[V2];lia),oa,_,_,.ref ka,D?,D?,i! eo,at_nonneg m0 (gmE Av),?_⟩;dsimp only[au];refine aR (λi' H'=>Ex2 λ(k0:WE×Int)(ka:V6)=>An5 (k0∈outs) (KAt H' k0 ka) ((deep=0->k0.2=0)) (j! H H') (i'=[A? (.int cell),A? (.ref oa),A? (.int S),A? (.int C),A? (.int deep),A? (.ref ka),B?,B?,B?])) (λkk hk=>?_) ?_
   .refine cE (λb H'=>An2 (H=H') ((b=C?->deep≠0))) (λk2 zx=>?_) (λH' hb=>?_) (λH' hb=>?_)
    .exact⟨_,D?,D?,_,D?,zx _ _ ⟨D?,λz z2=>of_decide_eq_false z (h! o! z2)⟩⟩
    .obtain⟨rfl,_⟩:=hb;refine⟨_,D?,oa,D?,⟨_,i! eo⟩,kH (K:=K) eo zV g (λz ka H2 R sm hz r=>⟨_,D?,ka,_,1,_,D?,D?,i! hz,at1,D?,_,D?,r⟩) (λka H2 R r=>⟨_,D?,r⟩) (λD k1 Kg rs H1 hD s1 eD Of JH e1=>?_)⟩;exact⟨D,_,0,.ref Kg,D?,D?,l! eD,at0,hk _ _ ⟨k1,Kg,Of,e1,λ_=>JH,s1,D?⟩⟩
    .obtain⟨rfl,hb⟩:=hb;exact hk _ _ ⟨k0,ka,V5 Ca,zQ,λz=>g! z (hb rfl),.refl _,rfl⟩
   rintro i' H1 ⟨k0,ka,Ct,zQ,hz,s1,rfl⟩;have Ae:=g.num k0 Ct;refine⟨lnE rfl,λpl Ax=>?_⟩;refine gU Ax λH2 s2 e2=>?_;have e2:H2 pl=A? (.tup (([]:List V6).map k!)):=e2;have Kh:=s1.trans s2;refine⟨_,D?,ka,_,1,_,D?,D?,i! (s2 _ _ zQ),at1,k0.2,D?,by lia,by lia,?_⟩
   refine cj (n:=k0.2.toNat) (λi σ H3=>Ex5 λ(c7 c8:Option V)(pl:V6)(bs:List V6)(ts:List Th)=>An6 (σ=[A? (.int cell),A? (.ref oa),A? (.int S),A? (.int C),A? (.int deep),A? (.ref ka),A? (.ref pl),c7,c8]) (j! H1 H3) (H3 pl=A? (.tup (bs.map k!))) (Ats H3 ts bs) (ts.length=i) (∀t∈ts,t.FitS outs S C/\t.tall<=(deep - 1).toNat+1))
    ⟨B?,B?,pl,[],[],rfl,s2,e2,.nil,rfl,λt ht=>by cases ht⟩ ?_ ?_
   .rintro i σ H3 hi ⟨c7,c8,pl,bs,ts,rfl,s3,e3,Bf,zq,zc⟩;have QD:i<k0.2.toNat:=hi;have sB:j! H H3:=s1.trans s3
    have Ki:1<=deep:=by
     by_cases z:deep=0
     .have:=hz z;lia
     .lia
    refine⟨_,D?,_,_,D?,D?,⟨by decide,by decide⟩,_,D?,_,_,D?,D?,_,_,D?,D?,_,_,D?,D?,.inr ⟨by decide,by decide⟩,_,_,D?,D?,(by show(0:Int)<2147483647;decide),?_⟩;refine⟨_,D?,_,D?,_,D?,_,D?,_,_,D?,D?,_,oa,zK,outs,S,C,deep - 1,D?,sB _ _ eo,zV.mono (n! sB),g,S0,S1,C0,C1,by lia,by lia,λt r H4 s4 zY zR zI=>?_⟩;have AW:bs.length=ts.length:=Bf.length;refine⟨_,D?,_,D?,lnE rfl,λp1 Ar=>?_⟩;dsimp only;refine gU Ar λH5 s5 e5=>?_;refine oy (s5 _ _ (s4 _ _ e3)) e5 (by rw[V2];show bs.length+1<=1000000;lia) λp H6 s6 e6=>?_;have Ba:=s4.trans (s5.trans s6);refine⟨_,_,p,bs++[r],ts++[t],D?,s3.trans Ba,by rw[e6,WB];rfl,(Bf.mono (n! Ba)).append (.cons (zY.mono (n! (s5.trans s6))) .nil),by rw[Wk,zq];rfl,λu hu=>?_⟩;rcases Wm.mp hu with hu|hu
    .exact zc u hu
    .rw[We.mp hu];exact⟨zR,zI⟩
   .rintro σ H3 ⟨c7,c8,pl,bs,ts,rfl,s3,e3,Bf,zq,zc⟩;have AW:bs.length=ts.length:=Bf.length;refine⟨_,D?,ka,_,0,.str k0.1,D?,D?,i! (s3 _ _ zQ),at0,lnE rfl,λp1 Ar=>?_⟩;dsimp only;refine gU Ar λH4 s4 e4=>?_;refine⟨_,D?,?_⟩;refine oy e4 (s4 _ _ e3) (by rw[V2];show 1+bs.length<=1000000;lia) λp H6 s6 e6=>?_;have GK:=(g.low k0 Ct).1;refine q (.knot k0.1 ts) p H6 (s1.trans (s3.trans (s4.trans s6))) ?_ ?_ ?_
    .rw[At];exact⟨oO GK,bs,e6,Bf.mono (n! (s4.trans s6))⟩
    .rw[H!];refine⟨?_,FitSs.of λt ht=>(zc t ht).1⟩
     have:(k0.1,(ts.length:Int))=k0:=by
      rw[zq];exact Prod.ext rfl (by show((k0.2.toNat:Nat):Int)=k0.2;lia)
     rw[this];exact Ct
    .rw[x!];by_cases z:deep=0
     .have zx:=hz z;have:ts=[]:=Yo.mp (by lia);subst this;rw[bD];lia
     .have:=m7 (n:=(deep - 1).toNat+1) λt ht=>(zc t ht).2;lia
inductive gE(n:Nat)(vs:List V)(H:Hp)(Q:VK)(_E:XK):Prop
 |mk (l:V6) (x:Int) (oa:V6) (zK:List V6) (outs:List (WE×Int)) (S C deep:Int):vs=[.ref l,.ref oa,.int S,.int C,.int deep]->H l=A? (.lst [.int x])->H oa=A? (.tup (zK.map k!))->KsAt H outs zK->ie outs->0<=S->S<=20->0<=C->C<=3->0<=deep->deep<(n:Int)->(∀(t:Th)(r:V6)(x':Int)(H':Hp),SameB l H H'->H' l=A? (.lst [.int x'])->At H' t r->t.FitS outs S C->t.tall<=deep.toNat+1->Q (.ref r) H')->gE n vs H Q _E
theorem ej:∀n:Nat,bp P w K mg base CX0 (n+2) T.g_32.f T.g_32.d ["own","outs","states","kids","deep"] (gE n)
 |0=>⟨λ_ _ _ _ h=>by obtain⟨_,_,_,_,_,_,_,_,_,_,_,_,_,_,_,_,_,h1,h2,_⟩:=h;lia,λ_ _ _ _ _ _ _ _ _ _ _ _ _ h=>by obtain⟨_,_,_,_,_,_,_,_,_,_,_,_,_,_,_,_,_,h1,h2,_⟩:=h;lia⟩
 | n+1=>by
   have ih:=ej n;refine T.g_32.F.okA bJ λzh A outer s H vs Q E hr h=>?_;obtain⟨l,x,oa,zK,outs,S,C,deep,rfl,el,eo,zV,g,S0,S1,C0,C1,d0,d1,q⟩:=h
   refine⟨_,(ad (am 5 bJ.nd (ax fM (pv 2) (pv 3)))
    (ad (am 6 bJ.nd (ax bq (aw aS (pv 0) ae (λ_ _=>rfl)) (ax bF (pv 5) (aB aA rfl T.n_2 WW (aa (pv 1) af)))))
    (ad (iB (ax bN (aw aS (pv 0) ae (λ_ _=>rfl)) (ax bF (pv 5) (aB aA rfl T.n_2 WW (aa (pv 1) af)))) (nG (pv 0) ae set_list))
    (ad (bL (aH gb (pv 6) (pv 5) (aN _)) (ak (aE (aW (aa gp (aa (ax bq (pv 6) (pv 2)) (aa (ax bN (pv 6) (pv 2)) af)))))) aY)
    (ad (am 7 bJ.nd (aw ay (pv 1) (ax iD (pv 6) (pv 5)) (λ_ _=>rfl)))
    (ad (bL (aH cN (pv 4) ae (aN _)) (ak (am 7 bJ.nd (aw aS (be (N:=["one"]) (js:=[B?]) (g:=(au 0)) (tt:=(mK (tOp (rEq) (tOp (eF K) (bu 0) (tC (.int 1))) (tC (.int 0))))) (te:=(bu 0)) rfl (bK rfl (by decide +kernel) (by decide +kernel) rfl rfl rfl) (cf (pv 1)) (λ_ _ _ _ _ _=>(pgN 0 yb)) (aD rfl) (λ_ _ _ _ _ _=>i8 (aH cN (aw ay (pv 0) ae (λ_ _=>rfl)) ae (aN _))) (λ_ _ _ _ _ _=>(pv 0))) ae (λ_ _=>rfl)))) aY)
    (ad (am 8 bJ.nd (aW af))
    (ad (bA WX rfl (bU rfl T.n_6 (aa (aw ay (pv 7) ae (λ_ _=>rfl)) af)) (pgN 9 bJ.nd) (ak (am 8 bJ.nd (ax dO (pv 8) (aW (aa (cX (ih) (hr.mono (Wc _)) rfl T.g_32.m T.g_32.F.kp T.g_32.b .nil cW (aa (pv 0) (aa (pv 1) (aa (pv 2) (aa (pv 3) (aa (ax iD (pv 4) ae) af)))))) af))))))
    (ak (aE (ax dO (aW (aa (aw ay (pv 7) ae (λ_ _=>rfl)) af)) (pv 8)))))))))))),?_⟩
   try dsimp only[zB,ze]
   have zZ:outs.length=zK.length:=Wx zV;have Oe:=g.le;have AZ:=g.ne;have QE:((zK.map k!).length:Int)=(outs.length:Int):=by rw[V2,zZ]
   have Kf:0<=S * C:=Int.mul_nonneg S0 C0
   have Og:S * C<=60:=by
    have:S * C<=20 * 3:=Int.mul_le_mul S1 C1 C0 (by decide);lia
   refine⟨_,D?,_,D?,_,_,D?,D?,.inl ⟨by lia,by lia⟩,?_⟩;dsimp only[au];have Ad:0<S * C+((zK.map k!).length:Int):=by lia
   refine⟨_,D?,l,_,0,.int x,D?,D?,l! el,at0,_,D?,_,D?,oa,_,D?,.inr (i! eo),_,_,D?,D?,_,_,D?,D?,Ad,?_⟩;refine⟨_,D?,l,_,0,.int x,D?,D?,l! el,at0,_,D?,_,D?,oa,_,D?,.inr (i! eo),_,_,D?,D?,_,_,D?,D?,⟨Ad,by show S * C+((zK.map k!).length:Int)<1073741824;lia⟩,?_⟩;refine⟨_,D?,l,_,0,0,D?,D?,el,D?,?_⟩;dsimp only;have p0:=W2 x (show S * C+((zK.map k!).length:Int)≠0 by lia);have p1:=WZ x Ad;generalize x%(S * C+((zK.map k!).length:Int))=pick at p0 p1 |-;generalize x / (S * C+((zK.map k!).length:Int))=x1;have e1:(upd H l (.lst ([o! x].set 0 (.int x1)))) l=A? (.lst [.int x1]):=by rw[ac];rfl
   have s1:SameB l H (upd H l (.lst ([o! x].set 0 (.int x1)))):=.set;generalize(upd H l (.lst ([o! x].set 0 (.int x1))))=H1 at e1 s1 |-;have LL:H1 oa=A? (.tup (zK.map k!)):=s1 _ _ (aF eo el (by intro z;cases z)) eo;have Uu:KT H H1:=s1.kt el;have GL:=zV.mono Uu;generalize Bz:S * C=calls at Kf Og p1 Ad |-;refine aR (λi' H'=>An3 (H1=H') (¬pick<calls) (i'=[A? (.ref l),A? (.ref oa),A? (.int S),A? (.int C),A? (.int deep),A? (.int calls),A? (.int pick),B?,B?,B?])) (λkk hk=>?_) ?_
   .refine cE (λb H'=>An2 (H1=H') (b=decide (pick<calls))) (λk2 zx=>?_) (λH' hb=>?_) (λH' hb=>?_)
    .exact⟨_,D?,_,D?,_,_,D?,D?,_,D?,zx _ _ ⟨D?,D?⟩⟩
    .obtain⟨rfl,hb⟩:=hb;have zf:=e! hb.symm
     have hS:0<S:=by
      rcases Int.lt_or_eq_of_le S0 with h|h
      .exact h
      .rw[<-h,Int.zero_mul]at Bz;lia
     have y0:=W2 pick (show S≠0 by lia);have y1:=WZ pick hS;have y2:0<=pick / S:=Int.ediv_nonneg p0 (by lia);have y3:pick / S<C:=Int.ediv_lt_of_lt_mul hS (by rw[Int.mul_comm,Bz];exact zf);refine⟨_,D?,_,D?,_,_,D?,D?,hS,_,D?,_,D?,_,_,D?,D?,⟨hS,by lia⟩,lnE rfl,λca Ep=>?_⟩;have zm:l≠ca:=λz=>by rw[<-z,e1]at Ep;cases Ep
     refine q (.call (pick%S) (pick / S)) ca x1 _ (s1.trans (.of (ao Ep _))) (by rw[aj zm];exact e1) ?_ ?_ ?_
     .rw[At];exact ac
     .rw[H!];exact⟨y0,by lia,y2,by lia⟩
     .rw[x!];lia
    .obtain⟨rfl,hb⟩:=hb;exact hk _ _ ⟨rfl,of_decide_eq_false hb.symm,rfl⟩
   rintro i' H' ⟨rfl,Hj,rfl⟩;refine hid λZZ kZ=>?_;obtain⟨k0,Ca⟩:∃k0,outs[(pick - calls).toNat]?=A? k0:=⟨_,V4 (by lia)⟩;obtain⟨ka,Av,zQ⟩:=u! GL Ca;refine kZ ?_;refine⟨_,D?,_,D?,_,D?,_,_,D?,D?,oa,_,_,.ref ka,D?,D?,i! LL,at_nonneg (by lia) (gmE Av),?_⟩;dsimp only[au];refine aR (λi' H'=>Ex2 λ(k0:WE×Int)(ka:V6)=>An5 (k0∈outs) (KAt H' k0 ka) ((deep=0->k0.2=0)) (j! H1 H') (i'=[A? (.ref l),A? (.ref oa),A? (.int S),A? (.int C),A? (.int deep),A? (.int calls),A? (.int pick),A? (.ref ka),B?,B?])) (λkk hk=>?_) ?_
   .refine cE (λb H'=>An2 (H1=H') ((b=C?->deep≠0))) (λk2 zx=>?_) (λH' hb=>?_) (λH' hb=>?_)
    .exact⟨_,D?,D?,_,D?,zx _ _ ⟨D?,λz z2=>of_decide_eq_false z (h! o! z2)⟩⟩
    .obtain⟨rfl,_⟩:=hb;refine⟨_,D?,oa,D?,⟨_,i! LL⟩,kH (K:=K) LL GL g (λz ka H2 R sm hz r=>⟨_,D?,ka,_,1,_,D?,D?,i! hz,at1,D?,_,D?,r⟩) (λka H2 R r=>⟨_,D?,r⟩) (λD k1 Kg rs H2 hD s2 eD Of JH e2=>?_)⟩;exact⟨D,_,0,.ref Kg,D?,D?,l! eD,at0,hk _ _ ⟨k1,Kg,Of,e2,λ_=>JH,s2,D?⟩⟩
    .obtain⟨rfl,hb⟩:=hb;exact hk _ _ ⟨k0,ka,V5 Ca,zQ,λz=>g! z (hb rfl),.refl _,rfl⟩
   clear Ca Av zQ;rintro i' H2 ⟨k0,ka,Ct,zQ,hz,s2,rfl⟩;have Ae:=g.num k0 Ct;have GN:=s2 _ _ e1;refine⟨lnE rfl,λpl Ax=>?_⟩;refine gU Ax λH3 s3 e3=>?_;have e3:H3 pl=A? (.tup (([]:List V6).map k!)):=e3;refine⟨_,D?,ka,_,1,_,D?,D?,i! (s3 _ _ zQ),at1,k0.2,D?,by lia,by lia,?_⟩
   refine cj (n:=k0.2.toNat) (λi σ H4=>Ex5 λ(c9:Option V)(pl:V6)(bs:List V6)(ts:List Th)(x':Int)=>An7 (σ=[A? (.ref l),A? (.ref oa),A? (.int S),A? (.int C),A? (.int deep),A? (.int calls),A? (.int pick),A? (.ref ka),A? (.ref pl),c9]) (SameB l H2 H4) (H4 l=A? (.lst [.int x'])) (H4 pl=A? (.tup (bs.map k!))) (Ats H4 ts bs) (ts.length=i) (∀t∈ts,t.FitS outs S C/\t.tall<=(deep - 1).toNat+1))
    ⟨B?,pl,[],[],x1,rfl,.of s3,s3 _ _ GN,e3,.nil,rfl,λt ht=>by cases ht⟩ ?_ ?_
   .rintro i σ H4 hi ⟨c9,pl,bs,ts,x',rfl,s4,LM,e4,Bf,zq,zc⟩;have QD:i<k0.2.toNat:=hi;have LN:KT H2 H4:=s4.kt GN
    have Ki:1<=deep:=by
     by_cases z:deep=0
     .have:=hz z;lia
     .lia
    refine⟨_,D?,_,D?,_,D?,_,D?,_,D?,_,D?,_,_,D?,D?,l,x',oa,zK,outs,S,C,deep - 1,D?,LM,LN _ _ (s2 _ _ LL),GL.mono ((n! s2).trans LN),g,S0,S1,C0,C1,by lia,by lia,λt r x5 H5 s5 Uv zY zR zI=>?_⟩;have AW:bs.length=ts.length:=Bf.length;have Fy:KT H4 H5:=s5.kt LM;refine⟨lnE rfl,λUw Ar=>?_⟩;dsimp only;refine gU Ar λH6 s6 e6=>?_;refine oy (s6 _ _ (Fy _ _ e4)) e6 (by rw[V2];show bs.length+1<=1000000;lia) λp H7 s7 e7=>?_;have Dq:=s6.trans s7;refine⟨_,p,bs++[r],ts++[t],x5,D?,s4.trans (s5.trans (.of Dq)),Dq _ _ Uv,by rw[e7,WB];rfl,(Bf.mono (Fy.trans (n! Dq))).append (.cons (zY.mono (n! Dq)) .nil),by rw[Wk,zq];rfl,λu hu=>?_⟩;rcases Wm.mp hu with hu|hu
    .exact zc u hu
    .rw[We.mp hu];exact⟨zR,zI⟩
   .rintro σ H4 ⟨c9,pl,bs,ts,x',rfl,s4,LM,e4,Bf,zq,zc⟩;have AW:bs.length=ts.length:=Bf.length;have LN:KT H2 H4:=s4.kt GN;refine⟨_,D?,ka,_,0,.str k0.1,D?,D?,i! (LN _ _ zQ),at0,lnE rfl,λUw Ar=>?_⟩;dsimp only;refine gU Ar λH5 s5 e5=>?_;refine⟨_,D?,?_⟩;refine oy e5 (s5 _ _ e4) (by rw[V2];show 1+bs.length<=1000000;lia) λp H6 s6 e6=>?_;have Fz:=s5.trans s6;have GK:=(g.low k0 Ct).1;refine q (.knot k0.1 ts) p x' H6 (s1.trans ((y! s2).trans (s4.trans (.of Fz)))) (Fz _ _ LM) ?_ ?_ ?_
    .rw[At];exact⟨oO GK,bs,e6,Bf.mono (n! Fz)⟩
    .rw[H!];refine⟨?_,FitSs.of λt ht=>(zc t ht).1⟩
     have:(k0.1,(ts.length:Int))=k0:=by
      rw[zq];exact Prod.ext rfl (by show((k0.2.toNat:Nat):Int)=k0.2;lia)
     rw[this];exact Ct
    .rw[x!];by_cases z:deep=0
     .have zx:=hz z;have:ts=[]:=Yo.mp (by lia);subst this;rw[bD];lia
     .have:=m7 (n:=(deep - 1).toNat+1) λt ht=>(zc t ht).2;lia
theorem vt(h:v∈d8 xs lo hi):v∈xs:=by
 unfold d8 at h;exact List.mem_of_mem_drop (List.mem_of_mem_take h)
theorem xm(xs:List V)(lo hi:Option Int):(d8 xs lo hi).length<=xs.length:=by
 unfold d8;rw[W9,Xm];lia
theorem SameB.fresh(hl:H l=B?)(s:j! H H1)(b:SameB l H1 H'):j! H H':=λa o e=>b a o (λz=>by rw[z,hl]at e;cases e) (s a o e)
def G4(ks:List (WE×Int)):Prop:=GoodN ks/\ks.length<=4
theorem G4.g{ks:List (WE×Int)}(h:G4 ks):ie ks:=h.1.goodK h.2
def TsF(ins outs:List (WE×Int))(S:Int)(ts:List Th):Prop:=∀(j:Nat)(t:Th)(k:WE×Int),ts[j]?=A? t->ins[j]?=A? k->t.FitS outs S k.2/\t.tall<=3
def RwF(ins outs:List (WE×Int))(S:Int)(row:List Th):Prop:=row.length=ins.length/\TsF ins outs S row
theorem TsF.snoc{S:Int}{ts:List Th}{t:Th}{k:WE×Int}(h:TsF ins outs S ts)(hk:ins[ts.length]?=A? k)(hf:t.FitS outs S k.2)(ht:t.tall<=3):TsF ins outs S (ts++[t]):=λj u k' hu zD=>by
 by_cases hj:j<ts.length
 .rw[WS hj]at hu;exact h j u k' hu zD
 .have Eh:=(glE hu);rw[Wk,WM]at Eh;obtain rfl:j=ts.length:=by lia
  rw[W4 (Wc _),Y3]at hu;cases hu;rw[hk]at zD;cases zD;exact⟨hf,ht⟩
structure Bk48(ins outs:List (WE×Int))(head:Th)(rows:List (List Th)):Prop where
 gi:G4 ins
 go:G4 outs
 few:rows.length<=6
 row:∀row∈rows,RwF ins outs (rows.length:Nat) row
 hd:head.FitS outs (rows.length:Nat) 1/\head.tall<=3
inductive iX(K:Wf)(vs:List V)(H:Hp)(Q:VK)(_E:XK):Prop
 |mk (a:V6) (ns:List Int):vs=[.ref a,.int 3,.int 2]->SqL K H a (ns.map o!)->ns.length<=63->(∀(r:V6)(ins outs:List (WE×Int))(head:Th)(rows:List (List Th))(H':Hp),j! H H'->Bk H' ins outs head rows r->Bk48 ins outs head rows->Q (.ref r) H')->iX K vs H Q _E
theorem nI:bp P w K mg base CX0 9 T.g_33.f T.g_33.d ["script","most","deep"] (iX K):=by
 refine T.g_33.F.okA aT λzh A outer s H vs Q E hr h=>?_;obtain⟨a,ns,rfl,hS,AV,q⟩:=h
 refine⟨_,(ad (am 3 aT.nd (pcF T.g_29 (g9 T) hr (aa (pcF T.g_27 (bE T) hr (aa (pv 0) (aa ae af))) af)))
  (ad (am 4 aT.nd (pcF T.g_29 (g9 T) hr (aa (pcF T.g_27 (bE T) hr (aa (pv 0) (aa ae af))) af)))
  (ad (bL (aH cN (ax bq (ax bN (pcF T.g_27 (bE T) hr (aa (pv 0) (aa ae af))) ae) ae) ae (aN _)) (ak (am 4 aT.nd (pv 3))) aY)
  (ad (am 5 aT.nd (ax bq (pcF T.g_27 (bE T) hr (aa (pv 0) (aa ae af))) (ax bF (pv 1) ae)))
  (ad (bL (aH mE ae (be (N:=["pair"]) (js:=[B?]) (g:=(au 0)) (tt:=aQ) (te:=(tOp (eF K) (bu 0) (tC (.int 1)))) rfl (bK rfl (by decide +kernel) (by decide +kernel) rfl rfl rfl) (cf (pv 3)) (λ_ _ _ _ _ _=>(pgN 0 uF)) (aD rfl) (λ_ _ _ _ _ _=>aU) (λ_ _ _ _ _ _=>(aw ay (pv 0) ae (λ_ _=>rfl)))) (by with_unfolding_all rfl)) (ak (am 5 aT.nd (aB (sP rfl) rfl T.n_5 PyProof.Rows.boot_min (aa (pv 5) (aa ae af))))) aY)
  (ad (am 6 aT.nd (pcF T.g_30 (lb T) hr (aa (bd n5 (pv 0) (bv ae) bH) (aa (ax bF (ax fM (pv 5) (aB aA rfl T.n_2 WW (aa (pv 3) af))) ae) af))))
  (ad (am 7 aT.nd (gL cN (ax bq (ax bN (pcF T.g_27 (bE T) hr (aa (pv 0) (aa ae af))) ae) ae) ae (aN _)))
  (ad (am 8 aT.nd (bV af))
  (ad (bA WX rfl (bU rfl T.n_6 (aa (pv 5) af)) (pgN 9 aT.nd) (ad (am 10 aT.nd (bV af))
  (ad (bA WX rfl (bU rfl T.n_6 (aa (aB aA rfl T.n_2 WW (aa (pv 3) af)) af)) (pgN 11 aT.nd) (ad (am 12 aT.nd (ax bF (ax bF (aw aS (pv 6) (ax bF (ax bF ae (ax fM (pv 9) (aB aA rfl T.n_2 WW (aa (pv 3) af)))) (pv 11)) (λ_ _=>rfl)) (ax fM ae (pv 11))) (pv 9)))
  (ak (bL (cr (pv 7) (λ_=>rfl)) (ak (aX (cC WG WV WU bi (pv 10) (aa (pcF T.g_32 (ej T 5) hr (aa (bV (aa (pv 12) af)) (aa (pv 4) (aa (pv 5) (aa (aw ay (aw ay (pv 3) (pv 11) (λ_ _=>rfl)) ae (λ_ _=>rfl)) (aa (pv 2) af)))))) af)))) (ak (aX (cC WG WV WU bi (pv 10) (aa (pcF T.g_31 (dI T 5) hr (aa (pv 12) (aa (pv 4) (aa (pv 5) (aa (aw ay (aw ay (pv 3) (pv 11) (λ_ _=>rfl)) ae (λ_ _=>rfl)) (aa (ax bq (ax bN (pv 12) ae) (ax bF (pv 2) ae)) af)))))) af))))))))
  (ak (aX (cC WG WV WU bi (pv 8) (aa (bT bc rfl T.n_9 Xh (aa (pv 10) af)) af)))))))
  (ad (am 13 aT.nd (pcF T.g_31 (dI T 5) hr (aa (aw aS (pv 6) ae (λ_ _=>rfl)) (aa (pv 4) (aa (pv 5) (aa ae (aa (pv 2) af)))))))
  (ad (bL (cr (pv 7) (λ_=>rfl)) (ak (am 13 aT.nd (pcF T.g_32 (ej T 5) hr (aa (bV (aa (aw aS (pv 6) ae (λ_ _=>rfl)) af)) (aa (pv 4) (aa (pv 5) (aa ae (aa (pv 2) af)))))))) aY)
  (ak (aE (aW (aa (pv 3) (aa (pv 4) (aa (pv 13) (aa (bT bc rfl T.n_9 Xh (aa (pv 8) af)) af)))))))))))))))))),?_⟩
 try dsimp only[zB,ze]
 refine⟨_,D?,a,ns,0,D?,hS,by decide,cellAt ns 0,D?,mF ns 0,λia zy H1 s1 ei Dr=>?_⟩;refine⟨_,D?,a,ns,1,D?,s1.seq hS,by decide,cellAt ns 1,D?,mF ns 1,λUx Oh H2 s2 QF GO=>?_⟩;have gI:G4 (dG (cellAt ns 0)):=jP _;have Oi:G4 (dG (cellAt ns 1)):=jP _;generalize dG (cellAt ns 0)=ins at Dr gI;generalize dG (cellAt ns 1)=Kj at GO Oi;have gi:=gI.g;have Dr:=Dr.mono (n! s2);have ei:=s2 _ _ ei;have Kh:=s1.trans s2;have hS:=Kh.seq hS;dsimp only[au];refine aR (λi' H'=>Ex3 λ(oa:V6)(zK:List V6)(outs:List (WE×Int))=>An5 (H2=H') (H2 oa=A? (.tup (zK.map k!))) (KsAt H2 outs zK) (G4 outs) (i'=[A? (.ref a),A? (.int 3),A? (.int 2),A? (.ref ia),A? (.ref oa),B?,B?,B?,B?,B?,B?,B?,B?,B?])) (λkk hk=>?_) ?_
 .refine cE (λb H'=>H2=H') (λk2 zx=>?_) (λH' hb=>?_) (λH' hb=>?_)
  .exact⟨_,D?,a,ns,1,D?,hS,by decide,_,_,D?,D?,⟨by decide,by decide⟩,_,_,D?,D?,(by show(0:Int)<3;decide),D?,_,D?,zx _ _ rfl⟩
  .subst hb;exact⟨_,D?,hk _ _ ⟨ia,zy,ins,D?,ei,Dr,gI,D?⟩⟩
  .subst hb;exact hk _ _ ⟨Ux,Oh,Kj,rfl,QF,GO,Oi,rfl⟩
 clear QF GO Oi;rintro i' H' ⟨oa,zK,outs,rfl,eo,E6,gO,rfl⟩;have go:=gO.g;have Ah:ins.length=zy.length:=Wx Dr;have RM:=gi.le;have J2:((zy.map k!).length:Int)=(ins.length:Int):=by rw[V2,Ah]
 refine⟨_,D?,a,ns,2,D?,hS,by decide,_,D?,_,_,D?,D?,_,_,D?,D?,(by show(0:Int)<3+1;decide),?_⟩;have QG:=W2 (cellAt ns 2) (show(3+1:Int)≠0 by decide);have QH:=WZ (cellAt ns 2) (show(0:Int)<3+1 by decide);dsimp only[au];have Uy:=gI.2;generalize cellAt ns 2%(3+1)=Sx at QG QH |-;refine aR (λi' H'=>Ex1 λ(S:Int)=>An4 (j! H2 H') (0<=S) (S<=6) (i'=[A? (.ref a),A? (.int 3),A? (.int 2),A? (.ref ia),A? (.ref oa),A? (.int S),B?,B?,B?,B?,B?,B?,B?,B?])) (λkk hk=>?_) ?_
 .refine⟨_,D?,ia,D?,⟨_,i! ei⟩,cb (zs:=ins) (f:=λk=>o! k.2) (i! ei) (by rw[V2];exact Ah) (by rw[V2];lia) (λi x z Hx R W' hx hz sx hR=>?_) (λl Hx hl sx el=>?_)⟩
  .obtain⟨ka,Av,zQ⟩:=u! Dr hz;rw[V7,Av]at hx;cases hx;exact⟨_,D?,ka,_,1,_,D?,D?,i! (sx _ _ zQ),at1,hR Hx (λ_ _ e=>e)⟩
  refine⟨l,_,D?,.inl (l! el),D?,?_,_,D?,?_⟩
  .rw[List.all_map,Zs];intro x _;rfl
  dsimp only;refine fu (λ_=>?_) (λ_=>?_)
  .refine⟨_,D?,_,_,D?,hk _ _ ⟨_,sx,?_,?_,D?⟩⟩
   .split <;> lia
   .split <;> lia
  .exact hk _ _ ⟨Sx,sx,by lia,by lia,rfl⟩
 rintro i' VR ⟨S,HL,S0,S1,rfl⟩;have Dr:=Dr.mono (n! HL);have ei:=HL _ _ ei;have eo:=HL _ _ eo;have E6:=E6.mono (n! HL);have Kh:=Kh.trans HL;have hS:=HL.seq hS;clear QG QH;have Uz:0<=S * (ins.length:Int):=Int.mul_nonneg S0 (by lia)
 have Oj:S * (ins.length:Int)<=24:=by
  have:S * (ins.length:Int)<=6 * 4:=Int.mul_le_mul (by lia) (by lia) (by lia) (by decide);lia
 rw[<-J2]at Uz Oj;refine⟨_,D?,3,D?,a,_,D?,hS,λp hp=>?_⟩;dsimp only[au];refine gU hp λH3 s3 e3=>?_;have Gg:=xm (ns.map o!) (A? 3) B?;rw[V2]at Gg;refine⟨_,D?,_,D?,ia,_,D?,.inr (i! (s3 _ _ ei)),_,_,D?,D?,.inl ⟨by lia,by lia⟩,_,_,D?,D?,p,_,_,D?,e3,(λv hv=>(Wv.mp (vt hv)).elim λz hz=>⟨z,hz.2.symm⟩),by lia,by lia,by lia,λca cs H4 s4 ec zm=>?_⟩;have Et:=s3.trans s4;have hS:=Et.seq hS;have UA:=Kh.trans Et;have ei:=Et _ _ ei;have Dr:=Dr.mono (n! Et);have eo:=Et _ _ eo;have E6:=E6.mono (n! Et);refine⟨_,D?,a,ns,2,D?,hS,by decide,_,_,D?,D?,⟨by decide,by decide⟩,_,_,D?,D?,(by show(0:Int)<2;decide),D?,?_⟩;dsimp only[au];generalize decide (o! (cellAt ns 2 / 7%2)=o! 1)=dg;refine⟨lnE rfl,λrl Kk=>?_⟩;refine gU Kk λH5 UB NA=>?_;refine⟨_,D?,S,D?,by lia,by lia,?_⟩
 refine cj (n:=S.toNat) (λi σ H3=>Ex6 λ(sv rv kv cv:Option V)(zH:List V6)(rows:List (List Th))=>An6 (σ=[A? (.ref a),A? (.int 3),A? (.int 2),A? (.ref ia),A? (.ref oa),A? (.int S),A? (.ref ca),A? (.bl dg),A? (.ref rl),sv,rv,kv,cv,B?]) (j! H4 H3) (H3 rl=A? (.lst (zH.map k!))) (WL (RowAt H3) rows zH) (rows.length=i) (∀row∈rows,RwF ins outs S row))
  ⟨B?,B?,B?,B?,[],[],rfl,UB,NA,.nil,rfl,λt ht=>by cases ht⟩ ?_ ?_
 .rintro i σ H3 hi ⟨sv,rv,kv,cv,zH,rows,rfl,s3,LO,B2,Ol,zc⟩;have QD:i<S.toNat:=hi;have Kl:rows.length=zH.length:=Wx B2;refine⟨lnE rfl,λrw GG=>?_⟩;have Om:H4 rw=none:=s3.free GG;have Oo:rw≠rl:=λz=>by rw[z,LO]at GG;cases GG
  refine gU GG λH6 s6 UC=>?_;refine⟨_,D?,ia,_,D?,.inr (i! (s6 _ _ (s3 _ _ ei))),_,D?,by lia,by lia,?_⟩
  refine cj (n:=((zy.map k!).length:Int).toNat) (λj σ H5=>Ex4 λ(kv cv:Option V)(bs:List V6)(ts:List Th)=>An8 (σ=[A? (.ref a),A? (.int 3),A? (.int 2),A? (.ref ia),A? (.ref oa),A? (.int S),A? (.ref ca),A? (.bl dg),A? (.ref rl),A? (.int (0+(i:Int))),A? (.ref rw),kv,cv,B?]) (j! H4 H5) (H5 rl=A? (.lst (zH.map k!))) (KT H6 H5) (H5 rw=A? (.lst (bs.map k!))) (Ats H5 ts bs) (ts.length=j) (TsF ins outs S ts))
   ⟨kv,cv,[],[],rfl,s3.trans s6,s6 _ _ LO,λ_ _ e=>e,UC,.nil,rfl,λj t k h=>by simp at h⟩ ?_ ?_
  .rintro j σ H5 hj ⟨kv,cv,bs,ts,rfl,s5,FA,Fy,Km,Bf,zq,D5⟩
   have UD:j<ins.length:=by
    have:j<((zy.map k!).length:Int).toNat:=hj;lia
   refine hid λZZ kZ=>?_;obtain⟨k0,Ca⟩:∃k0,ins[j]?=A? k0:=⟨_,V4 UD⟩;obtain⟨ka,Av,zQ⟩:=u! Dr Ca;have Ae:=gi.num k0 (V5 Ca);have zY:atI (zy.map k!) (0+(j:Int))=A? (.ref ka):=at_nonneg (by lia) (by rw[show(0+(j:Int)).toNat=j by lia,V7,Av];rfl);have hmul:0<=(0+(i:Int)) * ((zy.map k!).length:Int):=Int.mul_nonneg (by lia) (by lia)
   have QI:(0+(i:Int)) * ((zy.map k!).length:Int)+((zy.map k!).length:Int)<=S * ((zy.map k!).length:Int):=by
    have h1:(0+(i:Int)+1) * ((zy.map k!).length:Int)<=S * ((zy.map k!).length:Int):=Int.mul_le_mul_of_nonneg_right (by lia) (by lia);rw[Int.add_mul (0+(i:Int)) 1,Int.one_mul]at h1;exact h1
   obtain⟨c,hc⟩:∃c,cs[(1+(0+(i:Int)) * ((zy.map k!).length:Int)+(0+(j:Int))).toNat]?=A? c:=⟨_,V4 (by lia)⟩;refine kZ ?_;refine⟨_,D?,_,D?,_,D?,ia,_,D?,.inr (i! (s5 _ _ ei)),_,_,D?,D?,.inl ⟨by lia,by lia⟩,_,_,D?,D?,_,D?,_,_,D?,D?,ca,_,_,.int c,D?,D?,l! (s5 _ _ ec),at_nonneg (by lia) (gmE hc),?_⟩;refine⟨_,D?,_,_,D?,D?,.inl ⟨by decide,by decide⟩,_,_,D?,D?,_,D?,_,_,D?,D?,?_⟩;dsimp only[au];generalize c+7 * (0+(j:Int))+(0+(i:Int))=cell
   have fin:∀(t:Th)(r:V6)(H7:Hp),j! H5 H7->At H7 t r->t.FitS outs S k0.2->t.tall<=3->(qP (k! rw) [k! r] H7 λ_ H8=>Ex4 λ(kv cv:Option V)(bs:List V6)(ts:List Th)=>An8 ([A? (k! a),A? (.int 3),A? (.int 2),A? (.ref ia),A? (.ref oa),A? (.int S),A? (.ref ca),A? (.bl dg),A? (.ref rl),A? (.int (0+(i:Int))),A? (.ref rw),A? (.int (0+(j:Int))),A? (.int cell),B?]=[A? (.ref a),A? (.int 3),A? (.int 2),A? (.ref ia),A? (.ref oa),A? (.int S),A? (.ref ca),A? (.bl dg),A? (.ref rl),A? (.int (0+(i:Int))),A? (.ref rw),kv,cv,B?]) (j! H4 H8) (H8 rl=A? (.lst (zH.map k!))) (KT H6 H8) (H8 rw=A? (.lst (bs.map k!))) (Ats H8 ts bs) (ts.length=j+1) (TsF ins outs S ts)):=by
    intro t r H7 s7 zY zR zI;have QJ:=s7 _ _ Km;have Cq:=s7 _ _ FA;have AW:bs.length=ts.length:=Bf.length;refine⟨rw,_,_,D?,D?,QJ,lbE (by lia),?_⟩;have kt:KT H7 (upd H7 rw (.lst (bs.map k!++[.ref r]))):=cL QJ;refine⟨_,_,bs++[r],ts++[t],D?,aM (s5.trans s7) Om,by rw[aj Oo.symm];exact Cq,Fy.trans ((n! s7).trans kt),?_,?_,?_,?_⟩
    .rw[ac,WB];rfl
    .exact(Bf.mono ((n! s7).trans kt)).append (.cons (zY.mono kt) .nil)
    .rw[Wk,zq];rfl
    .exact D5.snoc (by rw[zq];exact Ca) zR zI
   refine cE (λb H'=>H5=H') (λk2 zx=>?_) (λH' hb=>?_) (λH' hb=>?_)
   .exact⟨_,D?,_,D?,zx _ _ rfl⟩
   .subst hb;refine⟨_,D?,.inl ⟨D?,_,l! Km⟩,_,D?,lnE rfl,λol Gd=>?_⟩;dsimp only;refine gU Gd λH7 s7 e7=>?_;have Dq:=s5.trans s7;refine⟨_,D?,_,D?,_,D?,_,D?,ia,_,_,.ref ka,D?,D?,i! (Dq _ _ ei),zY,ka,_,1,_,D?,D?,i! (Dq _ _ zQ),at1,_,D?,ol,cell,oa,zK,outs,S,k0.2,2,D?,e7,Dq _ _ eo,E6.mono (n! Dq),go,S0,by lia,Ae.1,Ae.2,by decide,by decide,λt r x' H8 s8 _ zY zR zI=>?_⟩;exact fin t r H8 (SameB.fresh Gd s7 s8) zY zR zI
   .subst hb;have y0:=W2 (cell / 3) (show(2+1:Int)≠0 by decide);have y1:=WZ (cell / 3) (show(0:Int)<2+1 by decide);refine⟨_,D?,.inl ⟨D?,_,l! Km⟩,_,D?,_,D?,_,D?,_,D?,_,D?,ia,_,_,.ref ka,D?,D?,i! (s5 _ _ ei),zY,ka,_,1,_,D?,D?,i! (s5 _ _ zQ),at1,_,D?,_,_,D?,D?,⟨by decide,by decide⟩,_,D?,_,_,D?,D?,_,_,D?,D?,(by show(0:Int)<2+1;decide),cell,oa,zK,outs,S,k0.2,_,D?,s5 _ _ eo,E6.mono (n! s5),go,S0,by lia,Ae.1,Ae.2,y0,by show cell / 3%(2+1)<((5:Nat):Int);lia,λt r H8 s8 zY zR zI=>?_⟩;exact fin t r H8 s8 zY zR (by lia)
  .rintro σ H5 ⟨kv,cv,bs,ts,rfl,s5,FA,Fy,Km,Bf,zq,D5⟩;refine⟨_,D?,.inl ⟨D?,_,l! FA⟩,_,D?,rw,_,D?,.inl ⟨l! Km,λtp DZ=>?_⟩⟩;refine gU DZ λH7 s7 e7=>?_;have Cq:=s7 _ _ FA;refine⟨rl,_,_,D?,D?,Cq,lbE (by lia),?_⟩;have kt:KT H7 (upd H7 rl (.lst (zH.map k!++[.ref tp]))):=cL Cq;have UE:KT H3 (upd H7 rl (.lst (zH.map k!++[.ref tp]))):=(n! s6).trans (Fy.trans ((n! s7).trans kt));refine⟨_,_,_,_,zH++[tp],rows++[ts],D?,aM (s5.trans s7) Kk,?_,?_,?_,?_⟩
   .rw[ac,WB];rfl
   .exact v! (t! (λ_ _ e=>RowAt.mono UE e) B2) (.cons ⟨bs,kt _ _ e7,Bf.mono ((n! s7).trans kt)⟩ .nil)
   .rw[Wk,Ol];rfl
   .intro row zU;rcases Wm.mp zU with zU|zU
    .exact zc row zU
    .rw[We.mp zU];exact⟨by rw[zq];lia,D5⟩
 .rintro σ H3 ⟨sv,rv,kv,cv,zH,rows,rfl,s3,LO,B2,Ol,zc⟩;have Kl:rows.length=zH.length:=Wx B2;obtain⟨c,hc⟩:∃c,cs[0]?=A? c:=⟨_,V4 (by lia)⟩;have Kn:atI (cs.map o!) 0=A? (.int c):=at_nonneg (by decide) (by rw[V7];show(cs[0]?).map o!=_;rw[hc];rfl);refine⟨_,D?,ca,_,0,.int c,D?,D?,l! (s3 _ _ ec),Kn,_,D?,_,D?,_,D?,c,oa,zK,outs,S,1,2,D?,s3 _ _ eo,E6.mono (n! s3),go,S0,by lia,by decide,by decide,by decide,by decide,λt ha H6 s6 zY zR zI=>?_⟩;dsimp only[au];have QK:j! H4 H6:=s3.trans s6;refine aR (λi' H7=>Ex2 λ(t:Th)(ha:V6)=>An5 (j! H6 H7) (At H7 t ha) (t.FitS outs S 1) (t.tall<=3) (i'=[A? (.ref a),A? (.int 3),A? (.int 2),A? (.ref ia),A? (.ref oa),A? (.int S),A? (.ref ca),A? (.bl dg),A? (.ref rl),sv,rv,kv,cv,A? (.ref ha)])) (λkk hk=>?_) ?_
  .refine cE (λb H'=>H6=H') (λk2 zx=>?_) (λH' hb=>?_) (λH' hb=>?_)
   .exact⟨_,D?,_,D?,zx _ _ rfl⟩
   .subst hb;refine⟨_,D?,ca,_,0,.int c,D?,D?,l! (QK _ _ ec),Kn,lnE rfl,λol Gd=>?_⟩;dsimp only;refine gU Gd λH7 s7 e7=>?_;have Dq:=QK.trans s7;exact⟨_,D?,_,D?,_,D?,ol,c,oa,zK,outs,S,1,2,D?,e7,Dq _ _ eo,E6.mono (n! Dq),go,S0,by lia,by decide,by decide,by decide,by decide,λt r x' H8 s8 _ zY zR zI=>hk _ _ ⟨t,r,SameB.fresh Gd s7 s8,zY,zR,zI,D?⟩⟩
   .subst hb;exact hk _ _ ⟨t,ha,.refl _,zY,zR,zI,rfl⟩
  clear zY zR zI;rintro i' H7 ⟨t,ha,s7,zY,zR,zI,rfl⟩;have Cq:=s7 _ _ (s6 _ _ LO);refine⟨_,D?,_,D?,_,D?,_,D?,rl,_,D?,.inl ⟨l! Cq,λra UG=>?_⟩⟩;refine gU UG λH8 s8 e8=>?_;refine⟨lnE rfl,λr Bn=>?_⟩;have s9:j! H8 (upd H8 r (.tup [.ref ia,.ref oa,.ref ha,.ref ra])):=ao Bn _;have sA:=s6.trans (s7.trans (s8.trans s9));have sB:=s3.trans sA;have QL:((rows.length:Nat):Int)=S:=by rw[Ol];lia
  exact q r ins outs t rows _ (UA.trans sB) ⟨ia,oa,ha,ra,zy,zK,zH,ac,sB _ _ ei,Dr.mono (n! sB),sB _ _ eo,E6.mono (n! sB),zY.mono (n! (s8.trans s9)),s9 _ _ e8,t! (λ_ _ e=>RowAt.mono (n! sA) e) B2⟩ ⟨gI,gO,by lia,by rw[QL];exact zc,by rw[QL];exact zR,zI⟩
inductive eK(n:Nat)(vs:List V)(H:Hp)(Q:VK)(_E:XK):Prop
 |mk (pa kl:V6) (C6:List V6) (p:Th) (Az:List (List Th)):vs=[.ref pa,.ref kl]->At H p pa->H kl=A? (.lst (C6.map k!))->WL (LsT H) Az C6->InK Az p->p.tall<=n->aq p.kids<=1000->(∀(r:V6)(H':Hp),j! H H'->At H' (p.fill (pickK Az)) r->Q (.ref r) H')->eK n vs H Q _E
theorem df(g:Int->Int->Th):∀ts:List Th,fills g ts=ts.map (·.fill g)
 | []=>rfl
 |t::ts=>by rw[fills,df g ts,WH]
theorem gv:∀n:Nat,bp P w K mg base CX0 (n+1) T.g_37.f T.g_37.d ["pattern","kids"] (eK n)
 |0=>⟨λ_ _ _ _ h=>by obtain⟨_,_,_,p,_,_,_,_,_,_,h1,_⟩:=h;have:=p.tall_eq;lia,λ_ _ _ _ _ _ _ _ _ _ _ _ _ h=>by obtain⟨_,_,_,p,_,_,_,_,_,_,h1,_⟩:=h;have:=p.tall_eq;lia⟩
 | n+1=>by
   have ih:=gv n;refine T.g_37.F.okA pf λzh A outer s H vs Q E hr h=>?_;obtain⟨pa,kl,C6,p,Az,rfl,hA,E7,zV,z9,zq,hsz,q⟩:=h
   refine⟨_,(ad (bL (aH cN (aw ay (pv 0) ae (λ_ _=>rfl)) gp (aN _)) (ak (aE (aw aS (aw aS (pv 1) (aw ay (pv 0) ae (λ_ _=>rfl)) (λ_ _=>rfl)) (aw ay (pv 0) ae (λ_ _=>rfl)) (λ_ _=>rfl)))) aY)
    (ak (aE (ax dO (aW (aa (aw ay (pv 0) ae (λ_ _=>rfl)) af)) (bT bc rfl T.n_9 Xh (aa (be (N:=["part","kids"]) (js:=[B?,A? 1]) (g:=(au 0)) (tt:=aQ) (te:=(ig (eK _) [] E0 (cD (bu 0) (cD (bu 1) iT)))) rfl (bK rfl (by decide +kernel) (by decide +kernel) rfl rfl rfl) (cf (bd cQ (pv 0) (bv ae) bH)) (λ_ _ _ _ _ _=>(pgN 0 vY)) (aD rfl) (λ_ _ _ _ _ _=>aU) (λ_ _ _ _ _ _=>(cX (ih) (hr.mono (Wc _)) rfl T.g_37.m T.g_37.F.kp T.g_37.b .nil cW (aa (pv 0) (aa (pv 1) af))))) af)))))),?_⟩
   try dsimp only[zB,ze]
   cases p with
   | call s0 k0 =>
     refine hid λZZ kZ=>?_;obtain⟨k',s',ts,t,rfl,rfl,hk,hs⟩:=z9 s0 k0 (by rw[D!];exact Wj ..);obtain⟨la,EG,as,HI,has⟩:=u! zV hk;obtain⟨ta,A',UH⟩:=has.get' hs;refine kZ ?_;rw[At]at hA;refine⟨_,D?,pa,_,0,.str (Wb "?"),D?,D?,i! hA,at0,D?,_,D?,?_⟩;rw[d! (show B! (Wb "?")=B! (Wb "?")from rfl)];refine de ⟨_,rfl,_,rfl,pa,_,2,_,rfl,rfl,i! hA,at2,kl,_,(k':Int),.ref la,rfl,rfl,l! E7,br (gmE EG),_,rfl,pa,_,1,_,rfl,rfl,i! hA,at1,la,_,(s':Int),.ref ta,rfl,rfl,l! HI,br (gmE A'),?_⟩;refine q ta H (λ_ _ e=>e) ?_;rw[C!];unfold pickK;rw[Wl,Wl,Wu,Wu,hk];show At H ((ts[s']?).getD bh) ta;rw[hs];exact UH
   | knot m ts =>
     rw[x!]at zq;rw[At]at hA;refine hid λZZ kZ=>?_;obtain⟨Ew,CY,ea,A'⟩:=hA;refine kZ ?_;have hsz:aq ts<=1000:=hsz;have QM:=du ts;have Cp:CY.length=ts.length:=A'.length;refine⟨_,D?,pa,_,0,.str m,D?,D?,i! ea,at0,D?,_,D?,?_⟩;rw[c! (show¬B! m=B! (Wb "?")fromλz=>Ew (V.str.inj z))];refine da ⟨_,rfl,pa,_,0,.str m,rfl,rfl,i! ea,at0,lnE rfl,λp1 Ar=>?_⟩;refine dB Ar λH1 s1 e1=>?_;refine⟨_,D?,1,D?,pa,_,D?,i! (s1 _ _ ea),?_,λp2 zG=>?_⟩
     .rintro⟨z,_⟩;rw[Wq,show(1:Int)=((1:Nat):Int)by rfl,w!]at z;lia
     dsimp only;rw[cg];refine dB zG λH2 s2 e2=>?_;have Ab:=s1.trans s2;refine⟨p2,D?,⟨_,i! e2⟩,gP (F:=λH o a=>At H o a) (xs:=CY.map k!) (ts.map (·.fill (pickK Az))) (λH1 H2 z p kt h=>h.mono kt) (by rw[V2,V2];lia) (by rw[V2];lia) (λi Hx sx hi=>⟨_,_,i! (sx _ _ e2),V4 hi⟩) (λHx sx=>⟨_,i! (sx _ _ e2),Wc _⟩) (λi Hx x Hy sx hi hy=>⟨hy.1,hy.2 _ (i! (sx _ _ e2))⟩) (λi x z Hx R W' hx Af sx hR=>?_) (λD H3 as hD s3 eD B4=>?_)⟩
     .obtain⟨ua,rfl,C7⟩:=cB hx;obtain⟨u,hu,C8⟩:=A'.get C7;rw[V7,hu]at Af;cases Af;have AR:=V5 hu;have AB:=Ab.trans sx;have HM:=cV AR;have QN:=dm AR;have FQ:=u.size_eq;refine⟨_,D?,_,D?,ua,kl,C6,u,Az,D?,C8.mono (n! AB),AB _ _ E7,t! (λ_ _ h=>h.same AB) zV,z9.kid AR,by lia,by lia,λr H4 s4 Ko=>hR H4 r s4 Ko⟩
     have Ay:ts.length=as.length:=by
      have:(ts.map (·.fill (pickK Az))).length=as.length:=Wx B4;rw[V2]at this;exact this
     refine⟨D,_,D?,.inl ⟨l! eD,λtp DZ=>?_⟩⟩;refine dB DZ λH4 s4 e4=>?_;refine oy (s4 _ _ (s3 _ _ (s2 _ _ e1))) e4 (by rw[V2];show 1+as.length<=1000000;lia) λp H5 s5 e5=>?_;refine q p H5 (Ab.trans (s3.trans (s4.trans s5))) ?_;rw[C!,df,At];exact⟨Ew,as,e5,nD (t! (λ_ _ e=>e.mono (n! (s4.trans s5))) B4)⟩
inductive eX(n:Nat)(vs:List V)(H:Hp)(Q:VK)(_E:XK):Prop
 |mk (ba ta:V6) (ins:List (WE×Int)) (head:Th) (rows:List (List Th)) (t:Th):vs=[.ref ba,.ref ta]->WBk H ins head rows ba->At H t ta->BkC ins rows->t.Fit ins->t.tall<=n->(∀(r:V6)(H':Hp),j! H H'->H r=B?->LsT H' (aK ins rows t) r->Q (.ref r) H')->eX n vs H Q _E
theorem il:∀n:Nat,bp P w K mg base CX0 (n+5) T.g_38.f T.g_38.d ["book","tree"] (eX n)
 |0=>⟨λ_ _ _ _ h=>by obtain⟨_,_,_,_,_,t,_,_,_,_,_,h1,_⟩:=h;have:=t.tall_eq;lia,λ_ _ _ _ _ _ _ _ _ _ _ _ _ h=>by obtain⟨_,_,_,_,_,t,_,_,_,_,_,h1,_⟩:=h;have:=t.tall_eq;lia⟩
 | n+1=>by
   have ih:=il n;refine T.g_38.F.okA dw λzh A outer s H vs Q E hr h=>?_;obtain⟨ba,ta,ins,head,rows,t,rfl,hB,hA,hC,hF,zq,q⟩:=h
   refine⟨_,(ad (am 2 dw.nd (be (N:=["kid","book"]) (js:=[B?,A? 0]) (g:=(au 0)) (tt:=aQ) (te:=(ig (eX _) [] E0 (cD (bu 1) (cD (bu 0) iT)))) rfl (bK rfl (by decide +kernel) (by decide +kernel) rfl rfl rfl) (cf (bd cQ (pv 1) (bv ae) bH)) (λ_ _ _ _ _ _=>(pgN 0 ww)) (aD rfl) (λ_ _ _ _ _ _=>aU) (λ_ _ _ _ _ _=>(cX (ih) (hr.mono (Wc _)) rfl T.g_38.m T.g_38.F.kp T.g_38.b .nil cW (aa (pv 1) (aa (pv 0) af))))))
    (ad (dN (i:=3) (N:=["pair"]) (js:=[B?]) (g:=(au 0)) (tt:=aQ) (te:=(tOp (eF K) (bu 0) (tC (.int 0)))) dw.nd rfl (Or.inl rfl) rfl (bK rfl (by decide +kernel) (by decide +kernel) rfl rfl rfl) (cf (aw ay (pv 0) ae (λ_ _=>rfl))) (λ_ _ _ _ _ _=>(pgN 0 uF)) (aD rfl) (λ_ _ _ _ _ _=>aU) (λ_ _ _ _ _ _=>(aw ay (pv 0) ae (λ_ _=>rfl))))
    (ad (am 4 dw.nd (cC WG PySem.F.slot_list_index PySem.F.type_list_index mw (pv 3) (aa (aw ay (pv 1) ae (λ_ _=>rfl)) af)))
    (ak (aE (be (N:=["row","kids","at"]) (js:=[B?,A? 2,A? 4]) (g:=(au 0)) (tt:=aQ) (te:=(ig (eK _) [] E0 (cD (tOp (eF K) (bu 0) (bu 2)) (cD (bu 1) iT)))) rfl (bK rfl (by decide +kernel) (by decide +kernel) rfl rfl rfl) (cf (aw ay (pv 0) ae (λ_ _=>rfl))) (λ_ _ _ _ _ _=>(pgN 0 vT)) (aD rfl) (λ_ _ _ _ _ _=>aU) (λ_ _ _ _ _ _=>(pcF T.g_37 (gv T 3) hr (aa (aw ay (pv 0) (pv 2) (λ_ _=>rfl)) (aa (pv 1) af)))))))))),?_⟩
   try dsimp only[zB,ze]
   cases t with
   |call s0 k0=>rw[F!]at hF;exact hF.elim
   | knot m ks =>
     rw[x!]at zq;rw[F!]at hF;refine hid λZZ kZ=>?_;obtain⟨hm,hK⟩:=hF;obtain⟨a,ha⟩:=Wg.mp hm;have Ae:=(hC.gi.num _ hm).2;dsimp only at Ae;rw[At]at hA;obtain⟨Ew,Ao,ea,Av⟩:=hA;have zZ:Ao.length=ks.length:=Av.length;obtain⟨ia,CU,ra,v2,zy,zH,b1,b2,b3,b4,b5,b6⟩:=hB.ex;refine kZ ?_;have Ah:ins.length=zy.length:=Wx b3;have J2:rows.length=zH.length:=Wx b5;have UI:=hC.gi.le;have Nz:=hC.rl;refine⟨_,D?,1,D?,ta,_,D?,i! ea,?_,λp2 zG=>?_⟩
     .rintro⟨z,_⟩;rw[Wq,show(1:Int)=((1:Nat):Int)by rfl,w!]at z;lia
     dsimp only;rw[cg];refine dB zG λH2 s2 e2=>?_;refine⟨p2,D?,⟨_,i! e2⟩,qZ (F:=LsT) (xs:=Ao.map k!) (ks.map (aK ins rows)) (λH1 H2 z p kt o h=>h.up kt o) (by rw[V2,V2];lia) (by rw[V2];lia) (λi Hx sx hi=>⟨_,_,i! (sx _ _ e2),V4 hi⟩) (λHx sx=>⟨_,i! (sx _ _ e2),Wc _⟩) (λi Hx x Hy sx hi hy=>⟨hy.1,hy.2 _ (i! (sx _ _ e2))⟩) (λi x z Hx R W' hx Af sx hR=>?_) (λkl H3 C6 Oq s3 E7 BE=>?_)⟩
     .obtain⟨ua,rfl,C7⟩:=cB hx;obtain⟨u,hu,C8⟩:=Av.get C7;rw[V7,hu]at Af;cases Af;have AR:=V5 hu;have AB:=s2.trans sx;have HM:=cV AR;exact⟨_,D?,_,D?,ba,ua,ins,head,rows,u,D?,hB.mono (n! AB),C8.mono (n! AB),hC,fC hK u AR,by lia,λr H4 s4 Ko h4=>hR H4 r s4 Ko h4⟩
     dsimp only[au];have BF:=s2.trans s3;refine⟨_,D?,ba,_,0,.ref ia,D?,D?,i! (BF _ _ b1),at0,ia,D?,⟨_,i! (BF _ _ b2)⟩,cb (zs:=ins) (f:=λk=>B! k.1) (i! (BF _ _ b2)) (by rw[V2];exact Ah) (by rw[V2];lia) (λi x z Hx R W' hx hz sx hR=>?_) (λnl H4 CF s4 D0=>?_)⟩
     .obtain⟨ka,GP,zQ⟩:=u! b3 hz;rw[V7,GP]at hx;cases hx;exact⟨_,D?,ka,_,0,_,D?,D?,i! (sx _ _ (BF _ _ zQ)),at0,hR Hx (λ_ _ e=>e)⟩
     dsimp only[au];have BA:=BF.trans s4;have AN:=jH hC.gi ha;have D6:H4 nl=A? (.lst ((ins.map (·.1)).map B!)):=by rw[WR];exact D0
     refine⟨_,D?,.inl ⟨D?,_,l! D6⟩,_,D?,ta,_,0,.str m,D?,D?,i! (BA _ _ ea),at0,nl,ins.map (·.1),m,a,D?,D?,l! D6,by rw[V7,ha];rfl,λi hi e=>?_,by rw[V2];lia,?_⟩
     .rw[V7]at e;obtain⟨k2,zx,e⟩:=WA.mp e;have:=hC.gi.nd _ _ _ _ zx ha e;lia
     dsimp only[au];refine⟨_,D?,ba,_,3,.ref ra,D?,D?,i! (BA _ _ b1),at3,ra,D?,⟨_,i! (BA _ _ b4)⟩,gP (F:=λH o a=>At H o a) (xs:=zH.map k!) (rows.map λrow=>(row.getD a bh).fill (pickK (ks.map (aK ins rows)))) (λH1 H2 z p kt h=>h.mono kt) (by rw[V2,V2];lia) (by rw[V2];lia) (λi Hx sx hi=>⟨_,_,i! (sx _ _ (BA _ _ b4)),V4 hi⟩) (λHx sx=>⟨_,i! (sx _ _ (BA _ _ b4)),Wc _⟩) (λi Hx x Hy sx hi hy=>⟨hy.1,hy.2 _ (i! (sx _ _ (BA _ _ b4)))⟩) (λi x z Hx R W' hx Af sx hR=>?_) (λD H5 as hD s5 eD B4=>?_)⟩
     .refine hid λZZ kZ=>?_;obtain⟨rj,rfl,HH⟩:=cB hx;obtain⟨row,zU,Ot,GQ,GR⟩:=E! b5 HH;rw[V7,zU]at Af;cases Af;have GS:=V5 zU;have Ay:a<row.length:=by rw[hC.row row GS];exact(glE ha)
      have GH:row[a]?=A? (row.getD a bh):=by
       rw[Wu,V4 Ay];rfl
      obtain⟨pa,B5,Ej⟩:=GR.get' GH;refine kZ ?_;have AB:=BA.trans sx;have DZ:=hC.tl row GS _ (V5 GH);refine⟨_,D?,_,D?,rj,_,(a:Nat),.ref pa,D?,D?,i! (AB _ _ GQ),br (gmE B5),_,D?,pa,kl,C6,_,_,D?,Ej.mono (n! AB),(s4.trans sx) _ _ E7,t! (λ_ _ h=>h.same (s4.trans sx)) BE,hC.inK ha hK GS,DZ.1,by have:=(row.getD a bh).size_eq;lia,λr H6 s6 UJ=>hR H6 r s6 UJ⟩
     refine q D H5 (BA.trans s5) (BA.free hD) ?_;rw[cm,AN];exact⟨as,eD,nD B4⟩
inductive f6(vs:List V)(H:Hp)(Q:VK)(_E:XK):Prop
 |mk (ba ta:V6) (ins:List (WE×Int)) (head:Th) (rows:List (List Th)) (t:Th):vs=[.ref ba,.ref ta]->WBk H ins head rows ba->At H t ta->BkC ins rows->t.Fit ins->t.tall<=40->head.tall<=3->head.size<=100->(∀s k:Int,r! s k∈head.walk->k=0/\∃s':Nat,s=(s':Int)/\s'<rows.length)->(∀(r:V6)(H':Hp),j! H H'->At H' (ff ins rows head t) r->Q (.ref r) H')->f6  vs H Q _E
theorem kf:bp P w K mg base CX0 46 T.g_39.f T.g_39.d ["book","tree"] f6:=by
 refine T.g_39.F.okA j6 λzh A outer s H vs Q E hr h=>?_;obtain⟨ba,ta,ins,head,rows,t,rfl,hB,hA,hC,hF,zq,Ou,UK,Ov,q⟩:=h;refine⟨_,(ak (aE (pcF T.g_37 (gv T 3) hr (aa (aw ay (pv 0) ae (λ_ _=>rfl)) (aa (bV (aa (pcF T.g_38 (il T 40) hr (aa (pv 0) (aa (pv 1) af))) af)) af))))),?_⟩
 try dsimp only[zB,ze]
 refine hid λZZ kZ=>?_;obtain⟨ia,CU,ra,v2,zy,zH,b1,b2,b3,b4,b5,b6⟩:=hB.ex;refine kZ ?_;refine⟨_,D?,ba,_,2,.ref CU,D?,D?,i! b1,at2,_,D?,_,D?,ba,ta,ins,head,rows,t,D?,hB,hA,hC,hF,zq,λla H1 s1 EG h1=>⟨lnE rfl,λkl zZ=>?_⟩⟩;refine dB zZ λH2 s2 e2=>?_;have Ab:=s1.trans s2;refine⟨CU,kl,[la],head,[aK ins rows t],D?,b6.mono (n! Ab),e2,.cons (h1.same s2) .nil,λs k hm=>?_,Ou,by have:=head.size_eq;lia,λr H3 s3 h3=>q r H3 (Ab.trans s3) h3⟩;obtain⟨rfl,s',rfl,Bl⟩:=Ov s k hm;have hl:s'<(aK ins rows t).length:=by rw[dh hF];exact Bl
 exact⟨0,s',_,_,D?,D?,D?,V4 hl⟩
inductive eG(n:Nat)(vs:List V)(H:Hp)(Q:VK)(_E:XK):Prop
 |mk (pa kl:V6) (C6:List V6) (p:Th) (Az:List (List Th)):vs=[.ref pa,.ref kl]->At H p pa->H kl=A? (.lst (C6.map k!))->WL (LsN H) Az C6->InK Az p->p.tall<=n->aq p.kids<=1000->(∀H':Hp,j! H H'->Q (.int (((p.fill (pickK Az)).size:Nat):Int)) H')->eG n vs H Q _E
theorem gF:∀n:Nat,bp P w K mg base CX0 (n+1) T.g_43.f T.g_43.d ["pattern","kids"] (eG n)
 |0=>⟨λ_ _ _ _ h=>by obtain⟨_,_,_,p,_,_,_,_,_,_,h1,_⟩:=h;have:=p.tall_eq;lia,λ_ _ _ _ _ _ _ _ _ _ _ _ _ h=>by obtain⟨_,_,_,p,_,_,_,_,_,_,h1,_⟩:=h;have:=p.tall_eq;lia⟩
 | n+1=>by
   have ih:=gF n;refine T.g_43.F.okA oq λzh A outer s H vs Q E hr h=>?_;obtain⟨pa,kl,C6,p,Az,rfl,hA,E7,zV,z9,zq,hsz,q⟩:=h
   refine⟨_,(ad (bL (aH cN (aw ay (pv 0) ae (λ_ _=>rfl)) gp (aN _)) (ak (aE (aw aS (aw aS (pv 1) (aw ay (pv 0) ae (λ_ _=>rfl)) (λ_ _=>rfl)) (aw ay (pv 0) ae (λ_ _=>rfl)) (λ_ _=>rfl)))) aY)
    (ak (aE (ax bF ae (aB (gz rfl) rfl T.n_8 Ze (aa (be (N:=["part","kids"]) (js:=[B?,A? 1]) (g:=(au 0)) (tt:=aQ) (te:=(ig (eG _) [] E0 (cD (bu 0) (cD (bu 1) iT)))) rfl (bK rfl (by decide +kernel) (by decide +kernel) rfl rfl rfl) (cf (bd cQ (pv 0) (bv ae) bH)) (λ_ _ _ _ _ _=>(pgN 0 vY)) (aD rfl) (λ_ _ _ _ _ _=>aU) (λ_ _ _ _ _ _=>(cX (ih) (hr.mono (Wc _)) rfl T.g_43.m T.g_43.F.kp T.g_43.b .nil cW (aa (pv 0) (aa (pv 1) af))))) af)))))),?_⟩
   try dsimp only[zB,ze]
   cases p with
   | call s0 k0 =>
     refine hid λZZ kZ=>?_;obtain⟨k',s',ts,t,rfl,rfl,hk,hs⟩:=z9 s0 k0 (by rw[D!];exact Wj ..);obtain⟨la,EG,HI⟩:=u! zV hk;refine kZ ?_;rw[At]at hA;refine⟨_,D?,pa,_,0,.str (Wb "?"),D?,D?,i! hA,at0,D?,_,D?,?_⟩;rw[d! (show B! (Wb "?")=B! (Wb "?")from rfl)];refine de ⟨_,rfl,_,rfl,pa,_,2,_,rfl,rfl,i! hA,at2,kl,_,(k':Int),.ref la,rfl,rfl,l! E7,br (gmE EG),_,rfl,pa,_,1,_,rfl,rfl,i! hA,at1,la,_,(s':Int),.int ((t.size:Nat):Int),rfl,rfl,l! HI,br (by rw[V7,V7,hs];rfl),?_⟩
     have hf:(r! (s':Int) (k':Int)).fill (pickK Az)=t:=by
      rw[C!];unfold pickK;rw[Wl,Wl,Wu,Wu,hk];show(ts[s']?).getD bh=t;rw[hs];rfl
     have:=q H (λ_ _ e=>e);rw[hf]at this;exact this
   | knot m ts =>
     rw[x!]at zq;rw[At]at hA;refine hid λZZ kZ=>?_;obtain⟨Ew,CY,ea,A'⟩:=hA;refine kZ ?_;have hsz:aq ts<=1000:=hsz;have QM:=du ts;have Cp:CY.length=ts.length:=A'.length;refine⟨_,D?,pa,_,0,.str m,D?,D?,i! ea,at0,D?,_,D?,?_⟩;rw[c! (show¬B! m=B! (Wb "?")fromλz=>Ew (V.str.inj z))];refine da ⟨_,rfl,1,rfl,pa,_,rfl,i! ea,?_,λp2 zG=>?_⟩
     .rintro⟨z,_⟩;rw[Wq,show(1:Int)=((1:Nat):Int)by rfl,w!]at z;lia
     dsimp only;rw[cg];refine dB zG λH2 s2 e2=>?_;refine⟨p2,D?,⟨_,i! e2⟩,cb (zs:=ts) (f:=λt=>o! (((t.fill (pickK Az)).size:Nat):Int)) (i! e2) (by rw[V2];lia) (by rw[V2];lia) (λi x z Hx R W' hx Af sx hR=>?_) (λD H3 hD s3 eD=>?_)⟩
     .obtain⟨ua,rfl,C7⟩:=cB hx;obtain⟨u,hu,C8⟩:=A'.get C7;rw[hu]at Af;have Af:u=z:=Wi Af;subst Af;have AR:=V5 hu;have AB:=s2.trans sx;have HM:=cV AR;have QN:=dm AR;have FQ:=u.size_eq;exact⟨_,D?,_,D?,ua,kl,C6,u,Az,D?,C8.mono (n! AB),AB _ _ E7,t! (λ_ _ h=>AB _ _ h) zV,z9.kid AR,by lia,by lia,λH4 s4=>hR H4 s4⟩
     have Ow:H3 D=A? (.lst (((ts.map (·.fill (pickK Az))).map λt=>((t.size:Nat):Int)).map o!)):=by
      rw[WR,WR];exact eD
     refine⟨D,_,D?,l! Ow,_,_,D?,D?,?_⟩;have:=q H3 (s2.trans s3);rw[C!,df]at this
     have e:((p! m (ts.map (·.fill (pickK Az)))).size:Int)=1+(((ts.map (·.fill (pickK Az))).map λt=>((t.size:Nat):Int)).sum):=by
      rw[jz];show((aq _+1:Nat):Int)=_;lia
     rw[e]at this;exact this
inductive dZ(n:Nat)(vs:List V)(H:Hp)(Q:VK)(_E:XK):Prop
 |mk (ba ta:V6) (ins:List (WE×Int)) (head:Th) (rows:List (List Th)) (t:Th):vs=[.ref ba,.ref ta]->WBk H ins head rows ba->At H t ta->BkC ins rows->t.Fit ins->t.tall<=n->(∀(r:V6)(H':Hp),j! H H'->H r=B?->LsN H' (aK ins rows t) r->Q (.ref r) H')->dZ n vs H Q _E
theorem gu:∀n:Nat,bp P w K mg base CX0 (n+5) T.g_42.f T.g_42.d ["book","tree"] (dZ n)
 |0=>⟨λ_ _ _ _ h=>by obtain⟨_,_,_,_,_,t,_,_,_,_,_,h1,_⟩:=h;have:=t.tall_eq;lia,λ_ _ _ _ _ _ _ _ _ _ _ _ _ h=>by obtain⟨_,_,_,_,_,t,_,_,_,_,_,h1,_⟩:=h;have:=t.tall_eq;lia⟩
 | n+1=>by
   have ih:=gu n;refine T.g_42.F.okA cY λzh A outer s H vs Q E hr h=>?_;obtain⟨ba,ta,ins,head,rows,t,rfl,hB,hA,hC,hF,zq,q⟩:=h
   refine⟨_,(ad (am 2 cY.nd (be (N:=["kid","book"]) (js:=[B?,A? 0]) (g:=(au 0)) (tt:=aQ) (te:=(ig (dZ _) [] E0 (cD (bu 1) (cD (bu 0) iT)))) rfl (bK rfl (by decide +kernel) (by decide +kernel) rfl rfl rfl) (cf (bd cQ (pv 1) (bv ae) bH)) (λ_ _ _ _ _ _=>(pgN 0 ww)) (aD rfl) (λ_ _ _ _ _ _=>aU) (λ_ _ _ _ _ _=>(cX (ih) (hr.mono (Wc _)) rfl T.g_42.m T.g_42.F.kp T.g_42.b .nil cW (aa (pv 1) (aa (pv 0) af))))))
    (ad (dN (i:=3) (N:=["pair"]) (js:=[B?]) (g:=(au 0)) (tt:=aQ) (te:=(tOp (eF K) (bu 0) (tC (.int 0)))) cY.nd rfl (Or.inl rfl) rfl (bK rfl (by decide +kernel) (by decide +kernel) rfl rfl rfl) (cf (aw ay (pv 0) ae (λ_ _=>rfl))) (λ_ _ _ _ _ _=>(pgN 0 uF)) (aD rfl) (λ_ _ _ _ _ _=>aU) (λ_ _ _ _ _ _=>(aw ay (pv 0) ae (λ_ _=>rfl))))
    (ad (am 4 cY.nd (cC WG PySem.F.slot_list_index PySem.F.type_list_index mw (pv 3) (aa (aw ay (pv 1) ae (λ_ _=>rfl)) af)))
    (ak (aE (be (N:=["row","kids","at"]) (js:=[B?,A? 2,A? 4]) (g:=(au 0)) (tt:=aQ) (te:=(ig (eG _) [] E0 (cD (tOp (eF K) (bu 0) (bu 2)) (cD (bu 1) iT)))) rfl (bK rfl (by decide +kernel) (by decide +kernel) rfl rfl rfl) (cf (aw ay (pv 0) ae (λ_ _=>rfl))) (λ_ _ _ _ _ _=>(pgN 0 vT)) (aD rfl) (λ_ _ _ _ _ _=>aU) (λ_ _ _ _ _ _=>(pcF T.g_43 (gF T 3) hr (aa (aw ay (pv 0) (pv 2) (λ_ _=>rfl)) (aa (pv 1) af)))))))))),?_⟩
   try dsimp only[zB,ze]
   cases t with
   |call s0 k0=>rw[F!]at hF;exact hF.elim
   | knot m ks =>
     rw[x!]at zq;rw[F!]at hF;refine hid λZZ kZ=>?_;obtain⟨hm,hK⟩:=hF;obtain⟨a,ha⟩:=Wg.mp hm;have Ae:=(hC.gi.num _ hm).2;dsimp only at Ae;rw[At]at hA;obtain⟨Ew,Ao,ea,Av⟩:=hA;have zZ:Ao.length=ks.length:=Av.length;obtain⟨ia,CU,ra,v2,zy,zH,b1,b2,b3,b4,b5,b6⟩:=hB.ex;refine kZ ?_;have Ah:ins.length=zy.length:=Wx b3;have J2:rows.length=zH.length:=Wx b5;have UI:=hC.gi.le;have Nz:=hC.rl;refine⟨_,D?,1,D?,ta,_,D?,i! ea,?_,λp2 zG=>?_⟩
     .rintro⟨z,_⟩;rw[Wq,show(1:Int)=((1:Nat):Int)by rfl,w!]at z;lia
     dsimp only;rw[cg];refine dB zG λH2 s2 e2=>?_;refine⟨p2,D?,⟨_,i! e2⟩,qZ (F:=LsN) (xs:=Ao.map k!) (ks.map (aK ins rows)) (λH1 H2 z p kt o h=>o _ h) (by rw[V2,V2];lia) (by rw[V2];lia) (λi Hx sx hi=>⟨_,_,i! (sx _ _ e2),V4 hi⟩) (λHx sx=>⟨_,i! (sx _ _ e2),Wc _⟩) (λi Hx x Hy sx hi hy=>⟨hy.1,hy.2 _ (i! (sx _ _ e2))⟩) (λi x z Hx R W' hx Af sx hR=>?_) (λkl H3 C6 Oq s3 E7 BE=>?_)⟩
     .obtain⟨ua,rfl,C7⟩:=cB hx;obtain⟨u,hu,C8⟩:=Av.get C7;rw[V7,hu]at Af;cases Af;have AR:=V5 hu;have AB:=s2.trans sx;have HM:=cV AR;exact⟨_,D?,_,D?,ba,ua,ins,head,rows,u,D?,hB.mono (n! AB),C8.mono (n! AB),hC,fC hK u AR,by lia,λr H4 s4 Ko h4=>hR H4 r s4 Ko h4⟩
     dsimp only[au];have BF:=s2.trans s3;refine⟨_,D?,ba,_,0,.ref ia,D?,D?,i! (BF _ _ b1),at0,ia,D?,⟨_,i! (BF _ _ b2)⟩,cb (zs:=ins) (f:=λk=>B! k.1) (i! (BF _ _ b2)) (by rw[V2];exact Ah) (by rw[V2];lia) (λi x z Hx R W' hx hz sx hR=>?_) (λnl H4 CF s4 D0=>?_)⟩
     .obtain⟨ka,GP,zQ⟩:=u! b3 hz;rw[V7,GP]at hx;cases hx;exact⟨_,D?,ka,_,0,_,D?,D?,i! (sx _ _ (BF _ _ zQ)),at0,hR Hx (λ_ _ e=>e)⟩
     dsimp only[au];have BA:=BF.trans s4;have AN:=jH hC.gi ha;have D6:H4 nl=A? (.lst ((ins.map (·.1)).map B!)):=by rw[WR];exact D0
     refine⟨_,D?,.inl ⟨D?,_,l! D6⟩,_,D?,ta,_,0,.str m,D?,D?,i! (BA _ _ ea),at0,nl,ins.map (·.1),m,a,D?,D?,l! D6,by rw[V7,ha];rfl,λi hi e=>?_,by rw[V2];lia,?_⟩
     .rw[V7]at e;obtain⟨k2,zx,e⟩:=WA.mp e;have:=hC.gi.nd _ _ _ _ zx ha e;lia
     dsimp only[au];refine⟨_,D?,ba,_,3,.ref ra,D?,D?,i! (BA _ _ b1),at3,ra,D?,⟨_,i! (BA _ _ b4)⟩,cb (zs:=rows) (f:=λrow=>o! ((((row.getD a bh).fill (pickK (ks.map (aK ins rows)))).size:Nat):Int)) (i! (BA _ _ b4)) (by rw[V2];exact J2) (by rw[V2];lia) (λi x z Hx R W' hx Af sx hR=>?_) (λD H5 hD s5 eD=>?_)⟩
     .refine hid λZZ kZ=>?_;obtain⟨rj,rfl,HH⟩:=cB hx;obtain⟨row,zU,Ot,GQ,GR⟩:=E! b5 HH;refine kZ ?_;rw[zU]at Af;have Af:row=z:=Wi Af;subst Af;have GS:=V5 zU;have Ay:a<row.length:=by rw[hC.row row GS];exact(glE ha)
      have GH:row[a]?=A? (row.getD a bh):=by
       rw[Wu,V4 Ay];rfl
      obtain⟨pa,B5,Ej⟩:=GR.get' GH;have AB:=BA.trans sx;have DZ:=hC.tl row GS _ (V5 GH);refine⟨_,D?,_,D?,rj,_,(a:Nat),.ref pa,D?,D?,i! (AB _ _ GQ),br (gmE B5),_,D?,pa,kl,C6,_,_,D?,Ej.mono (n! AB),(s4.trans sx) _ _ E7,t! (λ_ _ h=>(s4.trans sx) _ _ h) BE,hC.inK ha hK GS,DZ.1,by have:=(row.getD a bh).size_eq;lia,λH6 s6=>hR H6 s6⟩
     refine q D H5 (BA.trans s5) (BA.free hD) ?_;rw[cm,AN];unfold LsN;rw[WR,WR];exact eD
inductive iU(vs:List V)(H:Hp)(Q:VK)(_E:XK):Prop
 |mk (ba ta:V6) (ins:List (WE×Int)) (head:Th) (rows:List (List Th)) (t:Th):vs=[.ref ba,.ref ta]->WBk H ins head rows ba->At H t ta->BkC ins rows->t.Fit ins->t.tall<=40->head.tall<=3->head.size<=100->(∀s k:Int,r! s k∈head.walk->k=0/\∃s':Nat,s=(s':Int)/\s'<rows.length)->(∀H':Hp,j! H H'->Q (.int (((ff ins rows head t).size:Nat):Int)) H')->iU  vs H Q _E
theorem nC:bp P w K mg base CX0 46 T.g_41.f T.g_41.d ["book","tree"] iU:=by
 refine T.g_41.F.okA iZ λzh A outer s H vs Q E hr h=>?_;obtain⟨ba,ta,ins,head,rows,t,rfl,hB,hA,hC,hF,zq,Ou,UK,Ov,q⟩:=h
 refine⟨_,(ad (am 2 iZ.nd (bV (aa (pcF T.g_42 (gu T 40) hr (aa (pv 0) (aa (pv 1) af))) af)))
  (ak (aE (pcF T.g_43 (gF T 3) hr (aa (aw ay (pv 0) ae (λ_ _=>rfl)) (aa (pv 2) af)))))),?_⟩
 try dsimp only[zB,ze]
 refine hid λZZ kZ=>?_;obtain⟨ia,CU,ra,v2,zy,zH,b1,b2,b3,b4,b5,b6⟩:=hB.ex;refine kZ ?_;refine⟨_,D?,_,D?,ba,ta,ins,head,rows,t,D?,hB,hA,hC,hF,zq,λla H1 s1 EG h1=>⟨lnE rfl,λkl zZ=>?_⟩⟩;refine dB zZ λH2 s2 e2=>?_;dsimp only[au];have Ab:=s1.trans s2;refine⟨_,D?,ba,_,2,.ref CU,D?,D?,i! (Ab _ _ b1),at2,_,D?,CU,kl,[la],head,[aK ins rows t],D?,b6.mono (n! Ab),e2,.cons (s2 _ _ h1) .nil,λs k hm=>?_,Ou,by have:=head.size_eq;lia,λH3 s3=>q H3 (Ab.trans s3)⟩;obtain⟨rfl,s',rfl,Bl⟩:=Ov s k hm;have hl:s'<(aK ins rows t).length:=by rw[dh hF];exact Bl
 exact⟨0,s',_,_,D?,D?,D?,V4 hl⟩
def ext(_:Th):List V:=[]
inductive iW(vs:List V)(H:Hp)(Q:VK)(_E:XK):Prop
 |mk (n:WE):vs=[.str n]->n≠q->(∀(a:V6)(H':Hp),j! H H'->EAt ext H' (.knot n []) a->Q (.ref a) H')->iW  vs H Q _E
theorem iO:bp P w K mg base CX0 1 T.g_34.f T.g_34.d ["name"] iW:=by
 refine T.g_34.F.okA nR λzh A outer s H vs Q E hr h=>?_;obtain⟨n,rfl,hn,k⟩:=h;refine⟨_,(ak (aE (aW (aa (aW (aa (pv 0) af)) (aa ae (aa ae af)))))),?_⟩
 try dsimp only[zB,ze]
 refine⟨_,D?,lnE rfl,λp hp=>⟨lnE rfl,λa ha=>?_⟩⟩;have B5:p≠a:=λz=>by rw[<-z,ac]at ha;cases ha
 refine k a _ ((ao hp _).trans (ao ha _)) ⟨p,?_,?_⟩
 .rw[ac];unfold ext;rw[x!,bD,K!,aq];rfl
 .rw[At];exact⟨hn,[],by rw[aj B5,ac];rfl,.nil⟩
inductive jj(K:Wf)(vs:List V)(H:Hp)(Q:VK)(_E:XK):Prop
 |mk (n:WE) (pl:V6) (es:List V6) (ts:List Th):vs=[.str n,.ref pl]->n≠q->n.length<=8->SqL K H pl (es.map k!)->EsAt ext H ts es->ts≠[]->Nms 8 ts->aq ts<=1000->(∀(a:V6)(H':Hp),j! H H'->EAt ext H' (.knot n ts) a->Q (.ref a) H')->jj K vs H Q _E
theorem nN:bp P w K mg base CX0 1 T.g_35.f T.g_35.d ["name","parts"] (jj K):=by
 refine T.g_35.F.okA dQ λzh A outer s H vs Q E hr h=>?_;obtain⟨n,pl,es,ts,rfl,hn,VS,hS,hE,zp,hN,hz,k⟩:=h
 refine⟨_,(ad (am 2 dQ.nd (ax ny (aW (aa (pv 0) af)) (bT bc rfl T.n_9 Xh (aa (be (N:=["part"]) (js:=[B?]) (g:=(au 0)) (tt:=aQ) (te:=(tOp (eF K) (bu 0) (tC (.int 0)))) rfl (bK rfl (by decide +kernel) (by decide +kernel) rfl rfl rfl) (b9 (pv 1)) (λ_ _ _ _ _ _=>(pgN 0 mY)) (aD rfl) (λ_ _ _ _ _ _=>aU) (λ_ _ _ _ _ _=>(aw ay (pv 0) ae (λ_ _=>rfl)))) af))))
  (ad (am 3 dQ.nd (ax bF ae (aB (my rfl) rfl T.n_4 PyProof.Rows.boot_max (aa (be (N:=["part"]) (js:=[B?]) (g:=(au 0)) (tt:=aQ) (te:=(tOp (eF K) (bu 0) (tC (.int 1)))) rfl (bK rfl (by decide +kernel) (by decide +kernel) rfl rfl rfl) (b9 (pv 1)) (λ_ _ _ _ _ _=>(pgN 0 mY)) (aD rfl) (λ_ _ _ _ _ _=>aU) (λ_ _ _ _ _ _=>(aw ay (pv 0) ae (λ_ _=>rfl)))) af))))
  (ad (am 4 dQ.nd (ax bF ae (aB (gz rfl) rfl T.n_8 Ze (aa (be (N:=["part"]) (js:=[B?]) (g:=(au 0)) (tt:=aQ) (te:=(tOp (eF K) (bu 0) (tC (.int 2)))) rfl (bK rfl (by decide +kernel) (by decide +kernel) rfl rfl rfl) (b9 (pv 1)) (λ_ _ _ _ _ _=>(pgN 0 mY)) (aD rfl) (λ_ _ _ _ _ _=>aU) (λ_ _ _ _ _ _=>(aw ay (pv 0) ae (λ_ _=>rfl)))) af))))
  (ak (aE (aW (aa (pv 2) (aa (pv 3) (aa (pv 4) af))))))))),?_⟩
 try dsimp only[zB,ze]
 refine hid λZZ kZ=>?_;obtain⟨bs,hb,AW,UL⟩:=oT hE;refine kZ ?_;have Df:ts.length=es.length:=Wx hE;have zq:ts.length<=1000:=Xa (du ts) hz;have Ad:1<=ts.length:=List.length_pos_iff.mpr zp;have hl:(es.map k!).length<=1000000:=by rw[V2];lia
 have zf:ts.length=(es.map k!).length:=by rw[V2];exact Df
 refine aR (λi' H'=>Ex1 λtr=>An3 (i'=[A? (.str n),A? (.ref pl),A? (.ref tr),B?,B?]) (j! H H') (H' tr=A? (.tup (.str n::bs.map k!)))) (λkk hk=>?_) ?_
 .refine⟨_,D?,lnE rfl,λp1 Ar=>?_⟩;have s1:j! H (upd H p1 (.tup [.str n])):=ao Ar _;refine⟨_,D?,pl,D?,⟨_,s1.seq hS⟩,?_⟩;refine cJ bs (λ_=>Bq) k! (s1.seq hS) (by rw[V2,AW]) hl (λi x z H2 R _ _ _ r=>r) (λi x z H2 R hx hz _ sm r=>?_) (λD hD=>?_)
  .obtain⟨a,r',rfl,ha⟩:=UL i x z hx hz;exact⟨_,D?,a,_,0,_,D?,D?,i! (sm _ _ (s1 _ _ ha)),at0,r⟩
  .rw[filter_tt];refine⟨D,_,D?,.inl ⟨l! ac,λp2 zG=>?_⟩⟩;have s2:j! (upd H p1 (.tup [.str n])) (upd (upd (upd H p1 (.tup [.str n])) D (.lst (bs.map k!))) p2 (.tup (bs.map k!))):=(ao hD _).trans (ao zG _);refine⟨p1,p2,_,_,D?,D?,i! (s2 _ _ ac),i! ac,by simp,cF ?_,λz=>?_,λ_ p3 Be=>?_⟩
   .rw[V2,AW];show 1+es.length<=1000000;lia
   .have:=h! XG z;rw[V2,AW]at this;have this:es.length=0:=this;lia
   .exact hk _ _ ⟨p3,rfl,s1.trans (s2.trans (ao Be _)),ac⟩
 rintro σ H2 ⟨tr,rfl,s2,e2⟩;have Kp:EsAt ext H2 ts es:=hE.mono (n! s2);refine⟨_,D?,pl,D?,⟨_,s2.seq hS⟩,?_⟩;refine cJ ts (λ_=>Bq) (λt=>.int ((t.tall:Nat):Int)) (s2.seq hS) zf hl (λi x z H3 R _ _ _ r=>r) (λi x z H3 R hx hz _ sm r=>?_) (λD hD=>?_)
 .refine hid λZZ kZ=>?_;obtain⟨a,b,rfl,_,ha,_⟩:=Kp.at hx hz;refine kZ ?_;exact⟨_,D?,a,_,1,_,D?,D?,i! (sm _ _ ha),at1,r⟩
 rw[filter_tt];refine⟨D,ts.map (λt=>((t.tall:Nat):Int)),D?,l! (by rw[<-ints_map];exact ac),by simpa using zp,λM m1 m2=>⟨_,_,D?,D?,?_⟩⟩;rw[mv m1 m2];have s3:j! H2 (upd H2 D (.lst (ts.map λt=>o! ((t.tall:Nat):Int)))):=ao hD _;generalize(upd H2 D (.lst (ts.map λt=>o! ((t.tall:Nat):Int))))=H3 at s3;refine⟨_,D?,pl,D?,⟨_,(s2.trans s3).seq hS⟩,?_⟩;have QO:EsAt ext H3 ts es:=Kp.mono (n! s3);refine cJ ts (λ_=>Bq) (λt=>.int ((t.size:Nat):Int)) ((s2.trans s3).seq hS) zf hl (λi x z H4 R _ _ _ r=>r) (λi x z H4 R hx hz _ sm r=>?_) (λD2 Gp=>?_)
 .refine hid λZZ kZ=>?_;obtain⟨a,b,rfl,_,ha,_⟩:=QO.at hx hz;refine kZ ?_;exact⟨_,D?,a,_,2,_,D?,D?,i! (sm _ _ ha),at2,r⟩
 rw[filter_tt];refine⟨D2,ts.map (λt=>((t.size:Nat):Int)),D?,l! (by rw[<-ints_map];exact ac),⟨_,_,D?,D?,?_⟩⟩;rw[jB];have s4:j! H3 (upd H3 D2 (.lst (ts.map λt=>o! ((t.size:Nat):Int)))):=ao Gp _;generalize(upd H3 D2 (.lst (ts.map λt=>o! ((t.size:Nat):Int))))=H4 at s4;have Dn:j! H H4:=s2.trans (s3.trans s4);have GU:EsAt ext H4 ts es:=QO.mono (n! s4);refine⟨_,D?,_,D?,_,D?,lnE rfl,λa ha=>?_⟩;have s5:j! H4 (upd H4 a (.tup [.ref tr,.int (1+(bD ts:Nat)),.int (1+(aq ts:Nat))])):=ao ha _;refine k a _ (Dn.trans s5) ⟨tr,?_,?_⟩
 .rw[ac];have a1:(((p! n ts).tall:Nat):Int)=1+(bD ts:Nat):=by rw[x!];lia
  have a2:(((p! n ts).size:Nat):Int)=1+(aq ts:Nat):=by rw[K!];lia
  unfold ext;rw[a1,a2]
 .rw[At];exact⟨hn,bs,s5 _ _ (s4 _ _ (s3 _ _ e2)),hb.mono (n! (Dn.trans s5))⟩
inductive iy(K:Wf)(vs:List V)(H:Hp)(Q:VK)(_E:XK):Prop
 |mk (a:V6) (ns:List Int) (kr:V6) (Ao:List V6) (ks:List (WE×Int)) (top most:Int):vs=[.ref a,.ref kr,.int top,.int most]->SqL K H a (ns.map o!)->ns.length<=63->SqT K H kr (Ao.map k!)->KsAt H ks Ao->ie ks->1<=top->1<=most->most<=1000->(∀(r:V6)(es:List V6)(ts:List Th)(H':Hp),j! H H'->H' r=A? (.lst (es.map k!))->EsAt ext H' ts es->(∀t∈ts,GT ks top most t)->1<=ts.length->ts.length<=64->Q (.ref r) H')->iy K vs H Q _E
def wI(a kr lv:V6)(top most:Int)(ks:List (WE×Int))(H1:Hp)(i:Nat)(i':St)(H':Hp):Prop:=∃(md:V6)(es:List V6)(ts:List Th)(c1 c2 c3 c4 c5:Option V),i'=[A? (.ref a),A? (.ref kr),A? (.int top),A? (.int most),A? (.ref lv),A? (.ref md),c1,c2,c3,c4,c5]/\j! H1 H'/\H1 md=B?/\H' md=A? (.lst (es.map k!))/\EsAt ext H' ts es/\(∀t∈ts,GT ks top most t)/\1<=ts.length/\ts.length<=i+1
theorem jN{kr lv md:V6}{top most:Int}{ks:List (WE×Int)}{es:List V6}{ts:List Th}{e:V6}{t:Th}{c1 c2 c3 c4 c5:Option V}(s:j! H1 H7)(FG:H1 md=B?)(em:H7 md=A? (.lst (es.map k!)))(hE:EsAt ext H7 ts es)(he:EAt ext H7 t e)(hG:∀t∈ts,GT ks top most t)(hg:GT ks top most t)(hle:ts.length<=i+1) :
 wI a kr lv top most ks H1 (i+1) [A? (.ref a),A? (.ref kr),A? (.int top),A? (.int most),A? (.ref lv),A? (.ref md),c1,c2,c3,c4,c5] (upd H7 md (.lst (es.map k!++[.ref e]))):=by
 refine⟨md,es++[e],ts++[t],c1,c2,c3,c4,c5,D?,aM s FG,FG,?_,?_,λu hu=>?_,?_,?_⟩
 .rw[ac,WB];rfl
 .exact v! (EsAt.mono (cL em) hE) (.cons (EAt.mono (cL em) he) .nil)
 .rcases Wm.mp hu with h|h
  .exact hG u h
  .rw[We]at h;subst h;exact hg
 .rw[Wk];exact Nat.le_add_left 1 _
 .rw[Wk];show ts.length+1<=i+1+1;lia
theorem ir:bp P w K mg base CX0 2 T.g_36.f T.g_36.d ["script","kinds","top","most"] (iy K):=by
 refine T.g_36.F.okA bI λzh A outer s H vs Q E hr h=>?_;obtain⟨a,ns,kr,Ao,ks,top,most,rfl,hS,AV,hK,zV,g,Kq,D8,Ox,k⟩:=h
 refine⟨_,(ad (dN (i:=4) (N:=["pair"]) (js:=[B?]) (g:=(au 0)) (tt:=(mK (tOp (rEq) (tOp (eF K) (bu 0) (tC (.int 1))) (tC (.int 0))))) (te:=(tOp (eF K) (bu 0) (tC (.int 0)))) bI.nd rfl (Or.inl rfl) rfl (bK rfl (by decide +kernel) (by decide +kernel) rfl rfl rfl) (cf (pv 1)) (λ_ _ _ _ _ _=>(pgN 0 uF)) (aD rfl) (λ_ _ _ _ _ _=>i8 (aH cN (aw ay (pv 0) ae (λ_ _=>rfl)) ae (aN _))) (λ_ _ _ _ _ _=>(aw ay (pv 0) ae (λ_ _=>rfl))))
  (ad (am 5 bI.nd (bV (aa (pcF T.g_34 (iO T) hr (aa (aw aS (pv 4) ae (λ_ _=>rfl)) af)) af)))
  (ad (bA WX rfl (bU rfl T.n_6 (aa (aB aA rfl T.n_2 WW (aa (pv 0) af)) af)) (pgN 6 bI.nd) (ad (am 7 bI.nd (ax bq (aw aS (pv 0) (pv 6) (λ_ _=>rfl)) (ax qb ae ae)))
  (ad (am 8 bI.nd (aw ay (pv 1) (ax bq (ax bF (pv 7) (pv 6)) (aB aA rfl T.n_2 WW (aa (pv 1) af))) (λ_ _=>rfl)))
  (ad (am 9 bI.nd (bV af))
  (ad (bL (tU gb wt ae (aw ay (pv 8) ae (λ_ _=>rfl)) (aB aA rfl T.n_2 WW (aa (pv 5) af))) (ak (am 9 bI.nd (bd n5 (pv 5) (bv (ax iD (aB aA rfl T.n_2 WW (aa (pv 5) af)) (aw ay (pv 8) ae (λ_ _=>rfl)))) bH))) aY)
  (ak (bL (PW.pt (gC (aH uL (aB aA rfl T.n_2 WW (aa (pv 9) af)) ae (aN _)) (gC (aH gb (aB (my rfl) rfl T.n_4 PyProof.Rows.boot_max (aa (be (N:=["part"]) (js:=[B?]) (g:=(au 0)) (tt:=aQ) (te:=(tOp (eF K) (bu 0) (tC (.int 1)))) rfl (bK rfl (by decide +kernel) (by decide +kernel) rfl rfl rfl) (b9 (pv 9)) (λ_ _ _ _ _ _=>(pgN 0 mY)) (aD rfl) (λ_ _ _ _ _ _=>aU) (λ_ _ _ _ _ _=>(aw ay (pv 0) ae (λ_ _=>rfl)))) af)) (pv 2) (aN _)) (fJ (aH gb (aB (gz rfl) rfl T.n_8 Ze (aa (be (N:=["part"]) (js:=[B?]) (g:=(au 0)) (tt:=aQ) (te:=(tOp (eF K) (bu 0) (tC (.int 2)))) rfl (bK rfl (by decide +kernel) (by decide +kernel) rfl rfl rfl) (b9 (pv 9)) (λ_ _ _ _ _ _=>(pgN 0 mY)) (aD rfl) (λ_ _ _ _ _ _=>aU) (λ_ _ _ _ _ _=>(aw ay (pv 0) ae (λ_ _=>rfl)))) af)) (pv 3) (aN _)))))) (ad (bA WX rfl (b9 (pv 9)) (pgN 10 bI.nd) (ak (aX (ku WG Zd Zc kD (pv 5)))))
  (ak (aX (cC WG WV WU bi (pv 5) (aa (pcF T.g_35 (nN T) hr (aa (aw ay (pv 8) ae (λ_ _=>rfl)) (aa (pv 9) af))) af))))) (ak (bL (PW.pt (gC (aH cN (ax bq (ax bN (pv 7) ae) ae) ae (aN _)) (fJ (aH gb (ax fM ae (aB (gz rfl) rfl T.n_8 Ze (aa (be (N:=["part"]) (js:=[B?]) (g:=(au 0)) (tt:=aQ) (te:=(tOp (eF K) (bu 0) (tC (.int 2)))) rfl (bK rfl (by decide +kernel) (by decide +kernel) rfl rfl rfl) (b9 (pv 5)) (λ_ _ _ _ _ _=>(pgN 0 mY)) (aD rfl) (λ_ _ _ _ _ _=>aU) (λ_ _ _ _ _ _=>(aw ay (pv 0) ae (λ_ _=>rfl)))) af))) (pv 3) (aN _))))) (ak (aX (cC WG WV WU bi (pv 5) (aa (aw aS (pv 5) (ax iD (aB aA rfl T.n_2 WW (aa (pv 5) af)) ae) (λ_ _=>rfl)) af)))) (ak (aX (cC WG WV WU bi (pv 5) (aa (pcF T.g_34 (iO T) hr (aa (aw aS (pv 4) (ax bq (ax bN (pv 7) ae) (aB aA rfl T.n_2 WW (aa (pv 4) af))) (λ_ _=>rfl)) af)) af)))))))))))))
  (ak (aE (pv 5)))))),?_⟩
 try dsimp only[zB,ze]
 have zZ:ks.length=Ao.length:=Wx zV;have AZ:=g.ne;have Oe:=g.le;refine aR (λi' H'=>Ex1 λlv=>An3 (i'=[A? (.ref a),A? (.ref kr),A? (.int top),A? (.int most),A? (.ref lv),B?,B?,B?,B?,B?,B?]) (j! H H') (H' lv=A? (.lst ((cO ks).map λk=>B! k.1)))) (λkk hk=>?_) ?_
 .refine⟨_,D?,kr,D?,⟨_,hK⟩,?_⟩;refine eR ks (λk=>decide (o! k.2=o! 0)) (λk=>.str k.1) hK (by rw[V2];exact zZ) (by rw[V2];lia) (λi x z H2 R hx hz sm r=>?_) (λi x z H2 R hx hz _ sm r=>?_) (λD hD=>?_)
  .obtain⟨ka,e1,e2⟩:=u! zV hz;rw[V7,e1]at hx;cases hx;exact⟨_,D?,ka,_,1,_,D?,D?,i! (sm _ _ e2),at1,D?,_,D?,r⟩
  .obtain⟨ka,e1,e2⟩:=u! zV hz;rw[V7,e1]at hx;cases hx;exact⟨_,D?,ka,_,0,_,D?,D?,i! (sm _ _ e2),at0,r⟩
  .exact hk _ _ ⟨D,rfl,ao hD _,ac⟩
 rintro σ H1 ⟨lv,rfl,s1,QP⟩;have Qw:=sR g;refine aR (wI a kr lv top most ks H1 0) (λkk hk=>?_) ?_
 .refine hid λZZ kZ=>?_;obtain⟨k0,Ca,zY,Oy,Ik⟩:=qK g (i:=0) (by decide) (by lia);refine kZ ?_;refine⟨_,D?,lv,_,0,_,D?,D?,l! QP,zY,k0.1,D?,Oy,λe H2 s2 hE=>⟨lnE rfl,λmd Oz=>?_⟩⟩;refine hk _ _ ⟨md,[e],[.knot k0.1 []],B?,B?,B?,B?,B?,rfl,s2.trans (ao Oz _),s2.free Oz,ac,.cons (hE.mono (iA Oz)) .nil,λt ht=>?_,Wc _,Wc _⟩;rw[We]at ht;subst ht;exact rJ Kq D8 Ca
 rintro σ H2 hI;have UM:=hI;refine hid λZZ kZ=>?_;obtain⟨VT,VU,VW,d1,d2,d3,d4,d5,rfl,s2,_⟩:=hI;refine kZ ?_;have CF:((ns.map o!).length:Int)<=63:=by rw[V2];lia
 refine⟨_,D?,a,_,D?,.inl ((s1.trans s2).seq hS),_,D?,by lia,by lia,?_⟩;refine cj (wI a kr lv top most ks H1) UM ?_ ?_
 .rintro i σ H3 hi ⟨md,es,ts,c1,c2,c3,c4,c5,rfl,s3,FG,GV,hE,hG,Ad,hle⟩;have BM:i<ns.length:=by simpa using hi
  have Df:ts.length=es.length:=Wx hE;have IP:=(s1.trans s3).seq hS;have QQ:=(s1.trans s3).seqT hK;have J0:0<=ns.getD (0+(i:Int)).toNat 0%10 ^ Int.toNat 60:=W2 _ (by decide);dsimp only[au];refine aR (λi' H'=>Ex1 λ(cell:Int)=>An3 (0<=cell) (H3=H') (i'=[A? (.ref a),A? (.ref kr),A? (.int top),A? (.int most),A? (.ref lv),A? (.ref md),A? (.int (0+(i:Int))),A? (.int cell),c3,c4,c5])) (λkk hk=>?_) ?_
  .exact⟨_,D?,_,D?,a,_,_,_,D?,D?,IP,int_at (by lia) (by lia),_,_,D?,D?,⟨by decide,by decide,by decide⟩,_,_,D?,D?,(by show(0:Int)<10 ^ 60;decide),hk _ _ ⟨_,J0,D?,D?⟩⟩
  rintro σ VX ⟨cell,UN,rfl,rfl⟩;have hm:0<((Ao.map k!).length:Int):=by rw[V2];lia
  have Nr:=W2 (cell+(0+(i:Int))) (Int.ne_of_gt hm);have VY:=WZ (cell+(0+(i:Int))) hm
  have QC:((cell+(0+(i:Int)))%((Ao.map k!).length:Int)).toNat<ks.length:=by
   have Ak:(Ao.map k!).length=ks.length:=by rw[V2];exact zZ.symm
   lia
  refine hid λZZ kZ=>?_;obtain⟨kd,Ai⟩:∃kd,ks[((cell+(0+(i:Int)))%((Ao.map k!).length:Int)).toNat]?=A? kd:=⟨_,V4 QC⟩;obtain⟨pa,B5,Av⟩:=u! zV Ai;refine kZ ?_;have AX:kd∈ks:=V5 Ai;have Ln:=g.num kd AX;have Kr:=g.low kd AX;have GW:H3 pa=A? (.tup [.str kd.1,.int kd.2]):=s3 _ _ (s1 _ _ Av);refine⟨_,D?,_,D?,_,D?,_,_,D?,D?,_,D?,kr,_,D?,.inr QQ,_,_,D?,D?,hm,kr,_,_,.ref pa,D?,D?,QQ,at_nonneg Nr (gmE B5),?_⟩;refine⟨lnE rfl,λpt BD=>?_⟩;have s4:j! H3 (upd H3 pt (.lst [])):=ao BD _;dsimp only[au];refine aR (λi' H'=>Ex2 λ(pl:V6)(n:Nat)=>An6 (i'=[A? (.ref a),A? (.ref kr),A? (.int top),A? (.int most),A? (.ref lv),A? (.ref md),A? (.int (0+(i:Int))),A? (.int cell),A? (.ref pa),A? (.ref pl),c5]) (j! H3 H') (H3 pl=B?) (n<=es.length) (H' pl=A? (.lst ((es.drop n).map k!))) ((n<es.length->kd.2=((es.drop n).length:Nat)))) (λkk hk=>?_) ?_
  .refine cE (λb H'=>An2 (H'=upd H3 pt (.lst [])) ((b=Bq->0<kd.2/\kd.2<=(es.length:Int)))) (λk2 zx=>?_) (λH' hb=>?_) (λH' hb=>?_)
   .refine⟨_,D?,pa,_,1,_,D?,D?,i! (s4 _ _ GW),at1,_,_,D?,D?,_,D?,?_⟩;refine fu (λc=>?_) (λc=>?_)
    .refine⟨_,D?,md,_,D?,.inl (l! (s4 _ _ GV)),_,_,D?,D?,_,D?,?_⟩;refine zx _ _ ⟨rfl,λz=>⟨e! c,?_⟩⟩;have:=e! z;rw[V2]at this;exact this
    .exact⟨_,D?,zx _ _ ⟨D?,λz=>by cases z⟩⟩
   .obtain⟨rfl,hb⟩:=hb;obtain⟨b1,b2⟩:=hb rfl;refine⟨_,D?,_,D?,md,_,D?,.inl (l! (s4 _ _ GV)),_,D?,pa,_,1,_,D?,D?,i! (s4 _ _ GW),at1,_,_,D?,D?,_,D?,md,_,D?,l! (s4 _ _ GV),λp hp=>?_⟩
    have OA:d8 (es.map k!) (A? (((es.map k!).length:Int) - kd.2)) B?=(es.drop (es.length - kd.2.toNat)).map k!:=by
     have e:((es.map k!).length:Int) - kd.2=((es.length - kd.2.toNat:Nat):Int):=by rw[V2];lia
     rw[e,rW (by rw[V2];lia),List.map_drop]
    rw[OA];refine hk _ _ ⟨p,es.length - kd.2.toNat,rfl,s4.trans (ao hp _),s4.free hp,by lia,ac,λ_=>?_⟩;rw[Xm];lia
   .obtain⟨rfl,_⟩:=hb;refine hk _ _ ⟨pt,es.length,rfl,s4,BD,Wc _,?_,λz=>g! z (Xy _)⟩;rw[ac,List.drop_length];rfl
  clear s4;rintro σ H4 ⟨pl,n,rfl,s4,UO,hn,FH,OB⟩;have C9:=s4 _ _ GV;have GU:EsAt ext H4 ts es:=hE.mono (n! s4);have FJ:pl≠md:=(av GV UO).symm;have OC:EsAt ext H4 (ts.drop n) (es.drop n):=P2.drop n GU;have UP:EsAt ext H4 (ts.take n) (es.take n):=P2.take n GU;have Dh:((es.drop n).map k!).length=es.length - n:=by rw[V2,Xm]
  have Fo:(ts.drop n).length=((es.drop n).map k!).length:=by rw[Dh,Xm];lia
  refine cE (λb H'=>An2 (j! H4 H') ((b=Bq->n<es.length/\(bD (ts.drop n):Int)<top/\(aq (ts.drop n):Int)<most))) (λk2 zx=>?_) (λH5 hb=>?_) (λH5 hb=>?_)
  .refine⟨_,D?,pl,_,D?,.inl (l! FH),_,_,D?,D?,_,D?,?_⟩;refine fu (λc=>?_) (λc=>zx _ _ ⟨.refl _,λz=>by cases z⟩)
   have Ec:n<es.length:=by
    have:=e! c;rw[Dh]at this;lia
   refine⟨_,D?,pl,D?,⟨_,l! FH⟩,?_⟩;refine cJ (ts.drop n) (λ_=>Bq) (λt=>.int ((t.tall:Nat):Int)) (l! FH) Fo (by lia) (λi x z H5 R _ _ _ r=>r) (λi x z H5 R hx hz _ sm r=>?_) (λD hD=>?_)
   .refine hid λZZ kZ=>?_;obtain⟨e,b,rfl,_,he,_⟩:=OC.at hx hz;refine kZ ?_;exact⟨_,D?,e,_,1,_,D?,D?,i! (sm _ _ he),at1,r⟩
   rw[filter_tt];refine⟨D,(ts.drop n).map (λt=>((t.tall:Nat):Int)),D?,l! (by rw[<-ints_map];exact ac),?_,λM m1 m2=>⟨_,D?,_,_,D?,D?,_,D?,?_⟩⟩
   .intro z;have:=h! XG z;rw[V2,Xm]at this;have this:ts.length - n=0:=this;lia
   rw[mv m1 m2];refine fu (λc2=>?_) (λc2=>zx _ _ ⟨ao hD _,λz=>by cases z⟩);refine gU hD λH5 s5 _=>?_;refine⟨_,D?,pl,D?,⟨_,l! (s5 _ _ FH)⟩,?_⟩;refine cJ (ts.drop n) (λ_=>Bq) (λt=>.int ((t.size:Nat):Int)) (l! (s5 _ _ FH)) Fo (by lia) (λi x z H6 R _ _ _ r=>r) (λi x z H6 R hx hz _ sm r=>?_) (λD2 Gp=>?_)
   .refine hid λZZ kZ=>?_;obtain⟨e,b,rfl,_,he,_⟩:=OC.at hx hz;refine kZ ?_;exact⟨_,D?,e,_,2,_,D?,D?,i! (sm _ _ (s5 _ _ he)),at2,r⟩
   rw[filter_tt];refine⟨D2,(ts.drop n).map (λt=>((t.size:Nat):Int)),D?,l! (by rw[<-ints_map];exact ac),_,D?,_,_,D?,D?,_,D?,zx _ _ ⟨s5.trans (ao Gp _),λz=>⟨Ec,e! c2,?_⟩⟩⟩;have:=e! z;rw[jB]at this;exact this
  .refine hid λZZ kZ=>?_;obtain⟨s5,hb⟩:=hb;obtain⟨Ec,Ap,GC⟩:=hb rfl;refine kZ ?_;refine⟨_,D?,pl,D?,⟨_,l! (s5 _ _ FH)⟩,?_⟩;refine fF (K:=K) (a:=pl) (xs:=(es.drop n).map k!) (λj σ H'=>Ex1 λc=>An3 (σ=[A? (.ref a),A? (.ref kr),A? (.int top),A? (.int most),A? (.ref lv),A? (.ref md),A? (.int (0+(i:Int))),A? (.int cell),A? (.ref pa),A? (.ref pl),c]) ((∀b o,H5 b=A? o->b≠md->H' b=A? o)) (H' md=A? (.lst ((es.take (es.length - j)).map k!)))) ⟨c5,rfl,λ_ _ h _=>h,?_⟩ (λi σ H' _⟨_,_,kp,_⟩=>l! (kp _ _ (s5 _ _ FH) FJ)) ?_ ?_
   .rw[Nat.sub_zero,XU];exact s5 _ _ C9
   .rintro j x σ H6 hx ⟨c,rfl,kp,em⟩
    have hj:j<es.length - n:=by
     have:=(glE hx);rw[Dh]at this;exact this
    have e1:es.length - j=(es.length - (j+1))+1:=by lia
    have zf:es.length - (j+1)<es.length:=by lia
    have e3:(es.take (es.length - j)).map k!=(es.take (es.length - (j+1))).map k!++[k! es[es.length - (j+1)]]:=by
     rw[e1,take_snoc (V4 zf),WB];rfl
    rw[e3]at em;refine⟨_,D?,.inl ⟨D?,_,l! em⟩,md,_,k! es[es.length - (j+1)],D?,D?,em,by simp,?_⟩;refine⟨A? x,D?,λb o e hb=>by rw[aj hb];exact kp b o e hb,?_⟩;rw[ac,List.dropLast_concat]
   .rintro σ H6 ⟨c,rfl,kp,em⟩;rw[Dh,show es.length - (es.length - n)=n by lia]at em;have QR:KT H5 H6:=λb xs e=>kp b _ e (aF e (s5 _ _ C9) (by intro z;cases z));have Ks:KT H4 H6:=(n! s5).trans QR;have UQ:j! H1 H6:=λb o e=>kp b o (s5 _ _ (s4 _ _ (s3 _ _ e))) (av e FG);have OD:H6 pa=A? (.tup [.str kd.1,.int kd.2]):=QR _ _ (s5 _ _ (s4 _ _ GW));have UR:∀t∈ts.drop n,GT ks top most t:=λt ht=>hG t (List.mem_of_mem_drop ht)
    have zp:ts.drop n≠[]:=by
     intro z;have:=h! XG z;rw[Xm]at this;have this:ts.length - n=0:=this;lia
    have hF:Fits ks (ts.drop n):=Fits.of λt ht=>(UR t ht).fit;refine⟨_,D?,.inl ⟨D?,_,l! em⟩,_,D?,pa,_,0,_,D?,D?,i! OD,at0,_,D?,kd.1,pl,es.drop n,ts.drop n,D?,oO Kr.1,Kr.2,l! (kp _ _ (s5 _ _ FH) FJ),OC.mono Ks,zp,Fits.nms g hF,by lia,λe H7 s7 OE=>?_⟩;refine⟨md,_,_,D?,D?,s7 _ _ em,aZ (by rw[V2,W9];lia),?_⟩;refine jN (UQ.trans s7) FG (s7 _ _ em) (UP.mono (Ks.trans (n! s7))) OE (λt ht=>hG t (List.mem_of_mem_take ht)) ⟨?_,?_,?_⟩ (by rw[W9];lia)
    .rw[F!];refine⟨?_,hF⟩
     have e2:(((ts.drop n).length:Nat):Int)=kd.2:=by
      have:=OB Ec;rw[Xm]at this |-;lia
     rw[e2];exact AX
    .rw[x!];lia
    .rw[K!];lia
  .obtain⟨s5,_⟩:=hb;refine cE (λb H'=>j! H5 H') (λk2 zx=>?_) (λH6 s6=>?_) (λH6 s6=>?_)
   .refine⟨_,D?,_,_,D?,D?,⟨by decide,by decide⟩,_,_,D?,D?,(by show(0:Int)<5;decide),D?,_,D?,?_⟩;refine fu (λc=>?_) (λc=>zx _ _ (.refl _));refine⟨_,D?,md,D?,⟨_,l! (s5 _ _ C9)⟩,?_⟩;refine cJ ts (λ_=>Bq) (λt=>.int ((t.size:Nat):Int)) (l! (s5 _ _ C9)) (by rw[V2];exact Df) (by rw[V2];lia) (λi x z H6 R _ _ _ r=>r) (λi x z H6 R hx hz _ sm r=>?_) (λD2 Gp=>?_)
    .refine hid λZZ kZ=>?_;obtain⟨e,b,rfl,_,he,_⟩:=GU.at hx hz;refine kZ ?_;exact⟨_,D?,e,_,2,_,D?,D?,i! (sm _ _ (s5 _ _ he)),at2,r⟩
    rw[filter_tt];exact⟨D2,ts.map (λt=>((t.size:Nat):Int)),D?,l! (by rw[<-ints_map];exact ac),_,_,D?,D?,.inl ⟨by decide,by decide⟩,_,D?,_,_,D?,D?,_,D?,zx _ _ (ao Gp _)⟩
   .have Ba:j! H4 H6:=s5.trans s6;have E8:=Ba _ _ C9;have Fv:es.length - 1<es.length:=by lia
    refine hid λZZ kZ=>?_;obtain⟨tl,zq⟩:∃tl,ts[es.length - 1]?=A? tl:=⟨_,V4 (by lia)⟩;obtain⟨e,he,US⟩:=u! (GU.mono (n! Ba)) zq;refine kZ ?_;refine⟨_,D?,.inl ⟨D?,_,l! E8⟩,_,D?,_,D?,md,_,D?,.inl (l! E8),_,_,D?,D?,md,_,_,.ref e,D?,D?,l! E8,at_nonneg (by rw[V2];lia) ?_,md,_,_,D?,D?,E8,lbE (by lia),?_⟩
    .have e3:((((es.map k!).length:Nat):Int) - 1).toNat=es.length - 1:=by rw[V2];lia
     rw[e3,V7,he];rfl
    .exact jN (s3.trans (s4.trans Ba)) FG E8 (GU.mono (n! Ba)) US hG (hG tl (V5 zq)) hle
   .have Ba:j! H4 H6:=s5.trans s6;have E8:=Ba _ _ C9;have Kt:=Ba _ _ (s4 _ _ (s3 _ _ QP));have J8:0<(((cO ks).map λk=>B! k.1).length:Int):=by rw[V2];lia
    have UT:=W2 (cell / 35) (Int.ne_of_gt J8);have QS:=WZ (cell / 35) J8;refine hid λZZ kZ=>?_;obtain⟨k0,Ca,zY,Oy,Ik⟩:=qK g UT (by rw[V2]at QS |-;exact QS);refine kZ ?_;refine⟨_,D?,.inl ⟨D?,_,l! E8⟩,_,D?,_,D?,_,_,D?,D?,⟨by decide,by decide⟩,_,D?,lv,_,D?,.inl (l! Kt),_,_,D?,D?,J8,lv,_,_,_,D?,D?,l! Kt,zY,k0.1,D?,Oy,λe H7 s7 OE=>?_⟩;refine⟨md,_,_,D?,D?,s7 _ _ E8,lbE (by lia),?_⟩;exact jN (s3.trans (s4.trans (Ba.trans s7))) FG (s7 _ _ E8) (GU.mono (n! (Ba.trans s7))) OE hG (rJ Kq D8 Ca) hle
 .rintro σ H3 ⟨md,es,ts,c1,c2,c3,c4,c5,rfl,s3,FG,GV,hE,hG,Ad,hle⟩;refine⟨_,D?,k md es ts H3 (s1.trans s3) GV hE hG Ad ?_⟩;have e:(((ns.map o!).length:Nat):Int).toNat=ns.length:=by rw[V2];lia
  rw[e]at hle;lia
def arO(outs:List (WE×Int))(n:WE):Nat:=(List.getD (ZQ (λk:WE×Int=>k.2) outs) (List.idxOf n (ZQ (λk:WE×Int=>k.1) outs)) 0).toNat
theorem xa(g:GoodN outs){n:WE}{c:Nat}(h:(n,((c:Nat):Int))∈outs):arO outs n=c:=by
 obtain⟨j,hj⟩:=Wg.mp h;unfold arO;rw[jH g hj,Wu,V7,hj];exact Wl c
theorem kI{ks:List (WE×Int)}{S C:Int}:∀{ts:List Th},FitSs ks S C ts->∀t∈ts,t.FitS ks S C
 | [],_,t,h=>by cases h
 | u::ts,hf,t,h=>by
   rw[FitSs]at hf;rcases Wr.mp h with rfl|h
   .exact hf.1
   .exact kI hf.2 t h
theorem o8{S C:Int}(g:GoodN outs):∀(n:Nat)(t:Th),t.size<=n->t.FitS outs S C->Ars (arO outs) t/\∀s k:Int,r! s k∈t.walk->0<=s/\s<S/\0<=k/\k<C:=by
 intro n;induction n with
 |zero=>intro t h;have:=I! t;lia
 | succ n ih =>
   intro t hz hf;cases t with
   | call s0 k0 =>
     rw[H!]at hf;refine⟨uo,λs k h=>?_⟩;rw[D!,We]at h;injection h with h1 h2;rw[h1,h2];exact hf
   | knot nm ks =>
     rw[H!]at hf;have hz:aq ks+1<=n+1:=hz;have hk:∀u∈ks,Ars (arO outs) u/\∀s k:Int,r! s k∈u.walk->0<=s/\s<S/\0<=k/\k<C:=λu hu=>ih u (by have:=dm hu;lia) (kI hf.2 u hu);refine⟨tY (xa g hf.1).symm λu hu=>(hk u hu).1,λs k h=>?_⟩;rw[D!]at h;rcases Wr.mp h with h|h
     .cases h
     .have:∀ts:List Th,(∀u∈ts,u∈ks)->r! s k∈walks ts->0<=s/\s<S/\0<=k/\k<C:=λts=>by
       induction ts with
       |nil=>intro _ h;rw[walks]at h;cases h
       | cons t ts Jg =>
         intro ht h;rw[walks]at h;rcases Wm.mp h with h|h
         .exact(hk t (ht t (Wj ..))).2 s k h
         .exact Jg (λu hu=>ht u (Wo _ hu)) h
      exact this ks (λu hu=>hu) h
theorem jk{S C:Int}{t:Th}(g:GoodN outs)(h:t.FitS outs S C):Ars (arO outs) t:=(o8 g t.size t (Wc _) h).1
theorem fE{S C:Int}{t:Th}(g:GoodN outs)(h:t.FitS outs S C):∀s k:Int,r! s k∈t.walk->0<=s/\s<S/\0<=k/\k<C:=(o8 g t.size t (Wc _) h).2
theorem gg:∀(n:Nat)(t:Th),t.size<=n->t.Fit outs->t.FitS outs 0 0:=by
 intro n;induction n with
 |zero=>intro t h;have:=I! t;lia
 | succ n ih =>
   intro t hz hf;cases t with
   |call s0 k0=>rw[F!]at hf;exact hf.elim
   | knot nm ks =>
     rw[F!]at hf;rw[H!];have hz:aq ks+1<=n+1:=hz;refine⟨hf.1,?_⟩
     have:∀ts:List Th,(∀u∈ts,u∈ks)->FitSs outs 0 0 ts:=λts=>by
      induction ts with
      |nil=>intro _;rw[FitSs];trivial
      | cons t ts Jg =>
        intro ht;have Jc:=ht t (Wj ..);rw[FitSs];exact⟨ih t (by have:=dm Jc;lia) (fC hf.2 t Jc),Jg λu hu=>ht u (Wo _ hu)⟩
     exact this ks λu hu=>hu
theorem Bk48.at'(h:Bk48 ins outs head rows)(hr:row∈rows){a:Nat}{c:Int}(hi:ins[a]?=A? (nm,c)):(row.getD a bh).FitS outs (rows.length:Nat) c/\(row.getD a bh).tall<=3:=by
 obtain⟨h1,h2⟩:=h.row row hr;have hl:=(glE hi)
 have hg:row[a]?=A? (row.getD a bh):=by
  rw[Wu,V4 (by lia)];rfl
 exact h2 a _ _ hg hi
theorem xr{S C:Int}{t:Th}(g:GoodN outs)(h:t.FitS outs S C)(ht:t.tall<=3):t.size<=13:=by
 have h1:=(jE g t h).1;have h2:3 ^ t.tall<=3 ^ 3:=Yb (by decide) ht;lia
theorem Bk48.bkc(h:Bk48 ins outs head rows):BkC ins rows:=by
 refine⟨h.gi.1,by have:=h.few;lia,λrow hr=>(h.row row hr).1,λrow hr p hp=>?_,λa nm c hi row hr s k hm=>?_⟩
 .obtain⟨a,ha⟩:=Wg.mp hp;have hl:=(glE ha);rw[(h.row row hr).1]at hl;obtain⟨h1,h2⟩:=(h.row row hr).2 a p _ ha (V4 hl);have:=xr h.go.1 h1 h2;exact⟨h2,by lia⟩
 .refine hid λZZ kZ=>?_;obtain⟨h1,h2,h3,h4⟩:=fE h.go.1 (h.at' hr hi).1 s k hm;refine kZ ?_;exact⟨⟨k.toNat,by lia,by lia⟩,s.toNat,by lia,by lia⟩
theorem Bk48.made(h:Bk48 ins outs head rows):∀(n:Nat)(t:Th),t.size<=n->t.Fit ins->∀u∈aK ins rows t,u.FitS outs 0 0:=by
 intro n;induction n with
 |zero=>intro t h;have:=I! t;lia
 | succ n ih =>
   intro t hz hf u hu;cases t with
   |call s0 k0=>rw[F!]at hf;exact hf.elim
   | knot nm ks =>
     rw[F!]at hf;obtain⟨hm,hk⟩:=hf;have hz:aq ks+1<=n+1:=hz;obtain⟨a,ha⟩:=Wg.mp hm;rw[cm]at hu;obtain⟨row,hr,rfl⟩:=Wv.mp hu;rw[jH h.gi.1 ha];refine kA _ (λs c s0 s1 c0 c1=>?_) _ (h.at' hr ha).1;obtain⟨c',rfl⟩:=YY c0;obtain⟨s',rfl⟩:=YY s0;have zm:c'<ks.length:=by lia
     have AX:=Xn zm;have QT:=fC hk _ AX;have F4:s'<(aK ins rows ks[c']).length:=by rw[dh QT];lia
     have e:bP ins rows ks (s':Int) (c':Int)=(aK ins rows ks[c'])[s']:=by
      unfold bP;rw[Wl,Wl,Wu (l:=ks.map _),V7,V4 zm];show((aK ins rows ks[c']).getD s' bh)=_;rw[Wu,V4 F4];rfl
     rw[e];exact ih _ (by have:=dm AX;lia) QT _ (Xn F4)
theorem Bk48.hdc(h:Bk48 ins outs head rows):∀s k:Int,r! s k∈head.walk->k=0/\∃s':Nat,s=(s':Int)/\s'<rows.length:=λs k hm=>by
 refine hid λZZ kZ=>?_;obtain⟨h1,h2,h3,h4⟩:=fE h.go.1 h.hd.1 s k hm;refine kZ ?_;exact⟨by lia,s.toNat,by lia,by lia⟩
theorem Bk48.hdz(h:Bk48 ins outs head rows):head.size<=100:=by
 have:=xr h.go.1 h.hd.1 h.hd.2;lia
theorem Bk48.out(h:Bk48 ins outs head rows){t:Th}(hf:t.Fit ins):(ff ins rows head t).FitS outs 0 0:=by
 unfold ff;refine kA _ (λs c s0 s1 c0 c1=>?_) _ h.hd.1;obtain⟨s',rfl⟩:=YY s0;have hc:c=0:=by lia
 subst hc;have F4:s'<(aK ins rows t).length:=by rw[dh hf];lia
 have e:bP ins rows [t] (s':Int) 0=(aK ins rows t)[s']:=by
  unfold bP;rw[Wl];show((aK ins rows t).getD s' bh)=_;rw[Wu,V4 F4];rfl
 rw[e];exact h.made t.size t (Wc _) hf _ (Xn F4)
theorem Bk48.wcd(h:Bk48 ins outs head rows){w:Th}(hw:w.FitS outs 0 0)(hz:w.size<=60):WCd ins rows w (arO outs):=by
 refine⟨h.gi.1,λk hk=>oO (h.gi.1.low k hk).1,by have:=h.few;lia,λrow hr=>(h.row row hr).1,λa nm c hi p hp=>?_,jk h.go.1 hw,λp hp=>?_,by lia,?_⟩
 .obtain⟨row,hr,rfl⟩:=Wv.mp hp;obtain⟨h1,h2⟩:=h.at' hr hi;have hz:=xr h.go.1 h1 h2;refine⟨jk h.go.1 h1,by lia,λs k hm=>?_⟩;refine hid λZZ kZ=>?_;obtain⟨h3,h4,h5,h6⟩:=fE h.go.1 h1 s k hm;refine kZ ?_;exact⟨⟨k.toNat,by lia,by lia⟩,s.toNat,by lia,by lia⟩
 .cases p with
  |knot n ks=>rfl
  |call s k=>have:=fE h.go.1 hw s k hp;lia
 .have:=Nat.mul_le_mul h.few hz;lia
theorem Bk48.hdok(h:Bk48 ins outs head rows):wH rows (arO outs) head:=⟨jk h.go.1 h.hd.1,by have:=h.hdz;lia,h.hdc⟩
theorem Bk48.wbk{ba:V6}(h:Bk H ins outs head rows ba):WBk H ins head rows ba:=by
 obtain⟨ia,oa,ha,ra,zy,zK,zH,b⟩:=h;exact⟨ia,ha,ra,.ref oa,zy,zH,b.bk,b.inE,b.inK,b.rl,b.rw,b.hd⟩
inductive je(K:Wf)(vs:List V)(H:Hp)(Q:VK)(_E:XK):Prop
 |mk (a ba:V6) (ns:List Int) (ins outs:List (WE×Int)) (head:Th) (rows:List (List Th)):vs=[.ref a,.ref ba]->SqL K H a (ns.map o!)->ns.length<=63->Bk H ins outs head rows ba->Bk48 ins outs head rows->(∀(w:Th)(wa:V6)(H':Hp),j! H H'->At H' w wa->w.FitS outs 0 0->w.size<=60->Q (.ref wa) H')->je K vs H Q _E
theorem qO{ts:List Th}{c:Int}(h:1<=ts.length)(el:H l=A? (.lst (as.map k!)))(hp:WL (At H) ts as):∃(t:Th)(a:V6),t∈ts/\At H t a/\atI (as.map k!) (c%(((as.map k!).length:Nat):Int))=A? (.ref a)/\(0:Int)<(((as.map k!).length:Nat):Int):=by
 have hl:ts.length=as.length:=Wx hp;have Ak:(as.map k!).length=ts.length:=by rw[V2,hl]
 rw[Ak];have h0:=W2 c (show((ts.length:Nat):Int)≠0 by lia);have h1:=WZ c (show(0:Int)<((ts.length:Nat):Int)by lia);have zf:(c%((ts.length:Nat):Int)).toNat<ts.length:=by lia
 have e:=V4 zf;obtain⟨a,ha,hA⟩:=u! hp e;exact⟨_,a,Xn zf,hA,at_nonneg h0 (gmE ha),by lia⟩
theorem nM:bp P w K mg base CX0 50 T.g_40.f T.g_40.d ["script","book"] (je K):=by
 refine T.g_40.F.okA bQ λzh A outer s H vs Q E hr h=>?_;obtain⟨a,ba,ns,ins,outs,head,rows,rfl,hS,AV,hB,hK,q⟩:=h
 refine⟨_,(ad (am 2 bQ.nd (aw ay (pv 1) ae (λ_ _=>rfl)))
  (ad (dN (i:=3) (N:=["entry"]) (js:=[B?]) (g:=(au 0)) (tt:=aQ) (te:=(tOp (eF K) (bu 0) (tC (.int 0)))) bQ.nd rfl (Or.inl rfl) rfl (bK rfl (by decide +kernel) (by decide +kernel) rfl rfl rfl) (b9 (pcF T.g_36 (ir T) hr (aa (pv 0) (aa (pv 2) (aa ae (aa ae af)))))) (λ_ _ _ _ _ _=>(pgN 0 wu)) (aD rfl) (λ_ _ _ _ _ _=>aU) (λ_ _ _ _ _ _=>(aw ay (pv 0) ae (λ_ _=>rfl))))
  (ad (am 4 bQ.nd (aw aS (pv 3) (ax bq (pcF T.g_27 (bE T) hr (aa (pv 0) (aa ae af))) (aB aA rfl T.n_2 WW (aa (pv 3) af))) (λ_ _=>rfl)))
  (ad (dN (i:=5) (N:=["entry"]) (js:=[B?]) (g:=(au 0)) (tt:=aQ) (te:=(tOp (eF K) (bu 0) (tC (.int 0)))) bQ.nd rfl (Or.inl rfl) rfl (bK rfl (by decide +kernel) (by decide +kernel) rfl rfl rfl) (b9 (pcF T.g_36 (ir T) hr (aa (bd n5 (pv 0) (bv ae) bH) (aa (aw ay (pv 1) ae (λ_ _=>rfl)) (aa ae (aa ae af)))))) (λ_ _ _ _ _ _=>(pgN 0 wu)) (aD rfl) (λ_ _ _ _ _ _=>aU) (λ_ _ _ _ _ _=>(aw ay (pv 0) ae (λ_ _=>rfl))))
  (ad (am 6 bQ.nd (aw aS (pv 5) (ax bq (pcF T.g_27 (bE T) hr (aa (pv 0) (aa ae af))) (aB aA rfl T.n_2 WW (aa (pv 5) af))) (λ_ _=>rfl)))
  (ad (am 7 bQ.nd ae)
  (ad (bL (aH mE ae (be (N:=["pair"]) (js:=[B?]) (g:=(au 0)) (tt:=aQ) (te:=(tOp (eF K) (bu 0) (tC (.int 1)))) rfl (bK rfl (by decide +kernel) (by decide +kernel) rfl rfl rfl) (cf (aw ay (pv 1) ae (λ_ _=>rfl))) (λ_ _ _ _ _ _=>(pgN 0 uF)) (aD rfl) (λ_ _ _ _ _ _=>aU) (λ_ _ _ _ _ _=>(aw ay (pv 0) ae (λ_ _=>rfl)))) (by with_unfolding_all rfl)) (ak (am 7 bQ.nd ae)) aY)
  (ad (bL (PW.pt (gC (aH uL (ax bq (pcF T.g_27 (bE T) hr (aa (pv 0) (aa ae af))) ae) ae (aN _)) (fJ (aH wt (pcF T.g_41 (nC T) hr (aa (pv 1) (aa (pv 6) af))) (pv 7) (aN _))))) (ak (am 4 bQ.nd (pcF T.g_39 (kf T) hr (aa (pv 1) (aa (pv 6) af))))) aY)
  (ak (aE (pv 4))))))))))),?_⟩
 try dsimp only[zB,ze]
 have hW:=Bk48.wbk hB;refine hid λZZ kZ=>?_;obtain⟨ia,oa,ha,ra,zy,zK,zH,b⟩:=hB;refine kZ ?_;refine⟨_,D?,ba,_,1,.ref oa,D?,D?,i! b.bk,at1,?_⟩;dsimp only[au]
 refine⟨_,D?,_,D?,a,ns,oa,zK,outs,8,14,D?,hS,AV,i! b.outE,b.outK,hK.go.g,by decide,by decide,by decide,λr es ts H1 s1 er hE hG h1 VZ=>?_⟩;have Df:ts.length=es.length:=Wx hE;refine⟨r,D?,⟨_,l! er⟩,gP (F:=λH t p=>At H t p) (xs:=es.map k!) ts (λHa Hb z p kt h=>h.mono kt) (by rw[V2];exact Df) (by rw[V2];lia) (λi Hx sx hi=>⟨_,_,l! (sx _ _ er),V4 hi⟩) (λHx sx=>⟨_,l! (sx _ _ er),Wc _⟩) (λi Hx y Hy sx hi hy=>⟨hy.1,hy.2 _ (l! (sx _ _ er))⟩) (λi y z Hx R W' hy hz sx hR=>?_) (λl H2 as hl s2 el B5=>?_)⟩
 .obtain⟨e,rfl,he⟩:=cB hy;obtain⟨x,ex,hx⟩:=iG hE hz he;exact⟨_,D?,e,_,0,.ref x,D?,D?,i! (sx _ _ ex),at0,hR Hx x (λ_ _ e=>e) (hx.mono (n! sx))⟩
 dsimp only[au];have Ab:=s1.trans s2;refine hid λZZ kZ=>?_;obtain⟨w0,wa,HE,AY,zY,Ad⟩:=qO (c:=cellAt ns 3) h1 el B5;refine kZ ?_;have Fm:=Ab.seq hS;refine⟨_,D?,_,D?,a,ns,3,D?,Fm,by decide,_,D?,l,_,D?,.inl (l! el),_,_,D?,D?,Ad,l,_,_,.ref wa,D?,D?,l! el,zY,?_⟩;dsimp only[au];have gw:=hG w0 HE;have Ku:w0.FitS outs 0 0:=gg w0.size w0 (Wc _) gw.fit;have OF:w0.size<=60:=by have:=gw.size;lia
 refine⟨_,D?,1,D?,a,_,D?,Fm,λp hp=>?_⟩;refine dB hp λH3 s3 e3=>?_;have BF:=Ab.trans s3
 obtain⟨ms,QU⟩:∃ms:List Int,d8 (ns.map o!) (A? 1) B?=ms.map o!:=by
  unfold d8;rw[<-List.map_drop,<-List.map_take];exact⟨_,D?⟩
 have QE:ms.length<=63:=by
  have:=gq (ns.map o!) (A? 1) B?;rw[QU,V2,V2]at this;lia
 rw[QU]at e3;refine⟨_,D?,ba,_,0,.ref ia,D?,D?,i! (BF _ _ b.bk),at0,p,ms,ia,zy,ins,4,7,D?,l! e3,QE,i! (BF _ _ b.inE),b.inK.mono (n! BF),hK.gi.g,by decide,by decide,by decide,λr2 QV QW H4 s4 Hw Kp UU Pq UW=>?_⟩;have OG:QW.length=QV.length:=Wx Kp;refine⟨r2,D?,⟨_,l! Hw⟩,gP (F:=λH t p=>At H t p) (xs:=QV.map k!) QW (λHa Hb z p kt h=>h.mono kt) (by rw[V2];exact OG) (by rw[V2];lia) (λi Hx sx hi=>⟨_,_,l! (sx _ _ Hw),V4 hi⟩) (λHx sx=>⟨_,l! (sx _ _ Hw),Wc _⟩) (λi Hx y Hy sx hi hy=>⟨hy.1,hy.2 _ (l! (sx _ _ Hw))⟩) (λi y z Hx R W' hy hz sx hR=>?_) (λl2 H5 V0 Ak s5 GN OH=>?_)⟩
 .obtain⟨e,rfl,he⟩:=cB hy;obtain⟨x,ex,hx⟩:=iG Kp hz he;exact⟨_,D?,e,_,0,.ref x,D?,D?,i! (sx _ _ ex),at0,hR Hx x (λ_ _ e=>e) (hx.mono (n! sx))⟩
 dsimp only[au];have Ex:=BF.trans (s4.trans s5);have UX:=s3.trans (s4.trans s5);have UY:=Ex.seq hS;refine hid λZZ kZ=>?_;obtain⟨t0,ta,Fx,A',OI,Kv⟩:=qO (c:=cellAt ns 4) Pq GN OH;refine kZ ?_;refine⟨_,D?,_,D?,a,ns,4,D?,UY,by decide,_,D?,l2,_,D?,.inl (l! GN),_,_,D?,D?,Kv,l2,_,_,.ref ta,D?,D?,l! GN,OI,?_⟩;dsimp only[au];have gt:=UU t0 Fx;have Dz:t0.tall<=40:=by have:=gt.tall;lia
 have Ah:ins.length=zy.length:=Wx b.inK;have Uy:=hK.gi.2
 refine aR (λi' H'=>i'=[A? (.ref a),A? (.ref ba),A? (.ref oa),A? (.ref l),A? (.ref wa),A? (.ref l2),A? (.ref ta),A? (.int 60)]/\H5=H') (λkk hk=>hk _ _ ⟨rfl,rfl⟩) ?_;rintro i' H' ⟨rfl,rfl⟩;refine aR (λi' H6=>Ex1 λ(most:Int)=>An3 (i'=[A? (.ref a),A? (.ref ba),A? (.ref oa),A? (.ref l),A? (.ref wa),A? (.ref l2),A? (.ref ta),A? (.int most)]) (j! H5 H6) (most<=60)) (λkk hk=>?_) ?_
 .refine⟨_,D?,ba,_,0,.ref ia,D?,D?,i! (Ex _ _ b.bk),at0,ia,D?,⟨_,i! (Ex _ _ b.inE)⟩,cb (zs:=ins) (f:=λk=>o! k.2) (i! (Ex _ _ b.inE)) (by rw[V2];exact Ah) (by rw[V2];lia) (λi x z Hx R W' hx hz sx hR=>?_) (λl3 Hx Es sx UZ=>?_)⟩
  .obtain⟨ka,Av,zQ⟩:=u! b.inK hz;rw[V7,Av]at hx;cases hx;exact⟨_,D?,ka,_,1,_,D?,D?,i! (sx _ _ (Ex _ _ zQ)),at1,hR Hx (λ_ _ e=>e)⟩
  refine⟨l3,_,D?,.inl (l! UZ),D?,?_,_,D?,?_⟩
  .rw[List.all_map,Zs];intro x _;rfl
  dsimp only;refine fu (λ_=>?_) (λ_=>?_)
  .exact hk _ _ ⟨15,rfl,sx,by decide⟩
  .exact hk _ _ ⟨60,rfl,sx,by decide⟩
 rintro i' H6 ⟨most,rfl,s6,D8⟩;have LP:=Ex.trans s6;have NN:=UX.trans s6;have U0:=LP.seq hS;refine aR (λi' H7=>Ex2 λ(w1:Th)(wb:V6)=>An5 (i'=[A? (.ref a),A? (.ref ba),A? (.ref oa),A? (.ref l),A? (.ref wb),A? (.ref l2),A? (.ref ta),A? (.int most)]) (j! H6 H7) (At H7 w1 wb) (w1.FitS outs 0 0) (w1.size<=60)) (λkk hk=>?_) ?_
 .have old:∀{H7:Hp},j! H6 H7->kk [A? (.ref a),A? (.ref ba),A? (.ref oa),A? (.ref l),A? (.ref wa),A? (.ref l2),A? (.ref ta),A? (.int most)] H7:=λs7=>hk _ _ ⟨w0,wa,rfl,s7,AY.mono (n! (NN.trans s7)),Ku,OF⟩;refine⟨_,D?,a,ns,5,D?,U0,by decide,_,_,D?,D?,(by decide:(0:Int)<4),_,_,D?,D?,_,D?,?_⟩;refine fu (λ_=>?_) (λ_=>da (old (λ_ _ e=>e)));have Kw:=A'.mono (n! s6);refine⟨_,D?,_,D?,ba,ta,ins,head,rows,t0,D?,hW.mono (n! LP),Kw,hK.bkc,gt.fit,Dz,hK.hd.2,hK.hdz,hK.hdc,λH7 s7=>?_⟩;refine⟨_,D?,_,_,D?,D?,_,D?,?_⟩;refine fu (λhle=>?_) (λ_=>old s7);have hle:=e! hle;exact⟨_,D?,_,D?,ba,ta,ins,head,rows,t0,D?,hW.mono (n! (LP.trans s7)),Kw.mono (n! s7),hK.bkc,gt.fit,Dz,hK.hd.2,hK.hdz,hK.hdc,λr3 H8 s8 h8=>hk _ _ ⟨_,r3,D?,s7.trans s8,h8,hK.out gt.fit,by lia⟩⟩
 rintro i' H7 ⟨w1,wb,rfl,s7,U1,OJ,OK⟩;exact⟨_,D?,q w1 wb H7 (LP.trans s7) U1 OJ OK⟩
inductive fc(n:Nat)(vs:List V)(H:Hp)(Q:VK)(_E:XK):Prop
 |mk (ta:V6) (t:Th):vs=[.ref ta]->At H t ta->(∀m ks,p! m ks∈t.walk->ks.length<=1000)->(∀p∈t.walk,p.isCall=C?)->t.tall<=n->(∀H',j! H H'->Q (.int ((t.size:Nat):Int)) H')->fc n vs H Q _E
theorem eV:∀n:Nat,bp P w K mg base CX0 (n+1) T.g_47.f T.g_47.d ["tree"] (fc n)
 |0=>⟨λ_ _ _ _ h=>by obtain⟨_,t,_,_,_,_,h1,_⟩:=h;have:=t.tall_eq;lia,λ_ _ _ _ _ _ _ _ _ _ _ _ _ h=>by obtain⟨_,t,_,_,_,_,h1,_⟩:=h;have:=t.tall_eq;lia⟩
 | n+1=>by
   have ih:=eV n;refine T.g_47.F.okA lX λzh A outer s H vs Q E hr h=>?_;obtain⟨ta,t,rfl,hA,hk,zt,zq,q⟩:=h;refine⟨_,(ak (aE (ax bF ae (aB (gz rfl) rfl T.n_8 Ze (aa (be (N:=["kid"]) (js:=[B?]) (g:=(au 0)) (tt:=aQ) (te:=(ig (fc _) [] E0 (cD (bu 0) iT))) rfl (bK rfl (by decide +kernel) (by decide +kernel) rfl rfl rfl) (cf (bd cQ (pv 0) (bv ae) bH)) (λ_ _ _ _ _ _=>(pgN 0 xn)) (aD rfl) (λ_ _ _ _ _ _=>aU) (λ_ _ _ _ _ _=>(cX (ih) (hr.mono (Wc _)) rfl T.g_47.m T.g_47.F.kp T.g_47.b .nil cW (aa (pv 0) af)))) af))))),?_⟩
   try dsimp only[zB,ze]
   cases t with
   |call s0 k0=>have:=zt _ (by rw[D!];exact Wj ..);cases this
   | knot m ts =>
     rw[x!]at zq;rw[At]at hA;refine hid λZZ kZ=>?_;obtain⟨Ew,CY,ea,A'⟩:=hA;refine kZ ?_;have Cp:CY.length=ts.length:=A'.length;have hl:=hk m ts (by rw[D!];exact Wj ..);refine⟨_,D?,1,D?,ta,_,D?,i! ea,?_,λp2 zG=>?_⟩
     .rintro⟨z,_⟩;rw[Wq,show(1:Int)=((1:Nat):Int)by rfl,w!]at z;lia
     dsimp only;rw[cg];refine dB zG λH2 s2 e2=>?_;refine⟨p2,D?,⟨_,i! e2⟩,cb (zs:=ts) (f:=λt=>o! ((t.size:Nat):Int)) (i! e2) (by rw[V2];lia) (by rw[V2];lia) (λi x z Hx R W' hx Af sx hR=>?_) (λD H3 hD s3 eD=>?_)⟩
     .obtain⟨ua,rfl,C7⟩:=cB hx;obtain⟨u,hu,C8⟩:=A'.get C7;rw[hu]at Af;have Af:u=z:=Wi Af;subst Af;have AR:=V5 hu;have AB:=s2.trans sx;have HM:=cV AR;have Kx:∀x∈u.walk,x∈(p! m ts).walk:=eh AR;exact⟨_,D?,ua,u,D?,C8.mono (n! AB),λm' zg h'=>hk m' zg (Kx _ h'),λp hp=>zt p (Kx p hp),by lia,λH4 s4=>hR H4 s4⟩
     have Ow:H3 D=A? (.lst ((ts.map λt=>((t.size:Nat):Int)).map o!)):=by
      rw[WR];exact eD
     refine⟨D,_,D?,l! Ow,_,_,D?,D?,?_⟩;have:=q H3 (s2.trans s3)
     have e:((p! m ts).size:Int)=1+(ts.map λt=>((t.size:Nat):Int)).sum:=by
      rw[jz];show((aq _+1:Nat):Int)=_;lia
     rw[e]at this;exact this
inductive iu(n:Nat)(vs:List V)(H:Hp)(Q:VK)(_E:XK):Prop
 |mk (ta na:V6) (t:Th) (E0:List (WE×List Nat)) (T0:List Th):vs=[.ref ta,.ref na]->At H t ta->(∀m ks,p! m ks∈t.walk->ks.length<=1000)->(∀p∈t.walk,p.isCall=C?)->t.tall<=n->H na=A? (.dT (kvsOf E0))->Cl E0 T0->T0.length+t.size<=100000->(∀(E1:List (WE×List Nat))(ix:Nat)(H':Hp),SameB na H H'->H' na=A? (.dT (kvsOf E1))->Cl E1 (post t T0)->(post t T0)[ix]?=A? t->Q (.int (ix:Nat)) H')->iu n vs H Q _E
inductive fR(n:Nat)(vs:List V)(H:Hp)(Q:VK)(_E:XK):Prop
 |mk (pa tb na:V6) (p:Th) (es:CLs) (E0:List (WE×List Nat)) (Ls:List Th) (g:Int->Int->Th):vs=[.ref pa,.ref tb,.ref na]->At H p pa->H tb=A? (.dT (dE es))->H na=A? (.dT (kvsOf E0))->Cl E0 Ls->(∀s k:Int,r! s k∈p.walk->dC es (s,k)=A? (ixC Ls (g s k)))->p.tall<=n->aq p.kids<=1000->(∀H':Hp,j! H H'->Q (.int (ixC Ls (p.fill g))) H')->fR n vs H Q _E
theorem iw:∀n:Nat,bp P w K mg base CX0 (n+1) T.g_44.f T.g_44.d ["tree","numbers"] (iu n)
 |0=>⟨λ_ _ _ _ h=>by obtain⟨_,_,t,_,_,_,_,_,_,h1,_⟩:=h;have:=t.tall_eq;lia,λ_ _ _ _ _ _ _ _ _ _ _ _ _ h=>by obtain⟨_,_,t,_,_,_,_,_,_,h1,_⟩:=h;have:=t.tall_eq;lia⟩
 | n+1=>by
   have ih:=iw n;refine T.g_44.F.okA dz λzh A outer s H vs Q E hr h=>?_;obtain⟨ta,na,t,E0,T0,rfl,hA,hk,zt,zq,B7,zm,hsz,q⟩:=h
   refine⟨_,(ad (am 2 dz.nd (bV (aa (aw ay (pv 0) ae (λ_ _=>rfl)) af)))
    (ad (bA WX rfl (cf (bd cQ (pv 0) (bv ae) bH)) (pgN 3 dz.nd) (ak (aX (cC WG WV WU bi (pv 2) (aa (cX (ih) (hr.mono (Wc _)) rfl T.g_44.m T.g_44.F.kp T.g_44.b .nil cW (aa (pv 3) (aa (pv 1) af))) af)))))
    (ad (am 2 dz.nd (bT bc rfl T.n_9 Xh (aa (pv 2) af)))
    (ad (bL (lu (fh (cK hr) (pv 2) (pv 1))) (ak (gR (cK hr) (pv 1) (pv 2) (aB gJ rfl T.n_2 WW (aa (pv 1) af)) rfl)) aY)
    (ak (aE (fH (cK hr) (pv 1) (pv 2) (λ_ _=>rfl)))))))),?_⟩
   try dsimp only[zB,ze]
   cases t with
   |call s0 k0=>have:=zt _ (by rw[D!];exact Wj ..);cases this
   | knot m ts =>
     rw[x!]at zq;rw[At]at hA;refine hid λZZ kZ=>?_;obtain⟨Ew,CY,ea,A'⟩:=hA;refine kZ ?_;have hsz:T0.length+(aq ts+1)<=100000:=hsz;have Cp:CY.length=ts.length:=A'.length;have hl:=hk m ts (by rw[D!];exact Wj ..);have kn:∀{b:V6}{xs:List V},H b=A? (.tup xs)->b≠na:=λe=>aF e B7 (λz=>nomatch z);refine⟨_,D?,ta,_,0,.str m,D?,D?,i! ea,at0,lnE rfl,λen Dj=>?_⟩;refine dB Dj λH1 s1 e1=>?_;dsimp only[au];have zp:en≠na:=λz=>by rw[z,B7]at Dj;cases Dj
     refine⟨_,D?,1,D?,ta,_,D?,i! (s1 _ _ ea),?_,λp2 zG=>?_⟩
     .rintro⟨z,_⟩;rw[Wq,show(1:Int)=((1:Nat):Int)by rfl,w!]at z;lia
     rw[cg];refine dB zG λH2 s2 e2=>?_;have Ab:=s1.trans s2;have QX:=s2 _ _ e1;refine⟨p2,D?,⟨_,i! e2⟩,?_⟩;have OL:p2≠na:=aF e2 (Ab _ _ B7) (λz=>nomatch z);have OM:p2≠en:=aF e2 QX (λz=>nomatch z)
     refine vD (K:=K) (a:=p2) (xs:=CY.map k!) (λi σ H3=>Ex3 λ(c3:Option V)(ids:List Nat)(E3:List (WE×List Nat))=>An6 (σ=[A? (.ref ta),A? (.ref na),A? (.ref en),c3]) ((∀b o,b≠na->b≠en->H2 b=A? o->H3 b=A? o)) (H3 en=A? (.lst (.str m::ids.map nV))) (H3 na=A? (.dT (kvsOf E3))) (Cl E3 (aP (ts.take i) T0)) (WL (λu id=>(aP (ts.take i) T0)[id]?=A? u) (ts.take i) ids))
      ⟨B?,[],E0,rfl,λb o _ _ e=>e,QX,Ab _ _ B7,by rw[Yj,aP];exact zm,.nil⟩ (λi σ H3 _⟨_,_,_,_,f3,_,_,_,_⟩=>i! (f3 _ _ OL OM e2)) ?_ ?_
     .rintro i x σ H3 hx ⟨c3,ids,E3,rfl,f3,e3,ON,CK,Be⟩;obtain⟨ua,rfl,C7⟩:=cB hx;obtain⟨u,hu,C8⟩:=A'.get C7;have AR:=V5 hu;have HM:=cV AR;have Kx:∀x∈u.walk,x∈(p! m ts).walk:=eh AR;have U2:KT H H3:=λb xs e=>f3 b _ (kn e) (av e Dj) (Ab _ _ e);have hlen:=(fT (aq (ts.take i))).2 (ts.take i) T0 (Wc _);have Bf:aq (ts.take i)+u.size<=aq ts:=j3 hu;dsimp only[au];refine⟨_,D?,.inl ⟨D?,_,l! e3⟩,_,D?,_,D?,ua,na,u,E3,_,D?,C8.mono U2,λm' zg h'=>hk m' zg (Kx _ h'),λp hp=>zt p (Kx p hp),by lia,ON,CK,by lia,λE4 ix H4 DU Ea U3 AN=>?_⟩;have U4:=DU _ _ zp e3;refine⟨en,_,_,D?,D?,U4,aZ (by rw[Wq,V2,<-Wx Be,W9];lia),?_⟩
      have CC:aP (ts.take (i+1)) T0=post u (aP (ts.take i) T0):=by
       rw[take_snoc hu,dL,aP,aP]
      obtain⟨M,hM,_⟩:=(g7 u CK.closed CK.nd).1;refine⟨_,ids++[ix],E4,D?,λb o hb1 hb2 e=>?_,?_,?_,by rw[CC];exact U3,?_⟩
      .rw[aj hb2];exact DU _ _ hb1 (f3 _ _ hb1 hb2 e)
      .rw[ac,WB];rfl
      .rw[aj zp.symm];exact Ea
      .rw[CC,take_snoc hu];refine v! (t! (λx id h=>?_) Be) (.cons AN .nil);rw[hM,WS (glE h)];exact h
     .rintro σ H3 ⟨c3,ids,E3,rfl,f3,e3,ON,CK,Be⟩;rw[V2,Cp,XU]at CK Be;have Gj:ts.length=ids.length:=Wx Be;refine⟨_,D?,en,_,D?,.inl ⟨l! e3,λep U5=>?_⟩⟩;refine dB U5 λH4 s4 e4=>?_;dsimp only[au];have Ea:=s4 _ _ ON;have ek:H4 ep=A? (.tup ((dJ (m,ids)).map kV)):=by rw[kz];exact e4
      have hlen:=(fT (aq ts)).2 ts T0 (Wc _);have Le:E3.length<=200000:=by rw[CK.len];lia
      have Bc:∀{H5:Hp},SameB na H4 H5->SameB na H H5:=λs b o hb e=>s b o hb (s4 _ _ (f3 b o hb (av e Dj) (Ab _ _ e)));have U6:=CK.closed
      have V1:∀u∈(p! m ts).kids,u∈aP ts T0:=λu hu=>by
       obtain⟨i,hi⟩:=Wg.mp (show u∈ts from hu);obtain⟨id,_,h⟩:=u! Be hi;exact V5 h
      have BD:=post_eq (p! m ts) T0;cases hv:bz (kvsOf E3) (dJ (m,ids))with
      | some u =>
        obtain⟨i0,rfl,M6⟩:=kR hv;have Lg:=CK.found M6 (iI Be);rw[b! (show p! m ts∈aP (p! m ts).kids T0 from V5 Lg)]at BD;have BD:post (.knot m ts) T0=aP ts T0:=BD;refine⟨_,D?,_,D?,na,_,D?,O! Ea ek,?_⟩;refine⟨_,D?,?_⟩;rw[hv];refine da ⟨_,rfl,_,rfl,na,.int (i0:Nat),rfl,by rw[<-hv];exact O! Ea ek,?_⟩;exact q E3 i0 H4 (Bc SameB.refl) Ea (by rw[BD];exact CK) (by rw[BD];exact Lg)
      | none =>
        obtain⟨ET,CZ⟩:=iC hv
        have U7:p! m ts∉aP ts T0:=λz=>by
         obtain⟨j,hj⟩:=Wg.mp z;have Dg:j<E3.length:=by rw[CK.len];exact(glE hj)
         obtain⟨e,he⟩:∃e,E3[j]?=A? e:=⟨_,V4 Dg⟩;obtain⟨kids,h1,h2⟩:=CK.ent j e he;rw[hj]at h1;injection h1 with h1;injection h1 with h1 h3;refine ET ?_
         have DW:e.2=ids:=by
          refine Yp λs=>?_;rw[<-h3]at h2;cases hs:ts[s]? with
          | none =>
            have l2:=Wx h2;rw[List.getElem?_eq_none_iff]at hs;rw[Xo (by lia),Xo (by lia)]
          | some u =>
            obtain⟨a1,g1,_,g2⟩:=E! h2 hs;obtain⟨a2,g3,g4⟩:=u! Be hs;rw[g1,g3,dq CK.nd g2 g4]
         have:e=(m,ids):=Prod.ext h1.symm DW;rw[<-this];exact V5 he
        rw[a! (show p! m ts∉aP (p! m ts).kids T0 from U7)]at BD;have BD:post (.knot m ts) T0=aP ts T0++[.knot m ts]:=BD;have MB:=CK.snoc ET (iI Be);refine⟨_,D?,_,D?,na,_,D?,O! Ea ek,?_⟩;refine⟨_,D?,?_⟩;rw[hv];refine de ⟨_,rfl,na,_,rfl,Ea,_,rfl,_,rfl,na,_,rfl,DPut.t Ea ek (aZ (by rw[fq];lia)),?_⟩;rw[fq,CZ];have OO:(upd H4 na (.dT (kvsOf (E3++[(m,ids)])))) na=A? (.dT (kvsOf (E3++[(m,ids)]))):=ac;have QY:(upd H4 na (.dT (kvsOf (E3++[(m,ids)])))) ep=A? (.tup ((dJ (m,ids)).map kV)):=(aj (aF ek Ea (λz=>nomatch z))).trans ek;have Hk:SameB na H4 (upd H4 na (.dT (kvsOf (E3++[(m,ids)])))):=z!;generalize(upd H4 na (.dT (kvsOf (E3++[(m,ids)]))))=H5 at OO QY Hk |-
        have U8:bz (kvsOf (E3++[(m,ids)])) (dJ (m,ids))=A? (.int ((E3.length:Nat):Int)):=by
         rw[<-CZ];exact(uH _ _ _ _).trans (b! rfl)
        refine⟨_,D?,_,D?,na,.int ((E3.length:Nat):Int),D?,by rw[<-U8];exact O! OO QY,?_⟩;refine q _ E3.length H5 (Bc Hk) OO (by rw[BD];exact MB) ?_;rw[BD,CK.len,W4 (Wc _),Y3];rfl
theorem i3:∀n:Nat,bp P w K mg base CX0 (n+1) T.g_45.f T.g_45.d ["pattern","table","numbers"] (fR n)
 |0=>⟨λ_ _ _ _ h=>by obtain⟨_,_,_,p,_,_,_,_,_,_,_,_,_,_,h1,_⟩:=h;have:=p.tall_eq;lia,λ_ _ _ _ _ _ _ _ _ _ _ _ _ h=>by obtain⟨_,_,_,p,_,_,_,_,_,_,_,_,_,_,h1,_⟩:=h;have:=p.tall_eq;lia⟩
 | n+1=>by
   have ih:=i3 n;refine T.g_45.F.okA jm λzh A outer s H vs Q E hr h=>?_;obtain⟨pa,tb,na,p,es,En,Ls,g,rfl,hA,HN,B7,zm,hc,zq,hsz,q⟩:=h
   refine⟨_,(ad (bL (aH cN (aw ay (pv 0) ae (λ_ _=>rfl)) gp (aN _)) (ak (aE (fH (cK hr) (pv 1) (aW (aa (aw ay (pv 0) ae (λ_ _=>rfl)) (aa (aw ay (pv 0) ae (λ_ _=>rfl)) af))) (λ_ _=>rfl)))) aY)
    (ad (am 3 jm.nd (ax dO (aW (aa (aw ay (pv 0) ae (λ_ _=>rfl)) af)) (bT bc rfl T.n_9 Xh (aa (be (N:=["part","table","numbers"]) (js:=[B?,A? 1,A? 2]) (g:=(au 0)) (tt:=aQ) (te:=(ig (fR _) [] E0 (cD (bu 0) (cD (bu 1) (cD (bu 2) iT))))) rfl (bK rfl (by decide +kernel) (by decide +kernel) rfl rfl rfl) (cf (bd cQ (pv 0) (bv ae) bH)) (λ_ _ _ _ _ _=>(pgN 0 xO)) (aD rfl) (λ_ _ _ _ _ _=>aU) (λ_ _ _ _ _ _=>(cX (ih) (hr.mono (Wc _)) rfl T.g_45.m T.g_45.F.kp T.g_45.b .nil cW (aa (pv 0) (aa (pv 1) (aa (pv 2) af)))))) af))))
    (ak (aE (oR (cK hr) (pv 2) (pv 3) (oA nh ae) ⟨D?,D?,D?,D?⟩))))),?_⟩
   try dsimp only[zB,ze]
   cases p with
   | call s0 k0 =>
     have hg:=hc s0 k0 (by rw[D!];exact Wj ..);rw[At]at hA;refine⟨_,D?,pa,_,0,.str (Wb "?"),D?,D?,i! hA,at0,D?,_,D?,?_⟩;rw[d! (show B! (Wb "?")=B! (Wb "?")from rfl)];refine de ⟨_,rfl,_,rfl,pa,_,1,_,rfl,rfl,i! hA,at1,_,rfl,pa,_,2,_,rfl,rfl,i! hA,at2,lnE rfl,λkp C2=>?_⟩;refine dB C2 λH1 s1 e1=>?_;have ek:H1 kp=A? (.tup ((ky (s0,k0)).map kV)):=e1;have hv:bz (dE es) (ky (s0,k0))=A? (.int (ixC Ls (g s0 k0))):=by rw[i9,hg];rfl
     refine⟨tb,_,D?,by rw[<-hv];exact O! (s1 _ _ HN) ek,?_⟩;have:=q H1 s1;rw[C!]at this;exact this
   | knot m ts =>
     rw[x!]at zq;rw[At]at hA;refine hid λZZ kZ=>?_;obtain⟨Ew,CY,ea,A'⟩:=hA;refine kZ ?_;have hsz:aq ts<=1000:=hsz;have QM:=du ts;have Cp:CY.length=ts.length:=A'.length;refine⟨_,D?,pa,_,0,.str m,D?,D?,i! ea,at0,D?,_,D?,?_⟩;rw[c! (show¬B! m=B! (Wb "?")fromλz=>Ew (V.str.inj z))];refine da ⟨_,rfl,pa,_,0,.str m,rfl,rfl,i! ea,at0,lnE rfl,λp1 Ar=>?_⟩;refine dB Ar λH1 s1 e1=>?_;refine⟨_,D?,1,D?,pa,_,D?,i! (s1 _ _ ea),?_,λp2 zG=>?_⟩
     .rintro⟨z,_⟩;rw[Wq,show(1:Int)=((1:Nat):Int)by rfl,w!]at z;lia
     dsimp only;rw[cg];refine dB zG λH2 s2 e2=>?_;have Ab:=s1.trans s2;refine⟨p2,D?,⟨_,i! e2⟩,cb (zs:=ts) (f:=λt=>o! (ixC Ls (t.fill g))) (i! e2) (by rw[V2];lia) (by rw[V2];lia) (λi x z Hx R W' hx Af sx hR=>?_) (λD H3 hD s3 eD=>?_)⟩
     .obtain⟨ua,rfl,C7⟩:=cB hx;obtain⟨u,hu,C8⟩:=A'.get C7;rw[hu]at Af;have Af:u=z:=Wi Af;subst Af;have AR:=V5 hu;have AB:=Ab.trans sx;have HM:=cV AR;have QN:=dm AR;have FQ:=u.size_eq;exact⟨_,D?,_,D?,_,D?,ua,tb,na,u,es,En,Ls,g,D?,C8.mono (n! AB),AB _ _ HN,AB _ _ B7,zm,λs k hm=>hc s k (eh (t:=.knot m ts) AR _ hm),by lia,by lia,λH4 s4=>hR H4 s4⟩
     refine⟨D,_,D?,.inl ⟨l! eD,λtp DZ=>?_⟩⟩;refine dB DZ λH4 s4 e4=>?_;refine oy (s4 _ _ (s3 _ _ (s2 _ _ e1))) e4 (by rw[V2];show 1+ts.length<=1000000;lia) λp H5 s5 e5=>?_;dsimp only[au];have Ex:=Ab.trans (s3.trans (s4.trans s5));have hk:=wM zm m (fills g ts)
     have ek:H5 p=A? (.tup ((.inr m::(fills g ts).map λu=>(WQ (ixC Ls u):Key)).map kV)):=by
      rw[df,WH,WR,WR];exact e5
     refine⟨_,D?,na,D?,.inr ⟨_,.inl (Ex _ _ B7)⟩,_,D?,_,D?,_,O! (Ex _ _ B7) ek,?_⟩;have:=q H5 Ex;rw[C!]at this;have e:(-1:Int)=-(1:Int):=rfl;rw[<-e,hk];exact this
def t7(ins:List (WE×Int))(rows:List (List Th))(head w:Th)(H:Hp)(v:V):Prop:=(v=.non/\∀u:Th,u.Fit ins->ff ins rows head u≠w)\/∃(ua:V6)(u:Th),v=.ref ua/\At H u ua/\u.Fit ins/\u.tall<=31/\ff ins rows head u=w/\∀x:Th,x.Fit ins->ff ins rows head x=w->u.size<=x.size
theorem ju{t:Th}(g:GoodN outs)(h:t.FitS outs 0 0):∀m ks,p! m ks∈t.walk->ks.length<=1000:=λm ks hm=>by
 have h1:=jk g h m ks hm
 have h2:arO outs m<=3\/arO outs m=0:=by
  unfold arO;by_cases z:(List.idxOf m (ZQ (λk:WE×Int=>k.1) outs))<outs.length
  .refine .inl ?_;rw[Wu,V7,V4 z];have h9:=(g.num _ (Xn z)).2;show Int.toNat (Prod.snd (outs[List.idxOf m (ZQ (λk:WE×Int=>k.1) outs)]'z))<=3;lia
  .refine .inr ?_;rw[Wu,V7,Xo (by lia)];rfl
 lia
theorem gr{t:Th}(g:GoodN outs)(h:t.FitS outs 0 0):∀p∈t.walk,p.isCall=false:=λp hp=>by
 cases p with
 |knot n ks=>rfl
 |call s k=>have:=fE g h s k hp;lia
inductive i7(tp:V6)(vs:List V)(H:Hp)(Q:VK)(_E:XK):Prop
 |mk (ba wa:V6) (ins:List (WE×Int)) (head:Th) (rows:List (List Th)) (t:Th) (ar:WE->Nat):vs=[.ref ba,.ref wa]->WBk H ins head rows ba->At H t wa->WCd ins rows t ar->TabSt H tp (bW aI) dF->(∀(r:V6)(v:V)(H':Hp),SameT tp H H'->TabSt H' tp (bW aI) dF->H' r=A? (.tup [v,.bl Bq])->Over ins rows (post t [])->Q (.ref r) H')->(∀(r l:V6)(ps:List V6)(F St:List NtE)(H':Hp),SameT tp H H'->TabSt H' tp (bW aI) dF->H' r=A? (.tup [.ref l,.bl C?])->H' l=A? (.lst (ps.map k!))->WL (λ(e:NtE)p=>H' p=A? (.tup [.ref e.na,.ref e.ta])) St ps->(∀e∈St,NtA H' e)->PInv ins rows (post t []) F St (ClAll ins St.length)->(∀e∈F,e∈St)->Q (.ref r) H')->i7 tp vs H Q _E
inductive i6(tp:V6)(vs:List V)(H:Hp)(Q:VK)(_E:XK):Prop
 |mk (ba wa:V6) (ins:List (WE×Int)) (head:Th) (rows:List (List Th)) (t:Th) (ar:WE->Nat):vs=[.ref ba,.ref wa]->WBk H ins head rows ba->At H t wa->WCd ins rows t ar->wH rows ar head->TabSt H tp (bW aI) dF->(∀(r:V6)(v:V)(H':Hp),SameT tp H H'->TabSt H' tp (bW aI) dF->H' r=A? (.tup [v,.bl Bq])->Over ins rows (post t [])->Q (.ref r) H')->(∀(r:V6)(v:V)(H':Hp),SameT tp H H'->TabSt H' tp (bW aI) dF->H' r=A? (.tup [v,.bl C?])->m4 ins rows t->t7 ins rows head t H' v->Q (.ref r) H')->i6 tp vs H Q _E
theorem ng(L:Lam mg base T.g_23.tc T.g_23.tp):bp P w K mg base CX0 12 T.g_46.f T.g_46.d ["book","wish"] (i7 T.g_23.tp):=by
 refine T.g_46.F.okA cZ λzh A outer s H vs Q E hr h=>?_;obtain⟨ba,wa,ins,head,rows,t,ar,rfl,hB,hA,hc,AA,q1,q2⟩:=h
 refine⟨_,(ad (am 2 cZ.nd fP)
  (ad (am 3 cZ.nd re)
  (ad (rA (Ch:=T.e_Many) (tb:=λR=>(lN (pV (gm T.e_Table T.e_Ways T.e_Many T.g_23.tp) [] R (cD (bu 0) (cD (bu 1) iT))) (au 2))) (ts:=(lN (tC (.bl Bq)) (au 3))) (λY R=>(ak (am 2 cZ.nd (oX (iR T L) (hr.mono (by first|decide|lia)) rfl T.g_24.m T.g_24.F.kp T.g_24.b .nil (aa (pv 0) (aa (pv 1) af)))))) (λea oe=>(ak (am 3 cZ.nd re))) rfl rfl rfl T.x_Many)
  (ak (aE (aW (aa (pv 2) (aa (pv 3) af)))))))),?_⟩
 try dsimp only[zB,ze]
 dsimp only[lN,tC,au,vG];refine lq (λzC c H2=>An5 (zC=[A? (.ref ba),A? (.ref wa),A? .non,A? (.bl C?)]) (c=.ref T.e_Many) (SameT T.g_23.tp H H2) (TabSt H2 T.g_23.tp (bW aI) dF) (Over ins rows (post t []))) (λR' hR=>?_) ?_
 .refine⟨_,D?,_,D?,ba,wa,ins,head,rows,t,ar,D?,hB,hA,hc,AA,λH2 s2 t2 ho=>hR _ _ _ ⟨D?,D?,s2,t2,ho⟩,λl ps F St H2 s2 t2 el AO HK hp zc=>?_⟩;refine⟨_,D?,_,D?,lnE rfl,λr Bn=>?_⟩;exact dB Bn λH3 s3 e3=>q2 r l ps F St H3 (s2.trans (s3.t _)) (t2.mono s3) e3 (s3 _ _ el) (t! (λ_ _ h=>s3 _ _ h) AO) (λe he=>(HK e he).mono (n! s3)) hp zc
 .rintro zC c H2 ⟨rfl,rfl,s2,t2,ho⟩;refine⟨_,D?,⟨T.X_Many,T.hit_Many_Many⟩,?_⟩;refine⟨_,D?,_,D?,lnE rfl,λr Bn=>?_⟩;exact dB Bn λH3 s3 e3=>q1 r .non H3 (s2.trans (s3.t _)) (t2.mono s3) e3 ho
theorem nL(L:Lam mg base T.g_23.tc T.g_23.tp):bp P w K mg base CX0 12 T.g_48.f T.g_48.d ["book","wish"] (i6 T.g_23.tp):=by
 refine T.g_48.F.okA cU λzh A outer s H vs Q E hr h=>?_;obtain⟨ba,wa,ins,head,rows,t,ar,rfl,hB,hA,hc,hh,AA,q1,q2⟩:=h
 refine⟨_,(ad (am 2 cU.nd fP)
  (ad (am 3 cU.nd re)
  (ad (rA (Ch:=T.e_Many) (tb:=λR=>(lN (pV (jG T.e_Table T.e_Ways T.e_Many T.g_23.tp) [] R (cD (bu 0) (cD (bu 1) iT))) (au 2))) (ts:=(lN (tC (.bl Bq)) (au 3))) (λY R=>(ak (am 2 cU.nd (oX (qA T L) (hr.mono (by first|decide|lia)) rfl T.g_26.m T.g_26.F.kp T.g_26.b .nil (aa (pv 0) (aa (pv 1) af)))))) (λea oe=>(ak (am 3 cU.nd re))) rfl rfl rfl T.x_Many)
  (ak (aE (aW (aa (pv 2) (aa (pv 3) af)))))))),?_⟩
 try dsimp only[zB,ze]
 dsimp only[lN,tC,au,vG];refine lq (λzC c H2=>An5 (zC=[A? (.ref ba),A? (.ref wa),A? .non,A? (.bl C?)]) (c=.ref T.e_Many) (SameT T.g_23.tp H H2) (TabSt H2 T.g_23.tp (bW aI) dF) (Over ins rows (post t []))) (λR' hR=>?_) ?_
 .refine⟨_,D?,_,D?,ba,wa,ins,head,rows,t,ar,D?,hB,hA,hc,hh,AA,λH2 s2 t2 ho=>hR _ _ _ ⟨D?,D?,s2,t2,ho⟩,λH2 s2 t2 Dk zt=>?_,λua u H2 s2 t2 Dk hu hf zq ho hle=>?_⟩
  .refine⟨_,D?,_,D?,lnE rfl,λr Bn=>?_⟩;exact dB Bn λH3 s3 e3=>q2 r .non H3 (s2.trans (s3.t _)) (t2.mono s3) e3 Dk (.inl ⟨rfl,zt⟩)
  .refine⟨_,D?,_,D?,lnE rfl,λr Bn=>?_⟩;exact dB Bn λH3 s3 e3=>q2 r (.ref ua) H3 (s2.trans (s3.t _)) (t2.mono s3) e3 Dk (.inr ⟨ua,u,rfl,hu.mono (n! s3),hf,zq,ho,hle⟩)
 .rintro zC c H2 ⟨rfl,rfl,s2,t2,ho⟩;refine⟨_,D?,⟨T.X_Many,T.hit_Many_Many⟩,?_⟩;refine⟨_,D?,_,D?,lnE rfl,λr Bn=>?_⟩;exact dB Bn λH3 s3 e3=>q1 r .non H3 (s2.trans (s3.t _)) (t2.mono s3) e3 ho
theorem lE{u:Th}(hu:u.Fit ins){s:Nat}(hs:s<rows.length):(aK ins rows u)[s]?=A? (bP ins rows [u] (s:Int) 0):=by
 have hl:s<(aK ins rows u).length:=by rw[dh hu];exact hs
 unfold bP;rw[Wl];show _=A? ((aK ins rows u).getD s bh);rw[Wu,V4 hl];rfl
theorem tq{w u v:Th}{note:List Int}(hh:∀s k:Int,r! s k∈head.walk->k=0/\∃s':Nat,s=(s':Int)/\s'<rows.length)(hu:u.Fit ins)(hv:v.Fit ins)(nu:IsNote (post w []) (aK ins rows u) note)(nv:IsNote (post w []) (aK ins rows v) note)(hw:w∈post w [])(h:ff ins rows head u=w):ff ins rows head v=w:=by
 refine gY (rf w) head (λs k hm x hx e=>?_) w hw h;obtain⟨rfl,s',rfl,hs⟩:=hh s k hm;have e1:=lE (rows:=rows) hu hs;have e2:=lE (rows:=rows) hv hs;obtain⟨j,hj⟩:=Wg.mp hx;rw[e]at e1;have h1:=(nu.iff (cH w) e1).mpr hj;have h2:=(nv.iff (cH w) e2).mp h1;rw[hj]at h2;exact(Wi h2).symm
inductive qf(K:Wf)(tp:V6)(vs:List V)(H:Hp)(Q:VK)(_E:XK):Prop
 |mk (a:V6) (ns:List Int):vs=[.ref a]->SqL K H a (ns.map o!)->ns.length<=63->H tp=A? (.tbl #[])->(∀H',Q (.bl Bq) H')->qf K tp vs H Q _E
theorem xH(L:Lam mg base T.g_23.tc T.g_23.tp):bp P w K mg base CX0 90 T.g_49.f T.g_49.d ["script"] (qf K T.g_23.tp):=by
 refine T.g_49.F.okA eU λzh A outer s H vs Q E hr h=>?_;obtain⟨a,ns,rfl,hS,AV,AA,q⟩:=h
 refine⟨_,(ad (am 1 eU.nd (pcF T.g_33 (nI T) hr (aa (pv 0) (aa ae (aa ae af)))))
  (ad (am 2 eU.nd (pcF T.g_40 (nM T) hr (aa (pv 0) (aa (pv 1) af))))
  (ad (am 3 eU.nd d7)
  (ad (am 4 eU.nd (pcF T.g_44 (iw T 70) hr (aa (pv 2) (aa (pv 3) af))))
  (ad (am 5 eU.nd (pcF T.g_46 (ng T L) hr (aa (pv 1) (aa (pv 2) af))))
  (ad (am 6 eU.nd (pcF T.g_48 (nL T L) hr (aa (pv 1) (aa (pv 2) af))))
  (ad (bL (PW.pt (rE (cr (aw ay (pv 5) ae (λ_ _=>rfl)) (λ_=>rfl)) (nJ (cr (aw ay (pv 6) ae (λ_ _=>rfl)) (λ_=>rfl))))) (ak (aE (sT (aw ay (pv 5) ae (λ_ _=>rfl)) (tV (aw ay (pv 6) ae (λ_ _=>rfl)))))) aY)
  (ad (bA WX rfl (b9 (aw ay (pv 5) ae (λ_ _=>rfl))) (pgN 7 eU.nd) (ad (am 8 eU.nd d7)
  (ad (bA WX rfl (bU rfl T.n_6 (aa (aB aA rfl T.n_2 WW (aa (aw ay (pv 7) ae (λ_ _=>rfl)) af)) af)) (pgN 9 eU.nd) (ak (gR (cK hr) (pv 8) (aW (aa (pv 9) (aa ae af))) (aw ay (aw ay (pv 7) ae (λ_ _=>rfl)) (pv 9) (λ_ _=>rfl)) rfl)))
  (ak (bL (aH cN (pcF T.g_45 (i3 T 10) hr (aa (aw ay (pv 1) ae (λ_ _=>rfl)) (aa (pv 8) (aa (pv 3) af)))) (pv 4) (aN _)) (ak (aE (sT (gL og (aw ay (pv 6) ae (λ_ _=>rfl)) fP (aN _)) (tV (gL cN (pcF T.g_47 (eV T 70) hr (aa (aw ay (pv 6) ae (λ_ _=>rfl)) af)) (pcF T.g_47 (eV T 70) hr (aa (aw ay (pv 7) ae (λ_ _=>rfl)) af)) (aN _)))))) aY)))))
  (ak (aE (gL xu (aw ay (pv 6) ae (λ_ _=>rfl)) fP (aN _)))))))))))),?_⟩
 try dsimp only[zB,ze]
 refine⟨_,D?,a,ns,D?,hS,AV,λba ins outs head rows H1 s1 hB hK=>?_⟩;dsimp only[au];refine⟨_,D?,_,D?,a,ba,ns,ins,outs,head,rows,D?,s1.seq hS,AV,hB,hK,λw wa H2 s2 hw Ku OF=>?_⟩;dsimp only[au];have Ab:=s1.trans s2;have U9:=hB.mono (n! s2);have Bf:=m5 w;intro na HK;dsimp only[au];refine dB HK λH3 s3 e3=>?_;refine⟨_,D?,_,D?,wa,na,w,[],[],D?,hw.mono (n! s3),ju hK.go.1 Ku,gr hK.go.1 Ku,by lia,e3,⟨D?,YE,λi e h=>by simp at h⟩,by show 0+w.size<=100000;lia,λE1 ix H4 DU Ea zm AN=>?_⟩;dsimp only[au];have Dn:j! H2 H4:=λb o e=>DU b o (av e HK) (s3 _ _ e);have BA:=Ab.trans Dn;have QZ:=U9.mono (n! Dn);have B9:=hw.mono (n! Dn);have Eu:w∈post w []:=V5 AN;have AD:=hK.wcd Ku OF;have Bp:TabSt H4 T.g_23.tp (bW aI) dF:=.inl (BA _ _ AA)
 refine aR (λi' H5=>Ex3 λ(tr:V6)(v:V)(b:Bool)=>An5 (i'=[A? (.ref a),A? (.ref ba),A? (.ref wa),A? (.ref na),A? (.int (ix:Nat)),A? (.ref tr),B?,B?,B?,B?]) (SameO H4 H5) (TabSt H5 T.g_23.tp (bW aI) dF) (H5 tr=A? (.tup [v,.bl b])) (((b=Bq/\Over ins rows (post w []))\/(b=C?/\∃(l:V6)(ps:List V6)(F St:List NtE),v=.ref l/\H5 l=A? (.lst (ps.map k!))/\WL (λ(e:NtE)p=>H5 p=A? (.tup [.ref e.na,.ref e.ta])) St ps/\(∀e∈St,NtA H5 e)/\PInv ins rows (post w []) F St (ClAll ins St.length)/\∀e∈F,e∈St)))) (λkk hk=>?_) ?_
 .refine⟨_,D?,_,D?,ba,wa,ins,head,rows,w,arO outs,D?,Bk48.wbk QZ,B9,AD,Bp,λr v H5 s5 t5 er ho=>?_,λr l ps F St H5 s5 t5 er el AO OP hp zc=>?_⟩
  .exact hk _ _ ⟨r,v,Bq,rfl,Bp.sameO s5,t5,er,.inl ⟨rfl,ho⟩⟩
  .exact hk _ _ ⟨r,.ref l,C?,rfl,Bp.sameO s5,t5,er,.inr ⟨rfl,l,ps,F,St,rfl,el,AO,OP,hp,zc⟩⟩
 rintro i' H5 ⟨tr,tv,tb,rfl,HJ,B1,U',OQ⟩;have Q0:=QZ.mono HJ.kt;have By:=B9.mono HJ.kt
 refine aR (λi' H6=>Ex3 λ(fr:V6)(v:V)(b:Bool)=>An4 (i'=[A? (.ref a),A? (.ref ba),A? (.ref wa),A? (.ref na),A? (.int (ix:Nat)),A? (.ref tr),A? (.ref fr),B?,B?,B?]) (SameO H5 H6) (H6 fr=A? (.tup [v,.bl b])) (((b=Bq/\Over ins rows (post w []))\/(b=C?/\m4 ins rows w/\t7 ins rows head w H6 v)))) (λkk hk=>?_) ?_
 .refine⟨_,D?,_,D?,ba,wa,ins,head,rows,w,arO outs,D?,Bk48.wbk Q0,By,AD,hK.hdok,B1,λr v H6 s6 t6 er ho=>?_,λr v H6 s6 t6 er Dk FK=>?_⟩
  .exact hk _ _ ⟨r,v,Bq,rfl,B1.sameO s6,er,.inl ⟨rfl,ho⟩⟩
  .exact hk _ _ ⟨r,v,C?,rfl,B1.sameO s6,er,.inr ⟨rfl,Dk,FK⟩⟩
 rintro i' H6 ⟨fr,fv,fb,rfl,GX,El,LQ⟩;have GY:=GX _ _ U' (λ_ z=>nomatch z);have Va:=GX _ _ (HJ _ _ Ea (λ_ z=>nomatch z)) (λ_ z=>nomatch z);have Vb:=Q0.mono GX.kt;have NR:=By.mono GX.kt;refine aR (λi' H7=>i'=[A? (.ref a),A? (.ref ba),A? (.ref wa),A? (.ref na),A? (.int (ix:Nat)),A? (.ref tr),A? (.ref fr),B?,B?,B?]/\H6=H7/\tb=C?/\fb=C?) (λkk hk=>?_) ?_
 .refine⟨_,D?,tr,_,1,.bl tb,D?,D?,i! GY,at1,tb,D?,?_⟩;rcases OQ with⟨rfl,ho⟩|⟨rfl,l,ps,F,St,_,_,_,_,hp,zc⟩
  .rcases LQ with⟨rfl,_⟩|⟨rfl,Dk,_⟩
   .refine de (de ⟨_,rfl,tr,_,1,.bl Bq,rfl,rfl,i! GY,at1,Bq,rfl,de ⟨_,rfl,fr,_,1,.bl Bq,rfl,rfl,i! El,at1,?_⟩⟩);exact q H6
   .exact(mm AD Dk ho).elim
  .rcases LQ with⟨rfl,ho⟩|⟨rfl,Dk,_⟩
   .exact(mm AD ⟨F,St,hp,zc⟩ ho).elim
   .exact da ⟨_,rfl,fr,_,1,.bl C?,rfl,rfl,i! El,at1,C?,rfl,da (hk _ _ ⟨rfl,rfl,rfl,rfl⟩)⟩
 rintro i' H7 ⟨rfl,rfl,rfl,rfl⟩;refine hid λZZ kZ=>?_;obtain⟨l,ps,F,St,rfl,Q1,Ky,Kz,hp,zc⟩:=(OQ.resolve_left (λz=>Bool.noConfusion z.1)).2;obtain⟨Dk,FK⟩:=(LQ.resolve_left (λz=>Bool.noConfusion z.1)).2;have el:=GX _ _ Q1 (λ_ z=>nomatch z);have AO:WL (λ(e:NtE)p=>H6 p=A? (.tup [.ref e.na,.ref e.ta])) St ps:=t! (λ(e:NtE)p(h:H5 p=A? (.tup [.ref e.na,.ref e.ta]))=>GX p (.tup [.ref e.na,.ref e.ta]) h (λ_ z=>nomatch z)) Ky;have KA:∀e∈St,NtA H6 e:=λe he=>(Kz e he).mono GX.kt;have J':St.length=ps.length:=Wx AO;have E5:∀e∈St,Told ins rows (post w []) e:=λe he=>hp.f1 e (hp.s1 e he);obtain⟨ia,oa,ha,ra,zy,zK,zH,bk⟩:=id Vb;refine kZ ?_;have Fq:=hp.s30;have Ii:=hK.few
 have Kb:∀u:Th,u.Fit ins->ff ins rows head u=w->∃f∈St,ff ins rows head f.t=w/\f.n<=u.size:=λu hu ho=>by
  obtain⟨f,hf,Ey,LJ⟩:=AD.full hp zc u hu;exact⟨f,hf,tq hK.hdc hu (E5 f hf).fit Ey (E5 f hf).note Eu ho,LJ⟩
 clear OQ LQ Ky Kz Q1;refine⟨_,D?,tr,_,0,.ref l,D?,D?,i! GY,at0,l,D?,⟨_,l! el⟩,?_⟩
 refine fF (K:=K) (a:=l) (xs:=ps.map k!) (λi σ H8=>Ex3 λ(c7 c8 c9:Option V)=>An3 (σ=[A? (.ref a),A? (.ref ba),A? (.ref wa),A? (.ref na),A? (.int (ix:Nat)),A? (.ref tr),A? (.ref fr),c7,c8,c9]) (j! H6 H8) (∀e∈St.take i,ff ins rows head e.t≠w))
  ⟨B?,B?,B?,rfl,λ_ _ e=>e,by intro e he;rw[Yj]at he;cases he⟩ (λi σ H8 _⟨_,_,_,_,s8,_⟩=>l! (s8 _ _ el)) ?_ ?_
 .rintro i x σ H8 hx ⟨c7,c8,c9,rfl,s8,zt⟩;obtain⟨p,rfl,JT⟩:=cB hx;obtain⟨e,he,ep⟩:=E! AO JT;have B8:=V5 he;have Am:=E5 e B8;have zp:=(KA e B8).mono (n! s8);have CF:e.note.length=rows.length:=by rw[Am.note.len,cM Am]
  dsimp only[au];intro tb IV;dsimp only[au];refine dB IV λH9 s9 e9=>?_;have OR:=s8.trans s9;have KC:=zp.mono (n! s9);refine⟨_,D?,p,_,0,.ref e.na,D?,D?,i! (OR _ _ ep),at0,e.na,_,D?,.inr (i! KC.na),_,D?,by lia,by rw[V2];lia,?_⟩;rw[V2,Wl];refine cj (lo:=0) (n:=e.note.length) (λj σ Ha=>Ex1 λ(c9:Option V)=>An3 (σ=[A? (.ref a),A? (.ref ba),A? (.ref wa),A? (.ref na),A? (.int (ix:Nat)),A? (.ref tr),A? (.ref fr),A? (.ref p),A? (.ref tb),c9]) (SameB tb H9 Ha) (Ha tb=A? (.dT (dE (kG e.note j))))) ⟨c9,rfl,SameB.refl,e9⟩ ?_ ?_
  .rintro j σ Ha hj ⟨c9,rfl,sa,HN⟩;rw[Int.zero_add];have Q2:KT H9 Ha:=λb xs z=>sa b _ (aF z e9 (λy=>nomatch y)) z
   have Fp:e.note[j]?=A? (e.note.getD j 0):=by
    rw[Wu,V4 hj];rfl
   refine⟨_,D?,p,_,0,.ref e.na,D?,D?,i! (Q2 _ _ (OR _ _ ep)),at0,_,D?,e.na,_,(j:Nat),.int (e.note.getD j 0),D?,D?,i! (Q2 _ _ KC.na),br (by rw[V7,Fp];rfl),_,D?,_,D?,lnE rfl,λkp C2=>?_⟩;refine dB C2 λHb sb eb=>?_;have ek:Hb kp=A? (.tup ((ky ((j:Int),0)).map kV)):=eb;refine⟨tb,_,D?,DPut.t (sb _ _ HN) ek (aZ (by unfold dE;rw[V2,tF];lia)),?_⟩;rw[nH,sM];exact⟨_,D?,sa.trans ((y! sb).trans z!),ac⟩
  .rintro σ Ha ⟨c9,rfl,sa,HN⟩;have LR:j! H6 Ha:=λb o z=>sa b o (av (s8 _ _ z) IV) (OR _ _ z);have LA:=bk.hd.mono (n! LR);refine⟨_,D?,ba,_,2,.ref ha,D?,D?,i! (LR _ _ bk.bk),at2,_,D?,_,D?,ha,tb,na,head,kG e.note e.note.length,E1,post w [],bP ins rows [e.t],D?,LA,HN,LR _ _ Va,zm,λs k hm=>?_,by have:=hK.hd.2;lia,by have:=hK.hdz;have:=head.size_eq;lia,λHb sb=>?_⟩
   .obtain⟨rfl,s',rfl,Bl⟩:=hK.hdc s k hm;rw[uC (by lia)];have h1:=tK (cH w) Am.note (lE (rows:=rows) Am.fit Bl);rw[Wu,h1];rfl
   have KD:=LR.trans sb;refine⟨_,D?,D?,_,D?,?_⟩;by_cases z:ff ins rows head e.t=w
   .have e1:ixC (post w []) (head.fill (bP ins rows [e.t]))=(ix:Int):=lG (cH w) (by rw[show head.fill (bP ins rows [e.t])=w from z];exact AN);rw[d! (show o! (ixC (post w []) (head.fill (bP ins rows [e.t])))=o! ((ix:Nat):Int)by rw[e1])];rcases FK with⟨rfl,Au⟩|⟨ua,u,rfl,hu,KG,zq,ho,hle⟩
    .exact g! z (Au e.t Am.fit)
    refine de ⟨_,rfl,fr,_,0,.ref ua,rfl,rfl,i! (KD _ _ El),at0,rfl,_,rfl,?_⟩;rw[c! (show¬k! ua=V.non fromλz=>nomatch z)];have Dz:=hp.t2 e (hp.s1 e B8);refine de ⟨_,rfl,fr,_,0,.ref ua,rfl,rfl,i! (KD _ _ El),at0,ua,u,rfl,hu.mono (n! KD),ju hK.gi.1 (gg u.size u (Wc _) KG),gr hK.gi.1 (gg u.size u (Wc _) KG),by lia,λHc sc=>?_⟩;have Q3:=KD.trans sc;have OS:=(KA e B8).ta.mono (n! Q3);refine⟨_,D?,p,_,1,.ref e.ta,D?,D?,i! (Q3 _ _ ep),at1,e.ta,e.t,D?,OS,ju hK.gi.1 (gg e.t.size e.t (Wc _) Am.fit),gr hK.gi.1 (gg e.t.size e.t (Wc _) Am.fit),by lia,λHd sd=>⟨D?,?_⟩⟩
    have GD:u.size=e.t.size:=by
     have h1:=hle e.t Am.fit z;obtain⟨f,hf,FK,LJ⟩:=Kb u KG ho;obtain⟨j,hj⟩:=Wg.mp hf
     have Od:i<=j:=by
      refine Zu λy=>?_;exact zt f (V5 (i:=j) (by rw[List.getElem?_take,b! (by lia)];exact hj)) FK
     have Dj:e.n<=f.n:=by
      rcases Nat.eq_or_lt_of_le Od with y|y
      .subst y;rw[he]at hj;cases hj;exact Wc _
      .have:=nw (iN hp.s2 he hj y);have h9:(e.n:Int)<=(f.n:Int):=this;lia
     have:=Am.n;lia
    rw[d! (show o! ((u.size:Nat):Int)=o! ((e.t.size:Nat):Int)by rw[GD])];exact q Hd
   .have e1:ixC (post w []) (head.fill (bP ins rows [e.t]))≠(ix:Int):=λy=>z (by
     have:=qW (cH w) y;rw[AN]at this;exact(Wi this).symm)
    rw[c! (show¬o! (ixC (post w []) (head.fill (bP ins rows [e.t])))=o! ((ix:Nat):Int)fromλy=>e1 (V.int.inj y))];refine da ⟨_,_,_,rfl,KD,λf hf=>?_⟩;rw[take_snoc he]at hf;rcases Wm.mp hf with hf|hf
    .exact zt f hf
    .rw[We.mp hf];exact z
 .rintro σ H8 ⟨c7,c8,c9,rfl,s8,zt⟩;rw[V2,<-J',XU]at zt;rcases FK with⟨rfl,_⟩|⟨ua,u,rfl,hu,KG,zq,ho,hle⟩
  .refine⟨_,D?,fr,_,0,.non,D?,D?,i! (s8 _ _ El),at0,D?,?_⟩;rw[d! (show V.non=V.non from rfl)];exact q H8
  .refine hid λZZ kZ=>?_;obtain⟨f,hf,FK,_⟩:=Kb u KG ho;refine kZ ?_;exact g! FK (zt f hf)
end
theorem walk{l:PySem.W.OpenLaw}{q:WJ}{d:DefRec}{K:Params->Wf}(hn:l.most=A? 63)(EE:d.params.defaults=[])(hd:d.name="law")(hY:∀(w:W0)(h:Xp),YP w h->(K w.params).In h){ts:List V6}(hT:∀(w:W0)(h:Xp),YP w h->∀P∈ts,h.get? P=A? (PySem.W.tabObj #[]))(he:∀P:Params,ts=HD.kP (K P))
 (F:∀(w:W0)(mg:WE->Option V8)(h:Xp),(K w.params).In h->h.Ns XO mg->TX (K w.params) mg):PySem.W.WalkO q loose XP YP l.row.toRowW d [] (λf vs=>PySem.call f vs) :=
 L2.uE (n:=63) (k:=90) (x:="script") (CX:=λ_=>CX0) (sp:=λw T=>qf (K w.params) T) hn (by decide) EE ⟨rfl,by decide,by decide⟩ hY hT he (λw mg fa h KX G hm=>by
  have T:=F w mg h KX G;obtain⟨_,_,_,_,_,_,_,_,_,e,_⟩:=T.g_49.F.ex;rw[hd]at hm;have e2:T.g_49.f=fa:=(Value.ref.inj (Wi (hm.symm.trans T.g_49.m))).symm;subst e2;exact⟨_,_,_,λs v=>by rw[e];exact .of_eq rfl,T.g_23.t,T.g_23.u,λbase _ _ L=>xH T L⟩) (λ_ _ _ a ns hl hS hT=>⟨a,ns,rfl,hS,hl,hT,λ_=>rfl⟩) λ_ _ _ _ _ z=>z
end LAW
open PySem PySem.W PyProof.Rows
set_option maxRecDepth 100000 in
theorem PySem.Challenge.cw_boughbook_k49_whole_whence_by_notes_holds : PySem.Challenge.rw_boughbook_k49_whole_whence_by_notes.Holds := by
 w_on;(refine holds_law LAW.ws λVc=>?_);(refine holds_open (q:=LAW.vw) (N:=90000) (loose:=[]) (XP:=XL LAW.vw []) (Yf:=Hook.obs (kmHook LAW.d0.heap_1 LAW.ks LAW.ke LAW.ts)) (Ya:=Hook.val (kmHook LAW.d0.heap_1 LAW.ks LAW.ke LAW.ts)) (YP:=Hook.says (kmHook LAW.d0.heap_1 LAW.ks LAW.ke LAW.ts)) (Xt:=LAW.xt) (HD.rX (by kernel_rfl) (by kernel_rfl) (λ_=>by kernel_rfl) LAW.lk0 LAW.lk1 LAW.lk2 LAW.lk3 LAW.lk4 LAW.lk5 (HD.Pc.km LAW.kp LAW.kt)) (Hook.of (kmHook LAW.d0.heap_1 LAW.ks LAW.ke LAW.ts)) (Hook.keeps (kmHook LAW.d0.heap_1 LAW.ks LAW.ke LAW.ts)) (λs e=>xl_of s (Bool.and_eq_true_iff.mp e).1) XL.keeps (by rfl) (by rfl) (by rfl) (λs e=>recFacts_of (Bool.and_eq_true_iff.mp e).2) (by rfl) (by assumption) (by decide +kernel) ⟨rfl,rfl,rfl,rfl,rfl,by decide +kernel⟩ ?_ ?_);w_witness2
 k_fill
 exact LAW.walk (l:=PySem.Challenge.rw_boughbook_k49_whole_whence_by_notes) rfl rfl rfl (λw h Y=>PySem.W.km_in_of Y) (λw h Y=>PySem.W.km_tabs_of Y) LAW.te λw mg h x g=>by constructor <;> first|exact LAW.fx x g|exact LAW.bn x g|exact LAW.fm|exact LAW.na|exact by k_is|exact LAW.gn x g|exact⟨by k_is,by k_is,by k_is,by k_is⟩|exact⟨by k_is,by k_is⟩|exact LAW.cs x g|exact LAW.ci x g|k_exc|kts_exm|exact LAW.fmt
