import PyProof.Rows.All
import Wide.All
import OpenK.AllK
import Wide.FinOn
import Lean
import PyProof.EqAt
import PyProof.EqKinds
import PyProof.TupleCall
import KE.KRevIter
import PyProof.ListNew
import PyProof.Draws
import PyProof.EnumMake
import PyProof.Rows.EnumRows
import PyProof.ZipIter
import PyProof.ConsumeWalk
import KE.LcSums
import PyProof.AttrMissHeap
import KE.KDictOf
import PyProof.DictWalks
import PyProof.ListMulRoad
import PyProof.FactsAll.tuple
import PyProof.NeKinds
import KE.RegKTryMore
import KE.RegKIsAll
import PyProof.StrWalks
import PyProof.Rows.SetFrom
import PyProof.FString5
import Wide.Txt
import PyProof.Rows.SeqMore
import PyProof.StrOps2
import KE.KEqDict
import PyProof.CollectIter
import PyProof.JoinWalk
import PyProof.CallStr
import PyProof.DictRoadsH
import PyProof.MeetsDictList
import PyProof.DictTruth
import PyProof.StrLawsChain
import PyProof.StrCalls6
import PyProof.ToksMono
import PyProof.StrCalls2
import KE.KWords
import PyProof.MeetsStr2
import KE.KLam
import KE.KDictLaws
import PyProof.DictItems
import PyProof.DictValues
import PyProof.DictItemsLoops
import PyProof.ListRange
import PySem.Challenge.RW_boughbook_k66_nothing_sure_is_left
set_option maxHeartbeats 0
set_option Elab.async false
set_option linter.all false
set_option maxRecDepth 100000
set_option genInjectivity false
set_option genSizeOf false
open PySem renaming wpAny_bind->WN,Addr->WS,Value->WU,wpAny_pure->WW,Shared->WY,Program->W6,wpAny->W9,sizeLine->Xe,Str->Xk,World->Xo,Paired->Xs,model->Xv,starEach->XH,Around->XI,boot_len->XU,wpAny_field->XX,wpAny_callSpecial?_slot->X3,wpAny_call_entry->X5,Expr->X6,Heap->Yd,wpAny_newObj_type->Ye,mem_of_lookup->Yj,wpAny_Call_Name_kw->Yk,mainGlobals->Yl,wpAny_specialOf->Yq,builtinLookup_eq_fast->Yt,wpAny_holding->Yv,wpAny_seqItems->Yy,cLine->YH,sysModules->YO,wpAny_updateSeq->YV,tupleKeyHash->YX,eval->Y4,typeLookup_type->Y8,wpAny_mono->Y9,rawInt->Za,Obj->Zc,IsPair->Zj,Builtin->Zp,wpAny_rule->Zw,NameKind->Zy,wpAny_typeOf->ZH,wpAny_isInstance->ZK,wpAny_setField_rec->ZQ,wpAny_pyIter_tuple->ZR,FuncData->ZV,backTo->Z2,Pos->Z4,Scope->Z6
open List renaming length_map->WO,getElem?_eq_getElem->WR,mem_of_getElem?->WT,getElem?_map->WZ,size_toArray->W0,length_cons->W2,mem_cons->W7,mem_cons_of_mem->W8,map_append->Xb,mem_singleton->Xc,mem_cons_self->Xd,length_append->Xg,mem_iff_getElem?->Xi,length_range->Xj,mem_map->Xl,map_cons->Xr,mem_append->Xz,mem_append_right->XB,append_nil->XC,range->XF,append_assoc->XG,mem_append_left->XJ,replicate->XN,length_take->XS,getElem?_range->XY,length_eq_zero_iff->XZ,filter_cons->X0,reverse_cons->X7,take_add_one->Yh,getElem?_append_left->Yi,cons_append->Yn,length_reverse->Ys,reverse_append->Yz,take_length->YB,getElem?_eq_some_iff->YF,take_of_length_le->YG,lookup_cons->YJ,map_map->YM,mem_range->YR,getElem?_append_right->YS,nil_append->Y0,mem_filter->Y1,map_nil->Y2,dropLast_concat_getLast->Y3,reverse_reverse->Y6,map_congr_left->Zd,getElem?_zip_eq_some->Zf,replicate_succ->Zr,idxOf_lt_length_of_mem->Zt,length->Zu,zip_cons_cons->Zz,take_zero->ZA,filter_append->ZC,length_filter_le->ZF,getElem?_eq_none->ZG,of_mem_zip->ZM,nodup_cons->ZN,find?_cons->ZO,lookup->ZU,filterMap_cons->Z5,not_mem_nil->Z7,getElem?_cons_succ->Z8,drop_zero->Z9
open PySem.W renaming Frag->WQ,kia_one->YY,emptyDict->Zb,findIn->Zk,instObj->ZL,boot_heap->ZS
open PySem.Heap renaming get?_push_of_some->WV,get?_push_size->W3,lt_size->Xa,get?_update_self->XO,get?_update_other->XW,size_push->X4,SameBut->YD
open Nat renaming le_refl->WX,zero_le->Xh,le_trans->Xw,ne_of_lt->XA,lt_of_lt_of_le->XM,lt_irrefl->Yr,mul_le_mul_right->YQ,not_lt_zero->YZ,le_add_right->Y5,le_of_lt->ZT,add_assoc->Z1
open PySem.Paired renaming length->W4
open Bool renaming false_ne_true->W5,and_eq_true->XT,false_eq_true->Yb,eq_false_iff->Yo
open PySem.F renaming plainAttrs_list->Xf,type_list_append->Xx,slot_list_append->Xy,plain_extend_loop->YE,slot_dict_setdefault->Zn,slot_tuple_hash->Zv,slot_dict_keyiterator_next->Zx,type_list_pop->ZD,slot_list_pop->ZE,type_list_extend->ZX,slot_list_extend->ZY
open PySem.Value renaming ref->Xm,none->Yp,type->Zl
open Sum renaming inl->Xn,inr->Zs
open Option.some renaming inj->Xp
open PySem.Str renaming ofString->Xq
open Int renaming toNat_natCast->Xu,toNat_of_nonneg->Yc,zero_add->Ym,emod_nonneg->Yu,emod_lt_of_pos->Yx
open Option renaming map_eq_some_iff->XD,isSome_iff_exists->Z0
open PySem.PassesOwn renaming never->XE
open PyProof.Rows renaming slot_tuple_getitem->XQ,callWith_type1->X1,boot_tuple->YA
open Array renaming length_toList->XR,getElem?_eq_getElem->Zg
open PySem.Builtin.SmallTypes renaming nextOf->X2,ownedTupleIsFree->X8
open PySem.Builtin.Tuple renaming tupleHashOf->X9,tupleExact->YN,tupleItemsOf->ZW
open PySem.Obj renaming mapSeq->Yg,data_mapFields->Zm
open PySem.NameKind renaming free->Yw
open False renaming elim->YC
open PySem.Builtin.Slice renaming slicePlaces->YI,sliceAdjust->Z3
open PySem.Calls renaming spliced_cons->YK,spliced_nil->Zh
open Sum.inl renaming inj->YL
open Ne renaming symm->YT
open PySem.Value.type renaming inj->YU
open True renaming intro->YW
open PySem.Builtin.List renaming listTooLong->Y7,listExtendWith->Ze,listSameRef->Zo,listLengthHint->ZI,listItems->ZJ
open PySem.Heap.SameBut renaming update->Zi
open PySem.AutoSeq1 renaming wpAny_loadPart'->Zq
open ForInStep renaming yield->ZP
open Option renaming some->A?,none->B?
open Bool renaming true->C?,false->CU
theorem D?.{u}{α:Sort u}{a:α}:a=a:=rfl
variable{w:Xo}{m i t' j n B W:Nat}{h base h':Yd}{α β γ:Type}{a b it c sl d I z tp l1 l2 i1 i2 ia oa ha ra la:WS}{loose N ps:List Xk}{as ch fp Ak Ay AS:List WS}{K:WQ}{e tg iter elt:X6}{x qual p1 p2 p3:Xk}{us its Ag:List WU}{u oc vl vu:WU}{F:α->β->Prop}{P prog:W6}{M ns pre:List Int}{A:XI}{E Q:WU->WY->Prop}{s:WY}{pos pos':Z4}{pins:List (WS×Zc)}{op:CmpOp}{body:List Stmt}{lo hi:Option Int}{C S S' C':Int}{kw:List (Xk×WU)}{env:Env}{mg:Xk->Option WU}{fd:ZV}{kindOf:Xk->Option Zy}{sc scope:Z6}{params:Arguments}{od:Option WS}{items ys:Array WU}{XP:(Xk->Option WU)->Yd->Prop}{YP:Xo->Yd->Prop}{js:List (Option Nat)}{cl:List (Xk×WS)}{ifs elts:List X6}{ins outs Dd:List (Xk×Int)}
def a!:=@if_neg
def b!:=@if_pos
def c!:=@decide_eq_false
def d!:=@decide_eq_true
def e!:=@of_decide_eq_true
def g!:=@absurd
def h!:=@congrArg
namespace HD
open PySem PySem.W PySem.Calls PyProof.Rows
def kE(tb:String->Option Zp)(p:W6)(w:Xo)(m:Nat)(ann:Option WU):Nat->SharedT->Thread->Option SharedT
 |0,_,_=>B?
 | n+1,s,t=>match through t with
   |true=>A? s
   | false=>match stepOk m ann t with
     |false=>B?
     | true=>match stepT (denote tb) p w s t with
       |some (s',t')=>kE tb p w m ann n s' t'
       |none=>B?
theorem l7{tb:String->Option Zp}{p:W6}{ann:Option WU}:∀{n:Nat}{s s':SharedT}{t:Thread},kE tb p w m ann n s t=A? s'->topRun tb p w m ann n s.abs t=A? s'.abs
 |0,_,_,_,h=>by cases h
 | n+1,s,s',t,h=>by
   unfold kE at h;unfold topRun;cases he:through t with
   |true=>rw[he]at h;cases h;rfl
   | false =>
     rw[he]at h;cases hk:stepOk m ann t with
     |false=>rw[hk]at h;cases h
     | true =>
       rw[hk]at h;cases hs:stepT (denote tb) p w s t with
       |none=>rw[hs]at h;cases h
       | some r =>
         obtain⟨s2,t2⟩:=r;rw[hs]at h;rw[stepT_spec hs];exact l7 h
def xI:List Zc->Nat->BT->BT
 | [],_,t=>t
 |o::l,n,t=>xI l (n+1) (t.ins n o)
def xU:List Zc->Nat->BT->Bool
 | [],_,_=>C?
 |o::l,n,t=>((t.ins n o).get n).isSome && xU l (n+1) (t.ins n o)
theorem nY:∀(l:List Zc)(n:Nat)(t:BT),xU l n t=C?->(xI l n t).list (n+l.length)=t.list n++l
 | [],n,t,_=>by rw[XC];rfl
 | o::l,n,t,h=>by
   obtain⟨h1,h2⟩:=Bool.and_eq_true_iff.mp h;have e:=absHeap_ins (life:=default) h1
   have e2:(t.ins n o).list (n+1)=t.list n++[o]:=by
    have:=h! (λx:Yd=>x.objs.toList) e;simpa[absHeap,Heap.push]using this
   have ih:=nY l (n+1) (t.ins n o) h2;rw[e2,XG]at ih;rw[W2,show n+(l.length+1)=n+1+l.length by lia];exact ih
theorem zI(ok:xU h.objs.toList 0 .nil=C?):absHeap (xI h.objs.toList 0 .nil) h.objs.size h.life=h:=by
 have e:=nY _ _ _ ok;rw[Nat.zero_add]at e;unfold absHeap;rw[<-XR,e];rfl
noncomputable abbrev o5(p:W6)(N:Nat)(w:Xo)(os:OsState):Option SharedT :=
 kE treeTable p w 11 (A? (.ref 6)) N ⟨xI (ZS w.params).objs.toList 0 .nil,11,(ZS w.params).life,Array.mk [],boot_drawn,boot_toks,os⟩ (topStub p)
theorem xR(P:Params):(xU (ZS P).objs.toList 0 .nil,(ZS P).isNs Yl,(ZS P).objs.size,(ZS P).nsMap Yl "__annotations__")=(C?,C?,11,A? (.ref 6)):=by kernel_rfl
theorem map_some{o:Option α}{a:α}{f:α->β}{b:β}(h:o=A? a)(e:o.map f=A? b):f a=b:=by rw[h]at e;exact Xp e
abbrev Tr0(p q:W6)(loose:List Xk)(Xt:WY->Bool)(N:Nat)(g0:Bool):Prop:=∀(w:Xo)(os:OsState),((o5 p N w os).map λs=>(staticsOk (importedModules p.main.body) (ZS w.params) s.abs.heap && namesBound p s.abs.heap && gensDone s.abs && laidKept (ZS w.params) s.abs.heap,s.abs.heap.bltView,pinSeenD q (drecsOf q) s.abs,plainSeenD q loose s.abs,clsSeenW q loose s.abs,(s.abs.heap.accountedOkI (importedModules p.main.body),s.abs.heap.isNs Yl,s.abs.heap.isNs builtinsNs,tablesOk q s.abs.heap,Xt s.abs,(if g0 then s.abs.gens.size == 0 else !leftWithCleanup s.abs.gens))))=A? (C?,bltViewBooted,pinGoodD (drecsOf q),plainGoodD q loose,clsGoodW q loose,(C?,C?,C?,C?,C?,C?))
abbrev Tr1(p q:W6)(N:Nat):Prop:=∀(w:Xo)(os:OsState),((o5 p N w os).map λs=>seen ((recsOf q).map (·.name)) (ownsOf q) [] {s.abs with gens:=#[]})=A? (expectedOf q)
abbrev Tr2(p q:W6)(loose:List Xk)(N:Nat):Prop:=∀(w:Xo)(os:OsState),((o5 p N w os).map λs=>s.abs.heap.keysOk (looseW q loose) ((recsOf q).map (·.name)) ((litsOf q).map (·.1)) ((clssOf q (looseW q loose)).map (·.name)))=A? C?
abbrev Tr3(p q:W6)(N:Nat):Prop:=∀(w:Xo)(os:OsState),((o5 p N w os).map λs=>tabsOk q s.abs)=A? C?
abbrev Tr4(p q:W6)(loose:List Xk)(N:Nat):Prop:=∀(w:Xo)(os:OsState),((o5 p N w os).map λs=>plainSeenE q (looseW q loose) s.abs)=A? (plainGoodE q (looseW q loose))
abbrev Tr5(p q:W6)(N:Nat):Prop:=∀(w:Xo)(os:OsState),((o5 p N w os).map λs=>wideSeen q s.abs)=A? (wideGood q)
theorem uV{p q:W6}{Xt:WY->Bool}{Yf:WY->α}{Ya:Xo->α}{N:Nat}{g0:Bool}
 (e:opening p=plainProg p.main.scope.names) (hN:Nat.ble 600 N=C?) (f:∀s,fenceModules? p s=A? s)
 (r0:Tr0 p q loose Xt N g0)
 (r1:Tr1 p q N)
 (r2:Tr2 p q loose N)
 (r3:Tr3 p q N)
 (r4:Tr4 p q loose N)
 (r5:Tr5 p q N)
 (rY:∀(w:Xo)(os:OsState),((o5 p N w os).map λs=>Yf s.abs)=A? (Ya w)) :
 LeftO p q loose Xt Yf Ya N g0:=λw=>by
 obtain⟨⟨h,gs,d,k,os⟩,e1,e'⟩:=XD.mp (boot_open e hN f w);obtain⟨rfl,rfl,rfl,rfl⟩:h=ZS w.params/\gs=Array.mk []/\d=boot_drawn/\k=boot_toks:=by simpa using e'
 have Lq:=xR w.params;have z0:=h! Prod.fst Lq;have z1:=h! (λx=>x.2.1) Lq;have z2:=h! (λx=>x.2.2.1) Lq;have z3:=h! (λx=>x.2.2.2) Lq;dsimp only at z0 z1 z2 z3;obtain⟨s1,Gx,hY⟩:=XD.mp (rY w os);have q0:=map_some Gx (r0 w os);have q1:=map_some Gx (r1 w os);have q2:=map_some Gx (r2 w os);have q3:=map_some Gx (r3 w os);have q4:=map_some Gx (r4 w os);have q5:=map_some Gx (r5 w os);have rr:=l7 Gx
 have Mz:SharedT.abs ⟨xI (ZS w.params).objs.toList 0 .nil,11,(ZS w.params).life,Array.mk [],boot_drawn,boot_toks,os⟩=⟨ZS w.params,Array.mk [],boot_drawn,boot_toks,os⟩:=by
  unfold SharedT.abs;dsimp only;rw[<-z2,zI z0]
 rw[Mz]at rr;have a0:=h! Prod.fst q0;have a1:=h! (λx=>x.2.1) q0;have a2:=h! (λx=>x.2.2.1) q0;have a3:=h! (λx=>x.2.2.2.1) q0;have a4:=h! (λx=>x.2.2.2.2.1) q0;have b0:=h! (λx=>x.2.2.2.2.2.1) q0;have b1:=h! (λx=>x.2.2.2.2.2.2.1) q0;have b2:=h! (λx=>x.2.2.2.2.2.2.2.1) q0;have b3:=h! (λx=>x.2.2.2.2.2.2.2.2.1) q0;have b4:=h! (λx=>x.2.2.2.2.2.2.2.2.2.1) q0;have b5:=h! (λx=>x.2.2.2.2.2.2.2.2.2.2) q0;dsimp only at a0 a1 a2 a3 a4 b0 b1 b2 b3 b4 b5
 have l2:openSeen q loose (importedModules p.main.body) Xt g0 s1.abs=openGood q loose:=by
  unfold openSeen openGood;rw[q1,a1,q2,b0,b1,b2,b3,b4,b5,q3,a2,q4,a3,q5,a4];rfl
 have t:topFrom treeTable p w N ⟨ZS w.params,Array.mk [],boot_drawn,boot_toks,os⟩=A? s1.abs:=by
  unfold topFrom;dsimp only;rw[z1,z2,z3,rr];show(match staticsOk (importedModules p.main.body) (ZS w.params) s1.abs.heap && namesBound p s1.abs.heap && gensDone s1.abs && laidKept (ZS w.params) s1.abs.heap with|true=>_|false=>_)=_;rw[a0]
 unfold openEnds;rw[e1];show(topFrom treeTable p w N _).map _=_;rw[t];exact h! A? (Prod.ext l2 hY)
def p0:Params:={strHash:=λ_=>0,shareClass:=λ_=>0,mergeTok:=λt=>t,idOf:=λ_=>0,idOfShared:=λ_ _=>0,followText:=λ_=>CU,idOfImm:=λ_=>0}
structure Pc(p:W6)(N:Nat)(as:List WS)(vs:Xo->List (Option Zc)):Prop where
 out:∀(w:Xo)(os:OsState),((o5 p N w os).map λs=>as.map s.abs.heap.get?)=A? (vs w)
theorem Pc.cut{p:W6}{N:Nat}{vs:Xo->List (Option Zc)}(n:Nat)(h1:Pc p N (as.take n) λw=>(vs w).take n)(h2:Pc p N (as.drop n) λw=>(vs w).drop n):Pc p N as vs:=⟨λw os=>by
 obtain⟨s,e,a1⟩:=XD.mp (h1.out w os);have a2:=map_some e (h2.out w os);rw[e];refine h! A? ?_;have:=congr (h! HAppend.hAppend a1) a2;rw[<-Xb,List.take_append_drop,List.take_append_drop]at this;exact this⟩
theorem Pc.k{p:W6}{N:Nat}{K:Params->Frag}{e:∀P,as=(K P).map (·.1)}(h:Pc p N as λw=>(K w.params).map λp=>A? p.2):∀(w:Xo)(os:OsState),((o5 p N w os).map λs=>(kHook K as e).obs s.abs)=A? ((kHook K as e).val w):=h.out
end HD
section
open PySem PySem.W PyProof.Rows
def LAW.vw:W6:=PySem.W.view PySem.Challenge.pw_boughbook_k66_nothing_sure_is_left [1,2,3,4,6,7,8,9,10,11,12,13,14,15,16,18,19,20,21,22,23,24,25,26,27,28,29,30,31,32,34,35,36,37,38,39,40,41,42,43,44,46,47,48,49,50,51,52,53,54,56,57,59,60,61,63,64,65,66,67,68,69,70,71]
def LAW.xt(s:WY):Bool:=xlAt LAW.vw [] s && recOk (RowW.records (OpenRow.toRowW (OpenLaw.row PySem.Challenge.rw_boughbook_k66_nothing_sure_is_left))) s
theorem LAW.ws:OpenLaw.wellSaid PySem.Challenge.rw_boughbook_k66_nothing_sure_is_left=true:=by kernel_rfl
theorem LAW.lk0:HD.Tr0 PySem.Challenge.pw_boughbook_k66_nothing_sure_is_left LAW.vw [] LAW.xt 90000 true:=λ_ _=>by kernel_rfl
theorem LAW.lk1:HD.Tr1 PySem.Challenge.pw_boughbook_k66_nothing_sure_is_left LAW.vw 90000:=λ_ _=>by kernel_rfl
theorem LAW.lk2:HD.Tr2 PySem.Challenge.pw_boughbook_k66_nothing_sure_is_left LAW.vw [] 90000:=λ_ _=>by kernel_rfl
theorem LAW.lk3:HD.Tr3 PySem.Challenge.pw_boughbook_k66_nothing_sure_is_left LAW.vw 90000:=λ_ _=>by kernel_rfl
theorem LAW.lk4:HD.Tr4 PySem.Challenge.pw_boughbook_k66_nothing_sure_is_left LAW.vw [] 90000:=λ_ _=>by kernel_rfl
theorem LAW.lk5:HD.Tr5 PySem.Challenge.pw_boughbook_k66_nothing_sure_is_left LAW.vw 90000:=λ_ _=>by kernel_rfl
section
local macro_rules | `(tactic| o_head $_H) => `(tactic| assumption)
theorem LAW.d0(h:OpenRow.Holds (OpenLaw.row PySem.Challenge.rw_boughbook_k66_nothing_sure_is_left)):OpenRow.Holds (OpenLaw.row PySem.Challenge.rw_boughbook_k66_nothing_sure_is_left):=by
 k_head
end
noncomputable def LAW.ks:List WS:=(LAW.d0.heap_1 HD.p0).map (·.1)
theorem LAW.ke:∀P,LAW.ks=(LAW.d0.heap_1 P).map (·.1):=λ_=>by kernel_rfl
theorem LAW.kp:HD.Pc PySem.Challenge.pw_boughbook_k66_nothing_sure_is_left 90000 LAW.ks λw=>(LAW.d0.heap_1 w.params).map λp=>A? p.2:=⟨λ_ _=>by kernel_rfl⟩
end
namespace L2
open PySem PySem.Spec PyProof.Rows
theorem gmE{f:α->β}{l:List α}{x:α}(h:l[i]?=A? x):(l.map f)[i]?=A? (f x):=by rw[WZ,h];rfl
theorem glE{l:List α}{x:α}(h:l[i]?=A? x):i<l.length:=(YF.mp h).1
abbrev Key:=Sum Int Xk
def gY:Key->WU->Bool
 |.inl k,v=>Value.isInt k v
 |.inr x,v=>Value.isStrOf x v
def aby(w:Xo):Key->Int
 |.inl k=>hashInt k
 |.inr x=>hashStr w x
theorem be:∀{k:Key}{v:WU},gY k v=C?->(∃i t,k=Xn i/\v=Value.int i t)\/(∃x t,k=Zs x/\v=Value.str x t)
 | .inl i,v,h=>by
   obtain⟨t,e⟩:=Value.isInt_shape (k:=i) (v:=v) h;exact .inl ⟨i,t,rfl,e⟩
 | .inr x,v,h=>by
   obtain⟨t,e⟩:=Value.isStrOf_shape (x:=x) (v:=v) h;exact .inr ⟨x,t,rfl,e⟩
theorem uM(i:Int)(t:Tok):gY (.inl i) (.int i t)=true:=by simp[gY,Value.isInt]
theorem uD(x:Xk)(t:Tok):gY (.inr x) (.str x t)=true:=by simp[gY,Value.isStrOf]
theorem zR(a b:Int):decide ((Xn a:Key)=Xn b)=(a == b):=by
 by_cases e:a=b
 .subst e;simp
 .have h:¬(Xn a:Key)=Xn b:=λq=>e (YL q);rw[c! h];exact(beq_eq_false_iff_ne.mpr e).symm
theorem aat(a b:Xk):decide ((Zs a:Key)=Zs b)=decide (a=b):=by
 by_cases e:a=b
 .subst e;simp
 .have h:¬(Zs a:Key)=Zs b:=λq=>e (Sum.inr.inj q);rw[c! h,c! e]
theorem aaj(a:Int)(b:Xk):decide ((Xn a:Key)=Zs b)=false:=c! (λq=>nomatch q)
theorem zQ(a:Xk)(b:Int):decide ((Zs a:Key)=Xn b)=false:=c! (λq=>nomatch q)
def ao(prog:W6)(w:Xo):PySem.KeyKind prog w Key where
 is:=gY
 hash:=aby w
 inj:=λv a b ha hb=>by
  rcases be ha with⟨i,t,rfl,rfl⟩|⟨x,t,rfl,rfl⟩
  .rcases be hb with⟨j,u,rfl,e⟩|⟨y,u,rfl,e⟩
   .injection e with e1 _;rw[e1]
   .exact nomatch e
  .rcases be hb with⟨j,u,rfl,e⟩|⟨y,u,rfl,e⟩
   .exact nomatch e
   .injection e with e1 _;rw[e1]
 byValue:=λk v h=>by
  rcases be h with⟨i,t,rfl,rfl⟩|⟨x,t,rfl,rfl⟩ <;> rfl
 pyHash:=λhv h=>by
  rcases be hv with⟨i,t,rfl,rfl⟩|⟨x,t,rfl,rfl⟩
  .exact wpAny_pyHash_int h
  .exact wpAny_pyHash_str h
 eqBool:=λhu hv h=>by
  rcases be hu with⟨i,t,rfl,rfl⟩|⟨x,t,rfl,rfl⟩
  .rcases be hv with⟨j,u,rfl,rfl⟩|⟨y,u,rfl,rfl⟩
   .rw[zR]at h;exact wpAny_eqBool_int h
   .rw[aaj]at h;exact SeqAt.EqAt.int_str i t y u _ _ _ _ h
  .rcases be hv with⟨j,u,rfl,rfl⟩|⟨y,u,rfl,rfl⟩
   .rw[zQ]at h;exact SeqAt.EqAt.str_int x t j u _ _ _ _ h
   .rw[aat]at h;exact wpAny_eqBool_str h
 «strs»:=λk x t v h=>by
  rcases be h with⟨i,u,rfl,e⟩|⟨y,u,rfl,e⟩
  .exact nomatch e
  .injection e with e1 _;subst e1;cases v <;> rfl
theorem pV(prog:W6)(w:Xo)(i:Int)(t:Tok):(ao prog w).is (.inl i) (.int i t)=true:=uM i t
theorem pN(prog:W6)(w:Xo)(x:Xk)(t:Tok):(ao prog w).is (.inr x) (.str x t)=true:=uD x t
set_option genInjectivity true in
inductive V where
 |non|bl (b:Bool)|int (i:Int)|str (x:Xk)|byt (b:Array UInt8)|flt (b:UInt64)|ref (a:WS)|ty (n:String)
 deriving DecidableEq
def RelV:V->WU->Prop
 |.non,u=>u=Yp
 |.bl b,u=>u=Value.bool b
 |.int i,u=>∃t,u=Value.int i t
 |.str x,u=>∃t,u=Value.str x t
 |.byt b,u=>∃t,u=Value.bytes b t
 |.flt b,u=>∃t,u=Value.float b t
 |.ref a,u=>u=Xm a
 |.ty n,u=>u=Zl n
abbrev Vals:List V->List WU->Prop:=Xs RelV
theorem Vals.length{xs:List V}(r:Vals xs us):xs.length=us.length:=W4 r
theorem Vals.get:∀{xs:List V}{us:List WU}{i:Nat}{x:V},Vals xs us->xs[i]?=A? x->∃u,us[i]?=A? u/\RelV x u
 |_,_,_,_,.nil,e=>by simp at e
 |_,_,0,_,.cons r _,e=>by simp at e;subst e;exact⟨_,D?,r⟩
 | _,_,i+1,x,.cons _ t,e=>by
   obtain⟨u,h1,h2⟩:=Vals.get (i:=i) (x:=x) t (by simpa using e);exact⟨u,by simpa using h1,h2⟩
theorem Vals.set{x:V}(r:RelV x u):∀{xs:List V}{us:List WU}(i:Nat),Vals xs us->Vals (xs.set i x) (us.set i u)
 |_,_,_,.nil=>.nil
 |_,_,0,.cons _ t=>.cons r t
 |_,_,i+1,.cons q t=>.cons q (Vals.set r i t)
theorem Vals.append:∀{xs ys:List V}{us ws:List WU},Vals xs us->Vals ys ws->Vals (xs++ys) (us++ws)
 |_,_,_,_,.nil,s=>s
 |_,_,_,_,.cons r t,s=>.cons r (Vals.append t s)
theorem Vals.take:∀{xs:List V}{us:List WU}(n:Nat),Vals xs us->Vals (xs.take n) (us.take n)
 |_,_,0,_=>.nil
 |_,_,_+1,.nil=>.nil
 |_,_,n+1,.cons r t=>.cons r (Vals.take n t)
theorem Vals.drop:∀{xs:List V}{us:List WU}(n:Nat),Vals xs us->Vals (xs.drop n) (us.drop n)
 |_,_,0,r=>r
 |_,_,_+1,.nil=>.nil
 |_,_,n+1,.cons _ t=>Vals.drop n t
def RelO:Option V->Option WU->Prop
 |some v,A? u=>RelV v u
 |none,B?=>True
 |_,_=>False
def KV{κ:Type}:List (κ×V)->List (κ×WU)->Prop:=Xs λ(p:κ×V)(q:κ×WU)=>p.1=q.1/\RelV p.2 q.2
def kV:Key->V
 |.inl i=>.int i
 |.inr x=>.str x
inductive HO where
 |lst (xs:List V)
 |tup (xs:List V)
 |dK (f':List (Key×V))|dT (f':List (List Key×V))
 |set (S:Int->Bool) (n:Nat)
 |ins (C dx:WS) (fs:List (Xk×V))
 |own (x:WS)
 |xd (fs:List (Xk×V))
 |met (f x:WS)
 |rng (lo hi:Int)
 |frz (o:Zc) (u:HO)
 |tbl (ps:Array WU)
 |ext (φ:Yd->Prop)
abbrev Hp:=WS->Option HO
def upd(H:Hp)(a:WS)(o:HO):Hp:=λb=>if b=a then A? o else H b
theorem ac{H:Hp}{o:HO}:upd H a o a=A? o:=by unfold upd;rw[b! rfl]
theorem ag{H:Hp}{o:HO}(h:b≠a):upd H a o b=H b:=by unfold upd;rw[a! h]
theorem km{H:Hp}{o u:HO}:upd (upd H a o) a u=upd H a u:=by
 funext b;unfold upd;split <;> rfl
theorem eJ{H:Hp}{o u:HO}(h:H a=A? o)(h':H b=A? u)(d:o≠u):a≠b:=by
 intro e;subst e;rw[h]at h';exact d (Xp h')
theorem aw{H:Hp}{o:HO}(h:H a=A? o)(h':H b=B?):a≠b:=by
 intro e;subst e;rw[h]at h';cases h'
section
variable(P:W6)(w:Xo)
def ObjOk(H:Hp)(h:Yd)(a:WS):HO->Prop
 |.lst xs=>xs.length<=Xe/\∃(its:List WU)(n:Nat),Vals xs its/\h.get? a=A? {cls:=.type "list",data:=.seq its.toArray n}
 |.tup xs=>xs.length<=Xe/\∃(its:List WU)(n:Nat),Vals xs its/\h.get? a=A? {cls:=.type "tuple",data:=.seq its.toArray n}
 |.dK f'=>f'.length<=Xe/\(a == YO)=CU/\∃vs,KV f' vs/\h.DictOf (ao P w) a vs
 |.dT f'=>f'.length<=Xe/\(a == YO)=CU/\∃xs:List (List Key×WS×WU),
  Xs (λ(p:List Key×V)(q:List Key×WS×WU)=>p.1=q.1/\H q.2.1=A? (.tup (p.1.map kV))/\RelV p.2 q.2.2) f' xs /\
  ∃o es ep,h.get? a=A? o/\o.ExactDict/\o.data=.dict es ep/\es.toList=xs.map (entryOfKey (tupleKind (ao P w)))/\(xs.map (·.1)).Nodup
 |.set S n=>h.SetOf (intKind P w) a S n
 |.ins C dx fs=>H dx=A? (.own a)/\fs.length<=1000/\dx≠a/\h.get? a=A? (ZL C dx) /\
  ∃mA,h.Ns1 dx mA/\(∀f,RelO (fs.lookup f) (mA f))/\PySem.Within mA (fs.map (·.1))
 |.own _=>∃o,h.get? a=A? o
 |.xd fs=>∃mA,h.Ns1 a mA/\∀f,RelO (fs.lookup f) (mA f)
 |.rng lo hi=>∃t u v,h.get? a=A? {cls:=.type "range",data:=.fields #[.int lo t,.int hi u,.int 1 v]}
 |.frz o u=>h.get? a=A? o/\ObjOk H h a u
 |.tbl ps=>h.get? a=A? {cls:=.none,data:=.fields ps}
 |.met f x=>h.get? a=A? (PySem.W.methodObj (.ref f) (.ref x))
 |.ext φ=>φ h/\(∃o,h.get? a=A? o)/\∀h1 h2:Yd,φ h1->(∀o,h1.get? a=A? o->h2.get? a=A? o)->φ h2
def HOk(H:Hp)(h:Yd):Prop:=∀a o,H a=A? o->ObjOk P w H h a o
end
section
variable{H H':Hp}{o:HO}
theorem ObjOk.lt(x:ObjOk P w H h a o):a<h.objs.size:=by
 cases o with
 |lst xs=>obtain⟨_,_,_,_,e⟩:=x;exact Xa e
 |tup xs=>obtain⟨_,_,_,_,e⟩:=x;exact Xa e
 |dK f'=>obtain⟨_,_,_,_,o,_,_,e,_⟩:=x;exact Xa e
 |dT f'=>obtain⟨_,_,_,_,o,_,_,e,_⟩:=x;exact Xa e
 |set S n=>obtain⟨o,_,_,_,e,_⟩:=x;exact Xa e
 |ins C dx fs=>obtain⟨_,_,_,e,_⟩:=x;exact Xa e
 |own y=>obtain⟨_,e⟩:=x;exact Xa e
 |xd fs=>obtain⟨_,⟨_,_,_,e,_⟩,_⟩:=x;exact Xa e
 |rng lo hi=>obtain⟨_,_,_,e⟩:=x;exact Xa e
 |frz ob u=>obtain⟨e,_⟩:=x;exact Xa e
 |tbl ps=>exact Xa (show h.get? a=A? _ from x)
 |met f y=>exact Xa (show h.get? a=A? _ from x)
 |ext φ=>obtain⟨_,⟨_,e⟩,_⟩:=x;exact Xa e
theorem Xs.mapP{G:α->β->Prop}:∀{Iy:List α}{Iz:List β},Xs F Iy Iz->(∀a b,F a b->G a b)->Xs G Iy Iz
 |_,_,.nil,_=>.nil
 |_,_,.cons r t,f=>.cons (f _ _ r) (Xs.mapP t f)
theorem ObjOk.stay(x:ObjOk P w H h a o)(k:∀b u,(b=a\/H b=A? (.own a))->h.get? b=A? u->h'.get? b=A? u)
 (ho:∀b,H b=A? (.own a)->H' b=A? (.own a)) (ht:∀b xs,H b=A? (.tup xs)->H' b=A? (.tup xs)):ObjOk P w H' h' a o:=by
 induction o with
 |lst xs=>obtain⟨z,its,n,r,e⟩:=x;exact⟨z,its,n,r,k _ _ (.inl rfl) e⟩
 |tup xs=>obtain⟨z,its,n,r,e⟩:=x;exact⟨z,its,n,r,k _ _ (.inl rfl) e⟩
 |dK f'=>obtain⟨z,y,vs,r,ob,es,ep,e,c⟩:=x;exact⟨z,y,vs,r,ob,es,ep,k _ _ (.inl rfl) e,c⟩
 | dT f' =>
   obtain⟨z,y,xs,r,ob,es,ep,e,c⟩:=x;exact⟨z,y,xs,Xs.mapP r λp q z=>⟨z.1,ht _ _ z.2.1,z.2.2⟩,ob,es,ep,k _ _ (.inl rfl) e,c⟩
 |set S n=>obtain⟨ob,es,ep,t,e,c⟩:=x;exact⟨ob,es,ep,t,k _ _ (.inl rfl) e,c⟩
 | ins C dx fs =>
   obtain⟨d,z,ne,e,mA,⟨od,es,ep,e2,c⟩,r⟩:=x;exact⟨ho _ d,z,ne,k _ _ (.inl rfl) e,mA,⟨od,es,ep,k _ _ (.inr d) e2,c⟩,r⟩
 |own y=>obtain⟨ob,e⟩:=x;exact⟨ob,k _ _ (.inl rfl) e⟩
 |xd fs=>obtain⟨mA,⟨od,es,ep,e,c⟩,r⟩:=x;exact⟨mA,⟨od,es,ep,k _ _ (.inl rfl) e,c⟩,r⟩
 |rng lo hi=>obtain⟨t,u,v,e⟩:=x;exact⟨t,u,v,k _ _ (.inl rfl) e⟩
 |frz ob u ih=>obtain⟨e,q⟩:=x;exact⟨k _ _ (.inl rfl) e,ih q⟩
 | tbl ps =>
   have e:h.get? a=A? {cls:=.none,data:=.fields ps}:=x;show h'.get? a=A? {cls:=.none,data:=.fields ps};exact k a _ (.inl rfl) e
 | met f y =>
   have e:h.get? a=A? (PySem.W.methodObj (.ref f) (.ref y)):=x;show h'.get? a=A? (PySem.W.methodObj (.ref f) (.ref y));exact k a _ (.inl rfl) e
 |ext φ=>obtain⟨p,⟨o,e⟩,st⟩:=x;exact⟨st _ _ p λo q=>k _ _ (.inl rfl) q,⟨o,k _ _ (.inl rfl) e⟩,st⟩
theorem HOk.lt(x:HOk P w H h)(e:H a=A? o):a<h.objs.size:=(x a o e).lt
theorem HOk.fresh(x:HOk P w H h)(e:h.objs.size<=a):H a=none:=by
 cases q:H a with
 |none=>rfl
 |some u=>exact g! (XM (x.lt q) e) (Yr _)
theorem HOk.kept(x:HOk P w H h)(k:∀b u,h.get? b=A? u->h'.get? b=A? u):HOk P w H h':=λa o e =>
 (x a o e).stay (λb u _ q=>k b u q) (λ_ q=>q) λ_ _ q=>q
theorem HOk.laid(x:HOk P w H h)(k:∀b u,h.get? b=A? u->h'.get? b=A? u)(hp:h.objs.size<=a)(new:ObjOk P w (upd H a o) h' a o):HOk P w (upd H a o) h':=λb u e=>by
 have hn:=x.fresh hp;by_cases hb:b=a
 .subst hb;rw[ac]at e;cases e;exact new
 .rw[ag hb]at e;exact(x b u e).stay (λc v _ q=>k c v q) (λc q=>by rw[ag (aw q hn)];exact q) λc xs q=>by rw[ag (aw q hn)];exact q
end
def Rd(H:Hp)(a:WS)(u:HO):Prop:=H a=A? u\/∃o,H a=A? (.frz o u)
theorem Rd.ok{H:Hp}{u:HO}(r:Rd H a u)(x:HOk P w H h):ObjOk P w H h a u:=by
 rcases r with r|⟨o,r⟩
 .exact x a u r
 .obtain⟨_,q⟩:=x a _ r;exact q
def Mut:Option HO->Prop
 |some (.lst _)=>True
 |some (.dK _)=>True
 |some (.dT _)=>True
 |some (.set _ _)=>True
 |some (.ins _ _ _)=>True
 |some (.ext _)=>True
 |_=>False
section
variable{H:Hp}{x e:WS}{o':HO}
theorem HOk.write(ok:HOk P w H h)(mu:Mut (H x))(he:e=x\/H e=A? (.own x))(k:∀b u,b≠e->h.get? b=A? u->h'.get? b=A? u)(HP:∃u,h'.get? e=A? u)
 (new:ObjOk P w (upd H x o') h' x o'):HOk P w (upd H x o') h':=λb u q=>by
 have IC:∀c y,H c=A? (.own y)->c≠x:=λc y r z=>by subst z;rw[r]at mu;exact mu
 have MA:∀c xs,H c=A? (.tup xs)->c≠x:=λc xs r z=>by subst z;rw[r]at mu;exact mu
 by_cases hb:b=x
 .subst hb;rw[ac]at q;cases q;exact new
 .rw[ag hb]at q;by_cases Dz:b=e
  .have q':H b=A? (.own x):=by
    rcases he with z|z
    .exact g! (Dz.trans z) hb
    .rw[Dz];exact z
   rw[q]at q';cases q';obtain⟨v,hv⟩:=HP;exact⟨v,by rw[Dz];exact hv⟩
  .refine(ok b u q).stay (λc v hc r=>k c v ?_ r) (λc r=>by rw[ag (IC c b r)];exact r) λc xs r=>by rw[ag (MA c xs r)];exact r
   rcases hc with rfl|hc
   .exact Dz
   .rintro rfl;rcases he with z|z
    .exact IC c b hc z
    .rw[hc]at z;cases z;exact hb rfl
end
structure Un(fs ex:List WS)(H H':Hp)(h h':Yd):Prop where
 keep:∀b o,h.get? b=A? o->H b=B?->b∉fs->b∉ex->h'.get? b=A? o
 slot:∀b o,h.get? b=A? o->H b=B?->b∈fs->b∉ex->∃sl,h'.get? b=A? {o with slots:=sl}
 free:∀b o,h.get? b=A? o->H b=B?->b∉ex->H' b=B?
 there:∀b o,h.get? b=A? o->b∉ex->∃o',h'.get? b=A? o'
 tups:∀b xs,H b=A? (.tup xs)->H' b=A? (.tup xs)
 frzs:∀b o u,H b=A? (.frz o u)->H' b=A? (.frz o u)
 tbls:∀b ps,H b=A? (.tbl ps)->∃more,H' b=A? (.tbl (ps++more))
section
variable{fs HQ ex Lr:List WS}{H H1 H2:Hp}{h1 h2:Yd}{x e:WS}{o:HO}
theorem Un.any(u:Un fs ex H H1 h h1){ob:Zc}(q:h.get? b=A? ob)(n:H b=B?)(hx:b∉ex):∃sl,h1.get? b=A? {ob with slots:=sl}:=by
 by_cases hb:b∈fs
 .exact u.slot b ob q n hb hx
 .exact⟨ob.slots,u.keep b ob q n hb hx⟩
theorem Un.kept(k:∀b u,h.get? b=A? u->h'.get? b=A? u):Un fs ex H H h h' :=
 ⟨λb ob q _ _ _=>k b ob q,λb ob q _ _ _=>⟨ob.slots,k b ob q⟩,λ_ _ _ n _=>n,λb ob q _=>⟨ob,k b ob q⟩,λ_ _ q=>q,λ_ _ _ q=>q,λ_ ps q=>⟨#[],by rw[q];simp⟩⟩
theorem Un.refl:Un fs ex H H h h:=Un.kept λ_ _ q=>q
theorem Un.laid(k:∀b u,h.get? b=A? u->h'.get? b=A? u)(hp:h.objs.size<=a)(hn:H a=B?):Un fs ex H (upd H a o) h h' where
 keep:=λb u q _ _ _=>k b u q
 slot:=λb u q _ _ _=>⟨u.slots,k b u q⟩
 free:=λb u q n _=>by rw[ag (XA (XM (Xa q) hp))];exact n
 there:=λb u q _=>⟨u,k b u q⟩
 tups:=λb xs q=>by rw[ag (aw q hn)];exact q
 frzs:=λb u xs q=>by rw[ag (aw q hn)];exact q
 tbls:=λb ps q=>⟨#[],by rw[ag (aw q hn),q];simp⟩
theorem Un.write(mu:Mut (H x))(he:e=x\/H e=A? (.own x))(k:∀b u,b≠e->h.get? b=A? u->h'.get? b=A? u)(HP:∃u,h'.get? e=A? u):Un fs ex H (upd H x o) h h':=by
 have hx:∀b,H b=B?->b≠x:=λb n z=>by subst z;rw[n]at mu;exact mu
 have hb:∀b,H b=B?->b≠e:=λb n z=>by
  subst z;rcases he with r|r
  .exact hx b n r
  .rw[n]at r;cases r
 have hm:∀b u,H b=A? u->¬Mut (A? u)->b≠x:=λb u q nm z=>by subst z;rw[q]at mu;exact nm mu
 refine⟨λb u q n _ _=>k b u (hb b n) q,λb u q n _ _=>⟨u.slots,k b u (hb b n) q⟩,λb u q n _=>by rw[ag (hx b n)];exact n,λb u q _=>?_,
  λb xs q=>by rw[ag (hm b _ q λz=>z)];exact q,λb u xs q=>by rw[ag (hm b _ q λz=>z)];exact q,λb ps q=>⟨#[],by rw[ag (hm b _ q λz=>z),q];simp⟩⟩
 by_cases Dz:b=e
 .subst Dz;exact HP
 .exact⟨u,k b u Dz q⟩
end
def trk(h:Yd)(H:Hp):List WS:=(XF h.objs.size).filter λa=>(H a).isSome
def my(h:Yd)(H:Hp):Yd:=PySem.W.hideAll h (trk h H)
theorem uK(h:Yd)(H:Hp):(my h H).objs.size=h.objs.size:=PySem.W.hideAll_size _ _
theorem xi{H:Hp}{o:Zc}(e:h.get? b=A? o)(n:H b=B?):(my h H).get? b=A? o :=
 PySem.W.hideAll_get _ e λhm=>by
  have q:(H b).isSome=true:=(Y1.mp hm).2;rw[n]at q;simp at q
theorem yi{H:Hp}{o:Zc}(e:(my h H).get? b=A? o):h.get? b=A? o/\H b=none:=by
 have e':h.get? b=A? o:=PySem.W.of_hideAll (trk h H) e;refine⟨e',?_⟩;cases q:H b with
 |none=>rfl
 | some x =>
   have hm:b∈trk h H:=Y1.mpr ⟨YR.mpr (Xa e'),by simp[q]⟩;have z:(my h H).get? b=none:=PySem.W.hideAll_none (trk h H) hm;rw[z]at e;cases e
end L2
open L2.V renaming ref->i!,int->q!,str->L!
variable{o:L2.HO}{vs xs:List L2.V}{H H' H1 H2:L2.Hp}{v y:L2.V}{fin:WS->L2.Hp->Prop}
namespace L2
open PySem PySem.Spec PyProof.Rows
structure Mod(K:WQ)(mg:Xk->Option WU)(base:Yd):Prop where
 kin:K.In base
 glob:base.Ns Yl mg
 blt:∃mb,base.Ns builtinsNs mb/\∀x:Xk,x≠"__name__"->mb x=bootBuiltins x
 nolimit:base.NoLimit
set_option genInjectivity true in
structure Cx where
 prog:W6
 w:Xo
 K:WQ
 mg:Xk->Option WU
 base:Yd
 A:XI
 N:List Xk
 s₀:WY
 H₀:Hp
 env:Env
 outer:List Env
 stack:List Env
 ex:List WS
 fn:Xk->Bool
 calm:Bool
 pn:List (WS×Zc)
 xe:WU->WY->Prop
def frs(l:List Env):List WS:=l.filterMap (·.frame)
abbrev Cx.fs(X:Cx):List WS:=frs X.outer
def Vis(sc:Z6)(x:Xk):Prop:=sc.names.lookup x=A? .local\/sc.names.lookup x=A? .cell\/sc.names.lookup x=A? .free
def Loc(sc:Z6)(x:Xk):Prop:=sc.names.lookup x=A? .local\/sc.names.lookup x=A? .cell
def Look(env:Env)(h:Yd)(m:Xk->Option WU)(x:Xk)(u:WU):Prop :=
 (env.kindOf x=A? .local/\m x=A? u)\/((env.kindOf x=A? .cell\/env.kindOf x=A? .free)/\∃c,env.cells.lookup x=A? c/\h.IsCell c (A? u))
structure Cx.Ok(X:Cx):Prop where
 mod:Mod X.K X.mg X.base
 kind:X.env.scope.kind=.function
 glob:X.env.globals=Yl
 blt:X.env.builtins=builtinsNs
 above:X.s₀.heap.1.size<=X.env.locals
 inj:∀x y c,X.env.cells.lookup x=A? c->X.env.cells.lookup y=A? c->x=y
 has:∀x,(X.env.kindOf x=A? .cell\/X.env.kindOf x=A? .free)->∃c,X.env.cells.lookup x=A? c
 cab:∀x c,X.fn x=C?->X.env.cells.lookup x=A? c->X.s₀.heap.1.size<=c
 hd:X.calm=C?->X.A.handled=B?
 frames:X.A.frames=A? X.stack
 stk:X.stack=X.outer\/(X.stack=X.env::X.outer/\X.env.frame=A? X.env.locals)
 exf:∀b∈X.ex,b≠X.env.locals/\∀x c,X.env.cells.lookup x=A? c->c≠b
 bs:∀b o,X.base.get? b=A? o->X.s₀.heap.get? b=A? o/\X.H₀ b=B?
 bsz:X.base.objs.size<=X.s₀.heap.1.size
 noex:∀b o,X.base.get? b=A? o->b∉X.ex
 exfs:∀b∈X.ex,b∉X.fs
 funs:X.s₀.heap.FunFrames X.base X.outer
 frf:∀b∈X.fs,X.H₀ b=B?
structure Inv(X:Cx)(Z:List (WS×Zc))(Y:List (Option V))(H:Hp)(s:WY):Prop where
 ok:X.Ok
 os:s.os=X.s₀.os
 bare:AllBare s.gens
 base:Un X.fs X.ex X.H₀ H X.s₀.heap s.1
 loc:∃m,s.1.Ns X.env.locals m/\∀(i:Nat)(x:Xk)(v:V),X.N[i]?=A? x->Y[i]?=A? (A? v)->Vis X.env.scope x->∃u,RelV v u/\Look X.env s.1 m x u
 cell:∀x c,X.env.cells.lookup x=A? c->∃v,s.1.IsCell c v
 free:H X.env.locals=B?
 freeC:∀x c,X.env.cells.lookup x=A? c->H c=B?
 pin:∀p∈X.pn++Z,s.1.get? p.1=A? p.2/\H p.1=B?/\p.1≠X.env.locals/\p.1∉X.fs/\∀v,p.2.data≠.cell v
 hok:HOk X.prog X.w H s.1
 len:Y.length=X.N.length
section
variable{X:Cx}{Y:List (Option V)}
theorem Cx.Ok.nofr(ok:X.Ok){o:Zc}(e:X.base.get? b=A? o):b∉X.fs:=λhb=>by
 have:=(ok.funs.mem hb).1;rw[e]at this;cases this
theorem Inv.bs(I:Inv X Z Y H s):∀b o,X.base.get? b=A? o->s.1.get? b=A? o/\H b=none:=λb o e =>
 ⟨I.base.keep b o (I.ok.bs b o e).1 (I.ok.bs b o e).2 (I.ok.nofr e) (I.ok.noex b o e),I.base.free b o (I.ok.bs b o e).1 (I.ok.bs b o e).2 (I.ok.noex b o e)⟩
theorem Inv.bk(I:Inv X Z Y H s):∀b o,X.base.get? b=A? o->s.1.get? b=A? o:=λb o e=>(I.bs b o e).1
theorem Inv.mod(I:Inv X Z Y H s):Mod X.K X.mg X.base:=I.ok.mod
theorem Inv.kIn(I:Inv X Z Y H s):X.K.In s.1:=I.ok.mod.kin.keeps I.bk
theorem Inv.lt(I:Inv X Z Y H s):X.env.locals<s.1.1.size:=let⟨_,hn,_⟩:=I.loc;hn.lt
theorem Inv.sz(I:Inv X Z Y H s):X.s₀.heap.1.size<=s.1.1.size:=Xw I.ok.above (ZT I.lt)
theorem Inv.nofs(I:Inv X Z Y H s)(h:s.1.1.size<=a):a∉X.fs:=λhb=>by
 obtain⟨_,o,ho,_⟩:=I.ok.funs.mem hb;exact g! (XM (Xa ho) (Xw I.sz h)) (Yr _)
theorem Inv.cne(I:Inv X Z Y H s):∀x c,X.env.cells.lookup x=A? c->c≠X.env.locals:=λx c e z=>by
 obtain⟨v,o,ho,hd⟩:=I.cell x c e;obtain⟨m,⟨o',es,ep,Bu,Bv,_⟩,_⟩:=I.loc;rw[z,Bu]at ho;cases ho;rw[Bv]at hd;cases hd
theorem Inv.funs(I:Inv X Z Y H s):s.1.FunFrames X.base X.outer:=by
 have all:∀(l:List Env),(∀b∈frs l,b∈X.fs)->X.s₀.heap.FunFrames X.base l->s.1.FunFrames X.base l:=by
  intro l;induction l with
  |nil=>intro _ _;trivial
  | cons env r ih =>
    intro hs hl;obtain⟨hk,⟨L,o,hf,hn,ho,hd⟩,hr⟩:=hl;have hL:L∈X.fs:=hs L (by unfold frs;rw[Z5,hf];exact Xd);obtain⟨sl,e⟩:=I.base.slot L o ho (I.ok.frf L hL) hL λz=>I.ok.exfs L z hL;exact⟨hk,⟨L,_,hf,hn,e,hd⟩,ih (λb hb=>hs b (by unfold frs;rw[Z5,hf];exact W8 _ hb)) hr⟩
 exact all X.outer (λ_ hb=>hb) I.ok.funs
theorem Inv.stack(I:Inv X Z Y H s):s.1.FunFrames X.base X.stack:=by
 rcases I.ok.stk with e|⟨e,hf⟩
 .rw[e];exact I.funs
 .rw[e];obtain⟨m,hn,_⟩:=I.loc;refine .cons (by rw[I.ok.kind];decide) hf hn ?_ I.funs;exact Heap.get?_none_of_le (Xw I.ok.bsz I.ok.above)
theorem Inv.stkSub(I:Inv X Z Y H s):∀b∈frs X.stack,b∈X.env.locals::X.fs:=λb hb=>by
 rcases I.ok.stk with e|⟨e,hf⟩
 .rw[e]at hb;exact W8 _ hb
 .rw[e]at hb;unfold frs at hb;rw[Z5,hf]at hb;exact hb
theorem Inv.stkFree(I:Inv X Z Y H s):∀b∈frs X.stack,H b=none:=λb hb=>by
 rcases W7.mp (I.stkSub b hb)with e|hb
 .rw[e];exact I.free
 .obtain⟨_,o,ho,_⟩:=I.ok.funs.mem hb;exact I.base.free b o ho (I.ok.frf b hb) λz=>I.ok.exfs b z hb
theorem Inv.step{g':Array GenState}{d':Drawn}(I:Inv X Z Y H s)
 (EH:∀b∈ch,(b∈X.ex\/X.s₀.heap.1.size<=b)/\b≠X.env.locals/\(∀x c,X.env.cells.lookup x=A? c->c≠b)/\∀p∈X.pn++Z,p.1≠b)
 (keep:∀b o,b≠X.env.locals->b∉X.fs->b∉ch->s.1.get? b=A? o->H b=B?->h'.get? b=A? o)
 (slot:∀b o,b≠X.env.locals->b∈X.fs->b∉ch->s.1.get? b=A? o->H b=B?->∃sl,h'.get? b=A? {o with slots:=sl}) (free:∀b o,b∉ch->s.1.get? b=A? o->H b=B?->H' b=B?)
 (there:∀b o,b∉ch->s.1.get? b=A? o->∃o',h'.get? b=A? o')
 (tups:∀b xs,H b=A? (.tup xs)->H' b=A? (.tup xs)) (frzs:∀b o u,H b=A? (.frz o u)->H' b=A? (.frz o u)) (tbls:∀b ps,H b=A? (.tbl ps)->∃more,H' b=A? (.tbl (ps++more)))
 (ns:∀m,s.1.Ns X.env.locals m->h'.Ns X.env.locals m) (hok:HOk X.prog X.w H' h') (hg:AllBare g') :
 Inv X Z Y H' {s with heap:=h',gens:=g',drawn:=d',toks:=t'}:=by
 have Qf:∀b o,X.s₀.heap.get? b=A? o->b≠X.env.locals:=λb o e=>XA (XM (Xa e) I.ok.above)
 have Lu:∀b o,X.s₀.heap.get? b=A? o->b∉X.ex->b∉ch:=λb o e hx hb=>by
  rcases(EH b hb).1 with z|z
  .exact hx z
  .exact g! (XM (Xa e) z) (Yr _)
 have cellK:∀x c,X.env.cells.lookup x=A? c->∀v,s.1.IsCell c v->h'.IsCell c v:=λx c e v⟨o,ho,hd⟩=>by
  have ID:c∉ch:=λz=>(EH c z).2.2.1 x c e rfl;by_cases hc:c∈X.fs
  .obtain⟨sl,q⟩:=slot c o (I.cne x c e) hc ID ho (I.freeC x c e);exact⟨_,q,hd⟩
  .exact⟨o,keep c o (I.cne x c e) hc ID ho (I.freeC x c e),hd⟩
 refine⟨I.ok,I.os,hg,⟨λb o e n hb hx=>?_,λb o e n hb hx=>?_,λb o e n hx=>?_,λb o e hx=>?_,λb xs e=>tups b xs (I.base.tups b xs e),λb o xs e=>frzs b o xs (I.base.frzs b o xs e),λb ps e=>?_⟩,?_,λx c e=>?_,?_,λx c e=>?_,λp hp=>?_,hok,I.len⟩
 .exact keep b o (Qf b o e) hb (Lu b o e hx) (I.base.keep b o e n hb hx) (I.base.free b o e n hx)
 .obtain⟨sl,e1⟩:=I.base.slot b o e n hb hx;obtain⟨Sr,e2⟩:=slot b _ (Qf b o e) hb (Lu b o e hx) e1 (I.base.free b o e n hx);exact⟨Sr,e2⟩
 .obtain⟨o',e1⟩:=I.base.there b o e hx;exact free b o' (Lu b o e hx) e1 (I.base.free b o e n hx)
 .obtain⟨o',e1⟩:=I.base.there b o e hx;exact there b o' (Lu b o e hx) e1
 .obtain⟨m1,e1⟩:=I.base.tbls b ps e;obtain⟨m2,e2⟩:=tbls b _ e1;exact⟨m1++m2,by rw[e2,Array.append_assoc]⟩
 .obtain⟨m,hn,hl⟩:=I.loc;refine⟨m,ns m hn,λi x v e1 e2 e3=>?_⟩;obtain⟨u,r,l⟩:=hl i x v e1 e2 e3;refine⟨u,r,?_⟩;rcases l with l|⟨k,c,e,z⟩
  .exact .inl l
  .exact .inr ⟨k,c,e,cellK x c e _ z⟩
 .obtain⟨v,z⟩:=I.cell x c e;exact⟨v,cellK x c e v z⟩
 .obtain⟨m,⟨o,_,_,ho,_⟩,_⟩:=I.loc;exact free _ o (λz=>(EH _ z).2.1 rfl) ho I.free
 .obtain⟨v,o,ho,hd⟩:=I.cell x c e;exact free c o (λz=>(EH c z).2.2.1 x c e rfl) ho (I.freeC x c e)
 .obtain⟨e,n,ne,nf,d⟩:=I.pin p hp;have ID:p.1∉ch:=λz=>(EH p.1 z).2.2.2 p hp rfl;exact⟨keep p.1 p.2 ne nf ID e n,free p.1 p.2 ID e n,ne,nf,d⟩
theorem Inv.un(I:Inv X Z Y H s)(u:Un X.fs [] H H' s.1 h')(hok:HOk X.prog X.w H' h'):Inv X Z Y H' {s with heap:=h',toks:=t'}:=by
 obtain⟨m,⟨o,es,ep,ho,r⟩,_⟩:=id I.loc;obtain⟨sl,hL⟩:=u.any ho I.free (by simp)
 exact I.step (g':=s.gens) (d':=s.drawn) (ch:=[]) (λ_ z=>nomatch z) (λb o _ hb _ e n=>u.keep b o e n hb (by simp)) (λb o _ hb _ e n=>u.slot b o e n hb (by simp)) (λb o _ e n=>u.free b o e n (by simp)) (λb o _ e=>u.there b o e (by simp)) u.tups u.frzs u.tbls (λm' hm=>by
  obtain⟨o',MB,MC,Bu,r'⟩:=hm;rw[ho]at Bu;cases Bu;exact⟨_,MB,MC,hL,r'⟩) hok I.bare
theorem Inv.call{g':Array GenState}{d':Drawn}(I:Inv X Z Y H s)(u:Un (frs X.stack) ch H H' s.1 h')(hok:HOk X.prog X.w H' h')(hg:AllBare g')
 (EH:∀b∈ch,(b∈X.ex\/X.s₀.heap.1.size<=b)/\b≠X.env.locals/\(∀x c,X.env.cells.lookup x=A? c->c≠b)/\∀p∈X.pn++Z,p.1≠b) :
 Inv X Z Y H' {s with heap:=h',gens:=g',drawn:=d',toks:=t'}:=by
 obtain⟨m,⟨o,es,ep,ho,r⟩,_⟩:=id I.loc;obtain⟨sl,hL⟩:=u.any ho I.free λz=>(EH _ z).2.1 rfl
 exact I.step (ch:=ch) EH (λb o hL hb hc e n=>u.keep b o e n (λz=>(W7.mp (I.stkSub b z)).elim hL hb) hc) (λb o _ _ hc e n=>u.any e n hc) (λb o hc e n=>u.free b o e n hc) (λb o hc e=>u.there b o e hc) u.tups u.frzs u.tbls (λm' hm=>by
  obtain⟨o',MB,MC,Bu,r'⟩:=hm;rw[ho]at Bu;cases Bu;exact⟨_,MB,MC,hL,r'⟩) hok hg
theorem Inv.turned(I:Inv X Z Y H s)(k:∀b o,b≠it->s.1.get? b=A? o->h'.get? b=A? o)(hn:H it=B?)(hL:it≠X.env.locals)
 (h1:it∈X.ex\/X.s₀.heap.1.size<=it) (h2:∀x c,X.env.cells.lookup x=A? c->c≠it) (h3:∀p∈X.pn++Z,p.1≠it):Inv X Z Y H {s with heap:=h',toks:=t'}:=by
 have IE:∀b u,H b=A? u->b≠it:=λb u e z=>by rw[z,hn]at e;cases e
 refine I.step (g':=s.gens) (d':=s.drawn) (ch:=[it]) (λb hb=>?_) (λb o _ _ hc e _=>k b o (λz=>hc (by simp[z])) e) (λb o _ _ hc e _=>⟨o.slots,k b o (λz=>hc (by simp[z])) e⟩) (λ_ _ _ _ n=>n)
  (λb o hc e=>⟨o,k b o (λz=>hc (by simp[z])) e⟩) (λ_ _ e=>e) (λ_ _ _ e=>e) (λb ps e=>⟨#[],by rw[e];simp⟩) (λm hm=>?_) (λb u e=>?_) I.bare
 .have e:b=it:=by simpa using hb
  subst e;exact⟨h1,hL,h2,h3⟩
 .obtain⟨o,es,ep,ho,r⟩:=hm;exact⟨o,es,ep,k _ o (YT hL) ho,r⟩
 .refine(I.hok b u e).stay (λc v hc q=>k c v ?_ q) (λ_ q=>q) λ_ _ q=>q;rcases hc with z|z
  .rw[z];exact IE b u e
  .exact IE c _ z
theorem Inv.tok(I:Inv X Z Y H s)(t:Nat):Inv X Z Y H {s with toks:=t}:=I.un (h':=s.1) (t':=t) Un.refl I.hok
theorem Inv.kept(I:Inv X Z Y H s)(k:∀b u,s.1.get? b=A? u->h'.get? b=A? u):Inv X Z Y H {s with heap:=h',toks:=t'}:=I.un (Un.kept k) (I.hok.kept k)
theorem Inv.laid(I:Inv X Z Y H s)(k:∀b u,s.1.get? b=A? u->h'.get? b=A? u)(hp:s.1.1.size<=a)(new:ObjOk X.prog X.w (upd H a o) h' a o) :
 Inv X Z Y (upd H a o) {s with heap:=h',toks:=t'}:=I.un (Un.laid k hp (I.hok.fresh hp)) (I.hok.laid k hp new)
theorem Inv.write{x e:WS}(I:Inv X Z Y H s)(mu:Mut (H x))(he:e=x\/H e=A? (.own x))(k:∀b u,b≠e->s.1.get? b=A? u->h'.get? b=A? u)(HP:∃u,h'.get? e=A? u)
 (new:ObjOk X.prog X.w (upd H x o) h' x o):Inv X Z Y (upd H x o) {s with heap:=h',toks:=t'}:=I.un (Un.write mu he k HP) (I.hok.write mu he k HP new)
theorem Inv.weak{Aa:List (Option V)}(I:Inv X Z Y H s)(hl:Aa.length=Y.length)(w:∀(i:Nat)v,Aa[i]?=A? (A? v)->Y[i]?=A? (A? v)):Inv X Z Aa H s :=
 ⟨I.ok,I.os,I.bare,I.base,let⟨m,hn,Gy⟩:=I.loc;⟨m,hn,λi x v e1 e2 e3=>Gy i x v e1 (w i v e2) e3⟩,I.cell,I.free,I.freeC,I.pin,I.hok,hl.trans I.len⟩
theorem Inv.pins_of{FP:List (WS×Zc)}(I:Inv X Z Y H s)(h:∀p∈FP,s.1.get? p.1=A? p.2/\H p.1=B?/\p.1≠X.env.locals/\p.1∉X.fs/\∀v,p.2.data≠.cell v):Inv X FP Y H s :=
 ⟨I.ok,I.os,I.bare,I.base,I.loc,I.cell,I.free,I.freeC,λp hp=>(Xz.mp hp).elim (λz=>I.pin p (XJ _ z)) (h p),I.hok,I.len⟩
theorem pW(hN:N.Nodup)(a:N[i]?=A? x)(b:N[j]?=A? x):i=j:=by
 obtain⟨h1,e1⟩:=YF.mp a;obtain⟨h2,e2⟩:=YF.mp b;exact(List.getElem_inj hN).mp (e1.trans e2.symm)
theorem mK{M:Model}{Q:Unit->WY->Prop}(I:Inv X Z Y H s)(hN:X.N.Nodup)(hi:X.N[i]?=A? x)(hx:Loc X.env.scope x)(r:RelV v u)
 (h:∀s',Inv X Z (Y.set i (A? v)) H s'->(∃a,YD a s.1 s'.1/\(a=X.env.locals\/X.env.cells.lookup x=A? a))->Q () s') (hf:X.fn x=C?\/X.env.scope.names.lookup x=A? .local:=by first|exact .inl rfl|exact .inr rfl|assumption):W9 M A (storeName X.env x u) Q E s:=by
 obtain⟨m,hn,hl⟩:=id I.loc;have MD:(X.env.scope.kind == .class ||(X.env.scope.kind == .module && X.env.locals != X.env.globals))=false:=by rw[I.ok.kind];rfl
 have IF:i<Y.length:=by rw[I.len];exact(glE hi)
 have cne:=I.cne
 have tracked:∀{a:WS}{h':Yd},(∃o,s.1.get? a=A? o/\H a=B?)->YD a s.1 h'->HOk X.prog X.w H h':=λ{a h'}ha hs b ob e=>by
  obtain⟨_,_,Cj⟩:=ha;refine(I.hok b ob e).stay (λc w' hc q=>(hs.2 c ?_).trans q) (λ_ q=>q) λ_ _ q=>q;rintro rfl;rcases hc with rfl|hc
  .rw[Cj]at e;cases e
  .rw[Cj]at hc;cases hc
 rcases hx with hk|hk
 .refine wpAny_storeName_local hk hn (λh' Ss hs=>?_) MD;obtain⟨oL,_,_,Su,_⟩:=id hn;refine h _ ⟨I.ok,I.os,I.bare,⟨λb o e n hb hx=>?_,λb o e n hb hx=>?_,I.base.free,λb o e hx=>?_,I.base.tups,I.base.frzs,I.base.tbls⟩,⟨_,Ss,λj y v' e1 e2 e3=>?_⟩,λy c e=>?_,I.free,I.freeC,λp hp=>?_,tracked ⟨oL,Su,I.free⟩ hs,by simpa using I.len⟩ ⟨_,hs,.inl rfl⟩
  .exact(hs.2 b (XA (XM (Xa e) I.ok.above))).trans (I.base.keep b o e n hb hx)
  .obtain⟨sl,e1⟩:=I.base.slot b o e n hb hx;exact⟨sl,(hs.2 b (XA (XM (Xa e) I.ok.above))).trans e1⟩
  .obtain⟨o',e1⟩:=I.base.there b o e hx;exact⟨o',(hs.2 b (XA (XM (Xa e) I.ok.above))).trans e1⟩
  .by_cases hj:j=i
   .subst hj;rw[hi]at e1;cases e1;rw[List.getElem?_set_self IF]at e2;cases e2;exact⟨u,r,.inl ⟨hk,by simp⟩⟩
   .rw[List.getElem?_set_ne (YT hj)]at e2;obtain⟨u',r',q⟩:=hl j y v' e1 e2 e3;refine⟨u',r',?_⟩;rcases q with⟨k,e⟩|⟨k,c,e,z⟩
    .refine .inl ⟨k,?_⟩;have:y≠x:=λe=>hj (pW hN e1 (e ▸ hi));simp[this,e]
    .exact .inr ⟨k,c,e,z.sameBut hs (cne y c e)⟩
  .obtain⟨w',z⟩:=I.cell y c e;exact⟨w',z.sameBut hs (cne y c e)⟩
  .obtain⟨e,n,ne,nf,d⟩:=I.pin p hp;exact⟨(hs.2 p.1 ne).trans e,n,ne,nf,d⟩
 .have ME:X.fn x=true:=by
   rcases hf with z|z
   .exact z
   .rw[z]at hk;cases hk
  obtain⟨c,hc⟩:=I.ok.has x (.inl hk);obtain⟨w',z⟩:=I.cell x c hc;refine wpAny_storeName_cell I.ok.kind hk hc z (λh' AN hs=>?_);obtain⟨oc,Qg,MF⟩:=id z;refine h {s with heap:=h'} ⟨I.ok,I.os,I.bare,⟨λb o e n hb hx=>?_,λb o e n hb hx=>?_,I.base.free,λb o e hx=>?_,I.base.tups,I.base.frzs,I.base.tbls⟩,⟨m,hn.sameBut hs (YT (cne x c hc)),λj y v' e1 e2 e3=>?_⟩,λy c' e=>?_,I.free,I.freeC,λp hp=>?_,tracked ⟨oc,Qg,I.freeC x c hc⟩ hs,by simpa using I.len⟩ ⟨c,hs,.inr hc⟩
  .exact(hs.2 b (XA (XM (Xa e) (I.ok.cab x c ME hc)))).trans (I.base.keep b o e n hb hx)
  .obtain⟨sl,e1⟩:=I.base.slot b o e n hb hx;exact⟨sl,(hs.2 b (XA (XM (Xa e) (I.ok.cab x c ME hc)))).trans e1⟩
  .obtain⟨o',e1⟩:=I.base.there b o e hx;exact⟨o',(hs.2 b (XA (XM (Xa e) (I.ok.cab x c ME hc)))).trans e1⟩
  .by_cases hj:j=i
   .subst hj;rw[hi]at e1;cases e1;rw[List.getElem?_set_self IF]at e2;cases e2;exact⟨u,r,.inr ⟨.inl hk,c,hc,AN⟩⟩
   .rw[List.getElem?_set_ne (YT hj)]at e2;obtain⟨u',r',q⟩:=hl j y v' e1 e2 e3;refine⟨u',r',?_⟩;rcases q with q|⟨k,c',e,z'⟩
    .exact .inl q
    .refine .inr ⟨k,c',e,z'.sameBut hs ?_⟩;rintro rfl;exact hj (pW hN e1 (I.ok.inj _ _ _ e hc ▸ hi))
  .by_cases CV:c'=c
   .subst CV;exact⟨_,AN⟩
   .obtain⟨w2,z2⟩:=I.cell y c' e;exact⟨w2,z2.sameBut hs CV⟩
  .obtain⟨e,n,ne,nf,d⟩:=I.pin p hp;refine⟨(hs.2 p.1 ?_).trans e,n,ne,nf,d⟩;intro q;rw[q,Qg]at e;have q':oc=p.2:=Xp e;exact d w' (by rw[<-q'];exact MF)
theorem gy{M:Model}{Q:Unit->WY->Prop}(I:Inv X Z Y H s)(hN:X.N.Nodup)(hi:X.N[i]?=A? x)(hx:Loc X.env.scope x)(r:RelV v u)
 (h:∀s',Inv X Z (Y.set i (A? v)) H s'->Q () s') (hf:X.fn x=C?\/X.env.scope.names.lookup x=A? .local:=by first|exact .inl rfl|exact .inr rfl|assumption):W9 M A (storeName X.env x u) Q E s :=
 mK I hN hi hx r (λs' I' _=>h s' I') hf
theorem Inv.call'{s':WY}(I:Inv X Z Y H s)(ho:s'.os=s.os)(u:Un (frs X.stack) ch H H' s.1 s'.1)(hok:HOk X.prog X.w H' s'.1)(hg:AllBare s'.gens)
 (EH:∀b∈ch,(b∈X.ex\/X.s₀.heap.1.size<=b)/\b≠X.env.locals/\(∀x c,X.env.cells.lookup x=A? c->c≠b)/\∀p∈X.pn++Z,p.1≠b):Inv X Z Y H' s':=by
 obtain⟨h',g',d',t',o'⟩:=s';have e:o'=s.os:=ho;subst e;exact I.call (g':=g') (t':=t') (d':=d') u hok hg EH
end
abbrev XK:=WU->Option WS->Hp->Prop
abbrev St:=List (Option V)
abbrev VK:=V->Hp->Prop
abbrev TE:=St->Hp->VK->Prop
abbrev TT:=St->Hp->(Bool->Hp->Prop)->Prop
abbrev TA:=St->Hp->(List V->Hp->Prop)->Prop
structure Ends where
 nx:St->Hp->Prop
 rt:VK
 bk:St->Hp->Prop:=λ_ _=>False
 ct:St->Hp->Prop:=λ_ _=>False
abbrev TS:=Ends->St->Hp->Prop
def EP(X:Cx)(Z:List (WS×Zc))(Y:St)(Q:VK)(u:WU)(s':WY):Prop:=∃v H',Inv X Z Y H' s'/\RelV v u/\Q v H'
def TP(X:Cx)(Z:List (WS×Zc))(Y:St)(Q:Bool->Hp->Prop)(b:Bool)(s':WY):Prop:=∃H',Inv X Z Y H' s'/\Q b H'
def AP(X:Cx)(Z:List (WS×Zc))(Y:St)(Q:List V->Hp->Prop)(us:List WU)(s':WY):Prop:=∃vs H',Inv X Z Y H' s'/\Vals vs us/\Q vs H'
def SP(X:Cx)(Z:List (WS×Zc))(D:Ends)(f:Flow)(s':WY):Prop :=
 match f with
 |.next=>∃Aa H',Inv X Z Aa H' s'/\D.nx Aa H'
 |.brk=>∃Aa H',Inv X Z Aa H' s'/\D.bk Aa H'
 |.cont=>∃Aa H',Inv X Z Aa H' s'/\D.ct Aa H'
 |.ret u=>∃v Aa H',Inv X Z Aa H' s'/\RelV v u/\D.rt v H'
def PE(X:Cx)(e:X6)(t:TE):Prop :=
 ∀(Z:List (WS×Zc))(s:WY)(Y:St)(H:Hp)(Q:VK),Inv X Z Y H s->t Y H Q->W9 (Xv X.prog X.w) X.A (Y4 e X.env) (EP X Z Y Q) X.xe s
def PT(X:Cx)(e:X6)(t:TT):Prop :=
 ∀(Z:List (WS×Zc))(s:WY)(Y:St)(H:Hp)(Q:Bool->Hp->Prop),Inv X Z Y H s->t Y H Q->W9 (Xv X.prog X.w) X.A (isTrue e X.env (Y4 e X.env)) (TP X Z Y Q) X.xe s
def PW(X:Cx)(e:X6)(t:TT):Prop :=
 ∀(whole:Sem WU)(Z:List (WS×Zc))(s:WY)(Y:St)(H:Hp)(Q:Bool->Hp->Prop),Inv X Z Y H s->t Y H Q->W9 (Xv X.prog X.w) X.A (isTrue e X.env whole) (TP X Z Y Q) X.xe s
theorem PW.pt{X:Cx}{t:TT}(h:PW X e t):PT X e t:=h _
def PA(X:Cx)(es:List X6)(t:TA):Prop :=
 ∀(pos:Z4)(Z:List (WS×Zc))(s:WY)(Y:St)(H:Hp)(Q:List V->Hp->Prop),Inv X Z Y H s->t Y H Q->W9 (Xv X.prog X.w) X.A (spliced (Z2 pos (XH es X.env))) (AP X Z Y Q) X.xe s
def PS(X:Cx)(st:Stmt)(t:TS):Prop :=
 ∀(Z:List (WS×Zc))(s:WY)(Y:St)(H:Hp)(D:Ends),Inv X Z Y H s->t D Y H->W9 (Xv X.prog X.w) X.A (exec st X.env) (SP X Z D) X.xe s
def PSs(X:Cx)(st:List Stmt)(t:TS):Prop :=
 ∀(Z:List (WS×Zc))(s:WY)(Y:St)(H:Hp)(D:Ends),Inv X Z Y H s->t D Y H->W9 (Xv X.prog X.w) X.A (execs st X.env) (SP X Z D) X.xe s
theorem thn{t:Sem α}{Q Q':α->WY->Prop}{M:Model}(h:W9 M A t Q E s)(hQ:∀a s,Q a s->Q' a s):W9 M A t Q' E s:=Y9 h hQ λ_ _ x=>x
end L2
variable{tb:L2.TS}{Y:L2.St}{D:L2.Ends}{te tl:L2.TE}{tt:L2.TT}
namespace L2
open PySem PySem.Spec PyProof.Rows
section
variable{X:Cx}
inductive zw(i:Nat)(Y:St)(H:Hp)(Q:VK):Prop
 |mk (v:_) (CK:Y[i]?=A? (A? v)) (CL:Q v H):zw i Y H Q
def bh(i:Nat):TE:=zw i
def tC(v:V):TE:=λ_ H Q=>Q v H
theorem xk(hN:X.N[i]?=A? x)(hv:Vis X.env.scope x)(hd:(x == ("__debug__":Xk))=false:=by decide)(BX:(x == ("__classdict__":Xk))=false:=by decide):PE X (.Name x pos) (bh i):=by
 intro Z s Y H Q I h;obtain⟨v,e,h⟩:=h;obtain⟨m,hn,hl⟩:=I.loc;obtain⟨u,r,l⟩:=hl i x v hN e hv;have fin:EP X Z Y Q u s:=⟨v,H,I,r,h⟩;rcases l with⟨hk,hm⟩|⟨hk,c,hc,Bj⟩
 .exact wpAny_Name (wpAny_loadName_local I.ok.kind hk hn hm fin) hd
 .rcases hk with hk|hk
  .exact wpAny_Name (wpAny_loadName_cell I.ok.kind hk hc Bj fin) hd
  .exact wpAny_Name (wpAny_loadName_free I.ok.kind hk hc Bj fin BX) hd
theorem ai{i j pos}:PE X (.Constant (.int i) j pos) (tC (.int i)):=λ_ _ _ H _ I h=>wpAny_Constant_int ⟨.int i,H,I.tok _,⟨_,rfl⟩,h⟩
theorem v7{b j pos}:PE X (.Constant (.bool b) j pos) (tC (.bl b)):=λ_ _ _ H _ I h=>Constant_bool ⟨.bl b,H,I,rfl,h⟩
theorem g8{x j pos}:PE X (.Constant (.str x) j pos) (tC (.str x)):=λ_ _ _ H _ I h=>Calls.Constant_str ⟨.str x,H,I.tok _,⟨_,rfl⟩,h⟩
def Gl(X:Cx)(x:Xk):Prop:=X.env.kindOf x=A? .globalImplicit
theorem ky(I:Inv X Z Y H s)(hg:Gl X x)(hm:X.mg x=A? u)(h:Q u s)
 (hd:(x == ("__debug__":Xk))=false:=by decide):W9 (Xv X.prog X.w) X.A (Y4 (.Name x pos) X.env) Q E s :=
 Calls.Name_function_global I.ok.kind hg (Calls.loadGlobal_global (by rw[I.ok.glob];exact I.mod.glob.keeps I.bk) hm h) hd
theorem db(I:Inv X Z Y H s)(hg:Gl X x)(hm:X.mg x=B?)(hv:bootBuiltins x=A? u)(h:Q u s)
 (hn:x≠"__name__":=by decide) (hd:(x == ("__debug__":Xk))=false:=by decide):W9 (Xv X.prog X.w) X.A (Y4 (.Name x pos) X.env) Q E s:=by
 obtain⟨mb,h1,h2⟩:=I.mod.blt;exact Calls.Name_function_global I.ok.kind hg (Calls.loadGlobal_builtin (by rw[I.ok.glob];exact I.mod.glob.keeps I.bk) hm (by rw[I.ok.blt];exact h1.keeps I.bk) ((h2 x hn).trans hv) h) hd
theorem cy(hg:Gl X x)(hm:X.mg x=A? u)(r:RelV v u)(hd:(x == ("__debug__":Xk))=false:=by decide):PE X (.Name x pos) (tC v) :=
 λ_ _ _ H _ I h=>ky I hg hm ⟨v,H,I,r,h⟩ hd
theorem sY(hg:Gl X x)(hm:X.mg x=B?)(hv:bootBuiltins x=A? u)(r:RelV v u)(hn:x≠"__name__":=by decide)(hd:(x == ("__debug__":Xk))=false:=by decide):PE X (.Name x pos) (tC v) :=
 λ_ _ _ H _ I h=>db I hg hm hv ⟨v,H,I,r,h⟩ hn hd
variable{a b:X6}{ta tb:TE}
def PC(X:Cx)(op:CmpOp)(a b:X6)(t:TE):Prop :=
 ∀(Z:List (WS×Zc))(s:WY)(Y:St)(H:Hp)(Q:VK),Inv X Z Y H s->t Y H Q ->
   W9 (Xv X.prog X.w) X.A (Y4 a X.env) (λv Ab=>W9 (Xv X.prog X.w) X.A (Y4 b X.env) (λu AG=>W9 (Xv X.prog X.w) X.A (compareOp op v u) (EP X Z Y Q) X.xe AG) X.xe Ab) X.xe s
def tB(t:TE):TT:=λY H Q=>t Y H λx H1=>∃c,x=.bl c/\Q c H1
theorem sh{t:TE}(h:PC X op a b t)(h1:behindInMarks op b=false:=by first|exact IG _ (by decide) (by decide)|rfl):PT X (.Compare a [op] [b] pos) (tB t):=by
 intro Z s Y H Q I hw;refine wpAny_isTrue_Compare1 (thn (h Z s Y H _ I hw) λv s1 h1=>thn h1 λu s2 h2=>thn h2 λc s3⟨x,H1,I1,r1,q1⟩=>?_) h1;obtain⟨d,rfl,q⟩:=q1;cases r1;exact wpAny_truthy_bool ⟨H1,I1,q⟩
variable{tA Lw:TT}{rest:List X6}
def abB(t u:TT):TT:=λY H Q=>t Y H λc H1=>if c=C? then u Y H1 Q else Q CU H1
def tOr(t u:TT):TT:=λY H Q=>t Y H λc H1=>if c=C? then Q C? H1 else u Y H1 Q
def abC(t:TT):TT:=λY H Q=>t Y H λc H1=>Q (!c) H1
theorem yh(ha:PT X a tA):PW X (.BoolOp .And [a] pos) tA:=by
 intro wh Z s Y H Q I h;refine isTrue_and (thn (ha Z s Y H Q I h) λc s1 e=>?_);cases c with
 |true=>exact isTrue_and_nil e
 |false=>exact e
theorem oK(ha:PT X a tA):PW X (.BoolOp .Or [a] pos) tA:=by
 intro wh Z s Y H Q I h;refine isTrue_or (thn (ha Z s Y H Q I h) λc s1 e=>?_);cases c with
 |false=>exact isTrue_or_nil e
 |true=>exact e
theorem aap(ha:PT X a tA)(hb:PW X (.BoolOp .And (b::rest) pos) Lw):PW X (.BoolOp .And (a::b::rest) pos) (abB tA Lw):=by
 intro wh Z s Y H Q I h;refine isTrue_and (thn (ha Z s Y H _ I h) λc s1⟨H1,I1,q1⟩=>?_);cases c with
 |true=>exact hb wh Z s1 Y H1 Q I1 q1
 |false=>exact⟨H1,I1,q1⟩
theorem tH(ha:PT X a tA)(hb:PW X (.BoolOp .Or (b::rest) pos) Lw):PW X (.BoolOp .Or (a::b::rest) pos) (tOr tA Lw):=by
 intro wh Z s Y H Q I h;refine isTrue_or (thn (ha Z s Y H _ I h) λc s1⟨H1,I1,q1⟩=>?_);cases c with
 |true=>exact⟨H1,I1,q1⟩
 |false=>exact hb wh Z s1 Y H1 Q I1 q1
theorem sD(ha:PT X a tA):PT X (.UnaryOp .Not a pos) (abC tA):=by
 intro Z s Y H Q I h;exact isTrue_not (ha Z s Y H (λc H1=>Q (!c) H1) I h)
def aaC(ta tb:TE):TE:=λY H Q=>ta Y H λx H1=>∃c,x=.bl c/\if c=C? then tb Y H1 Q else Q (.bl CU) H1
def abc(ta:TE):TE:=λY H Q=>ta Y H λx H1=>∃c,x=.bl c/\Q (.bl (!c)) H1
theorem jr{op}{t:TE}(h:PE X a t):PE X (.BoolOp op [a] pos) t:=λZ s Y H Q I hw=>BoolOp_one (h Z s Y H Q I hw)
theorem gA(ha:PE X a ta)(hb:PE X (.BoolOp .And (b::rest) pos) tb):PE X (.BoolOp .And (a::b::rest) pos) (aaC ta tb):=by
 intro Z s Y H Q I h;refine BoolOp_and (thn (ha Z s Y H _ I h) λv s1⟨x,H1,I1,r1,q1⟩=>?_);obtain⟨c,rfl,q1⟩:=q1;cases r1;refine wpAny_truthy_bool ?_;cases c with
 |true=>exact hb Z s1 Y H1 Q I1 q1
 |false=>exact⟨.bl CU,H1,I1,D?,q1⟩
theorem sk(ha:PE X a ta):PE X (.UnaryOp .Not a pos) (abc ta):=by
 intro Z s Y H Q I h;refine UnaryOp_ (thn (ha Z s Y H _ I h) λv s1⟨x,H1,I1,r1,q1⟩=>?_);obtain⟨c,rfl,q1⟩:=q1;cases r1;exact not_of (wpAny_truthy_bool ⟨.bl (!c),H1,I1,rfl,q1⟩)
end
def SqL(K:WQ)(H:Hp)(a:WS)(xs:List V):Prop :=
 Rd H a (.lst xs) \/
  ∃(o:Zc)(its:Array WU)(n:Nat),K.lookup a=A? o/\o.cls=.type "list"/\o.dict=B?/\o.data=.seq its n/\its.size<=Xe/\Vals xs its.toList
def SqT(K:WQ)(H:Hp)(a:WS)(xs:List V):Prop :=
 Rd H a (.tup xs) \/
  ∃(o:Zc)(its:Array WU)(n:Nat),K.lookup a=A? o/\o.cls=.type "tuple"/\o.data=.seq its n/\its.size<=Xe/\Vals xs its.toList
def abL:WU->Option V
 |.none=>A? .non
 |.bool b=>A? (.bl b)
 |.int i _=>A? (.int i)
 |.str x _=>A? (.str x)
 |.bytes b _=>A? (.byt b)
 |.float b _=>A? (.flt b)
 |.ref a=>A? (.ref a)
 |.type n=>A? (.ty n)
 |_=>B?
theorem RelV.abs{x:V}(r:RelV x u):abL u=A? x:=by
 cases x with
 |non=>cases r;rfl
 |bl _=>cases r;rfl
 |int _=>obtain⟨t,rfl⟩:=r;rfl
 |str _=>obtain⟨t,rfl⟩:=r;rfl
 |byt _=>obtain⟨t,rfl⟩:=r;rfl
 |flt _=>obtain⟨t,rfl⟩:=r;rfl
 |ref _=>cases r;rfl
 |ty _=>cases r;rfl
theorem RelV.inj{x:V}(r:RelV x u)(q:RelV y u):x=y:=Xp (r.abs.symm.trans q.abs)
theorem Vals.inj:∀{xs ys:List V}{us:List WU},Vals xs us->Vals ys us->xs=ys
 |_,_,_,.nil,.nil=>rfl
 |_,_,_,.cons r t,.cons r' t'=>by rw[r.inj r',Vals.inj t t']
section
variable{X:Cx}{ys:List V}
theorem SqL.of(h:H a=A? (.lst xs)):SqL K H a xs:=.inl (.inl h)
theorem SqT.of(h:H a=A? (.tup xs)):SqT K H a xs:=.inl (.inl h)
theorem Inv.list(I:Inv X Z Y H s)(h:SqL X.K H a xs):∃its:List WU,Vals xs its/\PlainL s.1 a its.toArray/\xs.length<=Xe:=by
 rcases h with h|⟨o,its,n,hk,hc,hd,hs,hz,r⟩
 .obtain⟨z,its,n,r,e⟩:=h.ok I.hok;exact⟨its,r,⟨_,n,e,D?,D?,D?⟩,z⟩
 .refine⟨its.toList,r,⟨o,n,I.kIn a o hk,hc,hd,by simpa using hs⟩,?_⟩;have e:=r.length;simp only[XR]at e;lia
theorem Inv.tuple(I:Inv X Z Y H s)(h:SqT X.K H a xs):∃its:List WU,Vals xs its/\IsTup s.1 a its.toArray/\xs.length<=Xe:=by
 rcases h with h|⟨o,its,n,hk,hc,hs,hz,r⟩
 .obtain⟨z,its,n,r,p⟩:=h.ok I.hok;exact⟨its,r,⟨_,p,D?,n,D?⟩,z⟩
 .refine⟨its.toList,r,⟨o,I.kIn a o hk,hc,n,by simpa using hs⟩,?_⟩;have e:=r.length;simp only[XR]at e;lia
theorem Inv.list_inj(I:Inv X Z Y H s)(h:SqL X.K H a xs)(h':SqL X.K H a ys):xs=ys:=by
 obtain⟨its,r,⟨o,n,e,_,_,d⟩,_⟩:=I.list h;obtain⟨its',r',⟨o',n',e',_,_,d'⟩,_⟩:=I.list h';rw[e]at e';cases e';rw[d]at d';injection d' with d1 _;have:its=its':=by simpa using h! Array.toList d1
 subst this;exact r.inj r'
theorem Inv.tuple_inj(I:Inv X Z Y H s)(h:SqT X.K H a xs)(h':SqT X.K H a ys):xs=ys:=by
 obtain⟨its,r,⟨o,e,_,n,d⟩,_⟩:=I.tuple h;obtain⟨its',r',⟨o',e',_,n',d'⟩,_⟩:=I.tuple h';rw[e]at e';cases e';rw[d]at d';injection d' with d1 _;have:its=its':=by simpa using h! Array.toList d1
 subst this;exact r.inj r'
end
abbrev Cx.wish(X:Cx)(E:WU->WY->Prop):Cx:={X with xe:=E}
abbrev Cx.nox(X:Cx):Cx:=X.wish λ_ _=>False
theorem Cx.Ok.wish{X:Cx}(ok:X.Ok)(E:WU->WY->Prop):(X.wish E).Ok :=
 ⟨ok.mod,ok.kind,ok.glob,ok.blt,ok.above,ok.inj,ok.has,ok.cab,ok.hd,ok.frames,ok.stk,ok.exf,ok.bs,ok.bsz,ok.noex,ok.exfs,ok.funs,ok.frf⟩
theorem Cx.Ok.unwish{X:Cx}(ok:(X.wish E).Ok):X.Ok :=
 ⟨ok.mod,ok.kind,ok.glob,ok.blt,ok.above,ok.inj,ok.has,ok.cab,ok.hd,ok.frames,ok.stk,ok.exf,ok.bs,ok.bsz,ok.noex,ok.exfs,ok.funs,ok.frf⟩
section
variable{X:Cx}
theorem Inv.wish(I:Inv X Z Y H s)(E:WU->WY->Prop):Inv (X.wish E) Z Y H s:=⟨I.ok.wish E,I.os,I.bare,I.base,I.loc,I.cell,I.free,I.freeC,I.pin,I.hok,I.len⟩
theorem Inv.unwish(I:Inv (X.wish E) Z Y H s):Inv X Z Y H s:=⟨I.ok.unwish,I.os,I.bare,I.base,I.loc,I.cell,I.free,I.freeC,I.pin,I.hok,I.len⟩
theorem SP.unwish{f:Flow}{s':WY}(h:SP (X.wish E) Z D f s'):SP X Z D f s':=by
 cases f with
 |next=>obtain⟨Aa,H',I,q⟩:=h;exact⟨Aa,H',I.unwish,q⟩
 |brk=>obtain⟨Aa,H',I,q⟩:=h;exact⟨Aa,H',I.unwish,q⟩
 |cont=>obtain⟨Aa,H',I,q⟩:=h;exact⟨Aa,H',I.unwish,q⟩
 |ret u=>obtain⟨v,Aa,H',I,r,q⟩:=h;exact⟨v,Aa,H',I.unwish,r,q⟩
theorem PSs.nox{st:List Stmt}{t:TS}(h:PSs X.nox st t):PSs X st t:=λZ s Y H D I hw =>
 Y9 (h Z s Y H D (I.wish _) hw) (λ_ _ q=>q.unwish) λ_ _ z=>YC z
end
section
variable{X:Cx}{st:Stmt}{rest:List Stmt}{t u:TS}
def yY:TS:=λD Y H=>D.nx Y H
def aa8(t u:TS):TS:=λD Y H=>t {D with nx:=u D} Y H
theorem bU:PSs X [] yY:=λ_ _ Y H _ I h=>wpAny_execs_nil ⟨Y,H,I,h⟩
theorem ad(h1:PS X st t)(h2:PSs X rest u):PSs X (st::rest) (aa8 t u):=by
 intro Z s Y H D I h;refine wpAny_execs_cons (thn (h1 Z s Y H {D with nx:=u D} I h) λf s1 q=>?_);cases f with
 | next =>
   obtain⟨Aa,H',I',q⟩:=q;exact h2 Z s1 Aa H' D I' q
 |ret v=>exact q
 |brk=>exact q
 |cont=>exact q
theorem af(h1:PS X st t):PSs X [st] t:=by
 intro Z s Y H D I h;refine wpAny_execs_cons (thn (h1 Z s Y H D I h) λf s1 q=>?_);cases f with
 |next=>exact wpAny_execs_nil q
 |ret v=>exact q
 |brk=>exact q
 |cont=>exact q
theorem Inv.quiet(I:Inv X Z Y H s):interactive X.env=false:=by simp[interactive,I.ok.kind]
def aaW(te:TE):TS:=λD Y H=>te Y H λ_ H1=>D.nx Y H1
theorem aQ(he:PE X e te)(hs:swapsWith e B? pos.line X.env=pure false:=by rfl):PS X (.Expr e pos) (aaW te):=by
 intro Z s Y H D I h;exact wpAny_Expr_any (thn (he Z s Y H _ I h) λv s1⟨x,H1,I1,r1,q1⟩=>⟨Y,H1,I1,q1⟩) I.quiet hs
def abD(te:TE):TS:=λD Y H=>te Y H D.rt
theorem ax(he:PE X e te):PS X (.Return (A? e) pos) (abD te):=by
 intro Z s Y H D I h;exact wpAny_Return_some (thn (he Z s Y H _ I h) λv s1⟨x,H1,I1,r1,q1⟩=>⟨x,Y,H1,I1,r1,q1⟩)
def aaN(c:TT)(t u:TS):TS:=λD Y H=>c Y H λb H1=>if b=C? then t D Y H1 else u D Y H1
theorem cC{c:X6}{a b:List Stmt}{tc:TT}(hc:PT X c tc)(ha:PSs X a t)(hb:PSs X b u):PS X (.If c a b pos) (aaN tc t u):=by
 intro Z s Y H D I h;refine wpAny_If (thn (hc Z s Y H _ I h) λd s1⟨H1,I1,q1⟩=>?_);cases d with
 |true=>exact ha Z s1 Y H1 D I1 q1
 |false=>exact hb Z s1 Y H1 D I1 q1
def zO:TS:=λ_ _ _=>False
theorem lR:PS X st zO:=λ_ _ _ _ _ _ h=>h.elim
end
abbrev TG:=V->St->Hp->(St->Hp->Prop)->Prop
abbrev TGs:=List V->St->Hp->(St->Hp->Prop)->Prop
def PG(X:Cx)(target:X6)(t:TG):Prop :=
 ∀(Z:List (WS×Zc))(s:WY)(Y:St)(H:Hp)(v:V)(u:WU)(Q:St->Hp->Prop),Inv X Z Y H s->RelV v u->t v Y H Q ->
   W9 (Xv X.prog X.w) X.A (assign target X.env u) (λ_ s'=>∃Aa H',Inv X Z Aa H' s'/\Q Aa H') X.xe s
def PGs(X:Cx)(ts:List X6)(t:TGs):Prop :=
 ∀(Z:List (WS×Zc))(s:WY)(Y:St)(H:Hp)(vs:List V)(us:List WU)(Q:St->Hp->Prop),Inv X Z Y H s->Vals vs us->t vs Y H Q ->
   W9 (Xv X.prog X.w) X.A (assignInOrder ((assignEach ts X.env).map (·.2)) us) (λ_ s'=>∃Aa H',Inv X Z Aa H' s'/\Q Aa H') X.xe s
abbrev aaq:=V->V->V->Hp->(Hp->Prop)->Prop
def aaD(X:Cx)(t:aaq):Prop :=
 ∀(Z:List (WS×Zc))(s:WY)(Y:St)(H:Hp)(o i v:V)(ov iv u:WU)(Q:Hp->Prop),Inv X Z Y H s->RelV o ov->RelV i iv->RelV v u->t o i v H Q ->
   W9 (Xv X.prog X.w) X.A (setItem ov iv u) (λ_ s'=>∃H',Inv X Z Y H' s'/\Q H') X.xe s
abbrev TIp:=V->V->Hp->VK->Prop
def PIp(X:Cx)(op:Operator)(t:TIp):Prop :=
 ∀(Z:List (WS×Zc))(s:WY)(Y:St)(H:Hp)(x y:V)(v u:WU)(Q:VK),Inv X Z Y H s->RelV x v->RelV y u->t x y H Q ->
   W9 (Xv X.prog X.w) X.A (inplaceOp op v u) (EP X Z Y Q) X.xe s
section
variable{X:Cx}
def av(i:Nat):TG:=λv Y H Q=>Q (Y.set i (A? v)) H
theorem yc(hN:X.N.Nodup)(hi:X.N[i]?=A? x)(hx:Loc X.env.scope x)(hf:X.fn x=C?\/X.env.scope.names.lookup x=A? .local:=by first|exact .inl rfl|exact .inr rfl|assumption):PG X (.Name x pos) (av i):=by
 intro Z s Y H v u Q I r h;exact wpAny_assign_Name (gy I hN hi hx r (λs' I'=>⟨_,H,I',h⟩) hf)
def mF:TGs:=λvs Y H Q=>vs=[]/\Q Y H
def cV(t:TG)(u:TGs):TGs:=λvs Y H Q=>∃v r,vs=v::r/\t v Y H λAa H'=>u r Aa H' Q
theorem aP:PGs X [] mF:=by
 intro Z s Y H vs us Q I r h;obtain⟨e,h⟩:=h;subst e;cases r;exact assignInOrder_nil ⟨Y,H,I,h⟩
theorem aj{es:List X6}{t:TG}{u:TGs}(h1:PG X e t)(h2:PGs X es u)
 (hs:(assignEach (e::es) X.env).map (·.2)=assign e X.env::(assignEach es X.env).map (·.2):=by rfl):PGs X (e::es) (cV t u):=by
 intro Z s Y H vs us Q I r h;obtain⟨v,vr,e1,h⟩:=h;subst e1;cases r with
 | cons r rr =>
   rw[hs];refine assignInOrder_cons (thn (h1 Z s Y H _ _ _ I r h) λ_ s1⟨BP,H1,I1,q1⟩=>?_);exact h2 Z s1 BP H1 _ _ Q I1 rr q1
def mE(K:WQ)(n:Nat)(t:TGs):TG:=λv Y H Q=>∃a xs,v=.ref a/\SqT K H a xs/\xs.length=n/\t xs Y H Q
theorem bi{es:List X6}{k:Nat}{t:TGs}(hc:X.calm=C?)(h:PGs X es t)
 (hn:(assignEach es X.env).length=n:=by rfl) (AW:(assignEach es X.env).findIdx? (·.1)=none:=by rfl):PG X (.Tuple es k pos) (mE X.K n t):=by
 intro Z s Y H v u Q I r hw;obtain⟨a,xs,e1,hq,hl,hw⟩:=hw;subst e1;cases r;obtain⟨its,rv,ht,hz⟩:=I.tuple hq;refine assign_Tuple_tuple (I.ok.hd hc) ht (by simp[hn,<-hl,rv.length]) AW λh' hx=>?_;have I1:Inv X Z Y H {s with heap:=h'}:=I.kept (t':=s.toks) λb o e=>hx b o (XA (Xa e)) e;exact h Z _ Y H xs _ Q I1 (by simpa using rv) hw
def abO(to ti:TE)(t:aaq):TG:=λv Y H Q=>to Y H λo H1=>ti Y H1 λi H2=>t o i v H2 λH3=>Q Y H3
theorem vZ{o i:X6}{to ti:TE}{t:aaq}(ho:PE X o to)(hi:PE X i ti)(hs:aaD X t)
 (ha:∀v,assign (.Subscript o i pos) X.env v=(do
  let ov <-holding [v] (Y4 o X.env)
  let iv <-holding [v,ov] (Y4 i X.env)
  standAt pos
  holding [v,ov,iv] (setItem ov iv v)
  release [v,ov,iv] []):=by intro _;rfl):PG X (.Subscript o i pos) (abO to ti t):=by
 intro Z s Y H v u Q I r h;rw[ha];refine WN (Yv (thn (ho Z s Y H _ I h) λov s1⟨x,H1,I1,r1,q1⟩=>?_));refine WN (Yv (thn (hi Z s1 Y H1 _ I1 q1) λiv s2⟨y,H2,I2,r2,q2⟩=>?_));refine WN (wpAny_standAt (WN (Yv (thn (hs Z s2 Y H2 x y v ov iv u _ I2 r1 r2 r q2) λ_ s3⟨H3,I3,q3⟩=>?_))));exact wpAny_release ⟨Y,H3,I3,q3⟩
def xh(te:TE)(g:TG):TS:=λD Y H=>te Y H λx H1=>g x Y H1 D.nx
theorem eU{g:TG}(he:PE X e te)(hg:PG X tg g)(hs:swapsWithSole [tg] e pos.line X.env=pure false:=by rfl)(hw:swappedStores [tg] e X.env=pure none:=by rfl)
 (h1:(assignEach [tg] X.env).map (·.2)=[assign tg X.env]:=by rfl):PS X (.Assign [tg] e pos) (xh te g):=by
 intro Z s Y H D I h;refine wpAny_Assign_stores (thn (he Z s Y H _ I h) λv s1⟨x,H1,I1,r1,q1⟩=>?_) hs hw;rw[h1];exact thn (hg Z s1 Y H1 x v _ I1 r1 q1) λ_ s2 q=>q
theorem wx(hN:X.N.Nodup)(hi:X.N[i]?=A? x)(hx:Loc X.env.scope x)(he:PE X e te)(hs:swapsWith e (A? (.Name x pos')) pos.line X.env=pure false:=by rfl)(hf:X.fn x=C?\/X.env.scope.names.lookup x=A? .local:=by first|exact .inl rfl|exact .inr rfl|assumption) :
 PS X (.Assign [.Name x pos'] e pos) (xh te (av i)):=by
 intro Z s Y H D I h;refine wpAny_Assign_Name (thn (he Z s Y H _ I h) λv s1⟨y,H1,I1,r1,q1⟩=>?_) hs;exact gy I1 hN hi hx r1 (λs2 I2=>⟨_,H1,I2,q1⟩) hf
def abI(i:Nat)(te:TE)(ti:TIp):TS:=λD Y H=>∃x,Y[i]?=A? (A? x)/\te Y H λy H1=>ti x y H1 λz H2=>D.nx (Y.set i (A? z)) H2
theorem wn{op:Operator}{ti:TIp}(hN:X.N.Nodup)(hi:X.N[i]?=A? x)(hx:Loc X.env.scope x)(he:PE X e te)(ho:PIp X op ti)(hf:X.fn x=C?\/X.env.scope.names.lookup x=A? .local:=by first|exact .inl rfl|exact .inr rfl|assumption) :
 PS X (.AugAssign (.Name x pos') op e pos) (abI i te ti):=by
 intro Z s Y H D I h;obtain⟨v,e1,h⟩:=h;obtain⟨m,hn,hl⟩:=I.loc;have Qh:Vis X.env.scope x:=by rcases hx with k|k;exact .inl k;exact .inr (.inl k)
 obtain⟨u,r,l⟩:=hl i x v hi e1 Qh;refine wpAny_AugAssign_Name ?_
 have go:W9 (Xv X.prog X.w) X.A (Y4 e X.env) (λw AG=>W9 (Xv X.prog X.w) X.A (inplaceOp op u w) (λr BY=>W9 (Xv X.prog X.w) X.A (storeName X.env x r) (λ_=>SP X Z D .next) X.xe BY) X.xe AG) X.xe s:=by
  refine thn (he Z s Y H _ I h) λw s1⟨y,H1,I1,r1,q1⟩=>?_;refine thn (ho Z s1 Y H1 v y u w _ I1 r r1 q1) λz s2⟨zv,H2,I2,r2,q2⟩=>?_;exact gy I2 hN hi hx r2 (λs3 I3=>⟨_,H2,I3,q2⟩) hf
 rcases l with⟨hk,hm⟩|⟨hk,c,hc,Bj⟩
 .exact wpAny_loadName_local I.ok.kind hk hn hm go
 .rcases hk with hk|hk
  .exact wpAny_loadName_cell I.ok.kind hk hc Bj go
  .rcases hx with k|k
   .have:X.env.scope.names.lookup x=A? .free:=hk;rw[k]at this;cases this
   .have:X.env.scope.names.lookup x=A? .free:=hk;rw[k]at this;cases this
def ipI(f:Int->Int->Int):TIp:=λx y H Q=>∃i j,x=.int i/\y=.int j/\Q (.int (f i j)) H
theorem wb:PIp X .Add (ipI λi j=>i+j):=by
 intro Z s Y H x y v u Q I r1 r2 h;obtain⟨i,j,e1,e2,q⟩:=h;subst e1;subst e2;obtain⟨t,rfl⟩:=r1;obtain⟨t',rfl⟩:=r2;exact iadd_int ⟨.int _,H,I.tok _,⟨_,rfl⟩,q⟩
end
section
variable{X:Cx}
def zY(c:TT)(tb:TS):TS:=λD Y H=>∃W:Nat->St->Hp->Prop,(∃m,W m Y H)/\∀m Y H,W m Y H ->
 c Y H λb H1=>if b=C? then∃N:St->Hp->Prop,(∀Aa H',N Aa H'->∃m',m'<m/\W m' Aa H')/\tb {D with nx:=N,ct:=N,bk:=D.nx} Y H1 else D.nx Y H1
theorem d4{c:X6}{tc:TT}(hp:PassesOwn (Xv X.prog X.w) X.A X.env X.xe)(hc:PT X c tc)(hb:PSs X body tb):PS X (.While c body [] pos) (zY tc tb):=by
 intro Z s Y H D I h;obtain⟨W,⟨m0,w0⟩,turn⟩:=h;refine wpAny_While (codeAny_whileLoop (λn s'=>∃Aa H',Inv X Z Aa H' s'/\W n Aa H') ?_ m0 ⟨Y,H,I,w0⟩);rintro n s1 ⟨BP,H1,I1,w1⟩;refine wpAny_passesOwn hp (thn (hc Z s1 BP H1 _ I1 (turn n BP H1 w1)) λb s2⟨H2,I2,q2⟩=>?_);cases b with
 | true =>
   obtain⟨N,hN,q2⟩:=q2;rw[b! rfl];refine wpAny_passesOwn hp (thn (hb Z s2 BP H2 _ I2 q2) λf s3 q3=>?_);cases f with
   | next =>
     obtain⟨D3,H3,I3,n3⟩:=q3;obtain⟨m',hm,w3⟩:=hN D3 H3 n3;exact⟨m',hm,D3,H3,I3,w3⟩
   | cont =>
     obtain⟨D3,H3,I3,n3⟩:=q3;obtain⟨m',hm,w3⟩:=hN D3 H3 n3;exact⟨m',hm,D3,H3,I3,w3⟩
   |brk=>exact q3
   |ret v=>exact q3
 | false =>
   rw[a! W5];exact wpAny_execs_nil ⟨BP,H2,I2,q2⟩
end
structure It where
 go:Nat->Hp->Prop
 yld:Nat->Hp->V->Hp->Prop
 stop:Nat->Hp->Prop
def jg(X:Cx)(Z:List (WS×Zc))(H:Hp)(b:WS):Prop :=
 H b=B?/\b≠X.env.locals/\b∉X.fs/\(b∈X.ex\/X.s₀.heap.1.size<=b)/\(∀x c,X.env.cells.lookup x=A? c->c≠b)/\∀p∈X.pn++Z,p.1≠b
theorem Inv.fpOk{X:Cx}(I:Inv X Z Y H s)(hb:s.1.1.size<=b)(hn:H' b=B?):jg X Z H' b:=by
 refine⟨hn,Nat.ne_of_gt (XM I.lt hb),I.nofs hb,.inr (Xw I.sz hb),λx c e z=>?_,λp hp z=>?_⟩
 .obtain⟨v,q⟩:=I.cell x c e;exact g! (XM q.lt (by rw[z];exact hb)) (Yr _)
 .exact g! (XM (Xa (I.pin p hp).1) (by rw[z];exact hb)) (Yr _)
structure Turn(P:W6)(w:Xo)(K:WQ)(tg:X6)(J:It)(fp:List WS)(it:WS)(tn:Nat->Yd->Prop):Prop where
 mem:it∈fp
 obj:∀i h,tn i h->∀b∈fp,∃o,h.get? b=A? o/\∀v,o.data≠.cell v
 keep:∀i h h',tn i h->(∀b∈fp,∀o,h.get? b=A? o->h'.get? b=A? o)->tn i h'
 item:∀(X:Cx),X.prog=P->X.w=w->X.K=K->X.calm=C?->∀(i:Nat)(Z:List (WS×Zc))(s:WY)(Y:St)(H:Hp)(E:WU->WY->Prop),Inv X Z Y H s->(∀b∈fp,jg X Z H b)->tn i s.1->J.go i H ->
  W9 (Xv P w) X.A (pyNext (.ref it)) (λr s1=>∃u,r=A? u /\
   W9 (Xv P w) X.A (letOwnedTupleGo tg (.ref it) u) (λ_ s2=>∃x H',Inv X Z Y H' s2/\RelV x u/\J.yld i H x H'/\tn (i+1) s2.1/\∀b∈fp,H' b=B?) E s1) E s
 done:∀(X:Cx),X.prog=P->X.w=w->X.K=K->X.calm=C?->∀(i:Nat)(Z:List (WS×Zc))(s:WY)(Y:St)(H:Hp)(E:WU->WY->Prop),Inv X Z Y H s->(∀b∈fp,jg X Z H b)->tn i s.1->J.stop i H ->
  W9 (Xv P w) X.A (pyNext (.ref it)) (λr s1=>r=B?/\Inv X Z Y H s1) E s
 self:∀(A:XI)(i:Nat)(s:WY)(Q:WU->WY->Prop)(E:WU->WY->Prop),tn i s.1->Q (.ref it) s->W9 (Xv P w) A (pyIter (.ref it)) Q E s
abbrev TI:=St->Hp->(It->Hp->Prop)->Prop
def PIE(X:Cx)(Z:List (WS×Zc))(Y:St)(tg:X6)(R:It->Hp->Prop)(Lx:WU)(s2:WY):Prop :=
 ∃(it:WS)(fp:List WS)(tn:Nat->Yd->Prop)(J:It)(H':Hp),Lx=.ref it/\Inv X Z Y H' s2/\Turn X.prog X.w X.K tg J fp it tn/\tn 0 s2.1/\(∀b∈fp,jg X Z H' b)/\R J H'
def PI(X:Cx)(tg iter:X6)(wi:TI):Prop :=
 ∀(Z:List (WS×Zc))(s:WY)(Y:St)(H:Hp)(R:It->Hp->Prop),Inv X Z Y H s->wi Y H R ->
   W9 (Xv X.prog X.w) X.A (Y4 iter X.env) (λv s1=>W9 (Xv X.prog X.w) X.A (pyIter v) (PIE X Z Y tg R) X.xe s1) X.xe s
theorem uz{M:Model}{o:Zc}{n:String}{vs:Array WU}{Q:Unit->WY->Prop}(ho:s.1.get? it=A? o)(hc:o.cls=.type n)(hd:o.data=.fields vs)
 (hn:["enumerate","zip","dict_itemiterator","dict_reverseitemiterator","odict_iterator","itertools.zip_longest","itertools.pairwise"].contains n=CU) (hQ:Q () s):W9 M A (letOwnedTupleGo tg (.ref it) u) Q E s:=by
 unfold letOwnedTupleGo
 cases tg <;> first
  |exact WW hQ
  |(cases u <;> first
   |exact WW hQ
   | (refine WN (wpAny_load ho ?_)
      rw[hc,hd];show W9 M A (if(["enumerate","zip","dict_itemiterator","dict_reverseitemiterator","odict_iterator","itertools.zip_longest","itertools.pairwise"].contains n && vs[0]? == A? (Za _))=C? then _ else _) Q E s;rw[a! (by intro h;rw[hn,Bool.false_and]at h;cases h)];exact WW hQ))
def Itl(K:WQ)(a:WS):It :=
 ⟨λi H=>∃xs x,SqL K H a xs/\xs[i]?=A? x,λi H x H'=>H'=H/\∀xs,SqL K H a xs->xs[i]?=A? x,λi H=>∃xs,SqL K H a xs/\xs.length<=i⟩
def Itt(K:WQ)(a:WS):It :=
 ⟨λi H=>∃xs x,SqT K H a xs/\xs[i]?=A? x,λi H x H'=>H'=H/\∀xs,SqT K H a xs->xs[i]?=A? x,λi H=>∃xs,SqT K H a xs/\xs.length<=i⟩
def Itr(lo:Int)(n:Nat):It:=⟨λi _=>i<n,λi H x H'=>H'=H/\x=.int (lo+i),λi _=>n<=i⟩
theorem nR(a it:WS):Turn P w K tg (Itl K a) [it] it (λi h=>h.IsListIter it a i) where
 mem:=by simp
 obj:=λi h st b hb=>by
  have e:b=it:=by simpa using hb
  subst e;obtain⟨o,e,c,d⟩:=st;exact⟨o,e,λv z=>by rw[d]at z;cases z⟩
 keep:=λi h h' st k=>st.at λo e=>k it (by simp) o e
 item:=by
  intro X hP hw hK hc i Z s Y H E I hf st hg;subst hP hw hK;obtain⟨xs,x,hq,hx⟩:=hg;obtain⟨its,rv,p,hz⟩:=I.list hq;obtain⟨u,hu,ru⟩:=rv.get hx;obtain⟨f0,f1,f2,f3,f4,f5⟩:=hf it (by simp);refine wpAny_pyNext_list_item st p.isList (x:=u) (by simpa using hu) λh' DU sb=>?_;have I1:Inv X Z Y H {s with heap:=h'}:=I.turned (t':=s.toks) (λb o hb e=>(sb.2 b hb).trans e) f0 f1 f3 f4 f5;obtain⟨o,e,c,d⟩:=id DU;exact⟨u,D?,uz (s:={s with heap:=h'}) e c d (by decide) ⟨x,H,I1,ru,⟨D?,λys hy=>by rw[I.list_inj hy hq];exact hx⟩,DU,λb hb=>(hf b hb).1⟩⟩
 done:=by
  intro X hP hw hK hc i Z s Y H E I hf st hg;subst hP hw hK;obtain⟨xs,hq,hx⟩:=hg;obtain⟨its,rv,p,hz⟩:=I.list hq;obtain⟨f0,f1,f2,f3,f4,f5⟩:=hf it (by simp);have hl:=rv.length;exact wpAny_pyNext_list_end (I.ok.hd hc) st p.isList (by simp;lia) λh' eb=>⟨rfl,I.turned (t':=s.toks) (λb o hb e=>eb b o hb e) f0 f1 f3 f4 f5⟩
 self:=λ_ _ _ _ _ st h=>wpAny_pyIter_listiter st h
theorem lj(a it:WS):Turn P w K tg (Itt K a) [it] it (λi h=>h.IsTupleIter it a i) where
 mem:=by simp
 obj:=λi h st b hb=>by
  have e:b=it:=by simpa using hb
  subst e;obtain⟨o,e,c,d⟩:=st;exact⟨o,e,λv z=>by rw[d]at z;cases z⟩
 keep:=λi h h' st k=>st.at λo e=>k it (by simp) o e
 item:=by
  intro X hP hw hK hc i Z s Y H E I hf st hg;subst hP hw hK;obtain⟨xs,x,hq,hx⟩:=hg;obtain⟨its,rv,p,hz⟩:=I.tuple hq;obtain⟨u,hu,ru⟩:=rv.get hx;obtain⟨f0,f1,f2,f3,f4,f5⟩:=hf it (by simp);refine wpAny_pyNext_tuple_item st (show s.1.IsTuple a its.toArray from p) (x:=u) (by simpa using hu) λh' DU sb=>?_;have I1:Inv X Z Y H {s with heap:=h'}:=I.turned (t':=s.toks) (λb o hb e=>(sb.2 b hb).trans e) f0 f1 f3 f4 f5;obtain⟨o,e,c,d⟩:=id DU;exact⟨u,D?,uz (s:={s with heap:=h'}) e c d (by decide) ⟨x,H,I1,ru,⟨D?,λys hy=>by rw[I.tuple_inj hy hq];exact hx⟩,DU,λb hb=>(hf b hb).1⟩⟩
 done:=by
  intro X hP hw hK hc i Z s Y H E I hf st hg;subst hP hw hK;obtain⟨xs,hq,hx⟩:=hg;obtain⟨its,rv,p,hz⟩:=I.tuple hq;obtain⟨f0,f1,f2,f3,f4,f5⟩:=hf it (by simp);have hl:=rv.length;exact wpAny_pyNext_tuple_end (I.ok.hd hc) st (show s.1.IsTuple a its.toArray from p) (by simp;lia) λh' eb=>⟨rfl,I.turned (t':=s.toks) (λb o hb e=>eb b o hb e) f0 f1 f3 f4 f5⟩
 self:=λ_ _ _ _ _ st h=>wpAny_pyIter_tupleiter st h
theorem rm(it:WS)(lo:Int)(n:Nat):Turn P w K tg (Itr lo n) [it] it (λi h=>IsRangeIter h it (lo+(i:Nat) * 1) ((n:Int) - (i:Nat)) 1) where
 mem:=by simp
 obj:=λi h st b hb=>by
  have e:b=it:=by simpa using hb
  subst e
  exact⟨_,st,λv z=>by
   have z':Data.fields _=Data.cell v:=z;cases z'⟩
 keep:=λi h h' st k=>k it (by simp) _ st
 item:=by
  intro X hP hw hK hc i Z s Y H E I hf st hg;subst hP hw hK;obtain⟨f0,f1,f2,f3,f4,f5⟩:=hf it (by simp);have W:=Walks.range (prog:=X.prog) (w:=X.w) (I.ok.hd hc) it lo 1 n;refine W.item i s _ _ hg st λv h' tk hv DU kk=>?_;obtain⟨t,rfl⟩:=hv;have I1:Inv X Z Y H {s with heap:=h',toks:=tk}:=I.turned (λb o hb e=>kk b o (by simpa using hb) e) f0 f1 f3 f4 f5;refine⟨_,D?,uz (s:={s with heap:=h',toks:=tk}) (n:="range_iterator") DU rfl rfl (by decide) ⟨.int (lo+i),H,I1,⟨t,?_⟩,⟨D?,D?⟩,DU,λb hb=>(hf b hb).1⟩⟩;rw[Int.mul_one]
 done:=by
  intro X hP hw hK hc i Z s Y H E I hf st hg;subst hP hw hK;obtain⟨f0,f1,f2,f3,f4,f5⟩:=hf it (by simp);exact wpAny_pyNext_range_end (I.ok.hd hc) st (by have:n<=i:=hg;lia) λh' eb=>⟨rfl,I.turned (t':=s.toks) (λb o hb e=>eb b o hb e) f0 f1 f3 f4 f5⟩
 self:=λ_ _ _ _ _ st h=>wpAny_pyIter_rangeiter st h
end L2
open L2.SqL renaming of->l!
open L2.SqT renaming of->o!
variable{g:L2.TG}{wi:L2.TI}
namespace L2
open PySem PySem.Spec PyProof.Rows
section
variable{X:Cx}
def aa3(K:WQ)(tl:TE):TI:=λY H R=>tl Y H λx H1=>∃a,x=.ref a/\(∃xs,SqL K H1 a xs)/\R (Itl K a) H1
def abr(K:WQ)(tl:TE):TI:=λY H R=>tl Y H λx H1=>∃a,x=.ref a/\(∃xs,SqT K H1 a xs)/\R (Itt K a) H1
theorem cw{l:X6}(hl:PE X l tl):PI X tg l (aa3 X.K tl):=by
 intro Z s Y H R I h;refine thn (hl Z s Y H _ I h) λv s1⟨x,H1,I1,r1,q1⟩=>?_;obtain⟨a,e,⟨xs,hq⟩,q⟩:=q1;subst e;cases r1;obtain⟨its,rv,p,hz⟩:=I1.list hq;refine wpAny_pyIter_list p.isList ?_;refine⟨s1.1.1.size,[s1.1.1.size],_,_,H1,D?,I1.kept (t':=s1.toks) λb o e=>WV _ e,nR a _,⟨_,W3 _ rfl,D?,D?⟩,λb hb=>?_,q⟩;have e:b=s1.1.1.size:=by simpa using hb
 subst e;exact I1.fpOk (WX _) (I1.hok.fresh (WX _))
theorem ij{l:X6}(hl:PE X l tl):PI X tg l (abr X.K tl):=by
 intro Z s Y H R I h;refine thn (hl Z s Y H _ I h) λv s1⟨x,H1,I1,r1,q1⟩=>?_;obtain⟨a,e,⟨xs,hq⟩,q⟩:=q1;subst e;cases r1;obtain⟨its,rv,p,hz⟩:=I1.tuple hq;refine ZR (show s1.1.IsTuple a its.toArray from p) ?_;refine⟨s1.1.1.size,[s1.1.1.size],_,_,H1,D?,I1.kept (t':=s1.toks) λb o e=>WV _ e,lj a _,⟨_,W3 _ rfl,D?,D?⟩,λb hb=>?_,q⟩;have e:b=s1.1.1.size:=by simpa using hb
 subst e;exact I1.fpOk (WX _) (I1.hok.fresh (WX _))
theorem qM{R:It->Hp->Prop}{lo hi:Int}{t u v:Tok}{tk:Nat}(I:Inv X Z Y H s)(h1:-(2 ^ 62)<=lo)(h2:lo<2 ^ 62)(h3:-(2 ^ 62)<=hi)(h4:hi<2 ^ 62)
 (q:R (Itr lo (hi - lo).toNat) H):W9 (Xv X.prog X.w) X.A (pyIter (.ref s.1.1.size)) (PIE X Z Y tg R) E {s with heap:=s.1.push {cls:=.type "range",data:=.fields #[.int lo t,.int hi u,.int 1 v]},toks:=tk}:=by
 refine wpAny_pyIter_range (IsRange.new ..) (small_one h1 h2 h3 h4) ?_;have I1:Inv X Z Y H {s with heap:=s.1.push {cls:=.type "range",data:=.fields #[.int lo t,.int hi u,.int 1 v]},toks:=tk}:=I.kept λb o e=>WV _ e
 refine⟨(s.1.push {cls:=.type "range",data:=.fields #[.int lo t,.int hi u,.int 1 v]}).objs.size,[(s.1.push {cls:=.type "range",data:=.fields #[.int lo t,.int hi u,.int 1 v]}).objs.size],_,_,H,D?,
  I1.kept (t':=tk) λb o e=>WV _ e,rm _ lo (hi - lo).toNat,?_,λb hb=>?_,q⟩
 .have e1:lo+((0:Nat):Int) * 1=lo:=by simp
  have e2:(((hi - lo).toNat:Nat):Int) - ((0:Nat):Int)=Builtin.Range.rangeSize lo hi 1:=by rw[rangeSize_one];split <;> lia
  show IsRangeIter _ _ (lo+((0:Nat):Int) * 1) ((((hi - lo).toNat:Nat):Int) - ((0:Nat):Int)) 1;rw[e1,e2];exact W3 _ rfl
 .have e:b=(s.1.push {cls:=.type "range",data:=.fields #[.int lo t,.int hi u,.int 1 v]}).objs.size:=by simpa using hb
  subst e;exact I1.fpOk (WX _) (I1.hok.fresh (WX _))
def aaI(ta:TA):TI:=λY H R=>ta Y H λvs H1=>∃j:Int,vs=[.int j]/\-(2 ^ 62)<=j/\j<2 ^ 62/\R (Itr 0 j.toNat) H1
def aaG(ta:TA):TI:=λY H R=>ta Y H λvs H1=>∃i j:Int,vs=[.int i,.int j]/\(-(2 ^ 62)<=i/\i<2 ^ 62/\-(2 ^ 62)<=j/\j<2 ^ 62)/\R (Itr i (j - i).toNat) H1
theorem bI{a:X6}{ta:TA}{p:Z4}(hg:Gl X "range")(hm:X.mg "range"=B?)(ha:PA X [a] ta)(hs:XH [a] X.env=[(CU,Y4 a X.env)]:=by rfl):PI X tg (.Call (.Name "range" p) [a] [] pos) (aaI ta):=by
 intro Z s Y H R I h;refine Call_ (db I hg hm boot_range (X1 (thn (ha pos Z s Y H _ I h) λus s1⟨vs,H1,I1,r1,q1⟩=>?_) hs rfl));obtain⟨j,e,q1,q2,q⟩:=q1;subst e;cases r1 with
 | cons r rr =>
   cases rr;obtain⟨t,rfl⟩:=r;exact call_range_1 (qM I1 (by lia) (by lia) q1 q2 (by simpa using q))
theorem uE{a b:X6}{ta:TA}{p:Z4}(hg:Gl X "range")(hm:X.mg "range"=B?)(ha:PA X [a,b] ta)(hs:XH [a,b] X.env=[(CU,Y4 a X.env),(CU,Y4 b X.env)]:=by rfl)(IH:XH [b] X.env=[(CU,Y4 b X.env)]:=by rfl) :
 PI X tg (.Call (.Name "range" p) [a,b] [] pos) (aaG ta):=by
 intro Z s Y H R I h;refine Call_ (db I hg hm boot_range (X1 (thn (ha pos Z s Y H _ I h) λus s1⟨vs,H1,I1,r1,q1⟩=>?_) (by rw[hs,IH]) (by rw[IH];rfl)));obtain⟨i,j,e,⟨q1,q2,q3,q4⟩,q⟩:=q1;subst e;cases r1 with
 | cons r rr =>
   cases rr with
   | cons r' rr =>
     cases rr;obtain⟨t,rfl⟩:=r;obtain⟨t',rfl⟩:=r';exact call_range_2 (qM I1 q1 q2 q3 q4 q)
def abE(wi:TI)(g:TG)(tb:TS):TS:=λD Y H=>wi Y H λJ H1=>∃W:Nat->Nat->St->Hp->Prop,(∃m,W 0 m Y H1)/\∀i m Y H,W i m Y H ->
 (J.stop i H/\D.nx Y H)\/(J.go i H/\∃N:St->Hp->Prop,(∀Aa H',N Aa H'->∃m',m'<m/\W (i+1) m' Aa H')/\∀x H',J.yld i H x H'->g x Y H' λAv H2=>tb {D with nx:=N,ct:=N,bk:=D.nx} Av H2)
def lP(fp:List WS)(h:Yd):List (WS×Zc):=fp.filterMap λb=>(h.get? b).map λo=>(b,o)
theorem fF{o:Zc}(hb:b∈fp)(e:h.get? b=A? o):(b,o)∈lP fp h:=List.mem_filterMap.mpr ⟨b,hb,by rw[e];rfl⟩
theorem vf{p:WS×Zc}(hp:p∈lP fp h):p.1∈fp/\h.get? p.1=A? p.2:=by
 obtain⟨b,hb,e⟩:=List.mem_filterMap.mp hp;cases q:h.get? b with
 |none=>rw[q]at e;cases e
 | some o =>
   rw[q]at e;have e':(b,o)=p:=Xp e;subst e';exact⟨hb,q⟩
theorem Inv.pinned(I:Inv X Z Y H s)(hf:∀b∈fp,jg X Z H b)(ho:∀b∈fp,∃o,s.1.get? b=A? o/\∀v,o.data≠.cell v):Inv X (Z++lP fp s.1) Y H s :=
 I.pins_of λp hp=>(Xz.mp hp).elim (λz=>I.pin p (XB _ z)) λz=>by
  obtain⟨hb,e⟩:=vf z;obtain⟨f0,f1,f2,_⟩:=hf p.1 hb;obtain⟨o,e',d⟩:=ho p.1 hb;rw[e]at e';cases e';exact⟨e,f0,f1,f2,d⟩
theorem Inv.unpinned{pl:List (WS×Zc)}(I:Inv X (Z++pl) Y H s):Inv X Z Y H s:=I.pins_of λp hp=>I.pin p (XB _ (XJ _ hp))
theorem bH(hp:PassesOwn (Xv X.prog X.w) X.A X.env X.xe)(hc:X.calm=C?)(hi:PI X tg iter wi)(hg:PG X tg g)(hb:PSs X body tb)
 (hs:∀x,foldedSetIterable iter X.env x=pure x:=by intro _;rfl):PS X (.For tg iter body [] pos) (abE wi g tb):=by
 intro Z s Y H D I h;refine wpAny_For (thn (hi Z s Y H _ I h) λv s1 h1=>thn h1 λLx s2 h2=>?_) hs;obtain⟨it,fp,tn,J,H2,e,I2,T,CW,f2,W,⟨m0,w0⟩,turn⟩:=h2;subst e
 have CY:∀{H':Hp},(∀b∈fp,H' b=B?)->∀b∈fp,jg X Z H' b:=λhn b hb=>⟨hn b hb,(f2 b hb).2⟩;refine codeAny_forLoop_any (λn s'=>∃i Aa H',Inv X Z Aa H' s'/\tn i s'.1/\(∀b∈fp,H' b=B?)/\W i n Aa H') ?_ m0 ⟨0,Y,H2,I2,CW,λb hb=>(f2 b hb).1,w0⟩;rintro n s3 ⟨i,D3,H3,I3,Qi,Qj,w3⟩;rcases turn i n D3 H3 w3 with⟨stop,qn⟩|⟨go,N,hN,step⟩
 .refine wpAny_passesOwn hp (thn (T.done X rfl rfl rfl hc i Z s3 D3 H3 X.xe I3 (CY Qj) Qi stop) λr s4⟨hr,I4⟩=>?_);subst hr;exact wpAny_execs_nil ⟨D3,H3,I4,qn⟩
 .refine wpAny_passesOwn hp (thn (T.item X rfl rfl rfl hc i Z s3 D3 H3 X.xe I3 (CY Qj) Qi go) λr s4⟨u,hr,h4⟩=>?_);subst hr;refine wpAny_passesOwn hp (thn h4 λ_ s5⟨x,H5,I5,r5,y5,HR,Ly⟩=>?_);have Sv:=I5.pinned (CY Ly) (T.obj _ _ HR);refine wpAny_passesOwn hp (thn (hg _ s5 D3 H5 x u _ Sv r5 (step x H5 y5)) λ_ s6⟨Sw,H6,I6,q6⟩=>?_);refine wpAny_passesOwn hp (thn (hb _ s6 Sw H6 _ I6 q6) λf s7 q7=>?_)
  have again:∀{D4:St}{H7:Hp},Inv X (Z++lP fp s5.1) D4 H7 s7->N D4 H7->∃m,m<n/\∃i Aa H',Inv X Z Aa H' s7/\tn i s7.1/\(∀b∈fp,H' b=B?)/\W i m Aa H':=λ{D4 H7}I7 n7=>by
   obtain⟨m',hm,w7⟩:=hN D4 H7 n7;refine⟨m',hm,i+1,D4,H7,I7.unpinned,T.keep _ _ _ HR λb hb o e=>(I7.pin (b,o) (XB _ (XB _ (fF hb e)))).1,λb hb=>?_,w7⟩;obtain⟨o,e,d⟩:=T.obj _ _ HR b hb;exact(I7.pin (b,o) (XB _ (XB _ (fF hb e)))).2.1
  cases f with
  |next=>obtain⟨D4,H7,I7,n7⟩:=q7;exact again I7 n7
  |cont=>obtain⟨D4,H7,I7,n7⟩:=q7;exact again I7 n7
  |brk=>obtain⟨D4,H7,I7,q7⟩:=q7;exact⟨D4,H7,I7.unpinned,q7⟩
  |ret v=>obtain⟨x7,D4,H7,I7,r7,q7⟩:=q7;exact⟨x7,D4,H7,I7.unpinned,r7,q7⟩
end
theorem cR(Pv:Nat->St->Hp->Prop)(h0:Pv 0 Y H)(hl:∀i Y H,i<=xs.length->Pv i Y H->SqL K H a xs)
 (hs:∀i x Y H,xs[i]?=A? x->Pv i Y H->g x Y H λAv H2=>tb {D with nx:=Pv (i+1),ct:=Pv (i+1),bk:=D.nx} Av H2) (hd:∀Y H,Pv xs.length Y H->D.nx Y H) :
 ∃W:Nat->Nat->St->Hp->Prop,(∃m,W 0 m Y H)/\∀i m Y H,W i m Y H ->
   ((Itl K a).stop i H/\D.nx Y H)\/((Itl K a).go i H/\∃N:St->Hp->Prop,(∀Aa H',N Aa H'->∃m',m'<m/\W (i+1) m' Aa H')/\∀x H',(Itl K a).yld i H x H'->g x Y H' λAv H2=>tb {D with nx:=N,ct:=N,bk:=D.nx} Av H2):=by
 refine⟨λi m Y H=>m=xs.length - i/\i<=xs.length/\Pv i Y H,⟨xs.length,by simp,Xh _,h0⟩,?_⟩;rintro i m Y H ⟨rfl,hi,p⟩;have q:=hl i Y H hi p;by_cases Ah:i<xs.length
 .refine .inr ⟨⟨xs,xs[i],q,by simp[Ah]⟩,Pv (i+1),λAa H' p'=>⟨xs.length - (i+1),by lia,rfl,Ah,p'⟩,λx H' y=>?_⟩;obtain⟨e,y⟩:=y;subst e;exact hs i x Y _ (y xs q) p
 .have e:i=xs.length:=by lia
  subst e;exact .inl ⟨⟨xs,q,WX _⟩,hd Y H p⟩
theorem yw(Pv:Nat->St->Hp->Prop)(h0:Pv 0 Y H)(hl:∀i Y H,i<=xs.length->Pv i Y H->SqT K H a xs)
 (hs:∀i x Y H,xs[i]?=A? x->Pv i Y H->g x Y H λAv H2=>tb {D with nx:=Pv (i+1),ct:=Pv (i+1),bk:=D.nx} Av H2) (hd:∀Y H,Pv xs.length Y H->D.nx Y H) :
 ∃W:Nat->Nat->St->Hp->Prop,(∃m,W 0 m Y H)/\∀i m Y H,W i m Y H ->
   ((Itt K a).stop i H/\D.nx Y H)\/((Itt K a).go i H/\∃N:St->Hp->Prop,(∀Aa H',N Aa H'->∃m',m'<m/\W (i+1) m' Aa H')/\∀x H',(Itt K a).yld i H x H'->g x Y H' λAv H2=>tb {D with nx:=N,ct:=N,bk:=D.nx} Av H2):=by
 refine⟨λi m Y H=>m=xs.length - i/\i<=xs.length/\Pv i Y H,⟨xs.length,by simp,Xh _,h0⟩,?_⟩;rintro i m Y H ⟨rfl,hi,p⟩;have q:=hl i Y H hi p;by_cases Ah:i<xs.length
 .refine .inr ⟨⟨xs,xs[i],q,by simp[Ah]⟩,Pv (i+1),λAa H' p'=>⟨xs.length - (i+1),by lia,rfl,Ah,p'⟩,λx H' y=>?_⟩;obtain⟨e,y⟩:=y;subst e;exact hs i x Y _ (y xs q) p
 .have e:i=xs.length:=by lia
  subst e;exact .inl ⟨⟨xs,q,WX _⟩,hd Y H p⟩
theorem dW{lo:Int}(Pv:Nat->St->Hp->Prop)(h0:Pv 0 Y H)
 (hs:∀i Y H,i<n->Pv i Y H->g (.int (lo+i)) Y H λAv H2=>tb {D with nx:=Pv (i+1),ct:=Pv (i+1),bk:=D.nx} Av H2) (hd:∀Y H,Pv n Y H->D.nx Y H) :
 ∃W:Nat->Nat->St->Hp->Prop,(∃m,W 0 m Y H)/\∀i m Y H,W i m Y H ->
   ((Itr lo n).stop i H/\D.nx Y H)\/((Itr lo n).go i H/\∃N:St->Hp->Prop,(∀Aa H',N Aa H'->∃m',m'<m/\W (i+1) m' Aa H')/\∀x H',(Itr lo n).yld i H x H'->g x Y H' λAv H2=>tb {D with nx:=N,ct:=N,bk:=D.nx} Av H2):=by
 refine⟨λi m Y H=>m=n - i/\i<=n/\Pv i Y H,⟨n,by simp,Xh _,h0⟩,?_⟩;rintro i m Y H ⟨rfl,hi,p⟩;by_cases Ah:i<n
 .refine .inr ⟨Ah,Pv (i+1),λAa H' p'=>⟨n - (i+1),by lia,rfl,Ah,p'⟩,λx H' y=>?_⟩;obtain⟨e,y⟩:=y;subst e y;exact hs i Y _ Ah p
 .have e:i=n:=by lia
  subst e;exact .inl ⟨WX _,hd Y H p⟩
abbrev R2:=V->V->Hp->VK->Prop
def OpR(X:Cx)(f:WU->WU->Sem WU)(r:R2):Prop :=
 ∀(Z:List (WS×Zc))(s:WY)(Y:St)(H:Hp)(x y:V)(v u:WU)(Q:VK),Inv X Z Y H s->RelV x v->RelV y u->r x y H Q ->
   W9 (Xv X.prog X.w) X.A (f v u) (EP X Z Y Q) X.xe s
def UnR(X:Cx)(f:WU->Sem WU)(r:V->Hp->VK->Prop):Prop :=
 ∀(Z:List (WS×Zc))(s:WY)(Y:St)(H:Hp)(x:V)(v:WU)(Q:VK),Inv X Z Y H s->RelV x v->r x H Q ->
   W9 (Xv X.prog X.w) X.A (f v) (EP X Z Y Q) X.xe s
def fz(X:Cx)(f:WU)(r:List V->Hp->VK->Prop):Prop :=
 ∀(Z:List (WS×Zc))(s:WY)(Y:St)(H:Hp)(xs:List V)(us:List WU)(Q:VK),Inv X Z Y H s->Vals xs us->r xs H Q ->
   W9 (Xv X.prog X.w) X.A (call f us) (EP X Z Y Q) X.xe s
def abt(X:Cx)(r:V->Hp->(Bool->Hp->Prop)->Prop):Prop :=
 ∀(Z:List (WS×Zc))(s:WY)(Y:St)(H:Hp)(x:V)(v:WU)(Q:Bool->Hp->Prop),Inv X Z Y H s->RelV x v->r x H Q ->
   W9 (Xv X.prog X.w) X.A (truthy v) (TP X Z Y Q) X.xe s
def tOp(r:R2)(ta tb:TE):TE:=λY H Q=>ta Y H λx H1=>tb Y H1 λy H2=>r x y H2 Q
def tUn(r:V->Hp->VK->Prop)(ta:TE):TE:=λY H Q=>ta Y H λx H1=>r x H1 Q
inductive IrI(C:Int->Int->Prop)(g:Int->Int->V)(x:V)(y:V)(H:Hp)(Q:VK):Prop
 |mk (i:_) (j:_) (CK:x=.int i) (CL:y=.int j) (D5:C i j) (E1:Q (g i j) H):IrI C g x y H Q
def rI(C:Int->Int->Prop)(g:Int->Int->V):R2:=IrI C g
inductive aaV(g:Int->Int->V)(x:V)(y:V)(H:Hp)(Q:VK):Prop
 |mk (i:_) (j:_) (CK:x=.int i) (CL:y=.int j) (D5:Q (g i j) H):aaV g x y H Q
def rI0(g:Int->Int->V):R2:=aaV g
inductive IrU(g:Int->V)(x:V)(H:Hp)(Q:VK):Prop
 |mk (i:_) (CK:x=.int i) (CL:Q (g i) H):IrU g x H Q
def rU(g:Int->V):V->Hp->VK->Prop:=IrU g
section
variable{X:Cx}{a b c:X6}{ta tb tc:TE}
theorem zK(ha:PE X a ta)(hb:PE X b tb){R:V->V->Hp->Prop}(I:Inv X Z Y H s)
 (h:ta Y H λx H1=>tb Y H1 λy H2=>R x y H2) {f:WU->WU->Sem WU}
 (hf:∀v u s2 x y H2,Inv X Z Y H2 s2->RelV x v->RelV y u->R x y H2->W9 (Xv X.prog X.w) X.A (f v u) Q X.xe s2) :
 W9 (Xv X.prog X.w) X.A (Y4 a X.env) (λv Ab=>W9 (Xv X.prog X.w) X.A (Y4 b X.env) (λu AG=>W9 (Xv X.prog X.w) X.A (f v u) Q X.xe AG) X.xe Ab) X.xe s:=by
 refine thn (ha Z s Y H _ I h) λv s1⟨x,H1,I1,r1,q1⟩=>?_;refine thn (hb Z s1 Y H1 _ I1 q1) λu s2⟨y,H2,I2,r2,q2⟩=>?_;exact hf v u s2 x y H2 I2 r1 r2 q2
theorem aA{op:Operator}{r:R2}(ho:OpR X (binaryOp op) r)(ha:PE X a ta)(hb:PE X b tb):PE X (.BinOp a op b pos) (tOp r ta tb):=by
 intro Z s Y H Q I h;exact wpAny_BinOp (zK ha hb I h λv u s2 x y H2 I2 rx ry q=>ho Z s2 Y H2 x y v u Q I2 rx ry q)
theorem abd{op:UnaryOp}{r:V->Hp->VK->Prop}(ho:UnR X (unaryOp op) r)(ha:PE X a ta):PE X (.UnaryOp op a pos) (tUn r ta):=by
 intro Z s Y H Q I h;exact UnaryOp_ (thn (ha Z s Y H _ I h) λv s1⟨x,H1,I1,r1,q1⟩=>ho Z s1 Y H1 x v Q I1 r1 q1)
theorem opI{f:WU->WU->Sem WU}{C:Int->Int->Prop}{g:Int->Int->Int}
 (rule:∀(i j:Int)(t u:Tok)(s:WY)(Q:WU->WY->Prop)(E:WU->WY->Prop),C i j->Q (.int (g i j) s.toks) {s with toks:=s.toks+1}->W9 (Xv X.prog X.w) X.A (f (.int i t) (.int j u)) Q E s) :
 OpR X f (rI C λi j=>.int (g i j)):=by
 intro Z s Y H x y v u Q I rx ry h;obtain⟨i,j,rfl,rfl,hc,q⟩:=h;obtain⟨t,rfl⟩:=rx;obtain⟨t',rfl⟩:=ry;exact rule i j t t' s _ _ hc ⟨.int (g i j),H,I.tok _,⟨_,rfl⟩,q⟩
theorem aaP{f:WU->WU->Sem WU}{g:Int->Int->Int}
 (rule:∀(i j:Int)(t u:Tok)(s:WY)(Q:WU->WY->Prop)(E:WU->WY->Prop),Q (.int (g i j) s.toks) {s with toks:=s.toks+1}->W9 (Xv X.prog X.w) X.A (f (.int i t) (.int j u)) Q E s) :
 OpR X f (rI0 λi j=>.int (g i j)):=by
 intro Z s Y H x y v u Q I rx ry h;obtain⟨i,j,rfl,rfl,q⟩:=h;obtain⟨t,rfl⟩:=rx;obtain⟨t',rfl⟩:=ry;exact rule i j t t' s _ _ ⟨.int (g i j),H,I.tok _,⟨_,rfl⟩,q⟩
theorem aad{f:WU->WU->Sem WU}{g:Int->Int->Bool}
 (rule:∀(i j:Int)(t u:Tok)(s:WY)(Q:WU->WY->Prop)(E:WU->WY->Prop),Q (.bool (g i j)) s->W9 (Xv X.prog X.w) X.A (f (.int i t) (.int j u)) Q E s) :
 OpR X f (rI0 λi j=>.bl (g i j)):=by
 intro Z s Y H x y v u Q I rx ry h;obtain⟨i,j,rfl,rfl,q⟩:=h;obtain⟨t,rfl⟩:=rx;obtain⟨t',rfl⟩:=ry;exact rule i j t t' s _ _ ⟨.bl (g i j),H,I,rfl,q⟩
def abl(i j:Int):Prop:=0<j/\j<1073741824
def CMul(i j:Int):Prop:=(-(2 ^ 64)<i/\i<2 ^ 64)\/(-(2 ^ 64)<j/\j<2 ^ 64)
theorem CMul.ok{i j:Int}(h:CMul i j):IntMulOk i j:=by
 rcases h with⟨h1,h2⟩|⟨h1,h2⟩
 .exact .of_left (intBits_le_64 h1 h2)
 .exact .of_right (intBits_le_64 h1 h2)
theorem cZ:OpR X (binaryOp .Add) (rI0 λi j=>.int (i+j)):=aaP λ_ _ _ _ _ _ _ q=>add_int q
theorem sI:OpR X (binaryOp .Sub) (rI0 λi j=>.int (i - j)):=aaP λ_ _ _ _ _ _ _ q=>sub_int q
theorem ej:OpR X (binaryOp .Mult) (rI CMul λi j=>.int (i * j)):=opI λ_ _ _ _ _ _ _ hc q=>mul_int q hc.ok
theorem cP:OpR X (binaryOp .FloorDiv) (rI abl λi j=>.int (i / j)):=opI λi j _ _ _ _ _ hc q=>by
 have h1:(0:Int)<j:=hc.1;have h2:j<1073741824:=hc.2;exact floordiv_int (by lia) (by rw[Int.fdiv_eq_ediv_of_nonneg i (by lia)];exact q) (.inl (PyProof.noPylong_small (by lia)))
theorem bP:OpR X (binaryOp .Mod) (rI (λ_ j=>0<j) λi j=>.int (i%j)):=opI λi j _ _ _ _ _ hc q=>by
 have h1:(0:Int)<j:=hc;exact mod_int' (by lia) (by rw[Int.fmod_eq_emod_of_nonneg i (by lia)];exact q)
theorem unI{f:WU->Sem WU}{g:Int->Int}
 (rule:∀(i:Int)(t:Tok)(s:WY)(Q:WU->WY->Prop)(E:WU->WY->Prop),Q (.int (g i) s.toks) {s with toks:=s.toks+1}->W9 (Xv X.prog X.w) X.A (f (.int i t)) Q E s) :
 UnR X f (rU λi=>.int (g i)):=by
 intro Z s Y H x v Q I rx h;obtain⟨i,rfl,q⟩:=h;obtain⟨t,rfl⟩:=rx;exact rule i t s _ _ ⟨.int (g i),H,I.tok _,⟨_,rfl⟩,q⟩
theorem zS:UnR X (unaryOp .USub) (rU λi=>.int (-i)):=unI λ_ _ _ _ _ q=>neg_int q
end
def abA:V->V->Bool
 |.non,.non=>C?|.non,.int _=>C?|.int _,.non=>C?|.non,.bl _=>C?|.bl _,.non=>C?|.non,.str _=>C?|.str _,.non=>C?
 |.int _,.int _=>C?|.bl _,.bl _=>C?|.str _,.str _=>C?|.byt _,.byt _=>C?
 |.int _,.str _=>C?|.str _,.int _=>C?|.bl _,.str _=>C?|.str _,.bl _=>C?
 |_,_=>CU
inductive aa2(x:V)(y:V)(H:Hp)(Q:VK):Prop
 |mk  (CK:abA x y=C?) (CL:Q (.bl (decide (x=y))) H):aa2  x y H Q
def rEq:R2:=aa2
theorem xS{i j:Int}:decide (q! i=q! j)=(i == j):=by
 rw[Bool.eq_iff_iff];simp
theorem aae{i j:Bool}:decide (V.bl i=V.bl j)=(i == j):=by
 rw[Bool.eq_iff_iff];simp
theorem yL{i j:Xk}:decide (L! i=L! j)=(i == j):=by
 rw[Bool.eq_iff_iff];simp
theorem xL{i j:Array UInt8}:decide (V.byt i=V.byt j)=(i.toList == j.toList):=by
 rw[Bool.eq_iff_iff];cases i;cases j;simp
section
variable{X:Cx}{a b c:X6}{ta tb tc:TE}
theorem cG{Q:VK}{k k':Bool}(I:Inv X Z Y H s)(q:Q (.bl k) H)(e:k=k'):EP X Z Y Q (.bool k') s:=by
 subst e;exact⟨.bl k,H,I,D?,q⟩
theorem f6:OpR X (compareOp .Eq) rEq:=by
 intro Z s Y H x y v u Q I rx ry h;obtain⟨hs,q⟩:=h;cases x with
 | non =>
   cases rx;cases y with
   |non=>cases ry;exact PySem.EqNone.eq_none_none (cG I q (by simp))
   |bl j=>cases ry;exact PySem.EqNone.eq_none_bool (cG I q (by simp))
   |int j=>obtain⟨t',rfl⟩:=ry;exact PySem.EqNone.eq_none_int (cG I q (by simp))
   |str j=>obtain⟨t',rfl⟩:=ry;exact PySem.EqNone.eq_none_str (cG I q (by simp))
   |_=>exact g! (show CU=C? from hs) W5
 | bl i =>
   cases rx;cases y with
   |non=>cases ry;exact PySem.EqNone.eq_bool_none (cG I q (by simp))
   |bl j=>cases ry;exact eq_bool (cG I q aae)
   |str j=>obtain⟨t',rfl⟩:=ry;exact PySem.EqMixed.eq_bool_str (cG I q (by simp))
   |_=>exact g! (show CU=C? from hs) W5
 | int i =>
   obtain⟨t,rfl⟩:=rx;cases y with
   |non=>cases ry;exact PySem.EqNone.eq_int_none (cG I q (by simp))
   |int j=>obtain⟨t',rfl⟩:=ry;exact eq_int (cG I q xS)
   |str j=>obtain⟨t',rfl⟩:=ry;exact PySem.EqMixed.eq_int_str (cG I q (by simp))
   |_=>exact g! (show CU=C? from hs) W5
 | str i =>
   obtain⟨t,rfl⟩:=rx;cases y with
   |non=>cases ry;exact PySem.EqNone.eq_str_none (cG I q (by simp))
   |bl j=>cases ry;exact PySem.EqMixed.eq_str_bool (cG I q (by simp))
   |int j=>obtain⟨t',rfl⟩:=ry;exact PySem.EqMixed.eq_str_int (cG I q (by simp))
   |str j=>obtain⟨t',rfl⟩:=ry;exact eq_str (cG I q yL)
   |_=>exact g! (show CU=C? from hs) W5
 | byt i =>
   obtain⟨t,rfl⟩:=rx;cases y with
   |byt j=>obtain⟨t',rfl⟩:=ry;exact PySem.W.eq_bytes (cG I q xL)
   |_=>exact g! (show CU=C? from hs) W5
 |_=>cases y <;> exact g! (show CU=C? from hs) W5
theorem lQ:OpR X (compareOp .Lt) (rI0 λi j=>.bl (decide (i<j))):=aad λ_ _ _ _ _ _ _ q=>lt_int q
theorem uA:OpR X (compareOp .LtE) (rI0 λi j=>.bl (decide (i<=j))):=aad λ_ _ _ _ _ _ _ q=>le_int q
theorem pf:OpR X (compareOp .Gt) (rI0 λi j=>.bl (decide (j<i))):=aad λ_ _ _ _ _ _ _ q=>gt_int q
theorem bc(b:X6)(h:op≠.In:=by decide)(h2:op≠.NotIn:=by decide):behindInMarks op b=false:=by
 have e1:(op == CmpOp.In)=false:=by cases op <;> first|rfl|exact g! rfl h
 have e2:(op == CmpOp.NotIn)=false:=by cases op <;> first|rfl|exact g! rfl h2
 cases b <;> simp[behindInMarks,e1,e2]
theorem dg{r:R2}(ho:OpR X (compareOp op) r)(ha:PE X a ta)(hb:PE X b tb)(hm:behindInMarks op b=CU):PE X (.Compare a [op] [b] pos) (tOp r ta tb):=by
 intro Z s Y H Q I h;exact wpAny_Compare1 (zK ha hb I h λv u s2 x y H2 I2 rx ry q=>ho Z s2 Y H2 x y v u Q I2 rx ry q) hm
inductive zt(x:V)(Q:Bool->Hp->Prop)(H':Hp):Prop
 |mk (k:Bool) (CK:x=.bl k) (CL:Q k H'):zt x Q H'
def np(t:TE):TT:=λY H Q=>t Y H λx H'=>zt x Q H'
theorem bz{r:R2}(ho:OpR X (compareOp op) r)(ha:PE X a ta)(hb:PE X b tb)(hm:behindInMarks op b=CU):PT X (.Compare a [op] [b] pos) (np (tOp r ta tb)):=by
 intro Z s Y H Q I h
 refine wpAny_isTrue_Compare1 (thn (ha Z s Y H _ I h) λv s1⟨x,H1,I1,r1,q1⟩=>thn (hb Z s1 Y H1 _ I1 q1) λu s2⟨y,H2,I2,r2,q2⟩ =>
  thn (ho Z s2 Y H2 x y v u _ I2 r1 r2 q2) λc s3⟨z,H3,I3,r3,k,e,q3⟩=>?_) hm
 subst e;cases r3;exact wpAny_truthy_bool ⟨H3,I3,q3⟩
def aaa(r r':R2)(ta tb tc:TE):TE:=λY H Q=>ta Y H λx H1=>tb Y H1 λy H2=>r x y H2 λz H3=>∃k,z=.bl k /\
 (if k=C? then tc Y H3 λw' H4=>r' y w' H4 Q else Q (.bl CU) H3)
theorem wJ{MG:CmpOp}{r r':R2}(ho:OpR X (compareOp op) r)(Bu:OpR X (compareOp MG) r')(ha:PE X a ta)(hb:PE X b tb)(hc:PE X c tc)
 (hm:lastMarks [op,MG] [b,c]=false:=by with_unfolding_all rfl):PE X (.Compare a [op,MG] [b,c] pos) (aaa r r' ta tb tc):=by
 intro Z s Y H Q I h
 refine Compare_chain (thn (ha Z s Y H _ I h) λv s1⟨x,H1,I1,r1,q1⟩=>chain_link (thn (hb Z s1 Y H1 _ I1 q1) λu s2⟨y,H2,I2,r2,q2⟩ =>
  thn (ho Z s2 Y H2 x y v u _ I2 r1 r2 q2) λd s3⟨z,H3,I3,r3,k,e,q3⟩=>?_)) hm
 subst e;cases r3;refine wpAny_truthy_bool ?_;cases k with
 |false=>exact ite_ff ⟨.bl CU,H3,I3,rfl,q3⟩
 |true=>exact ite_tt (chain_last (thn (hc Z s3 Y H3 _ I3 q3) λw' s4⟨z',H4,I4,r4,q4⟩=>Bu Z s4 Y H4 y z' u w' Q I4 r2 r4 q4))
def vD(K:WQ)(x:V)(H:Hp)(k:Bool):Prop :=
 match x with
 |.non=>k=CU
 |.bl b=>k=b
 |.int i=>k=(i != 0)
 |.str y=>y.length<=Xe/\k=((y.length:Int) != 0)
 |.byt y=>y.size<=Xe/\k=((y.size:Int) != 0)
 |.ref p=>(∃xs,SqL K H p xs/\k=!xs.isEmpty)\/(∃xs,SqT K H p xs/\k=!xs.isEmpty)\/∃f',H p=A? (.dK f')/\k=!f'.isEmpty
 |_=>False
theorem rK{κ:Type}{f':List (κ×V)}{vs:List (κ×WU)}(r:KV f' vs):(!vs.isEmpty)=!f'.isEmpty:=by
 cases r <;> rfl
theorem kL(r:Vals xs its):(!its.toArray.isEmpty)=!xs.isEmpty:=by
 cases r <;> simp
theorem fA:(Xe:Nat)<2 ^ 63:=by rw[sizeLine_eq];decide
theorem zH:abt X (λx H Q=>∃k,vD X.K x H k/\Q k H):=by
 intro Z s Y H x v Q I rx h;obtain⟨k,e,q⟩:=h;have hl:=fA;have hs:Xe=16777216:=sizeLine_eq;cases x with
 | non =>
   cases rx;have e':k=false:=e;subst e';exact truthy_none ⟨H,I,q⟩
 | bl b =>
   cases rx;have e':k=b:=e;subst e';exact wpAny_truthy_bool ⟨H,I,q⟩
 | int i =>
   obtain⟨t,rfl⟩:=rx;have e':k=(i != 0):=e;subst e';exact PySem.P.truthy_int ⟨H,I,q⟩
 | str y =>
   obtain⟨t,rfl⟩:=rx;obtain⟨hy,e'⟩:y.length<=Xe/\k=((y.length:Int) != 0):=e;subst e';exact PySem.P.truthy_str (by lia) ⟨H,I.tok _,q⟩
 | byt y =>
   obtain⟨t,rfl⟩:=rx;obtain⟨hy,e'⟩:y.size<=Xe/\k=((y.size:Int) != 0):=e;subst e';exact PySem.W.truthy_bytes (by lia) ⟨H,I.tok _,q⟩
 | ref p =>
   cases rx;have e':(∃xs,SqL X.K H p xs/\k=!xs.isEmpty)\/(∃xs,SqT X.K H p xs/\k=!xs.isEmpty)\/∃f',H p=A? (.dK f')/\k=!f'.isEmpty:=e;rcases e' with⟨xs,hx,e'⟩|⟨xs,hx,e'⟩|⟨f',hx,e'⟩
   .subst e';obtain⟨its,r,pl,hz⟩:=I.list hx;have hlen:=r.length;exact wpAny_truthy_list pl.isList (by simp only[W0];lia) ⟨H,I.tok _,by rw[kL r];exact q⟩
   .subst e';obtain⟨its,r,pl,hz⟩:=I.tuple hx;have hlen:=r.length;exact truthy_tuple pl (by simp only[W0];lia) ⟨H,I.tok _,by rw[kL r];exact q⟩
   .subst e';obtain⟨hz,hS,vs,r,m⟩:f'.length<=Xe/\(p == YO)=CU/\∃vs,KV f' vs/\s.1.DictOf (ao X.prog X.w) p vs:=I.hok p _ hx;have hlen:f'.length=vs.length:=W4 r;exact wpAny_truthy_dict hS m (by lia) ⟨H,I.tok _,by rw[rK r];exact q⟩
 |_=>exact(show False from e).elim
theorem bq(ha:PE X a ta)(he:∀whole,isTrue a X.env whole=(do let v <-whole;standAt a.pos;holding [v] (truthy v))) :
 PT X a (λY H Q=>ta Y H λx H'=>∃k,vD X.K x H' k/\Q k H'):=by
 intro Z s Y H Q I h;exact isTrue_plain (thn (ha Z s Y H _ I h) λv s1⟨x,H1,I1,r1,q1⟩=>zH Z s1 Y H1 x v Q I1 r1 q1) (he _)
theorem r9:OpR X (binaryOp .Add) (λx y H Q=>∃i j,x=.str i/\y=.str j/\i.length+j.length<=Xe/\Q (.str (i++j)) H):=by
 intro Z s Y H x y v u Q I rx ry h;obtain⟨i,j,rfl,rfl,hz,q⟩:=h;obtain⟨t,rfl⟩:=rx;obtain⟨t',rfl⟩:=ry;exact add_str (λt' tk=>⟨.str (i++j),H,I.tok _,⟨_,rfl⟩,q⟩) hz
theorem vals1{x:V}(r:Vals [x] us):∃u,us=[u]/\RelV x u:=by
 cases r with
 |cons r1 r2=>cases r2;exact⟨_,D?,r1⟩
theorem vals2{x:V}(r:Vals [x,y] us):∃u w',us=[u,w']/\RelV x u/\RelV y w':=by
 cases r with
 | cons r1 r2 =>
   cases r2 with
   |cons r3 r4=>cases r4;exact⟨_,_,D?,r1,r3⟩
theorem uZ(hc:X.calm=C?):fz X (.builtin "min") (λxs H Q=>∃i j,xs=[.int i,.int j]/\Q (.int (if j<i then j else i)) H):=by
 intro Z s Y H xs us Q I r h;obtain⟨i,j,rfl,q⟩:=h;obtain⟨u,w',rfl,⟨t,rfl⟩,⟨t',rfl⟩⟩:=vals2 r;refine min_two_ints (I.ok.hd hc) λh' tk k=>⟨_,H,I.kept k,?_,q⟩;by_cases hj:j<i
 .rw[b! hj,b! hj];exact⟨_,D?⟩
 .rw[a! hj,a! hj];exact⟨_,D?⟩
theorem uQ:fz X (.type "int") (λxs H Q=>(∃i,xs=[.int i]/\Q (.int i) H)\/∃k,xs=[.bl k]/\Q (.int (if k then 1 else 0)) H):=by
 intro Z s Y H xs us Q I r h;rcases h with⟨i,rfl,q⟩|⟨k,rfl,q⟩
 .obtain⟨u,rfl,t,rfl⟩:=vals1 r;exact call_int_int ⟨.int i,H,I,⟨_,rfl⟩,q⟩
 .obtain⟨u,rfl,r1⟩:=vals1 r;cases r1;exact call_int_bool ⟨.int (if k then 1 else 0),H,I.tok _,⟨_,rfl⟩,q⟩
end
structure ObjM(h:Yd)(x dx C:WS)(mA:Xk->Option WU):Prop where
 obj:h.get? x=A? (ZL C dx)
 ns:h.Ns1 dx mA
 ne:dx≠x
theorem uY{dx:WS}{mA:Xk->Option WU}(n:h.Ns1 dx mA):∃od,h.get? dx=A? od/\∀name,PySem.W.lookIn name od=A? (mA name):=by
 obtain⟨o,es,ep,ho,hd,hk,_,hm⟩:=n;refine⟨o,ho,λname=>?_⟩;have e:=hm name;unfold nsFind findBy at e;rw[<-Array.find?_toList]at e;unfold PySem.W.lookIn;rw[hd];dsimp only;split
 .rename_i y q
  rw[q]at e;exact h! A? e
 .rename_i q
  rw[q]at e
  have a:es.toList.any (·.refKey)=false:=by
   rw[List.any_eq_false];intro y hy;obtain⟨z,t,CZ⟩:=hk y (Array.mem_toList_iff.mp hy);simp[DictEntry.refKey,CZ]
  have a':¬es.toList.any (·.refKey)=true:=by rw[a];exact W5
  rw[a! a'];exact h! A? e
theorem ObjM.look{x dx C:WS}{mA:Xk->Option WU}(I:ObjM h x dx C mA):∃od,PySem.W.InstAt h x (ZL C dx) C (A? od)/\∀name,PySem.W.lookIn name od=A? (mA name) :=
 let⟨od,ho,hl⟩:=uY I.ns
 ⟨od,⟨I.obj,rfl,rfl,ho⟩,hl⟩
section
variable{x dx C f:WS}{mA:Xk->Option WU}{name:Xk}{v:WU}
theorem get_map{expr:Bool}(X:K.In s.1)(I:ObjM s.1 x dx C mA)(hg:PySem.W.plainGet K C name=C?)(hh:PySem.W.hasDictIn K C=C?)
 (ha:Zk K (.ref C) name=A? B?) (hv:mA name=A? v) (Bh:PySem.W.handedIn v=C?) (h:Q v {s with toks:=s.toks+1}) :
 W9 (Xv prog w) A (getAttr (.ref x) name expr) Q E s:=by
 obtain⟨od,J,hl⟩:=I.look;exact PySem.W.get_value X J (PySem.W.plainGet_of hg).1 (PySem.W.findObj_own hh ha rfl (by rw[hl,hv])) Bh h
theorem vM{pl:Sem Bool}{Q:WU×List WU->WY->Prop}(X:K.In s.1)(I:ObjM s.1 x dx C mA)(hg:PySem.W.plainGet K C name=C?)
 (hf:Zk K (.ref C) name=A? (A? (.ref f))) (ht:PySem.W.isFn K (.ref f)=C?) (hv:mA name=B?) (h:Q (.ref f,[.ref x]) s) :
 W9 (Xv prog w) A (getMethod (.ref x) name pl) Q E s:=by
 obtain⟨od,J,hl⟩:=I.look;exact PySem.W.method_fn X J (PySem.W.plainGet_of hg).1 (PySem.W.plainGet_of hg).2 hf (beq_iff_eq.mp ht) (by show(PySem.W.lookIn name od).map (·.isSome)=A? CU;rw[hl,hv];rfl) h
theorem yv{ns:List Xk}{Q:Unit->WY->Prop}(X:K.In s.1)(I:ObjM s.1 x dx C mA)
 (hs:Zk K (.ref C) "__setattr__"=A? (A? (.builtin "object.__setattr__"))) (hp:PySem.W.plainOver K C=C?) (ht:PySem.W.takerIn K C name=A? B?) (hh:PySem.W.hasDictIn K C=C?)
 (hw:PySem.Within mA ns) (hsz:ns.length<=Xe)
 (h:∀h',ObjM h' x dx C (λy=>if y=name then A? v else mA y)->YD dx s.1 h'->Q () {s with heap:=h',toks:=s.toks+2}) :
 W9 (Xv prog w) A (setAttr (.ref x) name v) Q E s:=by
 obtain⟨od,J,hl⟩:=I.look;refine PySem.W.set_plain X J hs (PySem.W.osa_open (s:={s with toks:=s.toks+1}) (r:=B?) X J hp ht λb=>?_);obtain⟨cd,hc,Bv⟩:=PySem.W.any_some hh;have hx:s.1.get? x=A? ⟨.ref C,A? dx,.plain,#[]⟩:=I.obj;refine WN (WW (WN (WN (wpAny_loadPart hx (WN (PySem.W.Looks.here (s:={s with toks:=s.toks+1}) (PySem.W.looks_clsIn X hc) ?_))))));rw[Bv];refine WW (a:=A? dx) (WN (WW (WN ?_)));refine wpAny_nsSet1 (s:={s with toks:=s.toks+1}) I.ns λh' II IH=>?_;obtain⟨oD,V3,V4,Sx,Sz,SD⟩:=II.count (PySem.Within.cons name v hw);refine WN (wpAny_lookBehind Sx (by rw[Sz];exact pastItsLine_dict (Xw SD (by rw[W2];lia))) ?_);exact WW (h _ ⟨(IH.2 _ (YT I.ne)).trans I.obj,II,I.ne⟩ IH)
theorem xH{R:Result->WY->Prop}{vs:List WU}(X:K.In s.1)(hm:PySem.W.makesIn K C=C?)
 (hi:Zk K (.ref C) "__init__"=A? (A? (.ref f))) (hf:PySem.W.typeIn K (.ref f)=A? (.type "function"))
 (h:codeAny (Xv prog w) (A.under (.builtin "type.__call__" ⟨.ref C::vs,kw⟩)) (.call (.ref f) ⟨.ref (s.1.1.size+1)::vs,kw⟩) (PySem.W.InitBack (s.1.1.size+1) R)
  {s with heap:=(s.1.push Zb).push (ZL C s.1.1.size)}) :
 codeAny (Xv prog w) A (.call (.ref C) ⟨vs,kw⟩) R s:=by
 obtain⟨hh,g,d,t,os⟩:=s;exact PySem.W.make_core (PySem.W.makes_of X hm) (PySem.W.looks_findIn X hi) (λself=>PySem.W.bind_fn X self hf) (.inl rfl) h
end
def dq(f:Xk)(v:V):List (Xk×V)->List (Xk×V)
 | []=>[(f,v)]
 |(g,x)::r=>if g=f then(g,v)::r else(g,x)::dq f v r
theorem j5(f g:Xk)(v:V):∀fs:List (Xk×V),(dq f v fs).lookup g=if g=f then A? v else fs.lookup g
 | []=>by
   show ZU g [(f,v)]=_;by_cases h:g=f
   .have hb:(g == f)=true:=beq_iff_eq.mpr h;simp only[ZU,hb,b! h]
   .have hb:(g == f)=false:=beq_eq_false_iff_ne.mpr h;simp only[ZU,hb,a! h]
 | (k,x)::r=>by
   have ih:=j5 f g v r;rw[show dq f v ((k,x)::r)=(if k=f then(k,v)::r else(k,x)::dq f v r)from rfl];by_cases hk:k=f
   .rw[b! hk];by_cases h:g=k
    .have hb:(g == k)=true:=beq_iff_eq.mpr h;simp only[ZU,hb,b! (h.trans hk)]
    .have hb:(g == k)=false:=beq_eq_false_iff_ne.mpr h;simp only[ZU,hb,a! (λe:g=f=>h (e.trans hk.symm))]
   .rw[a! hk];by_cases h:g=k
    .have hb:(g == k)=true:=beq_iff_eq.mpr h;simp only[ZU,hb,a! (λe:g=f=>hk (h.symm.trans e))]
    .have hb:(g == k)=false:=beq_eq_false_iff_ne.mpr h;simp only[ZU,hb];exact ih
theorem jx(f:Xk)(v:V):∀fs:List (Xk×V),f∈(dq f v fs).map (·.1)/\∀g,g∈fs.map (·.1)->g∈(dq f v fs).map (·.1)
 | []=>⟨by simp[dq],λg h=>by simp at h⟩
 | (k,x)::r=>by
   obtain⟨i1,i2⟩:=jx f v r;rw[show dq f v ((k,x)::r)=(if k=f then(k,v)::r else(k,x)::dq f v r)from rfl];by_cases hk:k=f
   .rw[b! hk];subst hk;exact⟨by simp,λg h=>by simpa using h⟩
   .rw[a! hk];refine⟨?_,λg h=>?_⟩
    .rw[Xr];exact W8 _ i1
    .rw[Xr]at h |-;rcases W7.mp h with e|e
     .exact W7.mpr (.inl e)
     .exact W8 _ (i2 g e)
theorem j3(f:Xk)(v:V):∀fs:List (Xk×V),(dq f v fs).length<=fs.length+1
 | []=>by simp[dq]
 | (k,x)::r=>by
   have ih:=j3 f v r;rw[show dq f v ((k,x)::r)=(if k=f then(k,v)::r else(k,x)::dq f v r)from rfl];by_cases hk:k=f
   .rw[b! hk,W2,W2];lia
   .rw[a! hk,W2,W2];lia
theorem RelO.some_of{o:Option WU}(r:RelO (A? v) o):∃u,o=A? u/\RelV v u:=by
 cases o with
 |none=>exact(show False from r).elim
 |some u=>exact⟨u,D?,r⟩
theorem RelO.none_of{o:Option WU}(r:RelO B? o):o=none:=by
 cases o with
 |none=>rfl
 |some u=>exact(show False from r).elim
theorem vb(r:RelV v u):PySem.W.handedIn u=true:=by
 cases v with
 |non=>cases(show u=Yp from r);rfl
 |bl b=>cases(show u=Value.bool b from r);rfl
 |int i=>obtain⟨t,e⟩:=(show∃t,u=Value.int i t from r);cases e;rfl
 |str x=>obtain⟨t,e⟩:=(show∃t,u=Value.str x t from r);cases e;rfl
 |byt b=>obtain⟨t,e⟩:=(show∃t,u=Value.bytes b t from r);cases e;rfl
 |flt b=>obtain⟨t,e⟩:=(show∃t,u=Value.float b t from r);cases e;rfl
 |ref a=>cases(show u=Xm a from r);rfl
 |ty n=>cases(show u=Zl n from r);rfl
section
variable{C dx:WS}{fs HQ:List (Xk×V)}
theorem kH(hok:HOk P w H h)(e:H a=A? (.ins C dx fs)):∃mA,ObjM h a dx C mA/\(∀f,RelO (fs.lookup f) (mA f))/\PySem.Within mA (fs.map (·.1))/\fs.length<=1000/\H dx=A? (.own a):=by
 obtain⟨d,z,ne,ob,mA,n,r,q⟩:=(show ObjOk P w H h a (.ins C dx fs)from hok a _ e);exact⟨mA,⟨ob,n,ne⟩,r,q,z,d⟩
end
structure Cls(K:WQ)(C:WS):Prop where
 pg:PySem.W.plainGet K C Str.empty=C?
 hd:PySem.W.hasDictIn K C=C?
 po:PySem.W.plainOver K C=C?
 sa:Zk K (.ref C) "__setattr__"=A? (A? (.builtin "object.__setattr__"))
theorem Cls.get{C:WS}(c:Cls K C)(f:Xk):PySem.W.plainGet K C f=true:=c.pg
def NoAttr(K:WQ)(C:WS)(f:Xk):Prop:=Zk K (.ref C) f=A? B?
theorem NoAttr.taker{C:WS}{f:Xk}(n:NoAttr K C f):PySem.W.takerIn K C f=A? none:=by
 unfold PySem.W.takerIn;rw[show Zk K (.ref C) f=A? B? from n];rfl
structure Meth(K:WQ)(C:WS)(m:Xk)(f:WS):Prop where
 at_:Zk K (.ref C) m=A? (A? (.ref f))
 fn:PySem.W.isFn K (.ref f)=C?
 kp:PySem.W.keepIn K (.ref f)=C?
section
variable{X:Cx}{C dx:WS}{fs:List (Xk×V)}{f:Xk}
theorem kO{b:Bool}(I:Inv X Z Y H s)(e:H a=A? (.ins C dx fs))(c:Cls X.K C)(n:NoAttr X.K C f)(l:fs.lookup f=A? v)
 (h:∀u s',Inv X Z Y H s'->RelV v u->Q u s'):W9 (Xv X.prog X.w) A (getAttr (.ref a) f b) Q E s:=by
 obtain⟨mA,O,r,_,_,_⟩:=kH I.hok e;obtain⟨u,hu,ru⟩:=RelO.some_of (v:=v) (o:=mA f) (by rw[<-l];exact r f);exact get_map I.kIn O (c.get f) c.hd n hu (vb ru) (h u _ (I.tok _) ru)
theorem rE{m:Xk}{g:WS}{pl:Sem Bool}{Q:WU×List WU->WY->Prop}(I:Inv X Z Y H s)(e:H a=A? (.ins C dx fs))(c:Cls X.K C)(k:Meth X.K C m g)(l:fs.lookup m=B?)
 (h:Q (.ref g,[.ref a]) s):W9 (Xv X.prog X.w) A (getMethod (.ref a) m pl) Q E s:=by
 obtain⟨mA,O,r,_,_,_⟩:=kH I.hok e;have hn:mA m=none:=RelO.none_of (by rw[<-l];exact r m);exact vM I.kIn O (c.get m) k.at_ k.fn hn h
theorem mr{Q:Unit->WY->Prop}(I:Inv X Z Y H s)(e:H a=A? (.ins C dx fs))(c:Cls X.K C)(n:NoAttr X.K C f)(hl:fs.length<1000)(ry:RelV y u)
 (h:∀s',Inv X Z Y (upd H a (.ins C dx (dq f y fs))) s'->Q () s'):W9 (Xv X.prog X.w) A (setAttr (.ref a) f u) Q E s:=by
 obtain⟨mA,O,r,wi,_,ho⟩:=kH I.hok e;have hz:(fs.map (·.1)).length<=Xe:=by rw[WO,sizeLine_eq];lia
 refine yv I.kIn O c.sa c.po n.taker c.hd wi hz λh' O' sb=>h _ ?_;have hd:∃o,h'.get? dx=A? o:=let⟨o,_,_,e',_⟩:=O'.ns;⟨o,e'⟩
 refine I.write (x:=a) (e:=dx) (by rw[e];exact YW) (.inr ho) (λb q hb z=>(sb.2 b hb).trans z) hd ?_;refine⟨by rw[ag O.ne];exact ho,?_,O.ne,O'.obj,_,O'.ns,λg=>?_,λg hg=>?_⟩
 .have:=j3 f y fs;lia
 .show RelO ((dq f y fs).lookup g) (if g=f then A? u else mA g);rw[j5];by_cases q:g=f
  .rw[b! q,b! q];exact ry
  .rw[a! q,a! q];exact r g
 .by_cases q:g=f
  .rw[q];exact(jx f y fs).1
  .refine(jx f y fs).2 g (wi g λz=>hg ?_);show(if g=f then A? u else mA g)=B?;rw[a! q];exact z
theorem Inv.made(I:Inv X Z Y H s):Inv X Z Y (upd (upd H s.1.1.size (.own (s.1.1.size+1))) (s.1.1.size+1) (.ins C s.1.1.size []))
 {s with heap:=(s.1.push Zb).push (ZL C s.1.1.size)}:=by
 have e1:(s.1.push Zb).get? s.1.1.size=A? Zb:=W3 s.1 rfl
 have e2:((s.1.push Zb).push (ZL C s.1.1.size)).get? (s.1.1.size+1)=A? (ZL C s.1.1.size):=by
  have:=W3 (s.1.push Zb) (o:=ZL C s.1.1.size) rfl
  rwa [X4]at this
 have e3:(s.1.push Zb).Ns s.1.1.size (λ_=>B?):=⟨Zb,#[],_,e1,rfl,(λe he=>g! he (by simp)),λ_=>rfl⟩;have I1:=I.laid (a:=s.1.1.size) (o:=.own (s.1.1.size+1)) (h':=s.1.push Zb) (t':=s.toks) (λb u q=>WV _ q) (WX _) ⟨_,e1⟩;refine I1.laid (a:=s.1.1.size+1) (o:=.ins C s.1.1.size []) (t':=s.toks) (λb u q=>WV _ q) (Nat.le_of_eq (X4 _ _)) ?_;have ne:s.1.1.size≠s.1.1.size+1:=XA (Nat.lt_succ_self _);refine⟨by rw[ag ne,ac],Xh _,ne,e2,λ_=>B?,(Heap.Ns1.of_empty e3).at λo q=>WV _ q,λ_=>YW,λy hy=>g! rfl hy⟩
theorem yW{f:Xk}(hb:attributeBase e f env (Y4 e env)=Y4 e env)
 (h:W9 (Xv prog w) A (Y4 e env) (λo Ab=>W9 (Xv prog w) A (getAttr o f C?) Q E Ab) E s):W9 (Xv prog w) A (Y4 (.Attribute e f pos) env) Q E s :=
 Attribute_any_ h (by rw[arm_eval_Attribute,hb])
end
def abj(K:WQ)(ta:TE)(f:Xk):TE:=λY H Q=>ta Y H λx H1=>∃a C dx fs v,x=.ref a/\H1 a=A? (.ins C dx fs)/\Cls K C/\NoAttr K C f/\fs.lookup f=A? v/\Q v H1
def abK(K:WQ)(ta tv:TE)(f:Xk):TS:=λD Y H=>tv Y H λy H1=>ta Y H1 λx H2=>∃a C dx fs,x=.ref a/\H2 a=A? (.ins C dx fs)/\Cls K C/\NoAttr K C f/\fs.length<1000 /\
 D.nx Y (upd H2 a (.ins C dx (dq f y fs)))
def aaF(X:Cx)(op:Operator)(rd:V->V->Hp->VK->Prop):Prop :=
 ∀(Z:List (WS×Zc))(s:WY)(Y:St)(H:Hp)(x y:V)(u v:WU)(Q:VK),Inv X Z Y H s->RelV x u->RelV y v->rd x y H Q->W9 (Xv X.prog X.w) X.A (inplaceOp op u v) (EP X Z Y Q) X.xe s
def yz(K:WQ)(ta tv:TE)(rd:V->V->Hp->VK->Prop)(f:Xk):TS:=λD Y H=>ta Y H λx H1=>∃a C dx fs v,x=.ref a/\H1 a=A? (.ins C dx fs)/\Cls K C/\NoAttr K C f/\fs.lookup f=A? v /\
 tv Y H1 λy H2=>rd v y H2 λz H3=>∃MH HQ,H3 a=A? (.ins C MH HQ)/\HQ.length<1000/\D.nx Y (upd H3 a (.ins C MH (dq f z HQ)))
section
variable{X:Cx}{o value:X6}{f:Xk}{IJ:Z4}{ta tv:TE}
theorem vH(he:PE X e ta)(hb:attributeBase e f X.env (Y4 e X.env)=Y4 e X.env):PE X (.Attribute e f pos) (abj X.K ta f):=by
 intro Z s Y H Q I h;refine yW hb (thn (he Z s Y H _ I h) λu s1⟨x,H1,I1,rx,a,C,dx,fs,v,ex,ea,c,n,l,q⟩=>?_);subst ex;obtain rfl:u=Xm a:=rx;exact kO I1 ea c n l λu' s2 I2 ru=>⟨v,H1,I2,ru,q⟩
theorem vn(ha:PE X o ta)(hv:PE X value tv)(hs:swapsWith value (A? (.Attribute o f pos')) pos.line X.env=pure CU):PS X (.Assign [.Attribute o f pos'] value pos) (abK X.K ta tv f):=by
 intro Z s Y H D I h;refine plainObj_wpAny_Assign_Attribute (thn (hv Z s Y H _ I h) λu s1⟨y,H1,I1,ry,q⟩=>thn (ha Z s1 Y H1 _ I1 q) λov s2⟨x,H2,I2,rx,a,C,dx,fs,ex,ea,c,n,l,q2⟩=>?_) hs;subst ex;obtain rfl:ov=Xm a:=rx;exact mr I2 ea c n l ry λs3 I3=>⟨Y,_,I3,q2⟩
theorem m3{op:Operator}{rd:V->V->Hp->VK->Prop}(ha:PE X o ta)(hv:PE X value tv)(SE:aaF X op rd):PS X (.AugAssign (.Attribute o f IJ) op value pos) (yz X.K ta tv rd f):=by
 intro Z s Y H D I h;refine wpAny_AugAssign_AttributeAny (thn (ha Z s Y H _ I h) λov s1⟨x,H1,I1,rx,a,C,dx,fs,v,ex,ea,c,n,l,q⟩=>?_);subst ex;obtain rfl:ov=Xm a:=rx;refine kO I1 ea c n l λu s2 I2 ru=>thn (hv Z s2 Y H1 _ I2 q) λw3 s3⟨y,H2,I3,ry,q3⟩=>thn (SE Z s3 Y H2 v y u w3 _ I3 ru ry q3) λw4 s4⟨z,H3,I4,rz,MH,HQ,MI,l',q4⟩=>?_;exact mr I4 MI c n l' rz λs5 I5=>⟨Y,_,I5,q4⟩
def abQ:V->V->Hp->VK->Prop:=λx y H Q=>∃i j,x=.int i/\y=.int j/\Q (.int (i+j)) H
theorem wC:aaF X .Add abQ:=by
 rintro Z s Y H x y u v Q I rx ry ⟨i,j,rfl,rfl,q⟩;obtain⟨t,rfl⟩:=(show∃t,u=Value.int i t from rx);obtain⟨t',rfl⟩:=(show∃t',v=Value.int j t' from ry);exact PyProof.Rows.iadd_int ⟨.int (i+j),H,I.tok _,⟨_,rfl⟩,q⟩
end
section
variable{X:Cx}{c:WU}{b:Bool}
inductive iX(K:WQ)(H:Hp):V->WU->Prop where
 |non:iX K H .non (.type "NoneType")
 |bl (x:Bool):iX K H (.bl x) (.type "bool")
 |int (i:Int):iX K H (.int i) (.type "int")
 |str (x:Xk):iX K H (.str x) (.type "str")
 |flt (x:UInt64):iX K H (.flt x) (.type "float")
 |lst {a:WS} {xs:List V} (e:H a=A? (.lst xs)):iX K H (.ref a) (.type "list")
 |frz {a:WS} {o:Zc} {xs:List V} (e:H a=A? (.frz o (.lst xs))):iX K H (.ref a) (.type "list")
 |tup {a:WS} {xs:List V} (e:H a=A? (.tup xs)):iX K H (.ref a) (.type "tuple")
 |dK {a:WS} {f':List (Key×V)} (e:H a=A? (.dK f')):iX K H (.ref a) (.type "dict")
 |dT {a:WS} {f':List (List Key×V)} (e:H a=A? (.dT f')):iX K H (.ref a) (.type "dict")
 |ins {a C dx:WS} {fs:List (Xk×V)} (e:H a=A? (.ins C dx fs)) (cl:Cls K C) (ha:Zk K (.ref C) "__class__"=A? (A? (.builtin "object.__class__")))
  (hn:PySem.W.specialIn K (.builtin "object.__class__") "__get__"=A? (A? (.builtin "getset_descriptor.__get__"))) (AO:PySem.W.takesIn K (.builtin "object.__class__")=A? C?)
  (hm:PySem.W.mroIn K C (.type "object")=A? C?):iX K H (.ref a) (.ref C)
theorem uR{x:V}{t:WU}(I:Inv X Z Y H s)(rx:RelV x u)(ty:iX X.K H x t)(e:PySem.W.kitOne X.K t c=A? b)(h:∀tk,Q (.bool b) {s with toks:=tk}) :
 W9 (Xv X.prog X.w) A (call (.builtin "isinstance") [u,c]) Q E s:=by
 cases ty with
 |non=>cases(show u=Yp from rx);exact YY PySem.W.kitx_none I.kIn YW e (λz=>nomatch z) h
 |bl y=>cases(show u=Value.bool y from rx);exact YY PySem.W.kitx_bool I.kIn YW e (λz=>nomatch z) h
 |int i=>obtain⟨t,q⟩:=(show∃t,u=Value.int i t from rx);cases q;exact YY PySem.W.kitx_int I.kIn YW e (λz=>nomatch z) h
 |str y=>obtain⟨t,q⟩:=(show∃t,u=Value.str y t from rx);cases q;exact YY PySem.W.kitx_str I.kIn YW e (λz=>nomatch z) h
 |flt y=>obtain⟨t,q⟩:=(show∃t,u=Value.float y t from rx);cases q;exact YY PySem.W.kitx_float I.kIn YW e (λz=>nomatch z) h
 | @lst a xs ea =>
   cases(show u=Xm a from rx);obtain⟨_,_,n,_,h1⟩:=(show ObjOk X.prog X.w H s.1 a (.lst xs)from I.hok a _ ea);exact YY PySem.W.kitx_list I.kIn ⟨_,h1,rfl⟩ e (λz=>nomatch z) h
 | @frz a ob xs ea =>
   cases(show u=Xm a from rx);obtain⟨_,_,_,n,_,h1⟩:=(show ObjOk X.prog X.w H s.1 a (.frz ob (.lst xs))from I.hok a _ ea);exact YY PySem.W.kitx_list I.kIn ⟨_,h1,rfl⟩ e (λz=>nomatch z) h
 | @tup a xs ea =>
   cases(show u=Xm a from rx);obtain⟨_,_,_,_,h1⟩:=(show ObjOk X.prog X.w H s.1 a (.tup xs)from I.hok a _ ea);exact YY PySem.W.kitx_tuple I.kIn ⟨_,h1,rfl⟩ e (λz=>nomatch z) h
 | @dK a f' ea =>
   cases(show u=Xm a from rx);obtain⟨_,_,vs,_,p⟩:=(show ObjOk X.prog X.w H s.1 a (.dK f')from I.hok a _ ea);obtain⟨o,es,ep,h1,h2,_⟩:=p;exact YY PySem.W.kitx_dict I.kIn ⟨o,h1,h2.1⟩ e (λz=>nomatch z) h
 | @dT a f' ea =>
   cases(show u=Xm a from rx);obtain⟨_,_,xs,_,o,es,ep,h1,h2,_⟩:=(show ObjOk X.prog X.w H s.1 a (.dT f')from I.hok a _ ea);exact YY PySem.W.kitx_dict I.kIn ⟨o,h1,h2.1⟩ e (λz=>nomatch z) h
 | @ins a C dx fs ea cl ha hn AO hm =>
   cases(show u=Xm a from rx);obtain⟨mA,O,_⟩:=kH I.hok ea;obtain⟨od,J,_⟩:=O.look;exact YY (PySem.W.kitx_own (cl.get _) cl.hd ha hn AO hm) I.kIn J e (λz=>nomatch z) h
end
structure Room(k:Nat)(A:XI):Prop where
 hd:A.handled=B?
 dp:A.depth+3 * k+5<recursionLimit
 un:A.units+16 * k+200<YH
theorem Room.mono{k:Nat}(r:Room k A)(h:j<=k):Room j A:=⟨r.hd,by have:=r.dp;lia,by have:=r.un;lia⟩
theorem Room.deeper{k:Nat}(r:Room (k+1) A)(env:Env):Room k (A.deeper env) :=
 ⟨r.hd,by have:=r.dp;show A.depth+1+3 * k+5<_;lia,by have:=r.un;show A.units+3+16 * k+200<_;lia⟩
theorem rX{C:WS}:(A.under (.builtin "type.__call__" ⟨.ref C::us,kw⟩)).depth=A.depth+1:=by
 first|rfl|simp[Around.under,Code.weight,Code.isCreation,Code.isGuard,Code.isCaller,Code.frames,Code.isFrame,guardIds]
theorem sg{C:WS}:(A.under (.builtin "type.__call__" ⟨.ref C::us,kw⟩)).units=A.units+1:=by
 first|rfl|simp[Around.under,Code.cUnits,Code.frames,Code.isFrame]
theorem Room.make{k:Nat}(r:Room (k+1) A)(C:WS)(us:List WU)(kw:List (Xk×WU)):Room k (A.under (.builtin "type.__call__" ⟨.ref C::us,kw⟩)) :=
 ⟨r.hd,by have:=r.dp;rw[rX];lia,by have:=r.un;rw[sg];lia⟩
theorem Room.depth{k:Nat}(r:Room k A):A.depth<recursionLimit:=by have:=r.dp;lia
theorem Room.units{k:Nat}(r:Room k A):A.units+64<YH:=by have:=r.un;lia
def cN:TA:=λ_ H Q=>Q [] H
def aJ(ta:TE)(tr:TA):TA:=λY H Q=>ta Y H λx H1=>tr Y H1 λxs H2=>Q (x::xs) H2
section
variable{X:Cx}{es:List X6}{t:TA}
theorem ab:PA X [] cN:=λ_ _ _ _ H Q I h=>Zh ⟨[],H,I,.nil,h⟩
theorem aa(ha:PE X e te)(hr:PA X es t)(hs:XH (e::es) X.env=(CU,Y4 e X.env)::XH es X.env:=by rfl):PA X (e::es) (aJ te t):=by
 intro pos Z s Y H Q I h;rw[hs];show W9 _ _ (spliced ((CU,Y4 e X.env)::Z2 pos (XH es X.env))) _ _ s;refine YK (thn (ha Z s Y H _ I h) λu s1⟨x,H1,I1,r1,q1⟩=>?_);exact thn (hr pos Z s1 Y H1 _ I1 q1) λus s2⟨xs,H2,I2,r2,q2⟩=>⟨x::xs,H2,I2,.cons r1 r2,q2⟩
def kg(t:TA):TE:=λY H Q=>t Y H λxs H1=>xs.length<=Xe/\∀p,H1 p=B?->Q (.ref p) (upd H1 p (.tup xs))
def xp(t:TA):TE:=λY H Q=>t Y H λxs H1=>xs.length<=Xe/\∀p,H1 p=B?->Q (.ref p) (upd H1 p (.lst xs))
theorem aB{x1}(h:PA X es t):PE X (.Tuple es x1 pos) (kg t):=by
 intro Z s Y H Q I hq;refine wpAny_Tuple_spliced (thn (h pos Z s Y H _ I hq) λus s1⟨xs,H1,I1,r,z,q⟩=>⟨by rw[<-r.length];exact z,?_⟩);have hf:H1 s1.1.1.size=none:=I1.hok.fresh (WX _);refine⟨.ref s1.1.1.size,upd H1 s1.1.1.size (.tup xs),I1.laid (t':=s1.toks) (λb u e=>WV _ e) (WX _) ?_,D?,q _ hf⟩;exact⟨z,us,0,r,W3 _ rfl⟩
theorem bw(h:PA X es t):PE X (.List es pos) (xp t):=by
 intro Z s Y H Q I hq;refine wpAny_List_spliced (thn (h pos Z s Y H _ I hq) λus s1⟨xs,H1,I1,r,z,q⟩=>⟨by rw[<-r.length];exact z,?_⟩);have hf:H1 s1.1.1.size=none:=I1.hok.fresh (WX _);refine⟨.ref s1.1.1.size,upd H1 s1.1.1.size (.lst xs),I1.laid (t':=s1.toks) (λb u e=>WV _ e) (WX _) ?_,D?,q _ hf⟩;exact⟨z,us,0,r,W3 _ rfl⟩
end
abbrev Sp:=List V->Hp->VK->XK->Prop
abbrev CXT:=List Env->Hp->WY->XK->WU->WY->Prop
structure Env0(P:W6)(w:Xo)(K:WQ)(mg:Xk->Option WU)(base:Yd)(A:XI)(outer:List Env)(s:WY)(H:Hp):Prop where
 frames:A.frames=A? outer
 mod:Mod K mg base
 bs:∀b o,base.get? b=A? o->s.1.get? b=A? o/\H b=B?
 bsz:base.objs.size<=s.1.1.size
 funs:s.1.FunFrames base outer
 frf:∀b∈frs outer,H b=B?
 hok:HOk P w H s.1
 bare:AllBare s.gens
def CE(outer:List Env)(P:W6)(w:Xo)(H:Hp)(s:WY)(Q:VK)(u:WU)(s':WY):Prop :=
 ∃v H',s'.os=s.os/\AllBare s'.gens/\Un (frs outer) [] H H' s.1 s'.1/\HOk P w H' s'.1/\RelV v u/\Q v H'
def CR(CX:CXT)(outer:List Env)(P:W6)(w:Xo)(H:Hp)(s:WY)(Q:VK)(E:XK)(r:Result)(s':WY):Prop :=
 match r with
 |.ok (.ret u)=>CE outer P w H s Q u s'
 |.ok _=>False
 |.error e=>CX outer H s E e s'
structure aX(P:W6)(w:Xo)(K:WQ)(mg:Xk->Option WU)(base:Yd)(CX:CXT)(k:Nat)(f:WS)(fd:ZV)(ps:List Xk)(sp:Sp):Prop where
 len:∀vs H Q E,sp vs H Q E->vs.length=ps.length
 run:∀(A:XI)(outer:List Env)(s:WY)(H:Hp)(args:Args)(us:List WU)(vs:List V)(Q:VK)(E:XK),Room k A->Env0 P w K mg base A outer s H->BindsTo s fd args (ps.zip us)->Vals vs us->sp vs H Q E ->
  codeAny (Xv P w) A (.call (.ref f) args) (CR CX outer P w H s Q E) s
theorem Env0.make{outer:List Env}(e:Env0 P w K mg base A outer s H)(C:WS)(us:List WU)(kw:List (Xk×WU)) :
 Env0 P w K mg base (A.under (.builtin "type.__call__" ⟨.ref C::us,kw⟩)) outer s H:=⟨by first|exact e.frames|(simpa[Around.under,Code.envs,Code.isFrame,pushEnvs]using e.frames),e.mod,e.bs,e.bsz,e.funs,e.frf,e.hok,e.bare⟩
section
variable{X:Cx}{s':WY}
theorem Inv.env0(I:Inv X Z Y H s):Env0 X.prog X.w X.K X.mg X.base X.A X.stack s H :=
 ⟨I.ok.frames,I.ok.mod,I.bs,Xw I.ok.bsz I.sz,I.stack,I.stkFree,I.hok,I.bare⟩
theorem Inv.after{Q:VK}(I:Inv X Z Y H s)(h:CE X.stack X.prog X.w H s Q u s'):EP X Z Y Q u s':=by
 obtain⟨v,H',os,bare,un,hok,r,q⟩:=h;obtain⟨hh,g,d,t,SF⟩:=s';obtain rfl:SF=s.os:=os;exact⟨v,H',I.call (h':=hh) (g':=g) (d':=d) (t':=t) (ch:=[]) un hok bare (λb z=>g! z (by simp)),r,q⟩
end
def dr(sp:Sp)(dvs:List V)(E:XK)(t:TA):TE:=λY H Q=>t Y H λvs H1=>sp (vs++dvs) H1 Q E
def aaL(C:WS)(m:Xk)(sp:Sp)(dvs:List V)(E:XK)(ta:TE)(t:TA):TE:=λY H Q=>ta Y H λx H1=>∃a dx fs,x=.ref a/\H1 a=A? (.ins C dx fs)/\fs.lookup m=B? /\
 t Y H1 λvs H2=>sp (x::(vs++dvs)) H2 Q E
def aa5(C:WS)(sp:Sp)(dvs:List V)(E:XK)(t:TA):TE:=λY H Q=>t Y H λvs H1=>∀x dx,H1 x=B?->H1 dx=B?->dx≠x ->
 sp (.ref x::(vs++dvs)) (upd (upd H1 dx (.own x)) x (.ins C dx [])) (λv H2=>v=.non/\Q (.ref x) H2) E
def Binds(K:WQ)(fd:ZV)(ps:List Xk)(ds:List WU):Prop :=
 ∀(s:WY)(us:List WU),K.In s.1->(us++ds).length=ps.length->BindsTo s fd ⟨us,[]⟩ (ps.zip (us++ds))
theorem Binds.all(h:∀us:List WU,us.length=ps.length->bindArgs fd ⟨us,[]⟩=pure (ps.zip us)):Binds K fd ps []:=λs us _ hl=>by
 rw[XC]at hl |-;exact .of_eq (h us hl)
def Passes(CX:CXT)(X:Cx)(E:XK):Prop:=∀(Z:List (WS×Zc))(Y:St)(H:Hp)(s:WY)(e:WU)(s':WY),Inv X Z Y H s->CX X.stack H s E e s'->X.xe e s'
section
variable{X:Cx}{CX:CXT}{k:Nat}{f C:WS}{sp:Sp}{dvs:List V}{ds:List WU}{E:XK}{m:Xk}{p apos:Z4}{o:X6}{es:List X6}{ta:TE}{t:TA}
theorem xc{Q:VK}(F:aX X.prog X.w X.K X.mg X.base CX k f fd ps sp)(hr:Room k X.A)(hb:Binds X.K fd ps ds)(hd:Vals dvs ds)(hx:Passes CX X E)
 (I:Inv X Z Y H s) (r:Vals vs us) (h:sp (vs++dvs) H Q E):W9 (Xv X.prog X.w) X.A (call (.ref f) us) (EP X Z Y Q) X.xe s:=by
 have r2:Vals (vs++dvs) (us++ds):=r.append hd;have hl:(us++ds).length=ps.length:=by rw[<-r2.length];exact F.len _ _ _ _ h
 refine wpAny_call (codeAny_mono (F.run X.A X.stack s H ⟨us,[]⟩ (us++ds) (vs++dvs) Q E hr I.env0 (hb s us I.kIn hl) r2 h) λr s' hq=>?_);cases r with
 |error e=>exact hx Z Y H s e s' I hq
 | ok fl =>
   cases fl with
   |ret u=>exact I.after hq
   |next=>exact YC hq
   |brk=>exact YC hq
   |cont=>exact YC hq
theorem fM(F:aX X.prog X.w X.K X.mg X.base CX k f fd ps sp)(hr:Room k X.A)(hg:Gl X x)(hm:X.mg x=A? (.ref f))(hk:PySem.W.keepIn X.K (.ref f)=C?)(hb:Binds X.K fd ps ds)(hd:Vals dvs ds)(hx:Passes CX X E)
 (ha:PA X (e::es) t) (DA:(x == ("__debug__":Xk))=false:=by decide) (he:XH (e::es) X.env=(CU,Y4 e X.env)::XH es X.env:=by rfl) (AR:(Z2 pos (XH es X.env)).any (·.1)=false:=by rfl) :
 PE X (.Call (.Name x p) (e::es) [] pos) (dr sp dvs E t):=by
 intro Z s Y H Q I h;refine Yk (ky I hg hm ?_ DA);refine PySem.W.callWith_K (h₀:=X.base) I.ok.mod.kin hk (thn (ha pos Z s Y H _ I h) λus s1⟨vs,H1,I1,r,q⟩=>⟨I1.kIn,?_⟩) he AR;exact xc F hr hb hd hx I1 r q
theorem xZ{pl:Sem Bool}(he:PE X o ta)(c:Cls X.K C)(hm:Meth X.K C m f)(F:aX X.prog X.w X.K X.mg X.base CX k f fd ps sp)(hr:Room k X.A)(hb:Binds X.K fd ps ds)(hd:Vals dvs ds)(hx:Passes CX X E)(ha:PA X (e::es) t)
 (AW:XH (e::es) X.env=(CU,Y4 e X.env)::XH es X.env:=by rfl) (AR:(Z2 pos (XH es X.env)).any (·.1)=false:=by rfl)
 (ht:Y4 (.Call (.Attribute o m apos) (e::es) [] pos) X.env=(do
  let ov <-Y4 o X.env
  standAt apos.atName
  let(f,first) <-holding [ov] (getMethod ov m pl)
  callWith pos f first (Z2 pos (XH (e::es) X.env)) (backToKw pos (keywordEach [] X.env))):=by rfl) :
 PE X (.Call (.Attribute o m apos) (e::es) [] pos) (aaL C m sp dvs E ta t):=by
 intro Z s Y H Q I h;refine PySem.W.methodCall_KW (pl:=pl) (thn (he Z s Y H _ I h) λu s1⟨x,H1,I1,rx,a,dx,fs,ex,ea,l,q⟩=>?_) ht;subst ex;obtain rfl:u=Xm a:=rx;refine rE I1 ea c hm l ?_;refine PySem.W.callWith_K (first:=[.ref a]) (h₀:=X.base) I.ok.mod.kin hm.kp (thn (ha pos Z s1 Y H1 _ I1 q) λus s2⟨vs,H2,I2,r,q2⟩=>⟨I2.kIn,?_⟩) AW AR;exact xc (us:=.ref a::us) (vs:=.ref a::vs) F hr hb hd hx I2 (.cons rfl r) q2
structure Mk(K:WQ)(C f:WS):Prop where
 makes:PySem.W.makesIn K C=C?
 init:Zk K (.ref C) "__init__"=A? (A? (.ref f))
 fn:PySem.W.isFn K (.ref f)=C?
 kp:PySem.W.keepIn K (.ref C)=C?
theorem wc{Q:VK}(M:Mk X.K C f)(F:aX X.prog X.w X.K X.mg X.base CX k f fd ps sp)(hr:Room (k+1) X.A)(hb:Binds X.K fd ps ds)(hd:Vals dvs ds)
 (hx:Passes CX X E) (I:Inv X Z Y H s) (r:Vals vs us)
 (h:∀x dx,H x=B?->H dx=B?->dx≠x->sp (.ref x::(vs++dvs)) (upd (upd H dx (.own x)) x (.ins C dx [])) (λv H2=>v=.non/\Q (.ref x) H2) E) :
 W9 (Xv X.prog X.w) X.A (call (.ref C) us) (EP X Z Y Q) X.xe s:=by
 have hq:=h (s.1.1.size+1) s.1.1.size (I.hok.fresh (Nat.le_succ _)) (I.hok.fresh (WX _)) (XA (Nat.lt_succ_self _));have I2:=Inv.made (C:=C) I;have r2:Vals (i! (s.1.1.size+1)::(vs++dvs)) (Xm (s.1.1.size+1)::(us++ds)):=.cons rfl (r.append hd)
 have hl:(Xm (s.1.1.size+1)::us++ds).length=ps.length:=by
  have e:=r2.length;rw[F.len _ _ _ _ hq]at e;exact e.symm
 refine wpAny_call (xH (f:=f) I.kIn M.makes M.init (beq_iff_eq.mp M.fn) (codeAny_mono (F.run _ X.stack _ _ ⟨Xm (s.1.1.size+1)::us,[]⟩ (Xm (s.1.1.size+1)::(us++ds)) _ _ E (hr.make C us [])
  (I2.env0.make C us []) (hb _ (Xm (s.1.1.size+1)::us) I2.kIn hl) r2 hq) λr s' E2=>?_))
 cases r with
 |error e=>exact hx Z Y _ _ e s' I2 E2
 | ok fl =>
   cases fl with
   | ret u =>
     obtain⟨v,H',I3,rv,ev,q3⟩:=I2.after E2;subst ev;exact⟨rv,⟨i! (s.1.1.size+1),H',I3,D?,q3⟩⟩
   |next=>exact YC E2
   |brk=>exact YC E2
   |cont=>exact YC E2
theorem vt(M:Mk X.K C f)(F:aX X.prog X.w X.K X.mg X.base CX k f fd ps sp)(hr:Room (k+1) X.A)(hg:Gl X x)(hm:X.mg x=A? (.ref C))(hb:Binds X.K fd ps ds)(hd:Vals dvs ds)(hx:Passes CX X E)
 (DA:(x == ("__debug__":Xk))=false:=by decide):PE X (.Call (.Name x p) [] [] pos) (aa5 C sp dvs E cN):=by
 intro Z s Y H Q I h;refine Yk (ky I hg hm ?_ DA);exact PySem.W.callWith_K0 I.kIn M.kp (wc (us:=[]) M F hr hb hd hx I .nil h)
end
section
variable{X:Cx}{CX:CXT}{k:Nat}{f C:WS}{ks:List Xk}{sp:Sp}{E:XK}{m:Xk}{p apos SG:Z4}{o:X6}{es:List X6}{V5:List Keyword}{ta:TE}{t tk:TA}{nm:Option Xk}
variable{g:List WU->List WU->List WU}{gV:List V->List V->List V}
end
structure dM(N P:List Xk)(sc:Z6):Prop where
 kind:sc.kind=.function
 co:sc.isCoroutine=CU
 gen:sc.isGenerator=CU
 nd:N.Nodup
 pre:N.take P.length=P
 par:∀x∈P,sc.names.lookup x=A? .local\/sc.names.lookup x=A? .cell
 nofree:∀y∈sc.names,y.2≠.free
theorem nw:∀{binds:List (Xk×WU)}{m:Xk->Option WU},(∀v,(x,v)∉binds)->bindL kindOf binds m x=m x
 | [],_,_=>rfl
 | (n,v)::r,m,h=>by
   unfold bindL;rw[nw λw hw=>h w (W8 _ hw)];split
   .have:x≠n:=by rintro rfl;exact h v Xd
    simp[this]
   .rfl
theorem nv:∀{binds:List (Xk×WU)}{m:Xk->Option WU},(∀v,(x,v)∉binds)->bindC kindOf binds m x=m x
 | [],_,_=>rfl
 | (n,v)::r,m,h=>by
   unfold bindC;rw[nv λw hw=>h w (W8 _ hw)];split
   .rfl
   .have:x≠n:=by rintro rfl;exact h v Xd
    simp[this]
theorem nG{v:WU}:∀{P:List Xk}{vs:List WU}{i:Nat}{m:Xk->Option WU},P.Nodup->P[i]?=A? x->vs[i]?=A? v->kindOf x=A? .local ->
 bindL kindOf (P.zip vs) m x=A? v
 | [],_,_,_,_,h,_,_=>by simp at h
 |_::_,[],_,_,_,_,h,_=>by simp at h
 | p::P,w::vs,0,m,nd,h1,h2,hk=>by
   simp at h1 h2;subst h1;subst h2;show bindL kindOf ((p,w)::P.zip vs) m p=_;unfold bindL;rw[nw λv hv=>(ZN.mp nd).1 (ZM hv).1,b! hk];simp
 | p::P,w::vs,i+1,m,nd,h1,h2,hk=>by
   show bindL kindOf ((p,w)::P.zip vs) m x=_;unfold bindL;exact nG (i:=i) (ZN.mp nd).2 (by simpa using h1) (by simpa using h2) hk
theorem nj{v:WU}:∀{P:List Xk}{vs:List WU}{i:Nat}{m:Xk->Option WU},P.Nodup->P[i]?=A? x->vs[i]?=A? v->kindOf x≠A? .local ->
 bindC kindOf (P.zip vs) m x=A? v
 | [],_,_,_,_,h,_,_=>by simp at h
 |_::_,[],_,_,_,_,h,_=>by simp at h
 | p::P,w::vs,0,m,nd,h1,h2,hk=>by
   simp at h1 h2;subst h1;subst h2;show bindC kindOf ((p,w)::P.zip vs) m p=_;unfold bindC;rw[nv λv hv=>(ZN.mp nd).1 (ZM hv).1,a! hk];simp
 | p::P,w::vs,i+1,m,nd,h1,h2,hk=>by
   show bindC kindOf ((p,w)::P.zip vs) m x=_;unfold bindC;exact nj (i:=i) (ZN.mp nd).2 (by simpa using h1) (by simpa using h2) hk
def start(N:List Xk)(vs:List V):St:=vs.map A?++XN (N.length - vs.length) B?
def qW(CX:CXT)(P:W6)(w:Xo)(K:WQ)(mg:Xk->Option WU)(base:Yd)(N:List Xk)(qual:Xk)(scope:Z6)(f:WS)(cd:WU)(A:XI)(outer:List Env)(s:WY)(H:Hp)(E:XK):Cx where
 prog:=P
 w:=w
 K:=K
 mg:=mg
 base:=base
 A:=A.deeper (envOfC qual scope s.1.1.size f cd)
 N:=N
 s₀:=s
 H₀:=H
 env:=envOfC qual scope s.1.1.size f cd
 outer:=outer
 stack:=envOfC qual scope s.1.1.size f cd::outer
 ex:=[]
 calm:=C?
 fn:=λ_=>C?
 pn:=[]
 xe:=λe s'=>W9 (Xv P w) (A.deeper (envOfC qual scope s.1.1.size f cd)) (leaving (envOfC qual scope s.1.1.size f cd) e) (λ_ MJ=>CX outer H s E e MJ) (λe' MJ=>CX outer H s E e' MJ) s'
theorem pF(h:sc.names.lookup x=A? .cell):∃c,(cellsFrom n sc.names []).lookup x=A? c:=by
 have q:=PySem.W.cellsFrom_some sc.names n [] (.inl h);exact Z0.mp q
theorem uF{CX:CXT}{f:WS}{cd:WU}{outer:List Env}{s1:WY}{E:XK}
 (S:dM N ps scope) (hd:A.handled=B?) (e0:Env0 P w K mg base A outer s H) (hl:vs.length=ps.length) (r:Vals vs us)
 (x:InCallC s s.1.1.size (bindL (envOfC qual scope s.1.1.size f cd).kindOf (ps.zip us) λ_=>B?) (cellsFrom (s.1.1.size+1) scope.names []) (bindC (envOfC qual scope s.1.1.size f cd).kindOf (ps.zip us) λ_=>B?) s1) :
 Inv (qW CX P w K mg base N qual scope f cd A outer s H E) [] (start N vs) H s1:=by
 have AR:ps.length<=N.length:=by have:=h! Zu S.pre;rw[XS]at this;lia
 obtain⟨h1,tk,rfl,hk⟩:=x.done;have MK:∀b:WS,b∉(qW CX P w K mg base N qual scope f cd A outer s H E).ex:=λb z=>g! (show b∈([]:List WS)from z) (by simp)
 refine⟨⟨e0.mod,S.kind,D?,D?,WX _,λy z c h1 h2=>?_,λy hy=>?_,λy c _ h=>?_,λ_=>hd,Around.frames_deeper e0.frames,.inr ⟨D?,D?⟩,λb z=>g! z (MK b),e0.bs,e0.bsz,λb _ _=>MK b,λb z=>g! z (MK b),e0.funs,e0.frf⟩,
  rfl,e0.bare,Un.kept hk,⟨_,x.toInCall.ns,λi y v h1 h2 h3=>?_⟩,λy c h=>⟨_,x.cell y c h⟩,e0.hok.fresh (WX _),λy c h=>?_,λp hp=>g! (show p∈([]:List (WS×Zc))from hp) (by simp),e0.hok.kept hk,?_⟩
 .exact name_of_addr x.apart (Yj h1) (Yj h2)
 .have hy:scope.names.lookup y=A? .cell\/scope.names.lookup y=A? .free:=hy;rcases hy with hy|hy
  .exact pF hy
  .exact g! rfl (S.nofree _ (Yj hy))
 .exact ZT (x.above y c (Yj h))
 .have hi:i<vs.length:=by
   unfold start at h2;by_cases hi:i<vs.length
   .exact hi
   .rw[YS (by simpa using hi)]at h2;rw[List.getElem?_replicate]at h2;split at h2 <;> cases h2
  have ha:vs[i]?=A? v:=by
   unfold start at h2;rw[Yi (by simpa using hi),WZ]at h2;cases e:vs[i]? with
   |none=>rw[e]at h2;cases h2
   |some a=>rw[e]at h2;cases h2;rfl
  obtain⟨u,hu,rv⟩:=r.get ha
  have hp:ps[i]?=A? y:=by
   rw[<-S.pre,List.getElem?_take_of_lt (by lia)];exact h1
  have ndP:ps.Nodup:=by rw[<-S.pre];exact S.nd.sublist (List.take_sublist _ _)
  refine⟨u,rv,?_⟩;rcases S.par y (WT hp)with k|k
  .exact .inl ⟨k,nG ndP hp hu k⟩
  .obtain⟨c,e⟩:=pF (n:=s.1.1.size+1) k;refine .inr ⟨.inl k,c,e,?_⟩;have q:=x.cell y c e;rw[nj ndP hp hu (by show scope.names.lookup y≠_;rw[k];decide)]at q;exact q
 .exact e0.hok.fresh (ZT (x.above y c (Yj h)))
 .unfold start;show _=N.length;rw[Xg,WO,List.length_replicate];lia
theorem zh{CX:CXT}{k:Nat}{f:WS}{name:Xk}{dV kV doc pm Ai ct:WU}{an:Option WS}
 {EI:Array (Option WU)} {sp:Sp} (lk:K.lookup f=A? ⟨oc,od,.func (PySem.W.fnOf name qual params body scope dV kV doc pm an Ai ct),EI⟩) (BX:PySem.W.codeIn K Ai qual=C?) (S:dM N ps scope)
 (len:∀vs H Q E,sp vs H Q E->vs.length=ps.length)
 (Ba:∀(A:XI)(outer:List Env)(s:WY)(H:Hp)(vs:List V)(Q:VK)(E:XK),Room k (A.deeper (envOfC qual scope s.1.1.size f Ai))->sp vs H Q E ->
  ∃t,PSs (qW CX P w K mg base N qual scope f Ai A outer s H E) body t/\t {nx:=λ_ H'=>Q .non H',rt:=Q} (start N vs) H) :
 aX P w K mg base CX (k+1) f (PySem.W.fnOf name qual params body scope dV kV doc pm an Ai ct) ps sp:=by
 refine⟨len,λA outer s H args us vs Q E hr e0 hb r CM=>?_⟩;have hl:=len _ _ _ _ CM;have KX:K.In s.1:=e0.mod.kin.keeps λb o e=>(e0.bs b o e).1;have lim:s.1.NoLimit:=e0.mod.nolimit.keeps λb o e=>(e0.bs b o e).1
 have IK:∀y∈ps.zip us,scope.names.lookup y.1=A? .local\/(scope.names.lookup y.1=A? .cell/\((cellsFrom (s.1.1.size+1) scope.names []).lookup y.1).isSome=C?):=λ⟨n,v⟩hy=>by
  rcases S.par n (ZM hy).1 with q|q
  .exact .inl q
  .exact .inr ⟨q,PySem.W.cellsFrom_some _ _ _ (.inl q)⟩
 refine codeAny_call_function hr.depth (KX _ _ lk) rfl S.co S.gen rfl (PySem.W.codeRec_of KX BX) (hb _ _ _ _ ?_);refine wpAny_newFunctionEnv_cells S.kind IK λenv he s1 x=>?_;subst he;refine⟨lim.keeps x.toInCall.keep,codeAny_func ?_⟩;obtain⟨t,ht,hq⟩:=Ba A outer s H vs Q E (hr.deeper _) CM;have I:Inv (qW CX P w K mg base N qual scope f Ai A outer s H E) [] (start N vs) H s1:=uF S hr.hd e0 hl r x;refine Y9 (ht [] s1 (start N vs) H _ I hq) (λfl s' hs=>?_) λe s' hs=>hs
 have fin:∀{Aa:St}{H':Hp}{v:V}{u:WU},Inv (qW CX P w K mg base N qual scope f Ai A outer s H E) [] Aa H' s'->RelV v u->Q v H'->CE outer P w H s Q u s' :=
  λ{Aa H' v u}J rv q=>⟨v,H',J.os,J.bare,J.base,J.hok,rv,q⟩
 cases fl with
 | ret u =>
   obtain⟨v,Aa,H',J,rv,q⟩:=hs;exact fin J rv q
 | next =>
   obtain⟨Aa,H',J,q⟩:=hs;exact fin (v:=V.non) (u:=Yp) J rfl q
 | brk =>
   obtain⟨_,_,_,q⟩:=hs;exact YC q
 | cont =>
   obtain⟨_,_,_,q⟩:=hs;exact YC q
end L2
variable{CX:L2.CXT}{sp:L2.Sp}
namespace L2
open PySem PySem.Spec PyProof.Rows
section
variable{X:Cx}{p:Z4}{es:List X6}{t:TA}{id T:String}{r:List V->Hp->VK->Prop}
def tCB(r:List V->Hp->VK->Prop)(t:TA):TE:=λY H Q=>t Y H λvs H1=>r vs H1 Q
theorem aC(hc:fz X (.builtin id) r)(hg:Gl X x)(hm:X.mg x=B?)(hv:bootBuiltins x=A? (.builtin id))(ha:PA X (e::es) t)(hn:x≠"__name__":=by decide)(DA:(x == ("__debug__":Xk))=false:=by decide)
 (he:XH (e::es) X.env=(CU,Y4 e X.env)::XH es X.env:=by rfl) (AR:(Z2 pos (XH es X.env)).any (·.1)=false:=by rfl):PE X (.Call (.Name x p) (e::es) [] pos) (tCB r t):=by
 intro Z s Y H Q I h;refine Yk (db I hg hm hv ?_ hn DA);exact PyProof.Rows.callWith_builtin1 (thn (ha pos Z s Y H _ I h) λus s1⟨vs,H1,I1,r1,q1⟩=>hc Z s1 Y H1 vs us Q I1 r1 q1) he AR
theorem bB(hc:fz X (.type T) r)(hg:Gl X x)(hm:X.mg x=B?)(hv:bootBuiltins x=A? (.type T))(ha:PA X (e::es) t)(hn:x≠"__name__":=by decide)(DA:(x == ("__debug__":Xk))=false:=by decide)
 (he:XH (e::es) X.env=(CU,Y4 e X.env)::XH es X.env:=by rfl) (AR:(Z2 pos (XH es X.env)).any (·.1)=false:=by rfl):PE X (.Call (.Name x p) (e::es) [] pos) (tCB r t):=by
 intro Z s Y H Q I h;refine Yk (db I hg hm hv ?_ hn DA);exact X1 (thn (ha pos Z s Y H _ I h) λus s1⟨vs,H1,I1,r1,q1⟩=>hc Z s1 Y H1 vs us Q I1 r1 q1) he AR
end
end L2
namespace HT
open PySem PyProof.Rows
section
open PySem.SeqAt
open PySem.AutoSeq1 (wpAny_loadPart')
open PySem.MeetsSeq PySem.MeetsSeq2 PySem.MeetsSeq3
end
theorem cat_tup{t:WS}{vs ws:List WU}(ht:IsTup s.1 t vs.toArray)(hb:IsTup s.1 b ws.toArray)(hv:vs≠[])
 (h1:ws=[]->Q (.ref t) s) (h2:ws≠[]->Q (.ref s.1.1.size) {s with heap:=s.1.push {cls:=.type "tuple",data:=.seq (vs++ws).toArray}})
 (hsz:vs.length+ws.length<=Xe):W9 (Xv prog w) A (binaryOp .Add (.ref t) (.ref b)) Q E s:=by
 obtain⟨⟨cls,dd,data,sl⟩,ho,hc,n,hd⟩:=id ht;obtain⟨⟨IL,HS,data2,HU⟩,E3,BQ,n2,hd2⟩:=id hb;simp only at hc hd BQ hd2;subst hc hd BQ hd2;have e:vs.toArray++ws.toArray=(vs++ws).toArray:=by simp
 by_cases hw:ws=[]
 .exact concat_meets ⟨_,ho,rfl⟩ ⟨_,E3,rfl⟩ noFill_tuple_add seq_tuple_add PySem.F.slot_tuple_add PySem.F.entry_tuple_add (PySem.F.args_tuple_add_2 _ _)
   (tuple_addW1 t b vs.toArray ws.toArray n n2 dd HS sl HU (by simpa using hv) (by simp[hw])) ⟨ho,E3,h1 hw⟩
 .refine concat_meets ⟨_,ho,rfl⟩ ⟨_,E3,rfl⟩ noFill_tuple_add seq_tuple_add PySem.F.slot_tuple_add PySem.F.entry_tuple_add (PySem.F.args_tuple_add_2 _ _)
   (tuple_addW2 t b vs.toArray ws.toArray n n2 dd HS sl HU (by simpa using hv) (by simpa using hw) (by rw[W0,W0];exact hsz)) ⟨ho,E3,?_⟩
  rw[e];exact h2 hw
def sIx(n d:Nat):Option Int->Nat
 |none=>d
 |some v=>if v<0 then(v+(n:Int)).toNat else min v.toNat n
theorem sIx_none(n d:Nat):sIx n d B?=d:=rfl
theorem sIx_nat(n d k:Nat):sIx n d (A? (k:Int))=min k n:=by
 show(if(k:Int)<0 then((k:Int)+(n:Int)).toNat else min (k:Int).toNat n)=min k n;rw[a! (by lia),Xu]
theorem sIx_le(n d:Nat)(hd:d<=n)(o:Option Int):sIx n d o<=n:=by
 cases o with
 |none=>exact hd
 | some v =>
   show(if v<0 then(v+(n:Int)).toNat else min v.toNat n)<=n;by_cases hv:v<0
   .rw[b! hv];lia
   .rw[a! hv];exact Nat.min_le_right _ _
theorem clip_eq(v:Int)(n d:Nat):(if v<0 then max (v+(n:Int)) 0 else min v (n:Int))=((sIx n d (A? v):Nat):Int):=by
 show(if v<0 then max (v+(n:Int)) 0 else min v (n:Int))=(((if v<0 then(v+(n:Int)).toNat else min v.toNat n):Nat):Int);by_cases hv:v<0
 .simp only[b! hv];lia
 .simp only[a! hv];lia
theorem adjust_gen(lo hi:Option Int)(n:Nat):Z3 lo hi 1 (n:Int)=(((sIx n 0 lo:Nat):Int),((sIx n n hi:Nat):Int)):=by
 have h1:¬((1:Int)<0):=by lia
 unfold Z3;simp only[h1,if_false];refine Prod.ext ?_ ?_
 .cases lo with
  |none=>rfl
  |some v=>exact clip_eq v n 0
 .cases hi with
  |none=>rfl
  |some v=>exact clip_eq v n n
theorem places_gen(i j:Nat):YI (i:Int) (j:Int) 1=j - i:=by
 unfold YI;have h1:(1:Int) > 0:=by lia
 simp only[h1,if_true,Int.ediv_one];split <;> lia
theorem slicePart_{v:WU}{o:Option Int}{Q:Option Int->WY->Prop}(p:IsPart v o)(h:Q o s):W9 (Xv prog w) A (Builtin.Slice.slicePartIndex v) Q E s:=by
 cases p with
 |none=>exact slicePart_none h
 |int i t=>exact slicePart_int h
theorem sliceApplied_gen{Q:Int×Int×Nat->WY->Prop}(hs:s.1.IsSliceOf sl vl vu .none)(pl:IsPart vl lo)(pu:IsPart vu hi)
 (h:Q (((sIx n 0 lo:Nat):Int),1,sIx n n hi - sIx n 0 lo) s):W9 (Xv prog w) A (Builtin.Slice.sliceApplied (.ref sl) (pure (n:Int))) Q E s:=by
 obtain⟨os,DB,Ck,Bz⟩:=id hs;unfold Builtin.Slice.sliceApplied Builtin.Slice.sliceFields;refine WN (WN (XX DB Bz (x:=vl) rfl (WN (XX DB Bz (x:=vu) rfl (WN (XX DB Bz (x:=.none) rfl (WW ?_)))))));refine WN (slicePart_none ?_);show W9 _ _ (if((1:Int) == 0)=C? then _ else _) _ _ s;rw[a! (by decide)];refine WN (slicePart_ pl (WN (slicePart_ pu (WN (WW ?_)))));show W9 _ _ (match Z3 lo hi 1 (n:Int)with|(lo,hi)=>pure (lo,(1:Int),YI lo hi 1)) _ _ s;rw[adjust_gen lo hi n];show W9 _ _ (pure (((sIx n 0 lo:Nat):Int),(1:Int),YI ((sIx n 0 lo:Nat):Int) ((sIx n n hi:Nat):Int) 1)) _ _ s;rw[places_gen];exact WW h
theorem pick_gen(xs:Array WU)(i k:Nat):((XF k).filterMap λ(m:Nat)=>xs[((i:Int)+(m:Int) * 1).toNat]?).toArray=((xs.toList.drop i).take k).toArray:=by
 have e:(λ(m:Nat)=>xs[((i:Int)+(m:Int) * 1).toNat]?)=λm=>xs[i+m]?:=by
  funext m;have:((i:Int)+(m:Int) * 1).toNat=i+m:=by lia
  rw[this]
 rw[e];have:=pick_run xs i k;rw[List.filterMap_map]at this;have e2:((λx=>xs[x]?) ∘ λx=>i+x)=λm=>xs[i+m]?:=rfl;rw[e2]at this;rw[this]
theorem getItem_tuple_cut{t:WS}(ht:IsTup s.1 t items)(hs:s.1.IsSliceOf sl vl vu .none)(pl:IsPart vl lo)(pu:IsPart vu hi)
 (hw:¬(sIx items.size 0 lo=0/\sIx items.size items.size hi=items.size))
 (h:Q (.ref s.1.1.size) {s with heap:=s.1.push {cls:=.type "tuple",data:=.seq ((items.toList.drop (sIx items.size 0 lo)).take (sIx items.size items.size hi - sIx items.size 0 lo)).toArray}})
 (hsz:items.size<=Xe):W9 (Xv prog w) A (getItem (.ref t) (.ref sl)) Q E s:=by
 have Bb:sizeOk (.seq ((items.toList.drop (sIx items.size 0 lo)).take (sIx items.size items.size hi - sIx items.size 0 lo)).toArray):=by
  show((items.toList.drop (sIx items.size 0 lo)).take (sIx items.size items.size hi - sIx items.size 0 lo)).toArray.size<=Xe;rw[W0,XS,List.length_drop,XR];lia
 have hj:sIx items.size items.size hi<=items.size:=sIx_le _ _ (WX _) hi;obtain⟨os,DB,Ck,Bz⟩:=id hs;have IM:s.TypeIs (.ref sl) "slice":=⟨os,DB,Ck⟩;unfold getItem
 try with_reducible refine Yv ?_
 first|refine WN (WW ?_)|skip
 refine WN (wpAny_sequenceKey ht.typeIs (by decide) ?_)
 refine WN (X3 (name:=Xq "__getitem__") ht.typeIs XQ
  (X5 XQ ht.typeIs entry_tuple_getitem ?_ (args_tuple_getitem _ _)))
 show W9 _ _ (ZW (.ref t) >>= _) _ _ s;refine WN (tupleItemsOf_ ht ?_);refine WN (ZH IM ?_);rw[b! (by decide)];refine WN (sliceApplied_gen hs pl pu ?_)
 have C0:¬((((sIx items.size 0 lo:Nat):Int) == 0 && (1:Int) == 1 && (sIx items.size items.size hi - sIx items.size 0 lo) == items.size)=C?):=by
  intro q;rw[XT,XT]at q;have q1:((sIx items.size 0 lo:Nat):Int)=0:=eq_of_beq q.1.1;have q2:sIx items.size items.size hi - sIx items.size 0 lo=items.size:=eq_of_beq q.2;exact hw ⟨by lia,by lia⟩
 show W9 _ _ (if(((sIx items.size 0 lo:Nat):Int) == 0 && (1:Int) == 1 && (sIx items.size items.size hi - sIx items.size 0 lo) == items.size)=C? then _ else _) _ _ s;rw[a! C0,pick_gen]
 first
  |exact WN (m:=YN _) (Ye (WW ⟨_,rfl,WW h⟩) Bb)
  |exact WN (m:=YN _) (Ye (WN (WW (WW ⟨_,rfl,WW h⟩))) Bb)
  |exact WN (WN (m:=YN _) (Ye (WW (WW ⟨_,rfl,WW h⟩)) Bb))
  |exact WN (WN (m:=YN _) (Ye (WW ⟨_,rfl,WW h⟩) Bb))
end HT
open HT renaming sIx->H!
namespace L2
open PySem PySem.Spec PyProof.Rows
abbrev TO:=St->Hp->(Option Int->Hp->Prop)->Prop
def PO(X:Cx)(e:Option X6)(t:TO):Prop :=
 ∀(Z:List (WS×Zc))(s:WY)(Y:St)(H:Hp)(Q:Option Int->Hp->Prop),Inv X Z Y H s->t Y H Q ->
   W9 (Xv X.prog X.w) X.A (evalPart e X.env) (λu s'=>∃o H',Inv X Z Y H' s'/\IsPart u o/\Q o H') X.xe s
def yE:TO:=λ_ H Q=>Q B? H
inductive zj(x:V)(Q:Option Int->Hp->Prop)(H1:Hp):Prop
 |mk (i:Int) (CK:x=.int i) (CL:Q (A? i) H1):zj x Q H1
def zp(t:TE):TO:=λY H Q=>t Y H λx H1=>zj x Q H1
theorem intsAre_of:∀{us:List WU},Vals (ns.map q!) us->IntsAre us ns:=by
 induction ns with
 |nil=>intro us r;rw[Y2]at r;cases r;exact .nil
 | cons n ns ih =>
   intro us r;rw[Xr]at r;cases r with
   | cons r1 r2 =>
     obtain⟨t,e⟩:=r1;subst e;exact .cons n t (ih r2)
section
variable{X:Cx}{lo hi:Option X6}{tl th:TO}{p2:Z4}
theorem gF:PO X B? yE:=by
 intro Z s Y H Q I h;rw[evalPart_none];exact WW ⟨B?,H,I,.none,h⟩
theorem fH(h:PE X e te):PO X (A? e) (zp te):=by
 intro Z s Y H Q I hw;rw[evalPart_some];refine thn (h Z s Y H _ I hw) λu s1⟨x,H1,I1,r1,q1⟩=>?_;obtain⟨i,rfl,q⟩:=q1;obtain⟨t,rfl⟩:=r1;exact⟨A? i,H1,I1,.int i t,q⟩
def SlR(X:Cx)(r:V->Option Int->Option Int->Hp->VK->Prop):Prop :=
 ∀(Z:List (WS×Zc))(s:WY)(Y:St)(H:Hp)(x:V)(v vl vu:WU)(lo hi:Option Int)(sl:WS)(Q:VK),Inv X Z Y H s->RelV x v->s.1.IsSliceOf sl vl vu .none->IsPart vl lo->IsPart vu hi->r x lo hi H Q ->
   ∃T id,typeLookup (.type T) "__getitem__"=pure (A? (.builtin id))/\s.TypeIs v T/\W9 (Xv X.prog X.w) X.A (getItem v (.ref sl)) (EP X Z Y Q) X.xe s
def tSl(r:V->Option Int->Option Int->Hp->VK->Prop)(te:TE)(tl th:TO):TE:=λY H Q=>te Y H λx H1=>tl Y H1 λl H2=>th Y H2 λu H3=>r x l u H3 Q
theorem fe{r:V->Option Int->Option Int->Hp->VK->Prop}(hr:SlR X r)(he:PE X e te)(hl:PO X lo tl)(hu:PO X hi th):PE X (.Subscript e (.Slice lo hi B? p2) pos) (tSl r te tl th):=by
 intro Z s Y H Q I h;refine Subscript_ (thn (he Z s Y H _ I h) λv s1⟨x,H1,I1,r1,q1⟩=>?_);refine wpAny_Slice (thn (hl Z s1 Y H1 _ I1 q1) λvl s2⟨l,H2,I2,pl,q2⟩=>thn (hu Z s2 Y H2 _ I2 q2) λvu s3⟨u,H3,I3,pu,q3⟩=>?_);rw[evalPart_none];refine WW ?_;have I4:Inv X Z Y H3 {s3 with heap:=s3.1.push {cls:=.type "slice",data:=.fields #[vl,vu,.none]}}:=I3.kept (t':=s3.toks) λb ob q=>WV _ q;obtain⟨T,id,hT,ht,hg⟩:=hr Z {s3 with heap:=s3.1.push {cls:=.type "slice",data:=.fields #[vl,vu,.none]}} Y H3 x v vl vu l u s3.1.1.size Q I4 r1 (Heap.IsSliceOf.new ..) pl pu q3;show W9 (Xv X.prog X.w) X.A (subscriptTail e (.Slice lo hi B? p2) v (.ref s3.1.1.size)) (EP X Z Y Q) X.xe {s3 with heap:=s3.1.push {cls:=.type "slice",data:=.fields #[vl,vu,.none]}};exact tail_any (ops:=[.ref s3.1.1.size,v]) ht hT hg (by with_unfolding_all rfl)
def jn(xs:List V)(lo hi:Option Int):List V:=(xs.drop (H! xs.length 0 lo)).take (H! xs.length xs.length hi - H! xs.length 0 lo)
theorem qO(xs:List V)(lo hi:Option Int):(jn xs lo hi).length<=xs.length:=by
 unfold jn;rw[XS,List.length_drop];lia
inductive zm(K:WQ)(x:V)(lo:Option Int)(hi:Option Int)(H:Hp)(Q:VK):Prop
 |mk (a:_) (xs:_) (CK:x=.ref a) (CL:SqT K H a xs) (D5:¬(H! xs.length 0 lo=0/\H! xs.length xs.length hi=xs.length)) (E1:∀p,H p=B?->Q (.ref p) (upd H p (.tup (jn xs lo hi)))):zm K x lo hi H Q
def abq(K:WQ):V->Option Int->Option Int->Hp->VK->Prop:=zm K
theorem kQ:SlR X (abq X.K):=by
 intro Z s Y H x v vl vu lo hi sl Q I rx hs pl pu h;obtain⟨a,xs,rfl,hx,hw,q⟩:=h;cases rx;obtain⟨its,r,ht,hz⟩:=I.tuple hx;have hlen:its.toArray.size=xs.length:=by rw[W0];exact r.length.symm
 refine⟨"tuple",_,XQ.lookup,ht.typeIs,?_⟩;refine HT.getItem_tuple_cut ht hs pl pu (by rw[hlen];exact hw) ?_ (by rw[hlen];exact hz);rw[hlen];refine⟨.ref s.1.1.size,_,I.laid (t':=s.toks) (o:=.tup (jn xs lo hi)) (λb ob q=>WV _ q) (WX _) ?_,D?,q _ (I.hok.fresh (WX _))⟩;exact⟨Xw (qO xs lo hi) hz,_,0,(r.drop (H! xs.length 0 lo)).take (H! xs.length xs.length hi - H! xs.length 0 lo),W3 _ rfl⟩
def aaM(K:WQ):R2:=λx y H Q=>∃a b xs ys,x=.ref a/\y=.ref b/\SqT K H a xs/\SqT K H b ys/\xs≠[]/\xs.length+ys.length<=Xe /\
 (ys=[]->Q (.ref a) H)/\(ys≠[]->∀p,H p=B?->Q (.ref p) (upd H p (.tup (xs++ys))))
theorem Vals.nil_iff(r:Vals xs us):us=[]↔xs=[]:=by
 cases r with
 |nil=>simp
 |cons _ _=>simp
theorem yQ:OpR X (binaryOp .Add) (aaM X.K):=by
 intro Z s Y H x y v u Q I rx ry h;obtain⟨a,b,xs,ys,rfl,rfl,ha,hb,hx,hz,q1,q2⟩:=h;cases rx;cases ry;obtain⟨its,r1,p1,_⟩:=I.tuple ha;obtain⟨Ag,r2,p2,_⟩:=I.tuple hb;refine HT.cat_tup p1 p2 (λz=>hx (r1.nil_iff.mp z)) (λz=>⟨.ref a,H,I,rfl,q1 (r2.nil_iff.mp z)⟩) (λz=>?_) (by rw[<-r1.length,<-r2.length];exact hz);refine⟨.ref s.1.1.size,_,I.laid (t':=s.toks) (o:=.tup (xs++ys)) (λb ob q=>WV _ q) (WX _) ?_,D?,q2 (λw=>z (r2.nil_iff.mpr w)) _ (I.hok.fresh (WX _))⟩;exact⟨by rw[Xg];exact hz,_,0,r1.append r2,W3 _ rfl⟩
end
def ixN(n:Nat)(i:Int):Option Nat:=if 0<=i then(if i<n then A? i.toNat else B?)else if -(n:Int)<=i then A? (i+n).toNat else B?
def atI{α:Type}(xs:List α)(i:Int):Option α:=(ixN xs.length i).bind λj=>xs[j]?
theorem oY{i:Int}(h:ixN n i=A? j):seqIndex? i n=A? j/\j<n/\-(n:Int)<=i/\i<n:=by
 unfold ixN at h;by_cases h0:0<=i
 .rw[b! h0]at h;by_cases h1:i<n
  .rw[b! h1]at h;have e:i.toNat=j:=Xp h;exact⟨by rw[seqIndex_of h0 h1,e],by lia,by lia,h1⟩
  .rw[a! h1]at h;cases h
 .rw[a! h0]at h;by_cases h1:-(n:Int)<=i
  .rw[b! h1]at h;have e:(i+n).toNat=j:=Xp h;exact⟨by rw[seqIndex_neg (by lia) h1,e],by lia,h1,by lia⟩
  .rw[a! h1]at h;cases h
theorem oJ{xs:List α}{i:Int}{v:α}(h:atI xs i=A? v):∃j,seqIndex? i xs.length=A? j/\xs[j]?=A? v/\j<xs.length/\-(xs.length:Int)<=i/\i<xs.length:=by
 unfold atI at h;cases e:ixN xs.length i with
 |none=>rw[e]at h;cases h
 | some j =>
   rw[e]at h;obtain⟨h1,h2,h3,h4⟩:=oY e;exact⟨j,h1,h,h2,h3,h4⟩
theorem cF{xs:List α}{v:α}(h:xs[j]?=A? v):atI xs (j:Int)=A? v:=by
 have hj:j<xs.length:=(glE h)
 have e:ixN xs.length (j:Int)=A? j:=by
  unfold ixN;rw[b! (by lia),b! (by lia)];simp
 unfold atI;rw[e];exact h
def um(b:X6):Prop:=∀o i,subscripted b CU o i=operate [o,i] (getItem o i)
def IxR(X:Cx)(r:R2):Prop :=
 ∀(value slice:X6)(Z:List (WS×Zc))(s:WY)(Y:St)(H:Hp)(x y:V)(v u:WU)(Q:VK),Inv X Z Y H s->RelV x v->RelV y u->r x y H Q ->
   subscripted slice CU v u=operate [v,u] (getItem v u)->W9 (Xv X.prog X.w) X.A (subscriptTail value slice v u) (EP X Z Y Q) X.xe s
def MtR(X:Cx)(id:String)(r:V->List V->Hp->VK->Prop):Prop :=
 ∀(Z:List (WS×Zc))(s:WY)(Y:St)(H:Hp)(x:V)(xs:List V)(v:WU)(us:List WU)(Q:VK),Inv X Z Y H s->RelV x v->Vals xs us->r x xs H Q ->
   W9 (Xv X.prog X.w) X.A (call (.builtin id) (v::us)) (EP X Z Y Q) X.xe s
section
variable{X:Cx}{a b:X6}{ta tb:TE}
theorem aY{r:R2}(hr:IxR X r)(ha:PE X a ta)(hb:PE X b tb)(hs:um b):PE X (.Subscript a b pos) (tOp r ta tb):=by
 intro Z s Y H Q I h;exact Subscript_ (zK ha hb I h λv u s2 x y H2 I2 rx ry q=>hr a b Z s2 Y H2 x y v u Q I2 rx ry q (hs _ _))
inductive zc(K:WQ)(x:V)(y:V)(H:Hp)(Q:VK):Prop
 |mk (p:_) (xs:_) (i:_) (v:_) (CK:x=.ref p) (CL:y=.int i) (D5:SqL K H p xs) (E1:atI xs i=A? v) (HV:Q v H):zc K x y H Q
def xl(K:WQ):R2:=zc K
inductive ze(K:WQ)(x:V)(y:V)(H:Hp)(Q:VK):Prop
 |mk (p:_) (xs:_) (i:_) (v:_) (CK:x=.ref p) (CL:y=.int i) (D5:SqT K H p xs) (E1:atI xs i=A? v) (HV:Q v H):ze K x y H Q
def zC(K:WQ):R2:=ze K
inductive zq(x:V)(y:V)(H:Hp)(Q:VK):Prop
 |mk (z:_) (i:_) (c:_) (CK:x=.str z) (CL:y=.int i) (D5:z.length<=Xe) (E1:atI z.cps.toList i=A? c) (HV:Q (.str ⟨#[c]⟩) H):zq  x y H Q
def abT:R2:=zq
theorem bv:IxR X (xl X.K):=by
 intro value slice Z s Y H x y v u Q I rx ry h hs;obtain⟨p,xs,i,z,rfl,rfl,hq,he,q⟩:=h;cases rx;obtain⟨t,rfl⟩:=ry;obtain⟨its,r,pl,hz⟩:=I.list hq;obtain⟨j,h1,h2,h3,h4,h5⟩:=oJ he;obtain⟨w,ew,Cm⟩:=r.get h2;have hl:=r.length;have hn:=fA;have fin:EP X Z Y Q w s:=⟨z,H,I,Cm,q⟩;by_cases h0:0<=i
 .have hj:i.toNat=j:=by
   rw[seqIndex_of h0 h5]at h1;exact Xp h1
  exact item_listR pl.isList h0 (by lia) (by rw[hj];simpa using ew) fin hs
 .have hj:(i+(its.toArray.size:Int)).toNat=j:=by
   rw[seqIndex_neg (by lia) h4]at h1;rw[W0,<-hl];exact Xp h1
  exact subscriptTail_builtinR (x:=w) pl.isList.typeIs slot_list_getitem.lookup
   (wpAny_getItem_list_neg (Q:=λr s'=>r=w/\EP X Z Y Q r s') pl.isList (by lia) (by rw[W0] <;> lia) (by lia) (by rw[hj];simpa using ew) ⟨rfl,fin⟩) hs
theorem bx:IxR X (zC X.K):=by
 intro value slice Z s Y H x y v u Q I rx ry h hs;obtain⟨p,xs,i,z,rfl,rfl,hq,he,q⟩:=h;cases rx;obtain⟨t,rfl⟩:=ry;obtain⟨its,r,pl,hz⟩:=I.tuple hq;obtain⟨j,h1,h2,h3,h4,h5⟩:=oJ he;obtain⟨w,ew,Cm⟩:=r.get h2;have hl:=r.length;have hn:=fA;have fin:EP X Z Y Q w s:=⟨z,H,I,Cm,q⟩
 exact subscriptTail_builtinR (x:=w) pl.typeIs slot_tuple_getitem.lookup
  (getItem_tuple (j:=j) (Q:=λr s'=>r=w/\EP X Z Y Q r s') pl (by lia) (by lia) (by rw[W0,<-hl];exact h1) (by simpa using ew) ⟨rfl,fin⟩) hs
theorem zy:IxR X abT:=by
 intro value slice Z s Y H x y v u Q I rx ry h hs;obtain⟨z,i,c,rfl,rfl,hz,he,q⟩:=h;obtain⟨t,rfl⟩:=rx;obtain⟨t',rfl⟩:=ry;obtain⟨j,h1,h2,h3,h4,h5⟩:=oJ he;have hl:z.cps.toList.length=z.length:=by simp[Str.length]
 rw[hl]at h1 h4 h5;have hn:=fA
 exact tail_any (typeIs_str s z t) slot_str_getitem.lookup (getItem_str (c:=c) (by
  have e1:decide (i < -(2 ^ 63:Int))=false:=c! (by lia);have e2:decide (i >= 2 ^ 63)=false:=c! (by lia);rw[e1,e2,Bool.or_false]) (by rw[h1];simpa using h2) ⟨.str ⟨#[c]⟩,H,I.tok _,⟨_,rfl⟩,q⟩) hs
theorem sr(its:List WU)(n j:Nat)(u:WU):Yg (·.setIfInBounds j u) {cls:=.type "list",data:=.seq its.toArray n}={cls:=.type "list",data:=.seq (its.set j u).toArray n}:=by
 simp[Yg]
theorem Inv.lst{p:WS}(I:Inv X Z Y H s)(h:H p=A? (.lst xs)) :
 ∃(its:List WU)(n:Nat),Vals xs its/\s.1.get? p=A? {cls:=.type "list",data:=.seq its.toArray n}/\xs.length<=Xe:=by
 obtain⟨z,its,n,r,e⟩:=I.hok p _ h;exact⟨its,n,r,e,z⟩
theorem Inv.lstUpd{p:WS}{ys:List V}{its':List WU}{n':Nat}{f:Zc->Zc}(I:Inv X Z Y H s)(h:H p=A? (.lst xs))
 (ho:s.1.get? p=A? {cls:=.type "list",data:=.seq its.toArray n}) (hf:f {cls:=.type "list",data:=.seq its.toArray n}={cls:=.type "list",data:=.seq its'.toArray n'}) (r:Vals ys its') (hz:ys.length<=Xe) (t:Nat) :
 Inv X Z Y (upd H p (.lst ys)) {s with heap:=s.1.update p f,toks:=t}:=by
 have e:(s.1.update p f).get? p=A? {cls:=.type "list",data:=.seq its'.toArray n'}:=by
  rw[XO f ho (by rw[hf] <;> rfl),hf]
 refine I.write (x:=p) (e:=p) (by rw[h];trivial) (.inl rfl) (λb u hb q=>(XW _ _ (YT hb)).trans q) ⟨_,e⟩ ?_;exact⟨hz,its',n',r,e⟩
def aaY:V->V->V->Hp->(Hp->Prop)->Prop:=λo i v H Q=>∃p xs k j,o=.ref p/\i=.int k/\H p=A? (.lst xs)/\ixN xs.length k=A? j/\Q (upd H p (.lst (xs.set j v)))
theorem set_list:aaD X aaY:=by
 intro Z s Y H o i v ov iv u Q I ro ri rv h;obtain⟨p,xs,k,j,rfl,rfl,hp,hj,q⟩:=h;cases ro;obtain⟨t,rfl⟩:=ri;obtain⟨its,n,r,ho,hz⟩:=I.lst hp;obtain⟨h1,h2,h3,h4⟩:=oY hj;have hl:=r.length;have hn:=fA
 have I':Inv X Z Y (upd H p (.lst (xs.set j v))) {s with heap:=s.1.update p (Yg (·.setIfInBounds j u))} :=
  I.lstUpd hp ho (sr its n j u) (r.set rv j) (by rw[List.length_set];exact hz) s.toks
 by_cases h0:0<=k
 .have hk:k.toNat=j:=by
   rw[seqIndex_of h0 h4]at h1;exact Xp h1
  exact PySem.W.ki_setAt ho h0 (by lia) (by rw[W0,<-hl];exact h4) (by rw[hk];exact⟨_,I',q⟩)
 .have hk:(k+(its.toArray.size:Int)).toNat=j:=by
   rw[seqIndex_neg (by lia) h3]at h1;rw[W0,<-hl];exact Xp h1
  exact PySem.W.ki_setBack ho (by lia) (by rw[W0,<-hl];exact h3) (by lia) (by rw[hk];exact⟨_,I',q⟩)
inductive zu(K:WQ)(xs:List V)(H:Hp)(Q:VK):Prop
 |mk (p:WS) (ys:List V) (CK:xs=[.ref p]) (CL:SqL K H p ys\/SqT K H p ys) (D5:Q (.int ys.length) H):zu K xs H Q
theorem ay:fz X (.builtin "len") (zu X.K):=by
 intro Z s Y H xs us Q I r h;obtain⟨p,ys,rfl,hq,q⟩:=h;obtain⟨u,rfl,rx⟩:=vals1 r;cases rx;have hn:=fA;rcases hq with hq|hq
 .obtain⟨its,r',pl,hz⟩:=I.list hq;have hlen:=r'.length;exact Calls.call_len_list pl.isList (by simp only[W0] <;> lia) ⟨.int ys.length,H,I.tok _,⟨s.toks+1,by rw[W0,hlen]⟩,q⟩
 .obtain⟨its,r',pl,hz⟩:=I.tuple hq;have hlen:=r'.length;exact len_tuple pl (by simp only[W0] <;> lia) ⟨.int ys.length,H,I.tok _,⟨s.toks+1,by rw[W0,hlen]⟩,q⟩
theorem bo:fz X (.type "tuple") (λxs H Q=>∃p ys,xs=[.ref p]/\((SqL X.K H p ys/\∀l,H l=B?->Q (.ref l) (upd H l (.tup ys)))\/(SqT X.K H p ys/\Q (.ref p) H))):=by
 intro Z s Y H xs us Q I r h;obtain⟨p,ys,rfl,h⟩:=h;obtain⟨u,rfl,rx⟩:=vals1 r;cases rx;rcases h with⟨hq,q⟩|⟨hq,q⟩
 .obtain⟨its,r',pl,hz⟩:=I.list hq;have hlen:=r'.length;refine call_tuple_list pl.isList (λh' kp=>?_) (by simp only[W0] <;> lia);have I1:Inv X Z Y H {s with heap:=h'}:=I.kept (t':=s.toks) kp
  have I2:Inv X Z Y (upd H h'.objs.size (.tup ys)) {s with heap:=h'.push {cls:=.type "tuple",data:=.seq its.toArray}} :=
   I1.laid (t':=s.toks) (λb o e=>WV _ e) (WX _) (show ObjOk X.prog X.w _ _ _ (.tup ys)from⟨hz,its,0,r',W3 _ rfl⟩)
  exact⟨.ref h'.objs.size,_,I2,D?,q _ (I1.hok.fresh (WX _))⟩
 .obtain⟨its,r',pl,hz⟩:=I.tuple hq;exact call_tuple_same pl ⟨.ref p,H,I,rfl,q⟩
def tyV(K:WQ)(T:String)(x:V)(H:Hp):Prop:=match x with
 |.str _=>T="str"
 |.int _=>T="int"
 |.ref p=>(T="list"/\∃xs,SqL K H p xs)\/(T="tuple"/\∃o,K.lookup p=A? o/\o.cls=.type "tuple"/\o.dict=B?) \/
  (T="dict"/\((∃f',H p=A? (.dK f'))\/∃f',H p=A? (.dT f')))\/(T="set"/\∃S n,H p=A? (.set S n))
 |_=>False
theorem vT{T:String}{x:V}{v:WU}(I:Inv X Z Y H s)(r:RelV x v)(ty:tyV X.K T x H) :
 s.TypeIs v T/\∀a,v=.ref a->∃ob,s.1.get? a=A? ob/\ob.dict=none:=by
 cases x with
 | str z =>
   obtain⟨t,rfl⟩:=r;cases(show T="str" from ty);exact⟨typeIs_str s z t,λ_ e=>nomatch e⟩
 | int i =>
   obtain⟨t,rfl⟩:=r;cases(show T="int" from ty);exact⟨typeIs_int s i t,λ_ e=>nomatch e⟩
 | ref p =>
   cases r;rcases ty with⟨rfl,xs,hq⟩|⟨rfl,o,hk,hc,hd⟩|⟨rfl,hk⟩|⟨rfl,S,n,hk⟩
   .obtain⟨its,_,pl,_⟩:=I.list hq;refine⟨pl.isList.typeIs,λa e=>?_⟩;cases e;obtain⟨o,n,e,c,hd,_⟩:=pl;exact⟨o,e,hd⟩
   .refine⟨⟨o,I.kIn p o hk,hc⟩,λa e=>?_⟩;cases e;exact⟨o,I.kIn _ o hk,hd⟩
   .have z:∃o,s.1.get? p=A? o/\o.ExactDict:=by
     rcases hk with⟨f',hk⟩|⟨f',hk⟩
     .obtain⟨_,_,_,_,o,_,_,e,ex,_⟩:=I.hok p _ hk;exact⟨o,e,ex⟩
     .obtain⟨_,_,_,_,o,_,_,e,ex,_⟩:=I.hok p _ hk;exact⟨o,e,ex⟩
    obtain⟨o,e,ex⟩:=z;refine⟨⟨o,e,ex.1⟩,λa e2=>?_⟩;cases e2;exact⟨o,e,ex.2.1⟩
   .obtain⟨o,_,_,_,e,ex,_⟩:=I.hok p _ hk;refine⟨⟨o,e,ex.1⟩,λa e2=>?_⟩;cases e2;exact⟨o,e,ex.2.1⟩
 |_=>exact YC ty
def aaK(K:WQ)(T:String)(r:V->List V->Hp->VK->Prop)(to:TE):TE:=λY H Q=>to Y H λx H1=>tyV K T x H1/\r x [] H1 Q
def tBM(K:WQ)(T:String)(r:V->List V->Hp->VK->Prop)(to:TE)(t:TA):TE:=λY H Q=>to Y H λx H1=>tyV K T x H1/\t Y H1 λxs H2=>r x xs H2 Q
variable{o:X6}{es:List X6}{to:TE}{t:TA}{name:Xk}{apos Aq:Z4}{T id:String}{r:V->List V->Hp->VK->Prop}
theorem jm(pa:PlainAttrs T)(slot:Slot T name id)(IP:typeOf (.builtin id)=pure (.type "method_descriptor"))(hm:MtR X id r)(ho:PE X o to)
 (BA:attributeBase o name X.env (Y4 o X.env)=Y4 o X.env:=by rfl) (Cn:(apos.endLine == Aq.line)=true:=by rfl):PE X (.Call (.Attribute o name apos) [] [] Aq) (aaK X.K T r to):=by
 intro Z s Y H Q I h;refine wpAny_Call_method0_late BA Cn (thn (ho Z s Y H _ I h) λv s1⟨x,H1,I1,r1,ty,q1⟩=>?_);obtain⟨h1,h2⟩:=vT I1 r1 ty;exact⟨T,id,pa,slot,IP,h1,h2,Calls.callWith_builtin rfl (PySem.evalArgs_none (hm Z s1 Y H1 x [] v [] Q I1 r1 .nil q1))⟩
theorem bR(pa:PlainAttrs T)(slot:Slot T name id)(IP:typeOf (.builtin id)=pure (.type "method_descriptor"))(hm:MtR X id r)(ho:PE X o to)(ha:PA X (e::es) t)
 (BA:attributeBase o name X.env (Y4 o X.env)=Y4 o X.env:=by rfl)
 (GA:((Z2 Aq (XH (e::es) X.env)).all (λx=>!x.1) && (backToKw Aq (keywordEach [] X.env)).all (λx=>x.1.isSome)
  && decide ((e::es).length+([]:List Keyword).length+(if([]:List Keyword).isEmpty then 0 else 1)<30))=true:=by rfl)
 (Cn:(apos.endLine == Aq.line)=true:=by rfl) (hs:XH (e::es) X.env=(CU,Y4 e X.env)::XH es X.env:=by rfl) (BC:(Z2 Aq (XH es X.env)).any (·.1)=false:=by rfl) :
 PE X (.Call (.Attribute o name apos) (e::es) [] Aq) (tBM X.K T r to t):=by
 intro Z s Y H Q I h;refine wpAny_Call_method_late BA GA Cn rfl (thn (ho Z s Y H _ I h) λv s1⟨x,H1,I1,r1,ty,q1⟩=>?_);obtain⟨h1,h2⟩:=vT I1 r1 ty;refine⟨T,id,pa,slot,IP,h1,h2,?_⟩;have hA:=ha Aq Z s1 Y H1 _ I1 q1;rw[hs]at hA |-;refine Calls.callWith_builtin (by show(CU ||(Z2 Aq (XH es X.env)).any (·.1))=CU;rw[BC] <;> rfl) (Calls.evalArgs_plain ?_);exact thn hA λus s2⟨vs,H2,I2,r2,q2⟩=>hm Z s2 Y H2 x vs v us Q I2 r1 r2 q2
end
def MtM(X:Cx)(id:String)(r:V->List V->Hp->VK->Prop):Prop :=
 ∀(Z:List (WS×Zc))(s:WY)(Y:St)(H:Hp)(x:V)(xs:List V)(v:WU)(us:List WU)(Q:VK),Inv X Z Y H s->RelV x v->Vals xs us->r x xs H Q ->
   W9 (Xv X.prog X.w) X.A (call (.builtin id) (v::us)) (EP X Z Y Q) X.xe s
theorem Vals.one:∀{x:V}{us:List WU},Vals [x] us->∃u,us=[u]/\RelV x u
 |_,_,.cons r .nil=>⟨_,rfl,r⟩
theorem Vals.zero:∀{us:List WU},Vals [] us->us=[]
 |_,.nil=>rfl
theorem Vals.dropLast(h:Vals xs us):Vals xs.dropLast us.dropLast:=by
 induction h with
 |nil=>exact .nil
 | cons r t ih =>
   cases t with
   |nil=>exact .nil
   |cons q t'=>exact .cons r ih
theorem Vals.reverse(h:Vals xs us):Vals xs.reverse us.reverse:=by
 induction h with
 |nil=>exact .nil
 |cons r t ih=>rw[X7,X7];exact Vals.append ih (.cons r .nil)
theorem Vals.rep(h:Vals xs us):∀k:Nat,Vals (XN k xs).flatten (XN k us).flatten
 |0=>.nil
 | k+1=>by
   rw[Zr,Zr,List.flatten_cons,List.flatten_cons];exact Vals.append h (Vals.rep h k)
theorem ss(l:List α):l.eraseIdx (l.length - 1)=l.dropLast:=by
 induction l with
 |nil=>rfl
 | cons a r ih =>
   cases r with
   |nil=>rfl
   | cons b r =>
     have e:(a::b::r).length - 1=((b::r).length - 1)+1:=by
      have h1:(a::b::r).length=r.length+2:=rfl;have h2:(b::r).length=r.length+1:=rfl;lia
     rw[e,List.eraseIdx_cons_succ,ih]
     all_goals rfl
theorem foldl_rep(its:List WU):∀(k:Nat)(acc:List WU),
 List.foldl (λx1 x2=>x1++x2) acc.toArray (XN k its.toArray)=(acc++(XN k its).flatten).toArray
 |0,acc=>by simp
 | k+1,acc=>by
   have e:acc.toArray++its.toArray=(acc++its).toArray:=by simp
   have e2:(acc++its)++(XN k its).flatten=acc++(XN (k+1) its).flatten:=by
    rw[Zr,List.flatten_cons,XG]
   rw[<-e2,<-foldl_rep its k (acc++its),<-e,Zr,List.foldl_cons]
section
variable{X:Cx}{l:WS}{ys zs:List V}
theorem Inv.lset{its':List WU}{f:Array WU->Array WU}(I:Inv X Z Y H s)(hH:H l=A? (.lst xs))
 (e:s.1.get? l=A? {cls:=.type "list",data:=.seq its.toArray n}) (hf:f its.toArray=its'.toArray) (hv:Vals ys its') (hz:ys.length<=Xe) :
 Inv X Z Y (upd H l (.lst ys)) {s with heap:=s.1.update l (Yg f),toks:=t'}:=by
 have q:=PySem.IsL.update e f;rw[hf]at q;refine I.write (x:=l) (e:=l) (by rw[hH];exact trivial) (.inl rfl) (λb' u hb hu=>(XW s.1 (Yg f) (YT hb)).trans hu) ⟨_,q⟩ ?_;exact⟨hz,its',_,hv,q⟩
theorem Inv.lnew(I:Inv X Z Y H s)(hv:Vals ys its)(hz:ys.length<=Xe) :
 Inv X Z Y (upd H s.1.1.size (.lst ys)) {s with heap:=s.1.push {cls:=.type "list",data:=.seq its.toArray},toks:=t'} :=
 I.laid (λ_ _ q=>WV _ q) (WX _) ⟨hz,its,0,hv,W3 _ rfl⟩
theorem Inv.fresh(I:Inv X Z Y H s):H s.1.1.size=none:=I.hok.fresh (WX _)
theorem Inv.lstM(I:Inv X Z Y H s)(hH:H l=A? (.lst xs)):xs.length<=Xe/\∃(its:List WU)(n:Nat),Vals xs its/\xs.length=its.length/\s.1.get? l=A? {cls:=.type "list",data:=.seq its.toArray n}:=by
 obtain⟨z,its,n,r,e⟩:=I.hok l _ hH;exact⟨z,its,n,r,r.length,e⟩
theorem iF(h:n<=Xe):Y7 n=false:=by
 unfold Y7;exact c! (by lia)
end
section
variable{X:Cx}
inductive rg(x:V)(vs:List V)(H:Hp)(Q:VK):Prop
 |mk (l:_) (xs:_) (y:_) (CK:x=.ref l) (CL:vs=[y]) (D5:H l=A? (.lst xs)) (E1:xs.length<Xe) (HV:Q .non (upd H l (.lst (xs++[y])))):rg  x vs H Q
def tX:V->List V->Hp->VK->Prop:=rg
theorem aN:MtM X "list.append" tX:=by
 intro Z s Y H x vs v us Q I rx rv h;obtain⟨l,xs,y,rfl,rfl,hH,hz,q⟩:=h;cases rx;obtain⟨u,rfl,ru⟩:=rv.one;obtain⟨z,its,n,r,hl,e⟩:=I.lstM hH;refine call_meets F.slot_list_append ⟨_,e,rfl⟩ F.entry_list_append (F.args_list_append_2 _ _) (PySem.list_append l its.toArray n u (by rw[W0];lia)) ⟨e,?_⟩;refine⟨.non,_,I.lset (its':=its++[u]) hH e (by simp) (r.append (.cons ru .nil)) ?_,D?,q⟩;rw[Xg,List.length_singleton];lia
inductive qI(x:V)(vs:List V)(H:Hp)(Q:VK):Prop
 |mk (l:_) (b:_) (xs:_) (zs:_) (CK:x=.ref l) (CL:vs=[.ref b]) (D5:H l=A? (.lst xs)) (E1:H b=A? (.lst zs)) (HV:xs.length+zs.length<=Xe) (SH:Q .non (upd H l (.lst (xs++zs)))):qI  x vs H Q
def yJ:V->List V->Hp->VK->Prop:=qI
theorem gH:MtM X "list.extend" yJ:=by
 intro Z s Y H x vs v us Q I rx rv h;obtain⟨l,b,xs,zs,rfl,rfl,hH,hB,hz,q⟩:=h;cases rx;obtain⟨u,rfl,ru⟩:=rv.one;cases ru;obtain⟨z,its,n,r,hl,e⟩:=I.lstM hH;obtain⟨z2,Ag,n2,r2,Bf,e2⟩:=I.lstM hB;have hsz:its.toArray.size+Ag.toArray.size<=Xe:=by rw[W0,W0];lia
 have Co:¬(!its.toArray.isEmpty && Y7 (its.toArray.size+Ag.toArray.size))=true:=by
  rw[iF hsz,Bool.and_false];exact W5
 refine call_meets F.slot_list_extend ⟨_,e,rfl⟩ F.entry_list_extend (F.args_list_extend_2 _ _)
  (AutoSeq1.list_extend_list_list_0 l its.toArray n b Ag.toArray n2 Co (by rw[W0];lia) (by lia)) ⟨e,e2,?_⟩
 refine⟨.non,_,I.lset (its':=its++Ag) hH e (by simp) (r.append r2) ?_,D?,q⟩;rw[Xg];lia
inductive zf(x:V)(vs:List V)(H:Hp)(Q:VK):Prop
 |mk (l:_) (xs:_) (y:_) (CK:x=.ref l) (CL:vs=[]) (D5:H l=A? (.lst xs)) (E1:xs[xs.length - 1]?=A? y) (HV:Q y (upd H l (.lst xs.dropLast))):zf  x vs H Q
def abe:V->List V->Hp->VK->Prop:=zf
theorem jC:MtM X "list.pop" abe:=by
 intro Z s Y H x vs v us Q I rx rv h;obtain⟨l,xs,y,rfl,rfl,hH,hy,q⟩:=h;cases rx;have E4:=rv.zero;subst E4;obtain⟨z,its,n,r,hl,e⟩:=I.lstM hH;obtain⟨u,hu,ru⟩:=r.get hy
 have D6:its.toArray[its.toArray.size - 1]?=A? u:=by
  show its.toArray[its.length - 1]?=A? u;rw[<-Array.getElem?_toList,<-hl];exact hu
 refine call_meets F.slot_list_pop ⟨_,e,rfl⟩ F.entry_list_pop (F.args_list_pop_1 _) (MeetsSeq.list_pop_last l its.toArray n u D6 (by rw[W0];lia)) ⟨e,?_⟩;refine⟨y,_,I.lset (its':=its.dropLast) hH e ?_ r.dropLast ?_,ru,q⟩
 .show its.toArray.eraseIdxIfInBounds (its.toArray.size - 1)=its.dropLast.toArray;rw[W0,List.eraseIdxIfInBounds_toArray,ss]
 .rw[List.length_dropLast];lia
def abR:R2:=λx y H Q=>∃l k xs,x=.ref l/\y=.int k/\H l=A? (.lst xs)/\-(2 ^ 63)<=k/\k<2 ^ 63/\xs.length * k.toNat<=Xe /\
 ∀p,H p=B?->Q (.ref p) (upd H p (.lst (XN k.toNat xs).flatten))
theorem len_rep(xs:List α)(k:Nat):(XN k xs).flatten.length=k * xs.length:=by
 induction k with
 |zero=>simp
 |succ k ih=>rw[Zr,List.flatten_cons,Xg,ih,Nat.succ_mul,Nat.add_comm]
theorem z8:OpR X (binaryOp .Mult) abR:=by
 intro Z s Y H x y v u Q I rx ry h;obtain⟨l,k,xs,rfl,rfl,hH,h1,h2,hz,q⟩:=h;cases rx;obtain⟨t,rfl⟩:=ry;obtain⟨z,its,n,r,hl,e⟩:=I.lstM hH;have hlen:its.toArray.size * k.toNat<=Xe:=by rw[W0,<-hl];exact hz
 have ML:¬its.toArray.size * k.toNat > (2 ^ 63 - 1) / 8:=by
  have:(Xe:Nat)<=(2 ^ 63 - 1) / 8:=by decide
  lia
 have AU:¬(!Builtin.List.listFitsIndex k)=true:=by
  rw[fitsIndex_both h1 h2];exact W5
 have Co:¬Y7 (its.toArray.size * k.toNat)=true:=by
  rw[iF hlen];exact W5
 have GB:List.foldl (λx1 x2=>x1++x2) #[] (XN (if its.toArray.isEmpty=C? then 0 else k.toNat) its.toArray)=(XN k.toNat its).flatten.toArray:=by
  have f0:∀m:Nat,List.foldl (λx1 x2=>x1++x2) #[] (XN m its.toArray)=(XN m its).flatten.toArray:=λm=>by
   have:=foldl_rep its m [];rw[Y0]at this;exact this
  rw[f0];cases its with
  |nil=>simp
  |cons a r'=>rw[a! (by simp)]
 refine wpAny_binaryOp_repeat_ref (T:="list") (U:="int") (by decide) ⟨_,e,rfl⟩ (λs'=>typeIs_int s' k t) noFill_list_mul F.fills_int_mul F.slot_int_rmul repeat_list F.slot_int_index.lookup
  (call_meets F.slot_int_rmul (typeIs_int s k t) F.entry_int_rmul (F.args_int_rmul_2 _ _) (int___rmul___int_list k t l its.toArray n)
   ⟨e,rfl,⟨_,e,rfl⟩,call_meets F.slot_list_mul ⟨_,e,rfl⟩ F.entry_list_mul (F.args_list_mul_2 _ _) (AutoListH.list___mul___list_int_3 l its.toArray n k t AU ML Co) ⟨e,?_⟩⟩)
 rw[GB];exact⟨.ref _,_,I.lnew (t':=s.toks) (r.rep k.toNat) (by rw[len_rep,Nat.mul_comm];exact hz),D?,q _ I.fresh⟩
end
section
variable{X:Cx}
end
end L2
namespace Att
open PySem PySem.W PySem.Calls PyProof.Rows
theorem ints_of_wellAll{P:Params}:∀(ns:List Int)(vs:List WU),WellAll P h vs (ns.map WData.int)->IntsAre vs ns:=by
 intro ns;induction ns with
 | nil =>
   intro vs w;rw[Y2]at w;cases w;exact .nil
 | cons n ns ih =>
   intro vs w;rw[Xr]at w;cases w with
   | cons a b =>
     cases a;exact .cons _ _ (ih _ b)
theorem script_of{l:OpenLaw}(hn:l.most=A? n){P:Params}{args:List WData}{vals:List WU}
 (BZ:l.row.toRowW.claim.pre args=C?) (D7:WellAll P h vals args) :
 ∃a vs ns,vals=[Xm a]/\args=[WData.list (ns.map WData.int)]/\h.get? a=A? {cls:=.type "list",data:=.seq vs.toArray}/\IntsAre vs ns/\ns.length<=n:=by
 have SI:WShape.hasAll [] args [.list .int]=true:=(pre_splitW BZ).1;have hc:l.pre.holds [] {args:=args}=true:=(pre_splitW BZ).2;obtain⟨d,r,rfl,h1,h2⟩:=hasAllW_cons SI;obtain rfl:=hasAllW_nil h2;obtain⟨xs,rfl,h3⟩:=hasW_list h1;obtain⟨ns,rfl⟩:=items_int h3
 have hlen:ns.length<=n:=by
  unfold OpenLaw.pre at hc
  have h4:(WTm.not (.lt (.lit (.int (n:Int))) (.len (.arg 0)))).holds [] {args:=[.list (ns.map .int)]}=true:=by
   have h4:=(holds_andW hc).1;rw[hn]at h4;exact h4
  have h5:=condW_of h4 (w_not (w_lt w_lit (w_len_list (w_arg rfl))));rw[WO]at h5;refine Nat.le_of_not_lt λq=>?_;have q':(n:Int)<((ns.length:Nat):Int):=by lia
  first
   |(rw[d! q']at h5;exact g! h5 (by decide))
   |(simp at h5;lia)
 cases D7 with
 | cons w1 w2 =>
   cases w2;cases w1 with
   |list ho Ac=>exact⟨_,_,ns,D?,D?,ho,ints_of_wellAll ns _ Ac,hlen⟩
theorem post_true(l:OpenLaw)(args:List WData):l.row.toRowW.claim.post args (.bool C?) args=C? :=
 postW_of (r:=l.row.toRowW) (X:=(C? == C?))
  (show WShape.has [] (.bool C?) .bool=C? by first|rfl|decide|simp[WShape.has,WShape.arms,WShape.armsAll])
  (show(WTm.eq .res (.lit (.bool C?))).value [] {args:=args,res:=A? (.bool C?),after:=args}=A? (.bool (C? == C?))from w_eq_bool (w_res rfl) w_lit) rfl
theorem attach_call{l:OpenLaw}{q:W6}{d:DefRec}
 (hn:l.most=A? n) (FQ:d.params.defaults=[])
 (call:∀(w:Xo)(s₀ Ab:WY)(mg mb:Xk->Option WU)(fa:WS)(o:Zc)(pm cd doc:WU)(a:WS)(vs:List WU)(ns:List Int),
  Ground q loose [] XP w s₀ mg mb Ab.1->YP w Ab.1 ->
  Ab.1.get? fa=A? o->o.data=.func (docDef d.name d.params d.body d.scope pm cd doc)->Ab.1.CodeRec cd d.name->mg d.name=A? (.ref fa) ->
  Ab.1.get? a=A? {cls:=.type "list",data:=.seq vs.toArray}->IntsAre vs ns->ns.length<=n->Ab.gens=#[] ->
  codeAny (Xv l.prog w) callerA (.call (.ref fa) ⟨[.ref a],[]⟩) (λr s'=>r=.ok (.ret (.bool C?))/\OldK Ab.1 s'.1/\s'.os=Ab.os/\AllBare s'.gens) Ab) :
 WalkO q loose XP YP l.row.toRowW d [] (λf vs=>PySem.call f vs):=by
 intro w s₀ Ab mg mb G Y fa o pm cd doc dV kV ho hd BX hD MM hg args vals as BZ SJ V6 D7 V7;obtain rfl:dV=.none:=Dflts.none hD FQ;obtain rfl:kV=.none:=Dflts.noKw hD;obtain⟨a,vs,ns,rfl,rfl,GC,hints,hlen⟩:=script_of hn BZ D7;refine enter_call (codeAny_mono (call w s₀ Ab mg mb fa o pm cd doc a vs ns G Y ho (fd_plain hd) BX MM GC hints hlen hg) λr s' hq=>?_);obtain⟨rfl,h2,h3,h4⟩:=hq;exact⟨.inl ⟨.bool C?,.bool C?,[],D?,λ_=>rfl,.bool C?,post_true l _,λ_=>⟨List.Pairwise.nil,λ_ hm=>(nomatch hm)⟩⟩,h2,h3,h4⟩
section
variable{K:Frag}
end
end Att
namespace L2
open PySem PySem.Spec PyProof.Rows
theorem mO:∀{vs:List WU}{ns:List Int},IntsAre vs ns->Vals (ns.map q!) vs
 |_,_,.nil=>.nil
 |_,_,.cons n t h=>.cons ⟨t,rfl⟩ (mO h)
def inClass(s:Stmt)(j:Nat):Stmt:=match s with
 |.ClassDef _ _ _ body _ _ _ _ _ _ _=>body.getD j (.Pass ⟨0,0,0,0⟩)
 |_=>.Pass ⟨0,0,0,0⟩
def bT(s:Stmt):Arguments:=match s with
 |.FunctionDef _ a _ _ _ _ _ _ _ _=>a
 |_=>{posonlyargs:=[],args:=[],vararg:=B?,kwonlyargs:=[],kw_defaults:=[],kwarg:=B?,defaults:=[]}
def bG(s:Stmt):List Stmt:=match s with
 |.FunctionDef _ _ b _ _ _ _ _ _ _=>b
 |_=>[]
def aE(s:Stmt):Z6:=match s with
 |.FunctionDef _ _ _ _ _ _ sc _ _ _=>sc
 |_=>{kind:=.function,names:=[],isGenerator:=CU,isCoroutine:=CU}
abbrev CX0:CXT:=λ_ _ _ _ _ _=>False
abbrev E0:XK:=λ_ _ _=>False
theorem gN{X:Cx}:Passes CX0 X E0:=λ_ _ _ _ _ _ _ h=>h.elim
structure Fun(K:WQ)(x qual:Xk)(st:Stmt)(f:WS)(fd:ZV):Prop where
 ex:∃(oc:WU)(od:Option WS)(kV doc pm:WU)(an:Option WS)(Ai ct:WU)(EI:Array (Option WU)),
  fd=PySem.W.fnOf x qual (bT st) (bG st) (aE st) .none kV doc pm an Ai ct/\K.lookup f=A? ⟨oc,od,.func fd,EI⟩/\PySem.W.codeIn K Ai qual=C?
 kp:PySem.W.keepIn K (.ref f)=C?
theorem Fun.ok{st:Stmt}{f:WS}{k:Nat}(F:Fun K x qual st f fd)(S:dM N ps (aE st))(len:∀vs H Q E,sp vs H Q E->vs.length=ps.length)
 (Ba:∀(Ai:WU)(A:XI)(outer:List Env)(s:WY)(H:Hp)(vs:List V)(Q:VK)(E:XK),Room k (A.deeper (envOfC qual (aE st) s.1.1.size f Ai))->sp vs H Q E ->
  ∃t,PSs (qW CX0 P w K mg base N qual (aE st) f Ai A outer s H E).nox (bG st) t/\t {nx:=λ_ H'=>Q .non H',rt:=Q} (start N vs) H):aX P w K mg base CX0 (k+1) f fd ps sp:=by
 obtain⟨oc,od,kV,doc,pm,an,Ai,ct,EI,rfl,lk,BX⟩:=F.ex;refine zh lk BX S len λA outer s H vs Q E hr CM=>?_;obtain⟨t,h,q⟩:=Ba Ai A outer s H vs Q E hr CM;exact⟨t,h.nox,q⟩
theorem Fun.okA{st:Stmt}{f:WS}{k:Nat}(F:Fun K x qual st f fd)(S:dM N ps (aE st))
 (Ba:∀(Ai:WU)(A:XI)(outer:List Env)(s:WY)(H:Hp)(vs:List V)(Q:VK)(E:XK),Room k (A.deeper (envOfC qual (aE st) s.1.1.size f Ai))->sp vs H Q E ->
  ∃t,PSs (qW CX0 P w K mg base N qual (aE st) f Ai A outer s H E).nox (bG st) t/\t {nx:=λ_ H'=>Q .non H',rt:=Q} (start N vs) H) (len:∀vs H Q E,sp vs H Q E->vs.length=ps.length:=by intro _ _ _ _ h;cases h;subst_vars;rfl):aX P w K mg base CX0 (k+1) f fd ps sp:=F.ok S len Ba
theorem pgN{X:Cx}(i:Nat)(hN:X.N.Nodup)(hi:X.N[i]?=A? x:=by rfl)(hx:Loc X.env.scope x:=by first|exact .inl rfl|exact .inr rfl)(hf:X.fn x=C?\/X.env.scope.names.lookup x=A? .local:=by first|exact .inl rfl|exact .inr rfl|assumption):PG X (.Name x pos) (av i):=yc hN hi hx hf
theorem aq{X:Cx}(i:Nat)(hN:X.N.Nodup)(he:PE X e te)(hi:X.N[i]?=A? x:=by rfl)(hx:Loc X.env.scope x:=by first|exact .inl rfl|exact .inr rfl)(hs:swapsWith e (A? (.Name x pos')) pos.line X.env=pure false:=by rfl)(hf:X.fn x=C?\/X.env.scope.names.lookup x=A? .local:=by first|exact .inl rfl|exact .inr rfl|assumption):PS X (.Assign [.Name x pos'] e pos) (xh te (av i)):=wx hN hi hx he hs hf
theorem Fun.binds{st:Stmt}{f:WS}(F:Fun K x qual st f fd)
 (h:∀(kV doc pm:WU)(an:Option WS)(Ai ct:WU)(us:List WU),us.length=ps.length->bindArgs (PySem.W.fnOf x qual (bT st) (bG st) (aE st) .none kV doc pm an Ai ct) ⟨us,[]⟩=pure (ps.zip us)):Binds K fd ps []:=by
 obtain⟨oc,od,kV,doc,pm,an,Ai,ct,EI,rfl,lk,BX⟩:=F.ex;exact .all (h kV doc pm an Ai ct)
theorem lG{st:Stmt}{f:WS}{an:Option WS}{EI:Array (Option WU)}{kV doc pm Ai ct:WU}(l:K.lookup f=A? ⟨oc,od,.func (PySem.W.fnOf x qual (bT st) (bG st) (aE st) .none kV doc pm an Ai ct),EI⟩)
 (c:PySem.W.codeIn K Ai qual=C?) (k:PySem.W.keepIn K (.ref f)=C?):Fun K x qual st f (PySem.W.fnOf x qual (bT st) (bG st) (aE st) .none kV doc pm an Ai ct):=⟨⟨oc,od,kV,doc,pm,an,Ai,ct,EI,rfl,l,c⟩,k⟩
theorem jI{k:Nat}(hr:Room k A):A.units+1<YH:=Nat.lt_of_le_of_lt (Nat.add_le_add_left (by decide:1<=64) _) hr.units
section
variable{X:Cx}
theorem pv(i:Nat)(hN:X.N[i]?=A? x:=by rfl)(hv:Vis X.env.scope x:=by first|exact Or.inl rfl|exact Or.inr (Or.inl rfl)|exact Or.inr (Or.inr rfl))(hd:(x == ("__debug__":Xk))=false:=by decide)
 (BX:(x == ("__classdict__":Xk))=false:=by decide):PE X (.Name x pos) (bh i):=xk hN hv hd BX
end
theorem yO{A B:Prop}(h:B):if CU=C? then A else B:=by
 rw[a! W5];exact h
theorem uT{A B:Prop}(h:A):if C?=C? then A else B:=by
 rw[b! rfl];exact h
theorem cX{c A B:Prop}[Decidable c](h1:c->A)(h2:¬c->B):if c then A else B:=by
 by_cases h:c
 .rw[b! h];exact h1 h
 .rw[a! h];exact h2 h
def Same(H H':Hp):Prop:=∀b o,H b=A? o->H' b=A? o
theorem Same.refl(H:Hp):Same H H:=λ_ _ h=>h
theorem Same.trans(a:Same H H1)(b:Same H1 H2):Same H H2:=λc o h=>b c o (a c o h)
theorem Same.free(e:Same H H'){l:WS}(h:H' l=Option.none):H l=Option.none:=by
 cases q:H l with
 |none=>rfl
 | some o =>
   rw[e l o q]at h;cases h
theorem Same.seq(e:Same H H')(h:SqL K H a xs):SqL K H' a xs:=by
 rcases h with(h|⟨o,h⟩)|h
 .exact .inl (.inl (e _ _ h))
 .exact .inl (.inr ⟨o,e _ _ h⟩)
 .exact .inr h
theorem iq(env:Env):∀(ns:List (Xk×Zy))(acc:List (Xk×WS)),(∀n,(n,Yw)∈ns->∃c,env.cells.lookup n=A? c) ->
 (∀x c,acc.lookup x=A? c->env.cells.lookup x=A? c) ->
 ∃cl,(forIn ns acc λ(x:Xk×Zy)(cs:List (Xk×WS))=>(if(x.2 == Yw)=C? then(do let a <-cellOf env x.1;pure (ZP ((x.1,a)::cs)))else pure (ZP cs):Sem _))=pure cl /\
   (∀x c,cl.lookup x=A? c->env.cells.lookup x=A? c)/\(∀n,(n,Yw)∈ns->∃c,cl.lookup n=A? c)/\∀n c,acc.lookup n=A? c->cl.lookup n=A? c
 | [],acc,_,ha=>⟨acc,rfl,ha,λ_ h=>by simp at h,λ_ _ h=>h⟩
 | (n,k)::r,acc,hf,ha=>by
   by_cases hk:k=Yw
   .subst hk;obtain⟨c,hc⟩:=hf n Xd
    have C1:∀x c',((n,c)::acc).lookup x=A? c'->env.cells.lookup x=A? c':=λx c' e=>by
     rw[YJ]at e;cases hx:x == n with
     | true =>
       rw[hx]at e;have e1:x=n:=by simpa using hx
       cases e;rw[e1];exact hc
     |false=>rw[hx]at e;exact ha x c' e
    obtain⟨cl,h1,h2,h3,h4⟩:=iq env r ((n,c)::acc) (λm hm=>hf m (W8 _ hm)) C1;have up:∀m c',((n,c)::acc).lookup m=A? c'->cl.lookup m=A? c':=h4;refine⟨cl,?_,h2,?_,?_⟩
    .rw[List.forIn_cons];have e0:cellOf env n=pure c:=by unfold cellOf;rw[hc]
     simp only[beq_self_eq_true,if_true,e0,pure_bind];exact h1
    .intro m hm;rcases W7.mp hm with e|e
     .have:m=n:=by simpa using(Prod.mk.inj e).1
      subst this;exact⟨c,up m c (by rw[YJ];simp)⟩
     .exact h3 m e
    .intro m c' e;by_cases hm:m=n
     .subst hm;have:=ha m c' e;rw[hc]at this;cases this;exact up m c (by rw[YJ];simp)
     .have SK:(m == n)=false:=by simpa using hm
      exact up m c' (by rw[YJ,SK];exact e)
   .have hb:(k == Yw)=false:=by simpa using hk
    obtain⟨cl,h1,h2,h3,h4⟩:=iq env r acc (λm hm=>hf m (W8 _ hm)) ha;refine⟨cl,?_,h2,?_,h4⟩
    .rw[List.forIn_cons];simp only[hb,Yb,if_false,pure_bind];exact h1
    .intro m hm;rcases W7.mp hm with e|e
     .exact g! (Prod.mk.inj e).2.symm hk
     .exact h3 m e
theorem lJ(hf:∀n,(n,Yw)∈sc.names->∃c,env.cells.lookup n=A? c) :
 ∃cl,closureFor sc env=pure cl/\(∀x c,cl.lookup x=A? c->env.cells.lookup x=A? c)/\∀n,(n,Yw)∈sc.names->∃c,cl.lookup n=A? c:=by
 obtain⟨cl,h1,h2,h3,_⟩:=iq env sc.names [] hf (λx c e=>by simp at e);refine⟨cl,?_,h2,h3⟩;unfold closureFor;have e:(forIn sc.names ([]:List (Xk×WS)) λ(x:Xk×Zy)(cs:List (Xk×WS))=>(do if(x.2 == Yw)=C? then(do let a <-cellOf env x.1;pure (ZP ((x.1,a)::cs)))else pure (ZP cs):Sem _))=pure cl:=h1
 first
  |(rw[show(forIn sc.names ([]:List (Xk×WS)) _:Sem _)=pure cl from h1];rfl)
  |(simp only[h1,pure_bind])
theorem lF{f:Xk×Zy->Xk×Zy}(hf:∀p,(f p).1=p.1):∀{l:List (Xk×Zy)}{x:Xk}{k:Zy},l.lookup x=A? k->(l.map f).lookup x=A? (f (x,k)).2
 | [],_,_,h=>by simp at h
 | (n,k0)::r,x,k,h=>by
   have ih:=@lF f hf r x k;rw[Xr];obtain⟨a,b,e⟩:∃a b,f (n,k0)=(a,b):=⟨_,_,rfl⟩;have ea:a=n:=by have:=hf (n,k0);rw[e]at this;exact this
   subst ea;rw[e,YJ];cases hx:x == a with
   | true =>
     rw[YJ,hx]at h;cases h;have:x=a:=by simpa using hx
     subst this;rw[e]
   |false=>rw[YJ,hx]at h;exact ih h
theorem eY{f:Xk×Zy->Xk×Zy}(hf:∀p,(f p).1=p.1):∀{l:List (Xk×Zy)}{x:Xk}{k:Zy},(l.map f).lookup x=A? k->∃k0,(x,k0)∈l/\(f (x,k0)).2=k
 | [],_,_,h=>by simp at h
 | (n,k0)::r,x,k,h=>by
   have ih:=@eY f hf r x k;rw[Xr]at h;obtain⟨a,b,e⟩:∃a b,f (n,k0)=(a,b):=⟨_,_,rfl⟩;have ea:a=n:=by have:=hf (n,k0);rw[e]at this;exact this
   subst ea;rw[e,YJ]at h;cases hx:x == a with
   | true =>
     rw[hx]at h;cases h;have:x=a:=by simpa using hx
     subst this;exact⟨k0,Xd,by rw[e]⟩
   | false =>
     rw[hx]at h;obtain⟨k1,h1,h2⟩:=ih h;exact⟨k1,W8 _ h1,h2⟩
def rlb(env:Env)(p:Xk×Zy):Xk×Zy:=if(p.2 == Yw && env.scope.kind == .function && env.kindOf p.1 == A? .cell)then(p.1,NameKind.cell)else(p.1,p.2)
theorem oN(env:Env)(p:Xk×Zy):(rlb env p).1=p.1:=by unfold rlb;split <;> rfl
theorem gW(sc:Z6)(env:Env):(relabel sc env).names=sc.names.map (rlb env):=rfl
theorem iH(h:sc.names.lookup x=A? .free):(relabel sc env).names.lookup x=A? .cell\/(relabel sc env).names.lookup x=A? .free:=by
 rw[gW,lF (oN env) h];unfold rlb;split
 .exact .inl rfl
 .exact .inr rfl
theorem lO(hn:∀y∈sc.names,y.2≠NameKind.cell)(h:(relabel sc env).names.lookup x=A? .cell\/(relabel sc env).names.lookup x=A? .free):(x,Yw)∈sc.names:=by
 rw[gW]at h
 have:∃k0,(x,k0)∈sc.names/\((rlb env (x,k0)).2=.cell\/(rlb env (x,k0)).2=.free):=by
  rcases h with h|h
  .obtain⟨k0,a,b⟩:=eY (oN env) h;exact⟨k0,a,.inl b⟩
  .obtain⟨k0,a,b⟩:=eY (oN env) h;exact⟨k0,a,.inr b⟩
 obtain⟨k0,hm,hk⟩:=this;have nc:=hn _ hm;cases k0 with
 |free=>exact hm
 |cell=>exact g! rfl nc
 |_=>simp[rlb]at hk
def bW(X:Cx)(N:List Xk)(sc:Z6)(cl:List (Xk×WS))(C:WS)(s:WY)(H:Hp)(fp:List WS)(Z:List (WS×Zc)):Cx :=
 {X with N:=N,s₀:=s,H₀:=H,env:=compEnvC sc cl C X.env,outer:=X.stack,ex:=fp,fn:=λ_=>CU,pn:=X.pn++Z,xe:=λ_ _=>False}
def cσ(js:List (Option Nat))(Y:St):St:=js.map λo=>o.bind λj=>(Y[j]?).join
structure fw(X:Cx)(sc:Z6)(N:List Xk)(js:List (Option Nat)):Prop where
 kind:sc.kind=.function
 nocell:∀y∈sc.names,y.2≠NameKind.cell
 names:∀y∈sc.names,y.2=NameKind.local->sc.names.lookup y.1=A? .local
 frees:∀y∈sc.names,y.2=Yw->X.env.kindOf y.1=A? .cell\/X.env.kindOf y.1=A? .free
 len:js.length=N.length
 slots:∀(i j:Nat)(x:Xk),js[i]?=A? (A? j)->N[i]?=A? x->X.N[j]?=A? x/\sc.names.lookup x=A? .free/\(X.env.kindOf x=A? .cell\/X.env.kindOf x=A? .free)
theorem cB{X:Cx}(k:sc.kind=.function)(nc:∀y∈sc.names,y.2≠NameKind.cell)(nm:∀y∈sc.names,y.2=NameKind.local->sc.names.lookup y.1=A? .local)
 (fr:(sc.names.all λy=>y.2 != Yw ||X.env.kindOf y.1 == A? NameKind.cell ||X.env.kindOf y.1 == A? Yw)=C?) (ln:js.length=N.length)
 (sl:((js.zip N).all λp=>match p.1 with|none=>C?|some j=>X.N[j]? == A? p.2 && sc.names.lookup p.2 == A? Yw && (X.env.kindOf p.2 == A? NameKind.cell ||X.env.kindOf p.2 == A? Yw))=C?):fw X sc N js:=by
 refine⟨k,nc,nm,λy hy hf=>?_,ln,λi j x e1 e2=>?_⟩
 .have h:=List.all_eq_true.mp fr y hy;rw[hf]at h;simpa using h
 .have hm:(A? j,x)∈js.zip N:=by
   have:(js.zip N)[i]?=A? (A? j,x):=by rw[Zf];exact⟨e1,e2⟩
   exact WT this
  have h:=List.all_eq_true.mp sl _ hm;simp at h;exact⟨h.1.1,h.1.2,h.2⟩
def PTs(X:Cx)(ifs:List X6)(t:TT):Prop :=
 ∀(Z:List (WS×Zc))(s:WY)(Y:St)(H:Hp)(Q:Bool->Hp->Prop),Inv X Z Y H s->t Y H Q ->
   W9 (Xv X.prog X.w) X.A (forIn ifs C? λc r=>if r=C? then do let ok <-isTrue c X.env (Y4 c X.env);pure (ZP ok)else pure (ZP r)) (TP X Z Y Q) X.xe s
def bL:TT:=λ_ H Q=>Q C? H
theorem bV{X:Cx}:PTs X [] bL:=λ_ _ _ H _ I h=>wpAny_tests_nil ⟨H,I,h⟩
theorem gD{X:Cx}{c:X6}{t:TT}(h:PT X c t):PTs X [c] t:=λZ s Y H Q I q=>wpAny_tests_one (h Z s Y H Q I q)
def Keep(Y Aa:St):Prop:=Y.length=Aa.length/\∀(i:Nat)(v:V),Y[i]?=A? (A? v)->Aa[i]?=A? (A? v)
def m5(js:List (Option Nat))(g:TG):Prop:=∀(Y BP:St)(x:V)(H:Hp)(Q:St->Hp->Prop),Keep (cσ js Y) BP->g x BP H Q->g x BP H λAv H2=>Keep (cσ js Y) Av/\Q Av H2
def oq(js:List (Option Nat))(g:TGs):Prop:=∀(Y BP:St)(x:List V)(H:Hp)(Q:St->Hp->Prop),Keep (cσ js Y) BP->g x BP H Q->g x BP H λAv H2=>Keep (cσ js Y) Av/\Q Av H2
theorem Keep.refl(Y:St):Keep Y Y:=⟨rfl,λ_ _ h=>h⟩
theorem yq(h:js[i]?=A? B?):(cσ js Y)[i]?=A? none:=by
 unfold cσ;rw[WZ,h];rfl
theorem aL(h:js[i]?=A? B?):m5 js (av i):=λY BP x H Q k q=>by
 refine⟨⟨by rw[List.length_set];exact k.1,λj v e=>?_⟩,q⟩;by_cases hj:i=j
 .subst hj;rw[yq h]at e;cases e
 .rw[List.getElem?_set_ne hj];exact k.2 j v e
theorem gu:oq js mF:=λY BP x H Q k⟨e,q⟩=>⟨e,k,q⟩
theorem bM{t:TG}{u:TGs}(mono:∀x Y H(Q Q':St->Hp->Prop),(∀a b,Q a b->Q' a b)->t x Y H Q->t x Y H Q')(h1:m5 js t)(h2:oq js u):oq js (cV t u):=λY BP x H Q k⟨v,r,e,q⟩ =>
 ⟨v,r,e,mono _ _ _ _ _ (λa b⟨k',q'⟩=>h2 Y a r b Q k' q') (h1 Y BP v H _ k q)⟩
theorem aW:∀x Y H(Q Q':St->Hp->Prop),(∀a b,Q a b->Q' a b)->av i x Y H Q->av i x Y H Q':=λ_ _ _ _ _ h q=>h _ _ q
theorem f8{t:TGs}(h:oq js t):m5 js (mE K n t):=λY BP x H Q k⟨a,xs,e,hs,hl,q⟩=>⟨a,xs,e,hs,hl,h Y BP xs H Q k q⟩
def gS(js:List (Option Nat))(g:TG)(tt:TT)(te:TE)(Y:St)(J:It)(D:WS)(n:Nat)(W:Nat->Hp->Prop)(fin:Hp->Prop):Prop :=
 ∀i H,W i H->(J.stop i H/\fin H)\/(i<n/\J.go i H/\∀x H1,J.yld i H x H1->g x (cσ js Y) H1 λAv H2=>tt Av H2 λb H3 =>
   if b=C? then te Av H3 λv H4=>∃ys,H4 D=A? (.lst ys)/\ys.length<Xe/\W (i+1) (upd H4 D (.lst (ys++[v])))else W (i+1) H3)
def zb(js:List (Option Nat))(wi:TI)(g:TG)(tt:TT)(te:TE):TE:=λY H Q=>wi Y H λJ H1=>∀D,H1 D=B? ->
 ∃(n:Nat)(W:Nat->Hp->Prop),W 0 (upd H1 D (.lst []))/\gS js g tt te Y J D n W λH'=>Q (.ref D) H'
section
variable{X:Cx}
theorem v5{h1:Yd}(S:fw X sc N js)(I:Inv X Z Y H s)
 (Br:∀x c,cl.lookup x=A? c->X.env.cells.lookup x=A? c) (C2:∀n,(n,Yw)∈sc.names->∃c,cl.lookup n=A? c)
 (hf:∀b∈fp,jg X Z H b) (Ah:∀b∈fp,b<s.1.1.size) (Cp:h1.Ns s.1.1.size λx=>ZU x ([]:List (Xk×WU)))
 (CN:∀b o,s.1.get? b=A? o->h1.get? b=A? o) :
 Inv (bW X N sc cl s.1.1.size s H fp Z) [] (cσ js Y) H {s with heap:=h1,toks:=t'}:=by
 have hok:(bW X N sc cl s.1.1.size s H fp Z).Ok :=
  { mod:=I.ok.mod
    kind:=S.kind
    glob:=I.ok.glob
    blt:=I.ok.blt
    above:=WX _
    inj:=λx y c a b=>I.ok.inj x y c (Br x c a) (Br y c b)
    has:=λx h=>C2 x (lO S.nocell h)
    cab:=λx c h=>by cases h
    hd:=I.ok.hd
    frames:=I.ok.frames
    stk:=.inl rfl
    exf:=λb hb=>⟨λe=>g! (Ah b hb) (by rw[e];exact Yr _),λx c e z=>(hf b hb).2.2.2.2.1 x c (Br x c e) z⟩
    bs:=I.bs
    bsz:=Xw I.ok.bsz I.sz
    noex:=λb o e hb=>by
     rcases(hf b hb).2.2.2.1 with h|h
     .exact I.ok.noex b o e h
     .exact g! (XM (XM (Xa e) I.ok.bsz) h) (Yr _)
    exfs:=λb hb hm=>by
     rcases W7.mp (I.stkSub b hm)with e|e
     .exact(hf b hb).2.1 e
     .exact(hf b hb).2.2.1 e
    funs:=I.stack
    frf:=I.stkFree }
 have hC:H s.1.1.size=none:=I.hok.fresh (WX _);obtain⟨m0,V8,EJ⟩:=I.loc
 exact
  { ok:=hok
    os:=rfl
    bare:=I.bare
    base:=Un.kept CN
    loc:=⟨_,Cp,λi x v e1 e2 Qh=>by
     have B9:∃j,js[i]?=A? (A? j)/\Y[j]?=A? (A? v):=by
      unfold cσ at e2;rw[WZ]at e2;cases q:js[i]? with
      |none=>rw[q]at e2;cases e2
      | some o =>
        rw[q]at e2;cases o with
        |none=>cases e2
        | some j =>
          refine⟨j,D?,?_⟩;have e3:(Y[j]?).join=A? v:=Xp e2;cases r:Y[j]? with
          |none=>rw[r]at e3;cases e3
          |some z=>rw[r]at e3;exact h! A? e3
     obtain⟨j,q1,q2⟩:=B9;obtain⟨n1,n2,n3⟩:=S.slots i j x q1 e1;obtain⟨u,ru,look⟩:=EJ j x v n1 q2 (by rcases n3 with z|z;exact .inr (.inl z);exact .inr (.inr z));refine⟨u,ru,.inr ⟨iH n2,?_⟩⟩;have hm:(x,Yw)∈sc.names:=lO (env:=X.env) S.nocell (iH n2);obtain⟨c,hc⟩:=C2 x hm;refine⟨c,hc,?_⟩;rcases look with⟨k1,_⟩|⟨_,c',AN,ic⟩
     .rcases n3 with z|z <;> (rw[k1]at z;cases z)
     .have:=Br x c hc;rw[AN]at this;cases this;exact ic.keeps CN⟩
    cell:=λx c e=>by
     obtain⟨v,q⟩:=I.cell x c (Br x c e);exact⟨v,q.keeps CN⟩
    free:=hC
    freeC:=λx c e=>I.freeC x c (Br x c e)
    pin:=λp hp=>by
     have AZ:p∈X.pn++Z:=by simpa[bW]using hp
     obtain⟨a1,a2,a3,a4,a5⟩:=I.pin p AZ;refine⟨CN _ _ a1,a2,λe=>?_,λhm=>?_,a5⟩
     .have e':p.1=s.1.1.size:=e;exact g! (Xa a1) (by rw[e'];exact Yr _)
     .rcases W7.mp (I.stkSub p.1 hm)with e|e
      .exact a3 e
      .exact a4 e
    hok:=I.hok.kept CN
    len:=by
     show(cσ js Y).length=N.length;unfold cσ;rw[WO];exact S.len }
theorem u6{R:Result->WY->Prop}{target:X6}{it acc:WU}(J:Nat->WY->Prop)
 (turn:∀n s,J n s->W9 (Xv prog w) A (pyNext it) (λr Ab=>(r=B?/\R (.ok .next) Ab)\/∃v,r=A? v /\
  W9 (Xv prog w) A (letOwnedTupleGo target it v) (λ_ AG=>W9 (Xv prog w) A (assign target env v) (λ_ BY =>
   W9 (Xv prog w) A (forIn ifs C? λc r=>if r=C? then do let ok <-isTrue c env (Y4 c env);pure (ZP ok)else pure (ZP r)) (λok D8 =>
    (ok=CU/\∃m,m<n/\J m D8)\/(ok=C?/\W9 (Xv prog w) A (Y4 elt env) (λx IQ=>W9 (Xv prog w) A (call (.builtin "list.append") [acc,x]) (λ_ IS=>∃m,m<n/\J m IS) (λ_ _=>False) IQ) (λ_ _=>False) D8))
    (λ_ _=>False) BY) (λ_ _=>False) AG) (λ_ _=>False) Ab) (λ_ _=>False) s)
 (n:Nat) (h:J n s):codeAny (Xv prog w) A (.compLoop (.ListComp elt [⟨target,iter,ifs,0⟩] scope pos) 0 it acc env) R s:=by
 refine codeAny_loop rfl J (λn s hJ=>?_) n h;show W9 _ A ((compTurn (.ListComp elt [⟨target,iter,ifs,0⟩] scope pos) 0 it acc env).onRaise _) _ _ s;refine wpAny_noted ?_;rw[compTurn_list];have up:∀{α:Type}{m:Sem α}{Q:α->WY->Prop}{E:WU->WY->Prop}{s:WY},W9 (Xv prog w) A m Q (λ_ _=>False) s->W9 (Xv prog w) A m Q E s:=λq=>Y9 q (λ_ _ z=>z) λ_ _ z=>z.elim;refine WN (wpAny_standAt (WN (Y9 (up (turn n s hJ)) (λr Ab Am=>?_) λ_ _ z=>z)));rcases Am with⟨rfl,Am⟩|⟨v,rfl,Am⟩
 .exact WW Am
 .refine WN (Y9 (up Am) (λ_ AG A7=>?_) λ_ _ z=>z);refine WN (Y9 (up A7) (λ_ BY Cq=>?_) λ_ _ z=>z);refine WN (Y9 (up Cq) (λok D8 AH=>?_) λ_ _ z=>z);rcases AH with⟨rfl,AH⟩|⟨rfl,AH⟩
  .exact WW ⟨rfl,AH⟩
  .exact WN (WN (Y9 (up AH) (λx IQ AI=>WN (Y9 (up AI) (λ_ IS MN=>WW (WW ⟨rfl,MN⟩)) λ_ _ z=>z)) λ_ _ z=>z))
theorem lZ{tn:Nat->Yd->Prop}{J:It}{W:Nat->Hp->Prop}{fin:Hp->Prop}
 {R:WU->WS->Result->WY->Prop} (hc:X.calm=C?) (S:fw X sc N js) (I:Inv X Z Y H s) (T:Turn X.prog X.w X.K tg J fp it tn) (st:tn 0 s.1) (hf:∀b∈fp,jg X Z H b)
 (Br:∀x c,cl.lookup x=A? c->X.env.cells.lookup x=A? c) (C2:∀n,(n,Yw)∈sc.names->∃c,cl.lookup n=A? c)
 (hg:∀cl C s H fp Z,PG (bW X N sc cl C s H fp Z) tg g) (gk:m5 js g) (ht:∀cl C s H fp Z,PTs (bW X N sc cl C s H fp Z) ifs tt) (he:∀cl C s H fp Z,PE (bW X N sc cl C s H fp Z) elt te)
 (w0:W 0 (upd H s.1.1.size (.lst []))) (turn:gS js g tt te Y J s.1.1.size n W fin)
 (hR:∀C H' s',C≠X.env.locals->s.1.1.size<C->(∃m,s'.1.Ns C m)->H' C=B?->(∀h' t',YD C s'.1 h'->Inv X Z Y H' {s' with heap:=h',toks:=t'})->fin H'->R (.ref s.1.1.size) C (.ok .next) s') :
 W9 (Xv X.prog X.w) X.A (newList []) (λacc BY=>W9 (Xv X.prog X.w) X.A (newFunctionEnv sc X.env.globals cl [] X.env.qual B? .none (A? X.env)) (λIT D8 =>
  codeAny (Xv X.prog X.w) X.A (.compStart (.ListComp elt [⟨tg,iter,ifs,0⟩] sc pos) 0 (.ref it) acc {IT with scope:=relabel sc X.env}) (R acc IT.locals) D8) E BY) E s:=by
 refine Ye (wpAny_newFunctionEnv S.nocell (by intro y hy;simp at hy) (λAm C3 C4=>?_) S.kind);dsimp only at C3 C4 |-;have I3:Inv X Z Y (upd H s.1.1.size (.lst [])) {s with heap:=s.1.push {cls:=.type "list",dict:=B?,data:=.seq ([]:List WU).toArray}}:=I.lnew (t':=s.toks) (its:=[]) .nil (by decide)
 have Ah:∀b∈fp,b<s.1.1.size:=λb hb=>by
  obtain⟨o,ho,_⟩:=T.obj _ _ st b hb;exact Xa ho
 have FR:∀b o,s.1.get? b=A? o->(s.1.push {cls:=.type "list",dict:=B?,data:=.seq ([]:List WU).toArray}).get? b=A? o:=λb o e=>WV _ e;have hsz:(s.1.push {cls:=.type "list",dict:=B?,data:=.seq ([]:List WU).toArray}).objs.size=s.1.1.size+1:=X4 ..;generalize Qk:({s with heap:=s.1.push {cls:=.type "list",dict:=B?,data:=.seq ([]:List WU).toArray}}:WY)=s3 at I3;have IU:s.1.push {cls:=.type "list",dict:=B?,data:=.seq ([]:List WU).toArray}=s3.1:=by rw[<-Qk]
 rw[IU]at C3 C4 FR hsz;rw[IU];have MO:∀t',({s with heap:=Am,toks:=t'}:WY)={s3 with heap:=Am,toks:=t'}:=λt'=>by rw[<-Qk]
 rw[MO];have CN:∀b o,s3.1.get? b=A? o->Am.get? b=A? o:=λb o e=>C4.extBut b o (XA (Xa e)) (WV _ e);have MP:∀b∈fp,jg X Z (upd H s.1.1.size (.lst [])) b:=λb hb=>⟨by rw[ag (XA (Ah b hb))];exact(hf b hb).1,(hf b hb).2⟩;have I4:=v5 (t':=s.toks+([]:List (Xk×WU)).length) S I3 Br C2 MP (λb hb=>by rw[hsz];exact Nat.lt_succ_of_lt (Ah b hb)) C3 CN;generalize V9:upd H s.1.1.size (.lst [])=H3 at I3 I4 MP w0;have AW:tn 0 Am:=T.keep _ _ _ st λb hb o e=>CN _ _ (FR _ _ e)
 have CY:∀{H':Hp},(∀b∈fp,H' b=B?)->∀b∈fp,jg (bW X N sc cl s3.1.1.size s3 H3 fp Z) [] H' b:=λ{H'}hn b hb=>by
  obtain⟨f0,f1,f2,f3,f4,f5⟩:=hf b hb;refine⟨hn b hb,λe=>?_,λhm=>?_,.inl hb,λx c e=>f4 x c (Br x c e),λp hp=>f5 p (by simpa[bW]using hp)⟩
  .have e':b=s3.1.1.size:=e;have h9:b<s.1.1.size:=Ah b hb;rw[e',hsz]at h9;exact g! h9 (Nat.not_lt.mpr (Nat.le_succ _))
  .rcases W7.mp (I.stkSub b hm)with e|e
   .exact f1 e
   .exact f2 e
 have loop:codeAny (Xv X.prog X.w) X.A (.compLoop (.ListComp elt [⟨tg,iter,ifs,0⟩] sc pos) 0 (.ref it) (.ref s.1.1.size) (compEnvC sc cl s3.1.1.size X.env)) (R (.ref s.1.1.size) s3.1.1.size)
  {s3 with heap:=Am,toks:=s.toks+([]:List (Xk×WU)).length}:=by
  refine u6 (λk s'=>∃i H',Inv (bW X N sc cl s3.1.1.size s3 H3 fp Z) [] (cσ js Y) H' s'/\tn i s'.1/\(∀b∈fp,H' b=B?)/\W i H'/\k=n - i) ?_ n ⟨0,H3,I4,AW,λb hb=>(MP b hb).1,w0,rfl⟩;rintro k s5 ⟨i,H5,I5,HR,Ly,w5,rfl⟩;rcases turn i H5 w5 with⟨stop,qn⟩|⟨B0,go,step⟩
  .refine thn (T.done (bW X N sc cl s3.1.1.size s3 H3 fp Z) rfl rfl rfl hc i [] s5 (cσ js Y) H5 _ I5 (CY Ly) HR stop) λr s6⟨hr,I6⟩=>.inl ⟨hr,?_⟩;have I7:Inv X Z Y H5 s6:=I3.call' (ch:=fp) (I6.os.trans rfl) I6.base I6.hok I6.bare λb hb=>⟨(hf b hb).2.2.2.1,(hf b hb).2.1,(hf b hb).2.2.2.2.1,(hf b hb).2.2.2.2.2⟩;have Ql:H5 s3.1.1.size=none:=I6.free;have Qm:s3.1.1.size≠X.env.locals:=Nat.ne_of_gt I3.lt;obtain⟨m6,SM,_⟩:=I6.loc;refine hR s3.1.1.size H5 s6 Qm (by lia) ⟨m6,SM⟩ Ql (λh' t' sb=>?_) qn;refine I7.turned (it:=s3.1.1.size) (λb o hb e=>sb.extBut b o hb e) Ql Qm (.inr I3.sz) (λx c e z=>?_) λp hp z=>?_
   .obtain⟨v,q⟩:=I3.cell x c e;exact g! q.lt (by rw[z];exact Yr _)
   .exact g! (Xa (I3.pin p hp).1) (by rw[z];exact Yr _)
  .refine thn (T.item (bW X N sc cl s3.1.1.size s3 H3 fp Z) rfl rfl rfl hc i [] s5 (cσ js Y) H5 _ I5 (CY Ly) HR go) λr s6⟨u,hr,h6⟩=>.inr ⟨u,hr,?_⟩;refine thn h6 λ_ s7⟨x,H7,I7,r7,y7,MQ,SN⟩=>?_;have SO:=I7.pinned (CY SN) (T.obj _ _ MQ);refine thn (hg cl s3.1.1.size s3 H3 fp Z _ s7 (cσ js Y) H7 x u _ SO r7 (gk Y (cσ js Y) x H7 _ (.refl _) (step x H7 y7))) λ_ s8⟨MR,H8,I8,k8,q8⟩=>?_;refine thn (ht cl s3.1.1.size s3 H3 fp Z _ s8 MR H8 _ I8 q8) λok s9⟨H9,I9,q9⟩=>?_
   have again:∀{s':WY}{Aa:St}{H':Hp},Keep (cσ js Y) Aa->Inv (bW X N sc cl s3.1.1.size s3 H3 fp Z) ([]++lP fp s7.1) Aa H' s'->W (i+1) H'->∃m,m<n - i/\∃i H',Inv (bW X N sc cl s3.1.1.size s3 H3 fp Z) [] (cσ js Y) H' s'/\tn i s'.1/\(∀b∈fp,H' b=B?)/\W i H'/\m=n - i:=λ{s' Aa H'}kp I' w'=>by
    refine⟨n - (i+1),by lia,i+1,H',(I'.unpinned).weak kp.1 kp.2,T.keep _ _ _ MQ λb hb o e=>(I'.pin (b,o) (XB _ (XB _ (fF hb e)))).1,λb hb=>?_,w',D?⟩;obtain⟨o,e,d⟩:=T.obj _ _ MQ b hb;exact(I'.pin (b,o) (XB _ (XB _ (fF hb e)))).2.1
   cases ok with
   | false =>
     refine .inl ⟨rfl,again k8 I9 ?_⟩;have Qn:if CU=C? then _ else W (i+1) H9:=q9
     rw[a! W5]at Qn;exact Qn
   | true =>
     refine .inr ⟨rfl,?_⟩;rw[b! rfl]at q9;refine thn (he cl s3.1.1.size s3 H3 fp Z _ s9 MR H9 _ I9 q9) λvv AX⟨v,BD,SQ,rv,ys,hD,IV,SR⟩=>?_;refine thn (aN _ AX MR BD (.ref s.1.1.size) [v] (.ref s.1.1.size) [vv] (λ_ H'=>W (i+1) H') SQ rfl (.cons rv .nil) ⟨_,ys,v,rfl,rfl,hD,IV,SR⟩) λ_ BR⟨_,GD,SS,_,SU⟩=>?_;exact again k8 SS SU
 exact codeAny_compStart_list loop (T.self X.A 0 _ _ _ AW loop)
theorem cD(hc:X.calm=C?)(S:fw X sc N js)(hi:PI X tg iter wi)
 (hg:∀cl C s H fp Z,PG (bW X N sc cl C s H fp Z) tg g) (gk:m5 js g) (ht:∀cl C s H fp Z,PTs (bW X N sc cl C s H fp Z) ifs tt) (he:∀cl C s H fp Z,PE (bW X N sc cl C s H fp Z) elt te)
 (hs:∀x,foldedSetIterable iter X.env x=pure x:=by intro _;rfl):PE X (.ListComp elt [⟨tg,iter,ifs,0⟩] sc pos) (zb js wi g tt te):=by
 intro Z s Y H Q I h;obtain⟨cl,e1,e2,e3⟩:=lJ (env:=X.env) (sc:=sc) λn hn=>I.ok.has n (S.frees _ hn rfl);rw[eval_ListComp];refine wpAny_comprehension_free (use:=B?) rfl hs e1 S.kind S.names (thn (hi Z s Y H _ I h) λv s1 h1=>thn h1 λLx s2 h2=>?_);obtain⟨it,fp,tn,J,H2,rfl,I2,T,CW,f2,R2⟩:=h2;obtain⟨n,W,w0,turn⟩:=R2 s2.1.1.size I2.fresh;refine lZ (R:=λacc C=>compPost (Xv X.prog X.w) X.A X.xe B? (EP X Z Y Q) acc C) hc S I2 T CW f2 e2 e3 hg gk ht he w0 turn λC H' s' _ _ hn _ inv fi=>?_;obtain⟨m,hm⟩:=hn;exact⟨m,hm,λh' sb=>⟨.ref s2.1.1.size,H',inv h' s'.toks sb,D?,fi⟩⟩
theorem dN{y:Xk}{IW py:Z4}(hN:X.N.Nodup)(hy:X.N[i]?=A? y)(SV:Loc X.env.scope y)(hc:X.calm=C?)(S:fw X sc N js)(hi:PI X tg iter wi)
 (hg:∀cl C s H fp Z,PG (bW X N sc cl C s H fp Z) tg g) (gk:m5 js g) (ht:∀cl C s H fp Z,PTs (bW X N sc cl C s H fp Z) ifs tt) (he:∀cl C s H fp Z,PE (bW X N sc cl C s H fp Z) elt te)
 (SW:swapsWith (.ListComp elt [⟨tg,iter,ifs,0⟩] sc pos) (A? (.Name y py)) IW.line X.env=pure true:=by rfl)
 (hs:∀x,foldedSetIterable iter X.env x=pure x:=by intro _;rfl) (hf:X.fn y=C?\/X.env.scope.names.lookup y=A? .local:=by first|exact .inl rfl|exact .inr rfl|assumption) :
 PS X (.Assign [.Name y py] (.ListComp elt [⟨tg,iter,ifs,0⟩] sc pos) IW) (xh (zb js wi g tt te) (av i)):=by
 intro Z s Y H D I h;obtain⟨cl,e1,e2,e3⟩:=lJ (env:=X.env) (sc:=sc) λn hn=>I.ok.has n (S.frees _ hn rfl);rw[exec_Assign_Name_used _ _ _ _ SW];refine WN (wpAny_standAt (WN ?_));show W9 _ X.A (do let _ <-comprehension (.ListComp elt [⟨tg,iter,ifs,0⟩] sc pos) sc X.env _ (newList []) CU (Y4 iter X.env) (A? (assign (.Name y py) X.env))) _ _ s;refine WN (Y9 (wpAny_comprehension_free (use:=A? (assign (.Name y py) X.env)) (Q:=λ_ s'=>SP X Z D .next s') rfl hs e1 S.kind S.names (thn (hi Z s Y H _ I h) λv s1 h1=>thn h1 λLx s2 h2=>?_)) (λ_ s' hq=>WW (WW hq)) λ_ _ z=>z);obtain⟨it,fp,tn,J,H2,rfl,I2,T,CW,f2,R2⟩:=h2;obtain⟨n,W,w0,turn⟩:=R2 s2.1.1.size I2.fresh;refine lZ (R:=λacc C=>compPost (Xv X.prog X.w) X.A X.xe (A? (assign (.Name y py) X.env)) (λ_ s'=>SP X Z D .next s') acc C) hc S I2 T CW f2 e2 e3 hg gk ht he w0 turn λC H' s' Qo hC hn SX inv fi=>?_;obtain⟨m,hm⟩:=hn
 have I5:Inv X Z Y H' s':=by
  have q:=inv s'.1 s'.toks (.refl ..);exact q
 refine wpAny_assign_Name (mK (v:=.ref s2.1.1.size) I5 hN hy SV rfl (λs6 I6⟨a,sb,ha⟩=>?_) hf)
 have SY:C≠a:=by
  rcases ha with ha|ha
  .rw[ha];exact Qo
  .intro z;obtain⟨v,q⟩:=I2.cell y a ha;exact g! (Nat.lt_trans q.lt hC) (by rw[z];exact Yr _)
 refine⟨m,hm.sameBut sb SY,λh' S3=>⟨_,H',I6.turned (it:=C) (t':=s6.toks) (λb o hb e=>S3.extBut b o hb e) SX Qo (.inr (Xw I2.sz (ZT hC))) (λx c e z=>?_) λp hp z=>?_,fi⟩⟩
 .obtain⟨v,q⟩:=I2.cell x c e;exact g! (Nat.lt_trans q.lt hC) (by rw[z];exact Yr _)
 .exact g! (Nat.lt_trans (Xa (I2.pin p hp).1) hC) (by rw[z];exact Yr _)
end
section
variable{X:Cx}
theorem nz(hc:X.calm=C?):fz X (.builtin "max") (λxs H Q=>∃(p:WS)(ns:List Int),xs=[.ref p]/\SqL X.K H p (ns.map q!)/\ns≠[]/\∀M,M∈ns->(∀a,a∈ns->a<=M)->Q (.int M) H):=by
 intro Z s Y H xs us Q I r h;obtain⟨p,ns,rfl,hl,Ap,q⟩:=h;obtain⟨u,rfl,rx⟩:=vals1 r;cases rx;obtain⟨its,rv,pl,_⟩:=I.list hl;have hi:=intsAre_of rv;have hlen:=hi.length;obtain⟨ys,e⟩:=(hi.allInts).items;have Gy:s.1.IsList p (intItems ys):=by rw[<-e];exact pl.isList
 have hn:ys.toList.map (·.1)=ns:=by rw[<-nums_intItems,<-e];exact hi.numsOf
 have hsz:0<ys.size:=by
  have:ns.length=ys.size:=by rw[<-hn];simp
  have:=List.length_pos_iff.mpr Ap;lia
 refine max_intList (I.ok.hd hc) Gy hsz λv h' tk hv hk=>?_;obtain⟨t,rfl⟩:=intItems_at hv;obtain⟨h1,h2⟩:=argBest_gt (numAt ys) (ys.size - 1);refine⟨.int _,H,I.kept hk,⟨_,D?⟩,q _ ?_ λa ha=>?_⟩
 .rw[numAt_eq,<-hn];exact getD_mem (by rw[WO,XR];lia)
 .rw[<-hn]at ha;obtain⟨j,hj,rfl⟩:=mem_getD ha;rw[WO,XR]at hj;rw[<-numAt_eq];exact h2 j (by lia)
theorem wU{T:String}{b:Bool}{t:WU}:fz X (.builtin "isinstance") (λxs H Q=>∃x,xs=[x,.ty T]/\iX X.K H x t/\PySem.W.kitOne X.K t (.type T)=A? b/\Q (.bl b) H):=by
 intro Z s Y H xs us Q I r h;obtain⟨x,rfl,ty,k,q⟩:=h;obtain⟨u,w',rfl,r1,r2⟩:=vals2 r;cases r2;exact uR I r1 ty k λtk=>⟨.bl b,H,I.tok tk,rfl,q⟩
end
end L2
open L2 renaming Same->k!
namespace PySem
namespace F
theorem bb_owner_rev:Manifest.owners.lookup (String.ofList ['d','e','s','r','e','v','e','r'].reverse)=A? Manifest.sig_reversed:=by kernel_rfl
theorem bb_slot_rev_next:Slot "reversed" "__next__" "reversed.__next__" :=
 .of (owner:="reversed") (n:="__next__") (by rw[Y8,Yt];kernel_rfl) (by decide +kernel) (by decide +kernel) (by decide +kernel)
  (by first|exact .inl (by decide +kernel)|exact .inr (by decide +kernel)) (by rw[isSubtype_type];kernel_rfl)
theorem bb_entry_rev_next:entryFor table "reversed.__next__"=A? Zp.«reversed.__next__»:=entryFor_of_tree (by kernel_rfl)
theorem bb_args_rev_next(a:WU):argsOk "reversed.__next__" ⟨[a],[]⟩:=by
 unfold argsOk;rw[signature?_of (id:="reversed.__next__") (n:=['_','_','t','x','e','n','_','_']) (o:=['d','e','s','r','e','v','e','r']) (by kernel_rfl) bb_owner_rev];kernel_rfl
theorem bb_slot_rev_iter:Slot "reversed" "__iter__" "reversed.__iter__" :=
 .of (owner:="reversed") (n:="__iter__") (by rw[Y8,Yt];kernel_rfl) (by decide +kernel) (by decide +kernel) (by decide +kernel)
  (by first|exact .inl (by decide +kernel)|exact .inr (by decide +kernel)) (by rw[isSubtype_type];kernel_rfl)
theorem bb_args_rev_iter(a:WU):argsOk "reversed.__iter__" ⟨[a],[]⟩:=by
 unfold argsOk;rw[signature?_of (id:="reversed.__iter__") (n:=['_','_','r','e','t','i','_','_']) (o:=['d','e','s','r','e','v','e','r']) (by kernel_rfl) bb_owner_rev];kernel_rfl
theorem bb_entry_rev_iter:entryFor table "reversed.__iter__"=A? Zp.«dict_keyiterator.__iter__» :=
 entryFor_alias (id':="dict_keyiterator.__iter__") (by kernel_rfl) (by first|rfl|decide +kernel|(unfold String.splitOn;simp +decide [String.splitOnAux])) (by decide +kernel) (by kernel_rfl)
theorem bb_slot_rev_hint:Slot "reversed" "__length_hint__" "reversed.__length_hint__" :=
 .of (owner:="reversed") (n:="__length_hint__") (by rw[Y8,Yt];kernel_rfl) (by decide +kernel) (by decide +kernel) (by decide +kernel)
  (by first|exact .inl (by decide +kernel)|exact .inr (by decide +kernel)) (by rw[isSubtype_type];kernel_rfl)
theorem bb_entry_rev_hint:entryFor table "reversed.__length_hint__"=A? Zp.«reversed.__length_hint__»:=entryFor_of_tree (by kernel_rfl)
theorem bb_args_rev_hint(a:WU):argsOk "reversed.__length_hint__" ⟨[a],[]⟩:=by
 unfold argsOk;rw[signature?_of (id:="reversed.__length_hint__") (n:=['_','_','t','n','i','h','_','h','t','g','n','e','l','_','_']) (o:=['d','e','s','r','e','v','e','r']) (by kernel_rfl) bb_owner_rev];kernel_rfl
theorem bb_nolen_rev:typeLookup (.type "reversed") "__len__"=pure none:=by rw[Y8,Yt];kernel_rfl
theorem bb_nolen_lri:typeLookup (.type "list_reverseiterator") "__len__"=pure none:=by rw[Y8,Yt];kernel_rfl
theorem bb_hint_lri:typeLookup (.type "list_reverseiterator") "__length_hint__"=pure (A? (.builtin "list_reverseiterator.__length_hint__")):=by rw[Y8,Yt];kernel_rfl
theorem bb_tuple_norev:typeLookup (.type "tuple") "__reversed__"=pure none:=by rw[Y8,Yt];kernel_rfl
theorem bb_sub_rev_rev:isSubtype (.type "reversed") (.type "reversed")=pure true:=by rw[isSubtype_type];kernel_rfl
theorem bb_sub_tuple_dict:isSubtype (.type "tuple") (.type "dict")=pure false:=by rw[isSubtype_type];kernel_rfl
end F
open Sem (wp)
theorem bb_slot_rev_init:Slot "reversed" "__init__" "object.__init__" :=
 .of (owner:="object") (n:="__init__") (by rw[Y8,Yt];kernel_rfl) (by decide +kernel) (by decide +kernel) (by decide +kernel)
  (by first|exact .inl (by decide +kernel)|exact .inr (by decide +kernel)) (by rw[isSubtype_type];kernel_rfl)
theorem bb_called_rev:TypeCalled "reversed" "reversed.__new__" "object.__init__" :=
 ⟨by decide +kernel,by decide +kernel,⟨_,_,F.mro_reversed⟩,F.made_reversed,by decide +kernel,F.bb_sub_rev_rev,bb_slot_rev_init⟩
def revTup(t:WS)(i:Int):Zc:={cls:=.type "reversed",data:=.fields #[.ref t,Za i]}
theorem bb_meets_rev_tuple(t:WS)(items:Array WU)(hz:(items.size:Int)<2 ^ 63) :
 Meets (Zp.«reversed.__new__» ⟨[.type "reversed",.ref t],[]⟩) (λ_ R s=>PyProof.Rows.IsTup s.1 t items/\∀tk,R (.ok (.ret (.ref s.1.1.size))) {s with heap:=s.1.push (revTup t ((items.size:Int) - 1)),toks:=tk}):=by
 refine .of_wp λprog w A R s h=>?_;obtain⟨ht,h⟩:=h;unfold Zp.«reversed.__new__»;refine WN (wpAny_of_eq (newClass_reversed _) ?_)
 try dsimp only
 refine WN (wpAny_of_eq (a:=()) (by first|rfl|kernel_rfl) ?_);refine WN (wpAny_of_eq (a:=()) (by first|rfl|kernel_rfl) ?_)
 try dsimp only
 refine WN (Yq ht.typeIs F.bb_tuple_norev ?_)
 try dsimp only
 have V':=F.bb_sub_tuple_dict;have Wa:=XQ.lookup;have hT:s.TypeIs (.ref t) "tuple":=ht.typeIs
 wp_walk using PyProof.Rows.len_tuple ht hz,ZH hT
 exact⟨_,D?,h _⟩
theorem bb_call_rev_tuple{t:WS}(ht:PyProof.Rows.IsTup s.1 t items)(hz:(items.size:Int)<2 ^ 63)
 (h:∀tk,Q (.ref s.1.1.size) {s with heap:=s.1.push (revTup t ((items.size:Int) - 1)),toks:=tk}):W9 (Xv prog w) A (call (.type "reversed") [.ref t]) Q E s :=
 callType_new bb_called_rev (by decide) (F.typeCall_reversed_1 _) (F.newCall_reversed_1 _) (λobj=>F.args_object_init_2 obj _) F.entry_reversed_new (bb_meets_rev_tuple t items hz)
  ⟨ht,λtk=>⟨⟨_,W3 _ rfl,rfl⟩,h tk⟩⟩
def IsRevT(h:Yd)(a t:WS)(i:Int):Prop:=∃o,h.get? a=A? o/\o.cls=.type "reversed"/\o.data=.fields #[.ref t,Za i]
theorem IsRevT.typeIs{t:WS}{i:Int}(x:IsRevT s.1 a t i):s.TypeIs (.ref a) "reversed":=let⟨o,ho,hc,_⟩:=x;⟨o,ho,hc⟩
theorem IsRevT.at{t:WS}{i:Int}(x:IsRevT h a t i)(e:∀o,h.get? a=A? o->h'.get? a=A? o):IsRevT h' a t i:=let⟨o,ho,r⟩:=x;⟨o,e _ ho,r⟩
theorem bb_rev_iter{t:WS}{i:Int}(hit:IsRevT s.1 it t i)(h:Q (.ref it) s):W9 (Xv prog w) A (pyIter (.ref it)) Q E s:=by
 refine wpAny_pyIter_slot hit.typeIs F.bb_slot_rev_iter (X5 F.bb_slot_rev_iter hit.typeIs F.bb_entry_rev_iter ?_ (F.bb_args_rev_iter _));show W9 _ _ (ret (.ref it)) _ _ s;exact WW ⟨_,rfl,"reversed",_,hit.typeIs,F.bb_slot_rev_next.lookup,h⟩
theorem bb_rev_next{t:WS}{x:WU}{Q:Option WU->WY->Prop}(hit:IsRevT s.1 it t (i:Int))(ht:PyProof.Rows.IsTup s.1 t items)(hx:items[i]?=A? x)(hz:(items.size:Int)<2 ^ 63)
 (hQ:∀h' tk,IsRevT h' it t ((i:Int) - 1)->YD it s.1 h'->Q (A? x) {s with heap:=h',toks:=tk}):W9 (Xv prog w) A (pyNext (.ref it)) Q E s:=by
 obtain⟨o,ho,hc,hd⟩:=id hit;have hi:i<items.size:=(Array.getElem?_eq_some_iff.mp hx).1;unfold pyNext
 refine WN (wpAny_attempt (X3 (name:=Xq "__next__") hit.typeIs F.bb_slot_rev_next
  (X5 F.bb_slot_rev_next hit.typeIs F.bb_entry_rev_next ?_ (F.bb_args_rev_next _))))
 unfold Zp.«reversed.__next__»;refine WN (wpAny_of_eq (a:=(Xm it,[])) rfl ?_)
 try dsimp only
 refine WN (XX ho hd (x:=.ref t) rfl ?_);refine WN (XX ho hd (x:=Za (i:Int)) rfl ?_);show W9 _ _ (if(i:Int)<0 then _ else _) _ _ s;rw[a! (by lia)];refine WN (Yq ht.typeIs XQ.lookup ?_)
 try dsimp only
 rw[a! (by decide)];refine WN (m:=mkInt (i:Int)) (wpAny_mkInt ?_);refine WN (wpAny_attempt (PyProof.Rows.getItem_tuple (j:=i) (x:=x) ht (by lia) (by lia) ?_ hx ?_))
 .refine(L2.oY (n:=items.size) (i:=(i:Int)) (j:=i) ?_).1;unfold L2.ixN;rw[b! (by lia),b! (by lia)];simp
 .try dsimp only
  refine WN (XX ho hd (x:=Za (i:Int)) rfl ?_)
  try dsimp only
  refine WN (wpAny_setField ho hd (by simp) ?_);refine WW ⟨x,rfl,WW (hQ _ _ ?_ (Zi ..))⟩;exact⟨_,XO _ ho (Obj.isFreed_of_fields (Zm hd _)),(Obj.cls_mapFields ..).trans hc,by rw[Zm hd];simp⟩
theorem bb_rev_end{t:WS}{Q:Option WU->WY->Prop}(hh:A.handled=B?)(hit:IsRevT s.1 it t (-1))
 (hQ:∀h' tk,Heap.ExtBut it s.1 h'->Q B? {s with heap:=h',toks:=tk}):W9 (Xv prog w) A (pyNext (.ref it)) Q E s:=by
 obtain⟨o,ho,hc,hd⟩:=id hit;unfold pyNext
 refine WN (wpAny_attempt (X3 (name:=Xq "__next__") hit.typeIs F.bb_slot_rev_next
  (X5 F.bb_slot_rev_next hit.typeIs F.bb_entry_rev_next ?_ (F.bb_args_rev_next _))))
 unfold Zp.«reversed.__next__»;refine WN (wpAny_of_eq (a:=(Xm it,[])) rfl ?_)
 try dsimp only
 refine WN (XX ho hd (x:=.ref t) rfl ?_);refine WN (XX ho hd (x:=Za (-1)) rfl ?_);show W9 _ _ (if(-1:Int)<0 then _ else _) _ _ s;rw[b! (by decide)];refine WN (Zw ?_);refine WN ?_
 wp_delta
 refine WN (wpAny_setField ho hd (by simp) ?_);have E3:=XO (Obj.mapFields (·.setIfInBounds 1 (Za (-1)))) ho (Obj.isFreed_of_fields (Zm hd _));refine wpAny_setField E3 (Zm hd _) (by simp) ?_;refine WN ?_
 wp_delta
 refine WN ?_;simp only[newExc,newTuple];refine WN (Ye ?_ (by size_fits));refine WN (m:=firstArgMember _ _) (wpAny_of_eq (a:=Yp) (by first|rfl|(simp only[firstArgMember];rfl)) ?_);refine Ye ?_ (by size_fits);simp only[raiseNew];refine WN (wpAny_handled ?_)
 first|rw[show A.in1.handled=B? from hh]|rw[hh]
 refine WN (WW (wpAny_throw ?_));refine WN (ZK (T:="StopIteration") (b:=C?) ⟨_,W3 _ rfl,rfl⟩ isSubtype_stop ?_);refine WW (hQ _ _ ?_);refine Heap.ExtBut.push (Heap.ExtBut.push ?_ _) _;intro b o' hb e;rw[XW _ _ (YT hb),XW _ _ (YT hb)];exact e
theorem bb_walk_revT(hh:A.handled=B?)(I t:WS)(Ap:t≠I)(items:Array WU)(hz:(items.size:Int)<2 ^ 63) :
 Walks prog w A I [I,t] [I] items.size (λi v=>items[items.size - 1 - i]?=A? v) (λi h=>i<=items.size/\IsRevT h I t ((items.size:Int) - 1 - (i:Int))/\PyProof.Rows.IsTup h t items) where
 sub:=λb hb=>by simp at hb;simp[hb]
 frame:=λ_ _ _ x hk=>⟨x.1,x.2.1.at λo e=>hk I (by simp) o e,by obtain⟨o,e,r⟩:=x.2.2;exact⟨o,hk t (by simp) o e,r⟩⟩
 item:=λi s Q E hi x hQ=>by
  have e:(items.size:Int) - 1 - (i:Int)=((items.size - 1 - i:Nat):Int):=by lia
  have hit:=x.2.1;rw[e]at hit;have hx:items[items.size - 1 - i]?=A? (items[items.size - 1 - i]'(by lia)):=Zg (by lia);refine bb_rev_next hit x.2.2 hx hz λh' tk E5 CO=>?_;have e2:((items.size - 1 - i:Nat):Int) - 1=(items.size:Int) - 1 - ((i+1:Nat):Int):=by lia
  rw[e2]at E5;exact hQ _ h' tk hx ⟨hi,E5,by obtain⟨o,e,r⟩:=x.2.2;exact⟨o,(CO.2 t Ap).trans e,r⟩⟩ λb o hb eo=>CO.extBut b o (λh=>hb (by simp[h])) eo
 done:=λs Q E x hQ=>by
  have e:(items.size:Int) - 1 - (items.size:Int)=-1:=by lia
  have hit:=x.2.1;rw[e]at hit;exact bb_rev_end hh hit λh' tk S4=>hQ h' tk λb o hb eo=>S4 b o (λh=>hb (by simp[h])) eo
 self:=λ_ _ _ _ x hQ=>bb_rev_iter x.2.1 hQ
def HintOk(prog:W6)(w:Xo)(A:XI)(I:WS)(St:Nat->Yd->Prop):Prop :=
 ∀(s:WY)(Q:Bool->WY->Prop)(E:WU->WY->Prop),St 0 s.1->(∀b tk,s.toks<=tk->Q b {s with toks:=tk})->W9 (Xv prog w) A (ZI (.ref I)) Q E s
theorem bb_hint_lri{l:WS}:HintOk prog w A I (λi h=>i<=items.size/\h.IsRevIter I l ((items.size:Int) - 1 - (i:Int))/\h.IsList l items):=by
 intro s Q E st h;unfold ZI;refine WN (Yq st.2.1.typeIs F.bb_nolen_lri ?_);show W9 _ A (specialOf (Xm I) (Xq "__length_hint__") >>= _) _ _ _;refine WN (Yq st.2.1.typeIs F.bb_hint_lri ?_)
 (generalize hid:("list_reverseiterator.__length_hint__":String)=GF;(fail_if_success (clear hid GF));wp_delta;rw[show splitId GF=A? ("list_reverseiterator","__length_hint__")from by subst hid;decide +kernel];subst hid)
 refine WN (ZK (b:=C?) st.2.1.typeIs (by rw[isSubtype_type];kernel_rfl) ?_);exact WW (h _ _ (WX _))
theorem bb_len_hint{t:WS}(hit:IsRevT s.1 I t ((items.size:Int) - 1))(ht:PyProof.Rows.IsTup s.1 t items)(hz:(items.size:Int)<2 ^ 63)
 (h:∀u tk,s.toks<=tk->Q (.int (items.size:Int) u) {s with toks:=tk}):W9 (Xv prog w) A (call (.builtin "reversed.__length_hint__") [.ref I]) Q E s:=by
 obtain⟨o,ho,hc,hd⟩:=id hit;refine X5 F.bb_slot_rev_hint hit.typeIs F.bb_entry_rev_hint ?_ (F.bb_args_rev_hint _);unfold Zp.«reversed.__length_hint__»;refine WN (wpAny_of_eq (a:=Xm I) rfl ?_)
 try dsimp only
 refine WN (XX ho hd (x:=.ref t) rfl ?_);rw[a! (show¬((Xm t == Yp)=C?)from W5)];refine WN (PyProof.Rows.len_tuple ht hz ?_);refine WN (m:=asInt? _) (WW ?_)
 try dsimp only
 refine WN (XX ho hd (x:=Za ((items.size:Int) - 1)) rfl ?_);show W9 _ _ (if(items.size:Int)<((items.size:Int) - 1)+1 then _ else _) _ _ _;rw[a! (by lia)];have e:((items.size:Int) - 1)+1=(items.size:Int):=by lia
 rw[e];refine WN (wpAny_mkInt (WW ⟨_,rfl,h _ _ ?_⟩));show s.toks<=s.toks+1+1+1;lia
theorem bb_hint_rev{t:WS}(hz:items.size<=Xe):HintOk prog w A I (λi h=>i<=items.size/\IsRevT h I t ((items.size:Int) - 1 - (i:Int))/\PyProof.Rows.IsTup h t items):=by
 intro s Q E st h;unfold ZI;refine WN (Yq st.2.1.typeIs F.bb_nolen_rev ?_);show W9 _ A (specialOf (Xm I) (Xq "__length_hint__") >>= _) _ _ _;refine WN (Yq st.2.1.typeIs F.bb_slot_rev_hint.lookup ?_)
 (generalize hid:("reversed.__length_hint__":String)=GF;(fail_if_success (clear hid GF));wp_delta;rw[show splitId GF=A? ("reversed","__length_hint__")from by subst hid;decide +kernel];subst hid)
 refine WN (ZK (b:=C?) st.2.1.typeIs F.bb_sub_rev_rev ?_)
 have Qp:(items.size:Int)<2 ^ 63:=by
  have:=L2.fA;lia
 rw[a! (by decide)]
 try dsimp only
 rw[a! (by decide +kernel)];refine WN (Zw ?_);refine WN (wpAny_of_eq (F.bb_slot_rev_hint.bind _) ?_)
 try dsimp only
 have hit:=st.2.1;rw[show(items.size:Int) - 1 - ((0:Nat):Int)=(items.size:Int) - 1 by lia]at hit;refine WN (wpAny_attempt (bb_len_hint hit st.2.2 Qp λu tk AO=>?_));have f1:Builtin.List.listFitsIndex (items.size:Int)=true:=fitsIndex_of (Int.natCast_nonneg _) Qp;have f2:Y7 (items.size:Int).toNat=false:=L2.iF (Xw (Nat.le_of_eq (Xu _)) hz);have f3:¬(items.size:Int)<0:=Int.not_lt.mpr (Int.natCast_nonneg _);generalize(items.size:Int)=k at f1 f2 f3 |-;have fin:W9 (Xv prog w) A (pure (k != 0):Sem Bool) Q E {s with toks:=tk}:=WW (h _ _ AO);simp only[asInt?,pure_bind,f1,f2,f3,Bool.not_true,Yb,if_false];exact fin
theorem bb_list_walk{T:String}{wr:List WS}{P:Nat->WU->Prop}{St:Nat->Yd->Prop}(W:Walks prog w A.in1.in1 I fp wr n P St)
 (hT:∀i(s:WY),St i s.1->s.TypeIs (.ref I) T) (h2:(Zl T == Zl "list")=CU) (h3:(Zl T == Zl "tuple")=CU) (hint:HintOk prog w A.in1.in1 I St)
 (AW:St 0 s.1) (S5:∀b∈fp,b<s.1.1.size) (hI:I∈fp) (hn:n<=Xe)
 (hQ:∀h' tk acc c,(∀b o,b∉wr->s.1.get? b=A? o->h'.get? b=A? o)->h'.get? s.1.1.size=A? {cls:=.type "list",dict:=B?,data:=.seq acc c,slots:=#[]}->ItemsOf P acc n->Q (.ref s.1.1.size) {s with heap:=h',toks:=tk}) :
 W9 (Xv prog w) A (call (.type "list") [.ref I]) Q E s:=by
 have HW:s.1.1.size∉fp:=λhm=>Yr _ (S5 _ hm)
 refine callType_codes (Q₁:=λobj Ab=>obj=.ref s.1.1.size/\Ab={s with heap:=s.1.push {cls:=.type "list",data:=.seq #[]}}) F.called_list (F.typeCall_list_1 _) F.entry_list_init
  (code_list_new _ ⟨rfl,rfl⟩) λobj Ab Am=>?_
 obtain⟨rfl,rfl⟩:=Am;have hS:(s.1.push {cls:=.type "list",data:=.seq #[]}).get? s.1.1.size=A? {cls:=.type "list",data:=.seq #[]}:=W3 _ rfl;have MS:s.1.1.size≠I:=λe=>HW (e ▸ hI);refine⟨⟨_,hS,D?⟩,F.args_list_init_2 _ _,?_⟩;show W9 _ A.in1.in1 (do let old <-ZJ (.ref s.1.1.size);Builtin.List.listUpdate (.ref s.1.1.size) (λ_=>#[]);letGo old.toList.reverse;Ze (.ref s.1.1.size) (.ref I) .none) _ _ _;refine WN ?_;unfold ZJ;refine WN (Yy hS rfl (WW ?_));refine WN (YV hS rfl ?_);have Bl:=XO (Yg (λ_=>(#[]:Array WU))) hS rfl;refine WN (wpAny_letGo ?_);generalize hH:(s.1.push {cls:=.type "list",data:=.seq #[]}).update s.1.1.size (Yg (λ_=>(#[]:Array WU)))=H2 at Bl |-
 have old:∀b o,s.1.get? b=A? o->H2.get? b=A? o:=λb o e=>by
  rw[<-hH,XW _ _ (YT (XA (Xa e)))];exact WV _ e
 obtain⟨c2,D9⟩:∃c,H2.get? s.1.1.size=A? {cls:=.type "list",data:=.seq #[] c}:=⟨_,Bl⟩;have CW:St 0 H2:=W.frame 0 _ _ AW λb _ o e=>old b o e;unfold Ze;refine WN (ZH (hT 0 _ CW) ?_);have h1:Zo (.ref s.1.1.size) (.ref I)=false:=by simp[Zo,MS]
 simp only[h1,h2,h3,Bool.or_false,Yb,if_false];refine WN (W.self 0 _ _ _ CW ?_);refine WN (Yv (hint _ _ _ CW λb tk _=>?_))
 have key:∀(h:Yd)(c₁ tk:Nat),St 0 h->(∀b o,b≠s.1.1.size->H2.get? b=A? o->h.get? b=A? o)->h.get? s.1.1.size=A? {cls:=.type "list",data:=.seq #[] c₁} ->
  codeAny (Xv prog w) A.in1 (.builtin "list.extend.loop" ⟨[.ref s.1.1.size,.ref I,.none],[]⟩) (wants (λr AG=>r=.none/\Q (.ref s.1.1.size) AG) E) {s with heap:=h,toks:=tk}:=by
  intro h c₁ tk hs hk Cr;refine codeAny_extend_loopS W.toS hn _ HW .none n 0 _ #[] c₁ rfl (Xh _) hs Cr (ItemsOf.nil _) λs' A8 c' hm DV An=>?_;rw[Moved.eq_with hm];refine⟨D?,hQ s'.1 s'.toks A8 c' (λb o hb e=>hm.heap b o (λAE=>?_) (hk b o (XA (Xa e)) (old b o e))) DV An⟩;rcases W7.mp AE with e'|AE
  .exact g! (Xa e) (by rw[e'];exact Yr _)
  .exact hb AE
 refine wpAny_ite_split (λ_=>?_) (λ_=>WW ⟨plainId_quiet YE _,key _ c2 _ CW (λb o _ e=>e) D9⟩);refine WN (Zw ?_);refine WN ?_;show W9 _ _ (updateSeq s.1.1.size (·.push .none) >>= λ_=>updateSeq s.1.1.size (·.pop)) _ _ _;refine WN (YV D9 rfl ?_);have Bm:=XO (Yg (·.push Yp)) D9 rfl;refine YV (hz:=by seq_fits) Bm rfl ?_;have Cs:=XO (Yg (·.pop)) Bm rfl
 have Ct:∀b o,b≠s.1.1.size->H2.get? b=A? o->((H2.update s.1.1.size (Yg (·.push Yp))).update s.1.1.size (Yg (·.pop))).get? b=A? o :=
  λb o hb e=>(XW _ _ (YT hb)).trans ((XW _ _ (YT hb)).trans e)
 exact WW ⟨plainId_quiet YE _,key _ _ _ (W.frame 0 _ _ CW λb hb o e=>Ct b o (λz=>HW (z ▸ hb)) e) Ct Cs⟩
end PySem
namespace L2
open PySem PySem.Spec PyProof.Rows
def SqB(b:Bool)(K:WQ)(H:Hp)(a:WS)(xs:List V):Prop:=if b=C? then SqL K H a xs else SqT K H a xs
theorem SqB.l(h:SqL K H a xs):SqB C? K H a xs:=h
theorem wX{ys:List V}{acc:Array WU}(rv:Vals ys its)(An:ItemsOf (λi v=>its.toArray[its.toArray.size - 1 - i]?=A? v) acc its.toArray.size):Vals ys.reverse acc.toList:=by
 have e:acc.toList=its.reverse:=by
  apply List.ext_getElem?;intro i;have hs:acc.size=its.length:=by rw[An.1,W0]
  by_cases hi:i<acc.size
  .have h1:acc[i]?=A? acc[i]:=Zg hi;have h2:=An.2 i _ h1;rw[W0]at h2;rw[Array.getElem?_toList,h1,List.getElem?_reverse (by lia),<-h2];simp
  .rw[Array.getElem?_toList,Array.getElem?_eq_none (by lia),ZG (by rw[Ys];lia)]
 rw[e];exact rv.reverse
section
variable{X:Cx}{p p2 Ax:Z4}
def vp(K:WQ)(te:TE):TE:=λY H Q=>te Y H λx H1=>∃b a ys,x=.ref a/\SqB b K H1 a ys/\∀l,H1 l=B?->Q (.ref l) (upd H1 l (.lst ys.reverse))
theorem oy{Q:VK}{b:Bool}{ys:List V}(hc:X.calm=C?)(I:Inv X Z Y H s)(hq:SqB b X.K H a ys)(q:∀l,H l=B?->Q (.ref l) (upd H l (.lst ys.reverse))) :
 W9 (Xv X.prog X.w) X.A (call (.type "reversed") [.ref a]) (λu s1=>W9 (Xv X.prog X.w) X.A (call (.type "list") [u]) (EP X Z Y Q) X.xe s1) X.xe s:=by
 have hn:=fA;have hh:X.A.in1.in1.handled=none:=I.ok.hd hc
 have fin:∀{its:List WU}{s1:WY}{h':Yd}{tk:Nat}{acc:Array WU}{c:Nat},Vals ys its->ys.length<=Xe->s1.1.1.size=s.1.1.size+1->s1.os=s.os->s1.gens=s.gens->s1.drawn=s.drawn->(∀b o,s.1.get? b=A? o->s1.1.get? b=A? o) ->
  (∀b o,b∉[s.1.1.size]->s1.1.get? b=A? o->h'.get? b=A? o)->h'.get? s1.1.1.size=A? {cls:=.type "list",dict:=B?,data:=.seq acc c,slots:=#[]}->ItemsOf (λi v=>its.toArray[its.toArray.size - 1 - i]?=A? v) acc its.toArray.size ->
  EP X Z Y Q (.ref s1.1.1.size) {s1 with heap:=h',toks:=tk}:=λ{its s1 h' tk acc c}rv hz es eo eg ed k1 kp hS An=>by
  have MO:({s1 with heap:=h',toks:=tk}:WY)={s with heap:=h',toks:=tk}:=by
   obtain⟨a1,a2,a3,a4,a5⟩:=s1;have e1:a5=s.os:=eo;have e2:a2=s.gens:=eg;have e3:a3=s.drawn:=ed;subst e1;subst e2;subst e3;rfl
  have hp:s.1.1.size<=s1.1.1.size:=by rw[es];exact Nat.le_succ _
  refine⟨.ref s1.1.1.size,upd H s1.1.1.size (.lst ys.reverse),?_,D?,q _ (I.hok.fresh hp)⟩;rw[MO];refine I.laid (t':=tk) (λb o e=>kp b o (λz=>?_) (k1 b o e)) hp ⟨by rw[Ys];exact hz,acc.toList,c,wX rv An,hS⟩;exact g! (Xa e) (by rw[Xc.mp z];exact Yr _)
 cases b
 .have E2:SqT X.K H a ys:=hq;obtain⟨its,rv,p,hz⟩:=I.tuple E2;have hl:=rv.length;refine bb_call_rev_tuple p (by rw[W0];lia) λtk=>?_;obtain⟨oa,E6,ca,da⟩:=id p;have Ap:a≠s.1.1.size:=XA (Xa E6)
  refine bb_list_walk (T:="reversed") (bb_walk_revT hh s.1.1.size a Ap its.toArray (by rw[W0];lia)) (λi s st=>st.2.1.typeIs) (by decide) (by decide) (bb_hint_rev (by rw[W0];lia))
   ⟨Xh _,?_,⟨oa,WV _ E6,ca,da⟩⟩ (λb hb=>?_) (by simp) (by rw[W0];lia) λh' tk acc c kp hS An=>fin rv hz (X4 ..) rfl rfl rfl (λb o e=>WV _ e) kp hS An
  .rw[show(its.toArray.size:Int) - 1 - ((0:Nat):Int)=(its.toArray.size:Int) - 1 by lia];exact⟨_,W3 _ rfl,D?,D?⟩
  .show b<(s.1.push _).objs.size;rw[X4];rcases W7.mp hb with e|e
   .rw[e];exact Nat.lt_succ_self _
   .rw[Xc.mp e];exact Nat.lt_succ_of_lt (Xa E6)
 .have E2:SqL X.K H a ys:=hq;obtain⟨its,rv,p,hz⟩:=I.list E2;have hl:=rv.length;refine call_reversed_list p.isList ?_;obtain⟨oa,E6,ca,na,da⟩:=id p.isList;have Ap:a≠s.1.1.size:=XA (Xa E6)
  refine bb_list_walk (T:="list_reverseiterator") (Walks.listRev hh s.1.1.size a Ap its.toArray) (λi s st=>st.2.1.typeIs) (by decide) (by decide) bb_hint_lri
   ⟨Xh _,?_,⟨oa,WV _ E6,ca,na,da⟩⟩ (λb hb=>?_) (by simp) (by rw[W0];lia) λh' tk acc c kp hS An=>fin rv hz (X4 ..) rfl rfl rfl (λb o e=>WV _ e) kp hS An
  .rw[show(its.toArray.size:Int) - 1 - ((0:Nat):Int)=(its.toArray.size:Int) - 1 by lia];exact⟨_,W3 _ rfl,D?,D?⟩
  .show b<(s.1.push _).objs.size;rw[X4];rcases W7.mp hb with e|e
   .rw[e];exact Nat.lt_succ_self _
   .rw[Xc.mp e];exact Nat.lt_succ_of_lt (Xa E6)
theorem mw(hc:X.calm=C?)(g1:Gl X "list")(m1:X.mg "list"=B?)(g2:Gl X "reversed")(m2:X.mg "reversed"=B?)(he:PE X e te)
 (h1:XH [.Call (.Name "reversed" p2) [e] [] Ax] X.env=[(CU,Y4 (.Call (.Name "reversed" p2) [e] [] Ax) X.env)]:=by rfl) (h2:XH [e] X.env=[(CU,Y4 e X.env)]:=by rfl) :
 PE X (.Call (.Name "list" p) [.Call (.Name "reversed" p2) [e] [] Ax] [] pos) (vp X.K te):=by
 intro Z s Y H Q I h;refine Yk (db I g1 m1 boot_list (X1 ?_ h1 rfl));rw[h1];show W9 _ _ (spliced ((CU,Y4 (.Call (.Name "reversed" p2) [e] [] Ax) X.env)::[])) _ _ s;refine YK ?_;refine Yk (db I g2 m2 boot_reversed (X1 ?_ h2 rfl));rw[h2];show W9 _ _ (spliced ((CU,Y4 e X.env)::[])) _ _ s;refine YK (thn (he Z s Y H _ I h) λu s1⟨x,H1,I1,r1,b,a,ys,ex,hq,q⟩=>?_);subst ex;cases r1;refine Zh ?_;refine thn (oy hc I1 hq q) λv s2 h2=>Zh ?_;exact h2
def Itv(K:WQ)(a:WS)(n:Nat):It:=⟨λi H=>i<n/\∃xs,SqL K H a xs/\xs.length=n,λi H x H'=>H'=H/\∀xs,SqL K H a xs->xs[n - 1 - i]?=A? x,λi _=>i=n⟩
theorem xJ(a it:WS)(n:Nat):Turn P w K tg (Itv K a n) [it] it (λi h=>h.IsRevIter it a ((n:Int) - 1 - (i:Nat))) where
 mem:=by simp
 obj:=λi h st b hb=>by
  have e:b=it:=by simpa using hb
  subst e;obtain⟨o,e,c,d⟩:=st;exact⟨o,e,λv z=>by rw[d]at z;cases z⟩
 keep:=λi h h' st k=>st.at λo e=>k it (by simp) o e
 item:=by
  intro X hP hw hK hc i Z s Y H E I hf st hg;subst hP hw hK;obtain⟨hi,xs,hq,hx⟩:=hg;obtain⟨its,rv,p,hz⟩:=I.list hq;have hl:=rv.length;obtain⟨x,AV⟩:∃x,xs[n - 1 - i]?=A? x:=⟨_,WR (by lia)⟩;obtain⟨u,hu,ru⟩:=rv.get AV;obtain⟨f0,f1,f2,f3,f4,f5⟩:=hf it (by simp);have e1:(n:Int) - 1 - (i:Nat)=((n - 1 - i:Nat):Int):=by lia
  rw[e1]at st;refine wpAny_pyNext_rev_item st p.isList (x:=u) (by simpa using hu) λh' DU sb=>?_;have I1:Inv X Z Y H {s with heap:=h'}:=I.turned (t':=s.toks) (λb o hb e=>(sb.2 b hb).trans e) f0 f1 f3 f4 f5;have e2:((n - 1 - i:Nat):Int) - 1=(n:Int) - 1 - ((i+1:Nat):Int):=by lia
  rw[e2]at DU;obtain⟨o,e,c,d⟩:=id DU;exact⟨u,D?,uz (s:={s with heap:=h'}) e c d (by decide) ⟨x,H,I1,ru,⟨D?,λys hy=>by rw[I.list_inj hy hq];exact AV⟩,DU,λb hb=>(hf b hb).1⟩⟩
 done:=by
  intro X hP hw hK hc i Z s Y H E I hf st hg;subst hP hw hK;have MT:i=n:=hg;subst MT;obtain⟨f0,f1,f2,f3,f4,f5⟩:=hf it (by simp);rw[show(i:Int) - 1 - (i:Nat)=-1 by lia]at st;exact wpAny_pyNext_rev_end (I.ok.hd hc) st λh' eb=>⟨rfl,I.turned (t':=s.toks) (λb o hb e=>eb b o hb e) f0 f1 f3 f4 f5⟩
 self:=λ_ _ _ _ _ st h=>wpAny_pyIter_revIter st h
def abi(K:WQ)(tl:TE):TI:=λY H R=>tl Y H λx H1=>∃a xs,x=.ref a/\SqL K H1 a xs/\R (Itv K a xs.length) H1
theorem zz(g2:Gl X "reversed")(m2:X.mg "reversed"=B?)(he:PE X e te)(h2:XH [e] X.env=[(CU,Y4 e X.env)]:=by rfl):PI X tg (.Call (.Name "reversed" p2) [e] [] Ax) (abi X.K te):=by
 intro Z s Y H R I h;refine Yk (db I g2 m2 boot_reversed (X1 ?_ h2 rfl));rw[h2];show W9 _ _ (spliced ((CU,Y4 e X.env)::[])) _ _ s;refine YK (thn (he Z s Y H _ I h) λu s1⟨x,H1,I1,r1,a,ys,ex,hq,q⟩=>Zh ?_);subst ex;cases r1;obtain⟨its,rv,p,hz⟩:=I1.list hq;have hl:=rv.length;refine call_reversed_list p.isList ?_
 have hit:(s1.1.push (revObj a ((its.toArray.size:Int) - 1))).IsRevIter s1.1.1.size a ((ys.length:Int) - 1 - ((0:Nat):Int)):=by
  rw[hl,show(its.length:Int) - 1 - ((0:Nat):Int)=(its.toArray.size:Int) - 1 by rw[W0];lia];exact⟨_,W3 _ rfl,D?,D?⟩
 refine wpAny_pyIter_revIter (s:={s1 with heap:=s1.1.push (revObj a ((its.toArray.size:Int) - 1))}) hit ?_;refine⟨s1.1.1.size,[s1.1.1.size],_,_,H1,D?,I1.kept (t':=s1.toks) λb o e=>WV _ e,xJ a _ ys.length,hit,λb hb=>?_,q⟩;have e:b=s1.1.1.size:=by simpa using hb
 subst e;exact I1.fpOk (WX _) (I1.hok.fresh (WX _))
theorem yI(Pv:Nat->St->Hp->Prop)(h0:Pv 0 Y H)(hl:∀i Y H,i<=xs.length->Pv i Y H->SqL K H a xs)
 (hs:∀i x Y H,i<xs.length->xs[xs.length - 1 - i]?=A? x->Pv i Y H->g x Y H λAv H2=>tb {D with nx:=Pv (i+1),ct:=Pv (i+1),bk:=D.nx} Av H2) (hd:∀Y H,Pv xs.length Y H->D.nx Y H) :
 ∃W:Nat->Nat->St->Hp->Prop,(∃m,W 0 m Y H)/\∀i m Y H,W i m Y H ->
   ((Itv K a xs.length).stop i H/\D.nx Y H)\/((Itv K a xs.length).go i H/\∃N:St->Hp->Prop,(∀Aa H',N Aa H'->∃m',m'<m/\W (i+1) m' Aa H')/\∀x H',(Itv K a xs.length).yld i H x H'->g x Y H' λAv H2=>tb {D with nx:=N,ct:=N,bk:=D.nx} Av H2):=by
 refine⟨λi m Y H=>i<=xs.length/\m=xs.length - i/\Pv i Y H,⟨xs.length,Xh _,D?,h0⟩,?_⟩;rintro i m Y H ⟨hi,rfl,p⟩;by_cases h:i=xs.length
 .left;exact⟨h,hd Y H (by rw[<-h];exact p)⟩
 .right;have AY:i<xs.length:=by lia
  refine⟨⟨AY,xs,hl i Y H hi p,D?⟩,Pv (i+1),λAa H' q=>⟨xs.length - (i+1),by lia,by lia,D?,q⟩,?_⟩;rintro x H' ⟨rfl,hx⟩;exact hs i x Y H' AY (hx xs (hl i Y H' hi p)) p
end
end L2
namespace BB
open PySem L2
inductive Th where
 |knot (n:Xk) (ks:List Th)
 |call (s k:Int)
def q:Xk:=Xq "?"
def Th.kids:Th->List Th
 |.knot _ ks=>ks
 |.call _ _=>[]
mutual
def Th.size:Th->Nat
 |.knot _ ks=>ak ks+1
 |.call _ _=>1
def ak:List Th->Nat
 | []=>0
 |t::ts=>t.size+ak ts
end
mutual
def Th.tall:Th->Nat
 |.knot _ ks=>aI ks+1
 |.call _ _=>1
def aI:List Th->Nat
 | []=>0
 |t::ts=>max t.tall (aI ts)
end
mutual
def Th.walk:Th->List Th
 |.knot n ks=>.knot n ks::walks ks
 |.call s k=>[.call s k]
def walks:List Th->List Th
 | []=>[]
 |t::ts=>t.walk++walks ts
end
theorem Th.walk_eq(t:Th):t.walk=t::walks t.kids:=by
 cases t with
 |knot n ks=>rw[Th.walk];rfl
 |call s k=>rw[Th.walk];simp[Th.kids,walks]
theorem Th.size_eq(t:Th):t.size=ak t.kids+1:=by
 cases t with
 |knot n ks=>rw[Th.size];rfl
 |call s k=>rw[Th.size];simp[Th.kids,ak]
theorem Th.tall_eq(t:Th):t.tall=aI t.kids+1:=by
 cases t with
 |knot n ks=>rw[Th.tall];rfl
 |call s k=>rw[Th.tall];simp[Th.kids,aI]
theorem iD:∀a b:List Th,walks (a++b)=walks a++walks b
 | [],b=>by simp[walks]
 |t::a,b=>by rw[Yn,walks,walks,iD a b,XG]
theorem bK:∀a b:List Th,ak (a++b)=ak a+ak b
 | [],b=>by simp[ak]
 |t::a,b=>by rw[Yn,ak,ak,bK a b,Z1]
mutual
theorem Th.walk_len:∀t:Th,t.walk.length=t.size
 |.knot n ks=>by rw[Th.walk,Th.size,W2,jq ks]
 |.call s k=>by rw[Th.walk,Th.size];rfl
theorem jq:∀ts:List Th,(walks ts).length=ak ts
 | []=>rfl
 |t::ts=>by rw[walks,ak,Xg,t.walk_len,jq ts]
end
theorem Th.size_pos(t:Th):1<=t.size:=by rw[t.size_eq];lia
mutual
def At(H:Hp):Th->WS->Prop
 |.knot n ks,a=>n≠q/\∃as:List WS,H a=A? (.tup (.str n::as.map i!))/\Ats H ks as
 |.call s k,a=>H a=A? (.tup [.str q,.int s,.int k])
def Ats(H:Hp):List Th->List WS->Prop
 | [],as=>as=[]
 |t::ts,as=>∃a r,as=a::r/\At H t a/\Ats H ts r
end
def KT(H H':Hp):Prop:=∀b xs,H b=A? (.tup xs)->H' b=A? (.tup xs)
theorem KT.trans(a:KT H H1)(b:KT H1 H2):KT H H2:=λc o h=>b c o (a c o h)
theorem Same.kt(h:k! H H'):KT H H':=λb xs e=>h b _ e
theorem dC{l:WS}(h:H l=B?):KT H (upd H l o):=λb xs e=>by rw[ag (aw e h)];exact e
theorem aG{l:WS}(h:H l=A? (.lst xs)):KT H (upd H l o):=λb ys e=>by rw[ag (eJ e h (by intro z;cases z))];exact e
mutual
theorem At.mono(k:KT H H'):∀{t:Th}{a:WS},At H t a->At H' t a
 | .knot n ks,a,h=>by
   rw[At]at h |-;obtain⟨h0,as,h1,h2⟩:=h;exact⟨h0,as,k _ _ h1,Ats.mono k h2⟩
 | .call s c,a,h=>by
   rw[At]at h |-;exact k _ _ h
theorem Ats.mono(k:KT H H'):∀{ts:List Th}{as:List WS},Ats H ts as->Ats H' ts as
 | [],as,h=>by rw[Ats]at h |-;exact h
 | t::ts,as,h=>by
   rw[Ats]at h |-;obtain⟨a,r,e,h1,h2⟩:=h;exact⟨a,r,e,At.mono k h1,Ats.mono k h2⟩
end
theorem Ats.nil:Ats H [] []:=by rw[Ats]
theorem Ats.cons{t:Th}{ts:List Th}(h1:At H t a)(h2:Ats H ts as):Ats H (t::ts) (a::as):=by rw[Ats];exact⟨a,as,D?,h1,h2⟩
theorem Ats.append:∀{ts us:List Th}{as bs:List WS},Ats H ts as->Ats H us bs->Ats H (ts++us) (as++bs)
 | [],us,as,bs,h,g=>by rw[Ats]at h;subst h;exact g
 | t::ts,us,as,bs,h,g=>by
   rw[Ats]at h;obtain⟨a,r,rfl,h1,h2⟩:=h;exact .cons h1 (h2.append g)
theorem Ats.length:∀{ts:List Th}{as:List WS},Ats H ts as->as.length=ts.length
 | [],as,h=>by rw[Ats]at h;subst h;rfl
 | t::ts,as,h=>by
   rw[Ats]at h;obtain⟨a,r,rfl,h1,h2⟩:=h;rw[W2,W2,h2.length]
theorem Ats.get:∀{ts:List Th}{as:List WS}{i:Nat}{a:WS},Ats H ts as->as[i]?=A? a->∃t,ts[i]?=A? t/\At H t a
 | [],as,i,a,h,e=>by rw[Ats]at h;subst h;simp at e
 | t::ts,as,i,a,h,e=>by
   rw[Ats]at h;obtain⟨b,r,rfl,h1,h2⟩:=h;cases i with
   |zero=>simp at e;subst e;exact⟨t,D?,h1⟩
   |succ i=>exact h2.get (i:=i) (by simpa using e)
end BB
open BB.Same renaming kt->j!
open BB.Th renaming knot->n!,size->p!,tall->u!,call->z!,walk_len->J!,kids->K!
variable{p f head:BB.Th}{R:Int->List BB.Th}{ts:List BB.Th}{rows:List (List BB.Th)}
namespace BB
open PySem L2
def kJ:Xk:=Xq "abcdefghijklmnopqrstuvwxyz"
theorem sE:kJ.cps.toList=(XF 26).map (97+·):=by decide +kernel
theorem qr:kJ.length=26:=by decide +kernel
theorem at_nonneg{xs:List α}{i:Int}{v:α}(h0:0<=i)(h:xs[i.toNat]?=A? v):atI xs i=A? v:=by
 have e:i=((i.toNat:Nat):Int):=by lia
 rw[e];exact cF h
theorem u9{i:Int}(h0:0<=i)(h1:i<26):atI kJ.cps.toList i=A? (97+i.toNat):=by
 refine at_nonneg h0 ?_;rw[sE,WZ,XY (by lia)];rfl
def Low(x:Xk):Prop:=∀c∈x.cps.toList,97<=c/\c<=122
theorem yN{y:Xk}(hx:Low x)(hy:Low y):Low (x++y):=by
 intro c hc;have AN:c∈(x.cps++y.cps).toList:=hc;rw[Array.toList_append,Xz]at AN;rcases AN with h|h
 .exact hx c h
 .exact hy c h
theorem xM{c:Nat}(h1:97<=c)(h2:c<=122):Low ⟨#[c]⟩:=by
 intro d hd;have:d=c:=by simpa using hd
 lia
theorem pk(h:Low x):x≠q:=by
 intro e;subst e;have:=h 63 (by decide +kernel);lia
end BB
namespace L2
open PySem PySem.Spec PyProof.Rows
theorem Same.seqT(e:Same H H')(h:SqT K H a xs):SqT K H' a xs:=by
 rcases h with(h|⟨o,h⟩)|h
 .exact .inl (.inl (e _ _ h))
 .exact .inl (.inr ⟨o,e _ _ h⟩)
 .exact .inr h
theorem ae{p:WS}(h:H p=B?)(o:HO):Same H (upd H p o):=λb u q=>by rw[ag (aw q h)];exact q
@[elab_as_elim] theorem gU{G:Hp->Prop}(h:H a=B?)(k:∀H',k! H H'->H' a=A? o->G H'):G (upd H a o):=k _ (ae h _) ac
theorem am{l:WS}(h:Same H H1)(n:H l=B?):Same H (upd H1 l o):=λb u e=>by rw[ag (aw e n)];exact h b u e
theorem yC{J:It}(zs:List α)(p:α->Bool)(f:α->V)(hz:zs.length=xs.length)(hn:xs.length<=1000000)
 (E7:∀i H2,Same H H2->i<xs.length->J.go i H2) (Bc:∀H2,Same H H2->J.stop xs.length H2) (B1:∀(i:Nat)H2 x H3,Same H H2->i<xs.length->J.yld i H2 x H3->H3=H2/\xs[i]?=A? x)
 (IX:∀(i:Nat)x z H2(R:Bool->Hp->Prop),xs[i]?=A? x->zs[i]?=A? z->Same H H2->R (p z) H2->tt ((cσ js Y).set 0 (A? x)) H2 R)
 (IY:∀(i:Nat)x z H2(R:VK),xs[i]?=A? x->zs[i]?=A? z->p z=C?->Same H H2->R (f z) H2->te ((cσ js Y).set 0 (A? x)) H2 R)
 (q:∀D,H D=B?->fin D (upd H D (.lst ((zs.filter p).map f)))) :
 ∀D,H D=B?->∃(n:Nat)(W:Nat->Hp->Prop),W 0 (upd H D (.lst []))/\gS js (av 0) tt te Y J D n W λH'=>fin D H':=by
 intro D hD;refine⟨xs.length,λi H2=>i<=xs.length/\H2=upd H D (.lst (((zs.take i).filter p).map f)),⟨Xh _,by simp⟩,?_⟩;rintro i H2 ⟨hi,rfl⟩;have sm:∀o,Same H (upd H D o):=λo=>ae hD o;by_cases h:i=xs.length
 .left;subst h;refine⟨Bc _ (sm _),?_⟩;rw[<-hz,YB];exact q D hD
 .right;have AY:i<xs.length:=by lia
  refine⟨AY,E7 i _ (sm _) AY,λx H1 hy=>?_⟩;obtain⟨rfl,hx⟩:=B1 i _ x H1 (sm _) AY hy;have MU:i<zs.length:=by lia
  have e1:zs[i]?=A? zs[i]:=WR MU
  have e2:(zs.take (i+1)).filter p=(zs.take i).filter p++(if p zs[i]=C? then[zs[i]]else[]):=by
   rw[Yh,e1,ZC];show _++List.filter p [zs[i]]=_;rw[X0,List.filter_nil]
  refine IX i x zs[i] _ _ hx e1 (sm _) ?_
  have hlen:(((zs.take i).filter p).map f).length<=1000000:=by
   rw[WO];have:=ZF p (zs.take i);rw[XS]at this;lia
  by_cases hp:p zs[i]=C?
  .rw[b! hp];refine IY i x zs[i] _ _ hx e1 hp (sm _) ⟨_,ac,Nat.lt_of_le_of_lt hlen (by decide),AY,?_⟩;rw[km,e2,b! hp,Xb];rfl
  .rw[a! hp];refine⟨AY,?_⟩;rw[e2,a! hp,XC]
theorem qK(zs:List α)(p:α->Bool)(f:α->V)(hS:SqT K H a xs)(hz:zs.length=xs.length)(hn:xs.length<=1000000)
 (IX:∀(i:Nat)x z H2(R:Bool->Hp->Prop),xs[i]?=A? x->zs[i]?=A? z->Same H H2->R (p z) H2->tt ((cσ js Y).set 0 (A? x)) H2 R)
 (IY:∀(i:Nat)x z H2(R:VK),xs[i]?=A? x->zs[i]?=A? z->p z=C?->Same H H2->R (f z) H2->te ((cσ js Y).set 0 (A? x)) H2 R)
 (q:∀D,H D=B?->fin D (upd H D (.lst ((zs.filter p).map f)))) :
 ∀D,H D=B?->∃(n:Nat)(W:Nat->Hp->Prop),W 0 (upd H D (.lst []))/\gS js (av 0) tt te Y (Itt K a) D n W λH'=>fin D H' :=
 yC zs p f hz hn (λi H2 s hi=>⟨xs,xs[i],s.seqT hS,WR hi⟩) (λH2 s=>⟨xs,s.seqT hS,WX _⟩) (λi H2 x H3 s hi hy=>⟨hy.1,hy.2 xs (s.seqT hS)⟩) IX IY q
end L2
namespace BB
open PySem L2
theorem at0{x:α}{xs:List α}:atI (x::xs) 0=A? x:=cF (j:=0) rfl
theorem at1{x y:α}{xs:List α}:atI (x::y::xs) 1=A? y:=cF (j:=1) rfl
theorem at2{x y z:α}{xs:List α}:atI (x::y::z::xs) 2=A? z:=cF (j:=2) rfl
theorem at3{x y z u:α}{xs:List α}:atI (x::y::z::u::xs) 3=A? u:=cF (j:=3) rfl
theorem iw(x:V)(xs:List V):jn (x::xs) (A? 1) B?=xs:=by
 unfold jn;simp[H!]
theorem cJ:∀ts:List Th,ts.length<=ak ts
 | []=>Xh _
 | t::ts=>by
   have:=t.size_pos;have:=cJ ts;rw[W2,ak];lia
theorem n5(ts:List Th):ak ts.reverse=ak ts:=by
 induction ts with
 |nil=>rfl
 |cons x xs ih=>rw[X7,bK,ih,ak,ak,ak];lia
theorem bO(h:n<=1000000):n<Xe:=Nat.lt_of_le_of_lt h (by decide)
theorem de(h:n<=1000000):n<=Xe:=ZT (bO h)
theorem lnE(h:Nat.ble n 1000000=C?):n<=Xe:=de (Nat.le_of_ble_eq_true h)
theorem uAE:(upd H a (.lst (as.map i!++[.ref b]))) a=A? (.lst ((as++[b]).map i!)):=by rw[ac,Xb];rfl
theorem lbE{f:α->β}{l:List α}(h:l.length<=1000000):(l.map f).length<Xe:=bO (by rw[WO];exact h)
theorem int_at{k:Int}(h0:0<=k)(h:k<(ns.length:Int)):atI (ns.map q!) k=A? (.int (ns.getD k.toNat 0)):=by
 refine at_nonneg h0 ?_;have hk:k.toNat<ns.length:=by lia
 rw[WZ,WR hk,List.getD_eq_getElem?_getD,WR hk];rfl
section
variable{G:α->β->Prop}
theorem P2.append:∀{a c:List α}{b d:List β},Xs F a b->Xs F c d->Xs F (a++c) (b++d)
 |_,_,_,_,.nil,h=>h
 |_,_,_,_,.cons r t,h=>.cons r (P2.append t h)
theorem P2.get:∀{a:List α}{b:List β}{i:Nat}{x:α},Xs F a b->a[i]?=A? x->∃y,b[i]?=A? y/\F x y
 |_,_,_,_,.nil,e=>by simp at e
 |_,_,0,_,.cons r _,e=>by simp at e;subst e;exact⟨_,D?,r⟩
 | _,_,i+1,x,.cons _ t,e=>by
   obtain⟨u,h1,h2⟩:=P2.get (i:=i) (x:=x) t (by simpa using e);exact⟨u,by simpa using h1,h2⟩
theorem P2.get':∀{a:List α}{b:List β}{i:Nat}{y:β},Xs F a b->b[i]?=A? y->∃x,a[i]?=A? x/\F x y
 |_,_,_,_,.nil,e=>by simp at e
 |_,_,0,_,.cons r _,e=>by simp at e;subst e;exact⟨_,D?,r⟩
 | _,_,i+1,y,.cons _ t,e=>by
   obtain⟨u,h1,h2⟩:=P2.get' (i:=i) (y:=y) t (by simpa using e);exact⟨u,by simpa using h1,h2⟩
theorem P2.mp(f:∀x y,F x y->G x y):∀{a:List α}{b:List β},Xs F a b->Xs G a b
 |_,_,.nil=>.nil
 |_,_,.cons r t=>.cons (f _ _ r) (P2.mp f t)
end
def KAt(H:Hp)(k:Xk×Int)(a:WS):Prop:=H a=A? (.tup [.str k.1,.int k.2])
def KsAt(H:Hp)(ks:List (Xk×Int))(as:List WS):Prop:=Xs (KAt H) ks as
theorem KsAt.mono(k:KT H H'){ks:List (Xk×Int)}(h:KsAt H ks as):KsAt H' ks as:=P2.mp (λx y e=>k _ _ e) h
end BB
open BB.P2 renaming append->t!,mp->y!,get'->B!,get->F!
namespace L2
open PySem
theorem ce{t u:TS}(R:St->Hp->Prop)(h1:∀k:St->Hp->Prop,(∀Aa H',R Aa H'->k Aa H')->t {D with nx:=k} Y H)(h2:∀Aa H',R Aa H'->u D Aa H'):aa8 t u D Y H:=h1 _ h2
theorem cj{c:TT}{t u:TS}(R:Bool->Hp->Prop)(h1:∀k:Bool->Hp->Prop,(∀b H',R b H'->k b H')->c Y H k)(h2:∀H',R C? H'->t D Y H')(h3:∀H',R CU H'->u D Y H'):aaN c t u D Y H :=
 h1 _ λb H' r=>by
  cases b with
  |true=>rw[b! rfl];exact h2 H' r
  |false=>rw[a! W5];exact h3 H' r
end L2
namespace BB
open PySem L2
section
variable{ext:Th->List V}{t:Th}{es:List WS}
end
theorem filter_tt(xs:List α):xs.filter (λ_=>C?)=xs:=by
 induction xs with
 |nil=>rfl
 |cons x xs ih=>rw[X0,b! rfl,ih]
theorem cA:∀{ts:List Th}{t:Th},t∈ts->t.tall<=aI ts
 | u::ts,t,h=>by
   rw[aI];rcases W7.mp h with rfl|h
   .lia
   .have:=cA h;lia
theorem take_snoc{xs:List α}{x:α}(h:xs[n]?=A? x):xs.take (n+1)=xs.take n++[x]:=by rw[Yh,h];rfl
theorem aO{xs:List WS}{x:V}(h:(xs.map i!)[i]?=A? x):∃a,x=.ref a/\xs[i]?=A? a:=by
 rw[WZ]at h;obtain⟨a,h1,h2⟩:=XD.mp h;exact⟨a,h2.symm,h1⟩
end BB
namespace PySem
open Sem (wp)
theorem bb_tupNext{cur:WS}{x:WU}(g:s.1.IsTupleIter cur tp i)(gt:s.1.IsTuple tp items)(hx:items[i]?=A? x)
 (fin:∀h',h'.IsTupleIter cur tp (i+1)->YD cur s.1 h'->Q x {s with heap:=h'}):W9 (Xv prog w) A (X2 (.ref cur)) Q E s:=by
 obtain⟨ob,e1,e2,e3⟩:=id g;obtain⟨ot,e4,_,nt,e5⟩:=gt;unfold X2;refine WN (X3 (name:=Xq "__next__") g.typeIs F.slot_tuple_iterator_next (X5 F.slot_tuple_iterator_next g.typeIs F.entry_tuple_iterator_next ?_ (F.args_tuple_iterator_next_1 _)));show W9 _ _ (field (.ref cur) 0 >>= _) _ _ s;refine WN (XX e1 e3 (x:=.ref tp) rfl ?_);show W9 _ _ (if(Xm tp == Yp)=C? then _ else _) _ _ s;rw[a! (show¬((Xm tp == Yp)=C?)from W5)];show W9 _ _ (field (.ref cur) 1 >>= _) _ _ s;refine WN (XX e1 e3 (x:=.int i 0) rfl ?_);show W9 _ _ (seqItems? (.ref tp) >>= _) _ _ s;refine WN (Yy e4 e5 ?_);simp only[Xu,hx];refine WN (wpAny_setField e1 e3 (by simp) (WW ⟨x,rfl,WW (fin _ ?_ (Zi ..))⟩));exact⟨_,XO _ e1 (Obj.isFreed_of_fields (Zm e3 _)),(Obj.cls_mapFields ..).trans e2,by rw[Zm e3];simp[Za]⟩
theorem bb_tupEnd{cur:WS}(calm:A.handled=B?)(g:s.1.IsTupleIter cur tp i)(gt:s.1.IsTuple tp items)(hx:items[i]?=B?)
 (fin:∀h' e,Heap.ExtBut cur s.1 h'->(∃o,h'.get? e=A? o/\o.cls=.type "StopIteration")->E (.ref e) {s with heap:=h'}):W9 (Xv prog w) A (X2 (.ref cur)) Q E s:=by
 obtain⟨ob,e1,e2,e3⟩:=id g;obtain⟨ot,e4,_,nt,e5⟩:=gt;unfold X2;refine WN (X3 (name:=Xq "__next__") g.typeIs F.slot_tuple_iterator_next (X5 F.slot_tuple_iterator_next g.typeIs F.entry_tuple_iterator_next ?_ (F.args_tuple_iterator_next_1 _)));show W9 _ _ (field (.ref cur) 0 >>= _) _ _ s;refine WN (XX e1 e3 (x:=.ref tp) rfl ?_);show W9 _ _ (if(Xm tp == Yp)=C? then _ else _) _ _ s;rw[a! (show¬((Xm tp == Yp)=C?)from W5)];show W9 _ _ (field (.ref cur) 1 >>= _) _ _ s;refine WN (XX e1 e3 (x:=.int i 0) rfl ?_);show W9 _ _ (seqItems? (.ref tp) >>= _) _ _ s;refine WN (Yy e4 e5 ?_);simp only[Xu,hx];refine WN (Zw (WN (wpAny_setField e1 e3 (by simp) ?_)));show W9 _ _ (newExc (.type "StopIteration") [] >>= _) _ _ _;refine WN ?_;simp only[newExc,newTuple];refine WN (Ye ?_ (by size_fits));refine WN (m:=firstArgMember _ _) (wpAny_of_eq (a:=Yp) (by first|rfl|(simp only[firstArgMember];rfl)) ?_);refine Ye ?_ (by size_fits);simp only[raiseNew];refine WN (wpAny_handled ?_)
 first|rw[show A.in1.handled=B? from calm]|rw[calm]
 refine WN (WW (wpAny_throw ?_));exact fin _ _ (((Zi ..).extBut.push _).push _) ⟨_,W3 _ rfl,rfl⟩
theorem bb_drawsT(calm:A.handled=B?)(cur tp:WS)(ne:tp≠cur)(items:Array WU) :
 Draws prog w A cur [cur,tp] items.size (λi v=>items[i]?=A? v) (λi h=>h.IsTupleIter cur tp i/\h.IsTuple tp items) where
 live:=λ_ _ st=>let⟨o,e,_⟩:=st.1;⟨o,e⟩
 frame:=λ_ _ _ st k=>⟨let⟨o,e,r⟩:=st.1;⟨o,k cur (by simp) o e,r⟩,let⟨o,e,r⟩:=st.2;⟨o,k tp (by simp) o e,r⟩⟩
 item:=λi s Q E hi st q=>by
  refine bb_tupNext st.1 st.2 (x:=items[i]) (by simp[hi]) λh' g' sb=>?_;exact q _ h' s.toks (by simp[hi]) ⟨g',st.2.extBut sb.extBut ne⟩ sb
 done:=λs Q E st e=>bb_tupEnd calm st.1 st.2 (by simp) e
theorem bb_meetsEnumT(tp:WS)(items:Array WU)(n:Nat)(MV:Option WS)(sl:Array (Option WU)) :
 Meets (Zp.«enumerate.__new__» ⟨[.type "enumerate",.ref tp],[]⟩) (λ_ R s=>s.1.get? tp=A? {cls:=.type "tuple",dict:=MV,data:=.seq items n,slots:=sl} /\
  R (.ok (.ret (.ref (s.1.push {cls:=.type "tuple_iterator",data:=.fields #[.ref tp,.int 0 0]}).objs.size)))
    {s with heap:=(s.1.push {cls:=.type "tuple_iterator",data:=.fields #[.ref tp,.int 0 0]}).push {cls:=.type "enumerate",data:=.fields #[.none,.bool CU,.ref s.1.1.size,Za 0,.none,.none]}}) :=
 .of_wp λprog w A R s h=>by
  obtain⟨hp,g,d,tk,os⟩:=s;obtain⟨gt,fin⟩:=h;have su:=sub_enumerate;have gT:Heap.IsTuple (Shared.heap ⟨hp,g,d,tk,os⟩) tp items:=⟨_,gt,rfl,n,rfl⟩
  wp_walk using Zq gt
  refine wpAny_stack_any λst=>WW ?_;split
  .rename_i c _ _ _ _ _
   cases(c == Zl "enumerate")
   .wp_walk using Zq gt,ZR gT
    exact⟨_,D?,fin⟩
   .wp_walk using Zq gt,ZR gT
    exact⟨_,D?,fin⟩
  .wp_walk using Zq gt,ZR gT
   exact⟨_,D?,fin⟩
theorem bb_callEnumT(gT:s.1.IsTuple tp items)
 (fin:∀h',IsEnum h' (s.1.1.size+1) s.1.1.size 0 .none->h'.IsTupleIter s.1.1.size tp 0->h'.objs.size=s.1.1.size+2 ->
  (∀b o,s.1.get? b=A? o->h'.get? b=A? o)->Q (.ref (s.1.1.size+1)) {s with heap:=h'}):W9 (Xv prog w) A (call (.type "enumerate") [.ref tp]) Q E s:=by
 obtain⟨⟨c,MV,dt,sl⟩,e1,e2,n,e3⟩:=gT;replace e2:c=.type "tuple":=e2;replace e3:dt=.seq items n:=e3;subst e2 e3;refine callType_new F.called_enumerate (by decide) (F.typeCall_enumerate_1 _) (F.newCall_enumerate_1 _) (λobj=>F.args_object_init_2 obj _) F.entry_enumerate_new (bb_meetsEnumT tp items n MV sl) ⟨e1,?_⟩;have z:(s.1.push {cls:=.type "tuple_iterator",data:=.fields #[.ref tp,.int 0 0]}).objs.size=s.1.1.size+1:=X4 ..;show _/\_;rw[z]
 have ge:IsEnum ((s.1.push {cls:=.type "tuple_iterator",data:=.fields #[.ref tp,.int 0 0]}).push {cls:=.type "enumerate",data:=.fields #[.none,.bool CU,.ref s.1.1.size,Za 0,.none,.none]}) (s.1.1.size+1) s.1.1.size 0 .none:=by
  have t:=W3 (s.1.push {cls:=.type "tuple_iterator",data:=.fields #[.ref tp,.int 0 0]}) (o:={cls:=.type "enumerate",data:=.fields #[.none,.bool CU,.ref s.1.1.size,Za 0,.none,.none]}) rfl;rw[z]at t;exact t
 exact⟨⟨_,ge,D?⟩,fin _ ge ⟨_,WV _ (W3 _ rfl),D?,D?⟩ (by rw[X4,z]) λb o x=>WV _ (WV _ x)⟩
end PySem
namespace L2
open PySem PySem.Spec PyProof.Rows
theorem Inv.turnedL{X:Cx}(I:Inv X Z Y H s)(k:∀b o,b∉fp->s.1.get? b=A? o->h'.get? b=A? o)(hf:∀b∈fp,jg X Z H b) :
 Inv X Z Y H {s with heap:=h',toks:=t'}:=by
 have IE:∀b u,H b=A? u->b∉fp:=λb u e z=>by rw[(hf b z).1]at e;cases e
 refine I.step (g':=s.gens) (d':=s.drawn) (ch:=fp) (λb hb=>?_) (λb o _ _ hc e _=>k b o hc e) (λb o _ _ hc e _=>⟨o.slots,k b o hc e⟩) (λ_ _ _ _ n=>n)
  (λb o hc e=>⟨o,k b o hc e⟩) (λ_ _ e=>e) (λ_ _ _ e=>e) (λb ps e=>⟨#[],by rw[e];simp⟩) (λm hm=>?_) (λb u e=>?_) I.bare
 .obtain⟨f0,f1,f2,f3,f4,f5⟩:=hf b hb;exact⟨f3,f1,f4,f5⟩
 .obtain⟨o,es,ep,ho,r⟩:=hm;exact⟨o,es,ep,k _ o (λz=>(hf _ z).2.1 rfl) ho,r⟩
 .refine(I.hok b u e).stay (λc v hc q=>k c v ?_ q) (λ_ q=>q) λ_ _ q=>q;rcases hc with z|z
  .rw[z];exact IE b u e
  .exact IE c _ z
def Ite(K:WQ)(a:WS):It:=⟨λi H=>∃xs x,SqT K H a xs/\xs[i]?=A? x,λi H x H'=>∃p y,H p=B?/\x=.ref p/\H'=upd H p (.tup [.int (i:Nat),y])/\∀xs,SqT K H a xs->xs[i]?=A? y,λi H=>∃xs,SqT K H a xs/\xs.length=i⟩
theorem u8{k1}(a e it:WS):Turn P w K (.Tuple elts k1 pos) (Ite K a) [e,it] e (λi h=>(∃old,IsEnum h e it ((i:Nat):Int) old)/\h.IsTupleIter it a i) where
 mem:=by simp
 obj:=λi h st b hb=>by
  obtain⟨⟨old,he⟩,o,e1,e2,e3⟩:=st;rcases W7.mp hb with rfl|hb
  .exact⟨_,he,λv z=>by cases z⟩
  .have:b=it:=by simpa using hb
   subst this;exact⟨o,e1,λv z=>by rw[e3]at z;cases z⟩
 keep:=λi h h' st k=>by
  obtain⟨⟨old,he⟩,o,e1,e2⟩:=st;exact⟨⟨old,k e (by simp) _ he⟩,o,k it (by simp) _ e1,e2⟩
 item:=by
  intro X hP hw hK hc i Z s Y H E I hf st hg;subst hP hw hK;obtain⟨xs,x,hq,hx⟩:=hg;obtain⟨its,rv,p,hz⟩:=I.tuple hq;obtain⟨u,hu,ru⟩:=rv.get hx;obtain⟨⟨old,he⟩,hi⟩:=st
  have GG:e≠it:=by
   rintro rfl;obtain⟨o,e1,e2,_⟩:=hi;rw[he]at e1;cases e1;exact g! (YU e2) (by decide)
  have GH:a≠it:=by
   rintro rfl;obtain⟨o,e1,e2,_⟩:=hi;obtain⟨o',C5,B9,_⟩:=p;rw[C5]at e1;cases e1;rw[B9]at e2;exact g! (YU e2) (by decide)
  have MW:a≠e:=by
   rintro rfl;obtain⟨o',C5,B9,_⟩:=p;rw[he]at C5;cases C5;exact g! (YU B9) (by decide)
  have Ah:i<its.toArray.size:=by
   have:=(glE hu);simpa using this
  have MX:e<s.1.1.size:=Xa he;have C6:it<s.1.1.size:=by obtain⟨o,e1,_⟩:=hi;exact Xa e1
  refine wpAny_pyNext_enum_itemD (bb_drawsT (A:=X.A.in1) (show X.A.in1.handled=B? from I.ok.hd hc) it a GH its.toArray) he ⟨hi,p⟩ Ah GG (by simp[GG,MW.symm]) λy h1 tk hy ho MY hT hsz hk=>?_
  have MZ:y=u:=by
   have:its[i]?=A? y:=by simpa using hy
   rw[hu]at this;exact(Xp this).symm
  subst MZ;refine⟨_,D?,wpAny_letOwnedTupleGo_enum ho λh2 M0 DC=>?_⟩;replace DC:YD e h1 h2:=DC
  have Ap:∀b∈[e,it],b<s.1.1.size:=λb hb=>by
   rcases W7.mp hb with rfl|hb
   .exact MX
   .have:b=it:=by simpa using hb
    subst this;exact C6
  have IZ:H s.1.1.size=none:=I.hok.fresh (WX _)
  have IA:Inv X Z Y (upd H s.1.1.size (.tup [.int (i:Nat),x])) {s with heap:=s.1.push {cls:=.type "tuple",data:=.seq #[.int (i:Nat) tk,y]},toks:=tk} :=
   I.laid (o:=.tup [.int (i:Nat),x]) (λb ob q=>WV _ q) (WX _) ⟨by show 2<=Xe;decide,[.int (i:Nat) tk,y],0,.cons ⟨tk,rfl⟩ (.cons ru .nil),W3 _ rfl⟩
  refine⟨.ref s.1.1.size,upd H s.1.1.size (.tup [.int (i:Nat),x]),?_,D?,⟨_,x,IZ,D?,D?,λys IV=>by rw[I.tuple_inj IV hq];exact hx⟩,⟨⟨y,by simpa using M0⟩,?_⟩,λb hb=>?_⟩
  .have IB:Inv X Z Y (upd H s.1.1.size (.tup [.int (i:Nat),x])) {s with heap:=h2,toks:=tk+1}:=by
    refine Inv.turnedL (s:={s with heap:=s.1.push {cls:=.type "tuple",data:=.seq #[.int (i:Nat) tk,y]},toks:=tk}) (h':=h2) (fp:=[e,it]) (t':=tk+1) IA (λb o hb q=>?_) λb hb=>?_
    .have Dz:b≠e:=λz=>hb (by simp[z]);have M1:b≠it:=λz=>hb (by simp[z]);rw[DC.2 b Dz];by_cases hb2:b=s.1.1.size
     .subst hb2;rw[hT];have q':(s.1.push {cls:=.type "tuple",data:=.seq #[.int (i:Nat) tk,y]}).get? s.1.1.size=A? o:=q;rw[W3 _ rfl]at q';exact q'
     .have Bg:b<(s.1.push {cls:=.type "tuple",data:=.seq #[.int (i:Nat) tk,y]}).objs.size:=Xa q;rw[X4]at Bg;refine hk b o Dz M1 ?_;have q':(s.1.push {cls:=.type "tuple",data:=.seq #[.int (i:Nat) tk,y]}).get? b=A? o:=q;rw[Heap.get?_push_ne _ _ _ hb2]at q';exact q'
    .obtain⟨f0,f1⟩:=hf b hb;exact⟨by rw[ag (XA (Ap b hb))];exact f0,f1⟩
   exact IB
  .obtain⟨o,e1,r⟩:=MY.1;exact⟨o,(DC.2 it (YT GG)).trans e1,r⟩
  .rw[ag (XA (Ap b hb))];exact(hf b hb).1
 done:=by
  intro X hP hw hK hc i Z s Y H E I hf st hg;subst hP hw hK;obtain⟨xs,hq,hx⟩:=hg;obtain⟨its,rv,p,hz⟩:=I.tuple hq;obtain⟨⟨old,he⟩,hi⟩:=st
  have GH:a≠it:=by
   rintro rfl;obtain⟨o,e1,e2,_⟩:=hi;obtain⟨o',C5,B9,_⟩:=p;rw[C5]at e1;cases e1;rw[B9]at e2;exact g! (YU e2) (by decide)
  have hn:its.toArray.size=i:=by
   have:=rv.length;rw[W0];lia
  refine wpAny_pyNext_enum_endD (bb_drawsT (A:=X.A.in1) (show X.A.in1.handled=B? from I.ok.hd hc) it a GH its.toArray) he (by rw[hn];exact⟨hi,p⟩) λh' eb=>⟨rfl,?_⟩;exact I.turnedL (fp:=[e,it]) (t':=s.toks) (λb o hb q=>eb b o (λz=>hb (by simp[z])) q) hf
 self:=λ_ _ _ _ _ st h=>by
  obtain⟨⟨old,he⟩,_⟩:=st;exact wpAny_pyIter_enum he h
section
variable{X:Cx}{p2 Ax:Z4}
def aaJ(K:WQ)(tl:TE):TI:=λY H R=>tl Y H λx H1=>∃a,x=.ref a/\(∃xs,SqT K H1 a xs)/\R (Ite K a) H1
theorem ou{k1}(g2:Gl X "enumerate")(m2:X.mg "enumerate"=B?)(he:PE X e te)(h2:XH [e] X.env=[(CU,Y4 e X.env)]:=by rfl):PI X (.Tuple elts k1 pos) (.Call (.Name "enumerate" p2) [e] [] Ax) (aaJ X.K te):=by
 intro Z s Y H R I h;refine Yk (db I g2 m2 boot_enumerate (X1 ?_ h2 rfl));rw[h2];show W9 _ _ (spliced ((CU,Y4 e X.env)::[])) _ _ s;refine YK (thn (he Z s Y H _ I h) λu s1⟨x,H1,I1,r1,a,ex,⟨xs,hq⟩,q⟩=>Zh ?_);subst ex;cases r1;obtain⟨its,rv,p,hz⟩:=I1.tuple hq;refine bb_callEnumT (show s1.1.IsTuple a its.toArray from p) λh' g1 g2 g3 g4=>?_;refine wpAny_pyIter_enum (s:={s1 with heap:=h'}) g1 ?_;refine⟨s1.1.1.size+1,[s1.1.1.size+1,s1.1.1.size],_,_,H1,D?,I1.kept (t':=s1.toks) g4,u8 a _ _,⟨⟨_,g1⟩,g2⟩,λb hb=>?_,q⟩
 have AA:s1.1.1.size<=b:=by
  rcases W7.mp hb with rfl|hb
  .lia
  .have:b=s1.1.1.size:=by simpa using hb
   exact Nat.le_of_eq this.symm
 exact I1.fpOk AA (I1.hok.fresh AA)
inductive wg(K:WQ)(x:V)(y:V)(H:Hp)(Q:VK):Prop
 |mk (a:_) (b:_) (xs:_) (ys:_) (CK:x=.ref a) (CL:y=.ref b) (D5:SqT K H a xs) (E1:SqT K H b ys) (HV:xs.length+ys.length<=Xe) (SH:(xs=[]->Q (.ref b) H)) (Wb:(xs≠[]->ys=[]->Q (.ref a) H)) (Wc:(xs≠[]->ys≠[]->∀p,H p=B?->Q (.ref p) (upd H p (.tup (xs++ys))))):wg K x y H Q
def qU(K:WQ):R2:=wg K
theorem fD:OpR X (binaryOp .Add) (qU X.K):=by
 intro Z s Y H x y v u Q I rx ry h;obtain⟨a,b,xs,ys,e1,e2,ha,hb,hz,q0,q1,q2⟩:=h;by_cases hx:xs=[]
 .subst e1 e2;cases rx;cases ry;obtain⟨its,r1,p1,_⟩:=I.tuple ha;obtain⟨Ag,r2,p2,_⟩:=I.tuple hb;have hi:its=[]:=r1.nil_iff.mpr hx;obtain⟨⟨cls,dd,data,sl⟩,ho,hc,n,hd⟩:=p1;obtain⟨⟨IL,HS,data2,HU⟩,E3,BQ,n2,hd2⟩:=p2;simp only at hc hd BQ hd2;subst hc hd BQ hd2;exact concat_meets ⟨_,ho,rfl⟩ ⟨_,E3,rfl⟩ noFill_tuple_add seq_tuple_add PySem.F.slot_tuple_add PySem.F.entry_tuple_add (PySem.F.args_tuple_add_2 _ _) (tuple_addW0 a b its.toArray Ag.toArray n n2 dd HS sl HU (by simp[hi])) ⟨ho,E3,⟨.ref b,H,I,rfl,q0 hx⟩⟩
 .exact yQ Z s Y H x y v u Q I rx ry ⟨a,b,xs,ys,e1,e2,ha,hb,hx,hz,q1 hx,q2 hx⟩
end
end L2
namespace PySem
open Sem (wp)
abbrev tzH1(h:Yd)(l1:WS):Yd:=h.push {cls:=.type "tuple_iterator",data:=.fields #[.ref l1,.int 0 0]}
abbrev tzH2(h:Yd)(l1 l2:WS):Yd:=(tzH1 h l1).push {cls:=.type "tuple_iterator",data:=.fields #[.ref l2,.int 0 0]}
abbrev tzH3(h:Yd)(l1 l2:WS):Yd:=(tzH2 h l1 l2).push {cls:=.type "tuple",data:=.seq #[.ref h.objs.size,.ref (tzH1 h l1).objs.size]}
abbrev tzH4(h:Yd)(l1 l2:WS):Yd:=(tzH3 h l1 l2).push {cls:=.type "tuple",data:=.seq #[.none,.none]}
abbrev tzH5(h:Yd)(l1 l2:WS):Yd:=(tzH4 h l1 l2).push {cls:=.type "zip",data:=.fields #[.none,.bool CU,.bool CU,.ref (tzH2 h l1 l2).objs.size,.ref (tzH3 h l1 l2).objs.size]}
theorem IsTuple.push'{l:WS}{xs:Array WU}(x:h.IsTuple l xs)(o:Zc):(h.push o).IsTuple l xs:=let⟨ob,e,r⟩:=x;⟨ob,WV _ e,r⟩
theorem bb_meets_zip(l1 l2:WS)(xs ys:Array WU) :
 Meets (Zp.«zip.__new__» ⟨[.type "zip",.ref l1,.ref l2],[]⟩) (λ_ R s=>s.1.IsTuple l1 xs/\s.1.IsTuple l2 ys /\
  R (.ok (.ret (.ref (tzH4 s.1 l1 l2).objs.size))) {s with heap:=tzH5 s.1 l1 l2}) :=
 .of_wp λprog w A R s h=>by
  obtain⟨hp,g,d,tk,os⟩:=s;obtain⟨BK,Bf,h⟩:=h;have Cu:=sub_zip;have S6:Heap.IsTuple (Shared.heap ⟨hp,g,d,tk,os⟩) l1 xs:=BK;have S7:Heap.IsTuple (Shared.heap ⟨hp.push {cls:=.type "tuple_iterator",data:=.fields #[.ref l1,.int 0 0]},g,d,tk,os⟩) l2 ys:=IsTuple.push' Bf _
  wp_walk using ZR S6,ZR S7
  exact⟨_,D?,h⟩
theorem bb_call_zip{xs:Array WU}(BK:s.1.IsTuple l1 xs)(Bf:s.1.IsTuple l2 ys)
 (h:∀h',IsZip h' (s.1.1.size+4) (s.1.1.size+2) (s.1.1.size+3) .none->Zj h' (s.1.1.size+2) (.ref s.1.1.size) (.ref (s.1.1.size+1)) ->
  Zj h' (s.1.1.size+3) .none .none->h'.IsTupleIter s.1.1.size l1 0->h'.IsTupleIter (s.1.1.size+1) l2 0->h'.objs.size=s.1.1.size+5 ->
  (∀c o,s.1.get? c=A? o->h'.get? c=A? o)->Q (.ref (s.1.1.size+4)) {s with heap:=h'}) :
 W9 (Xv prog w) A (call (.type "zip") [.ref l1,.ref l2]) Q E s:=by
 refine callType_new F.called_zip (by decide) (F.typeCall_zip_2 _ _) (F.newCall_zip_2 _ _) (λobj=>F.args_object_init_3 obj _ _) F.entry_zip_new
  (bb_meets_zip l1 l2 xs ys) ⟨BK,Bf,?_⟩
 have z1:(tzH1 s.1 l1).objs.size=s.1.1.size+1:=X4 ..;have z2:(tzH2 s.1 l1 l2).objs.size=s.1.1.size+2:=by rw[X4,z1]
 have z3:(tzH3 s.1 l1 l2).objs.size=s.1.1.size+3:=by rw[X4,z2]
 have z4:(tzH4 s.1 l1 l2).objs.size=s.1.1.size+4:=by rw[X4,z3]
 have z5:(tzH5 s.1 l1 l2).objs.size=s.1.1.size+5:=by rw[X4,z4]
 have g5:(tzH5 s.1 l1 l2).get? (tzH4 s.1 l1 l2).objs.size=A? _:=W3 _ rfl;have g4:(tzH5 s.1 l1 l2).get? (tzH3 s.1 l1 l2).objs.size=A? _:=WV _ (W3 _ rfl);have g3:(tzH5 s.1 l1 l2).get? (tzH2 s.1 l1 l2).objs.size=A? _:=WV _ (WV _ (W3 _ rfl));have g2:(tzH5 s.1 l1 l2).get? (tzH1 s.1 l1).objs.size=A? _:=WV _ (WV _ (WV _ (W3 _ rfl)));have g1:(tzH5 s.1 l1 l2).get? s.1.1.size=A? _:=WV _ (WV _ (WV _ (WV _ (W3 _ rfl))));show _/\_;rw[z2,z3,z4]at g5;rw[z1,z2]at g3;rw[z3]at g4;rw[z1]at g2;rw[z4]
 exact⟨⟨_,g5,D?⟩,h _ g5 g3 g4 ⟨_,g1,D?,D?⟩ ⟨_,g2,D?,D?⟩ z5 λc o x =>
  WV _ (WV _ (WV _ (WV _ (WV _ x))))⟩
structure ZSt(xs ys:Array WU)(z TI TO i1 i2 l1 l2:WS)(k:Nat)(h:Yd):Prop where
 ap:ZipApart z TI TO i1 i2 l1 l2
 zip:IsZip h z TI TO .none\/∃(T:WS)(b:Bool)(x y:WU),h.get? z=A? {cls:=.type "zip",data:=.fields #[Za T,.bool b,.bool CU,.ref TI,.ref TO]}/\Zj h T x y/\T≠TO
 hTI:Zj h TI (.ref i1) (.ref i2)
 hTO:∃a b,Zj h TO a b
 h1:h.IsTupleIter i1 l1 k
 h2:h.IsTupleIter i2 l2 k
 t1:h.IsTuple l1 xs
 t2:h.IsTuple l2 ys
theorem ZSt.typeIs{xs:Array WU}{TI TO:WS}{k:Nat}(x:ZSt xs ys z TI TO i1 i2 l1 l2 k s.1):s.TypeIs (.ref z) "zip":=by
 rcases x.zip with e|⟨T,b,u,v,e,_⟩
 .exact⟨_,e,D?⟩
 .exact⟨_,e,D?⟩
theorem IsTuple.but{l:WS}{xs:Array WU}(x:h.IsTuple l xs)(e:Heap.ExtBut c h h')(n:l≠c):h'.IsTuple l xs:=let⟨ob,q,r⟩:=x;⟨ob,e _ _ n q,r⟩
theorem IsTupleIter.but{i l:WS}{k:Nat}(x:h.IsTupleIter i l k)(e:Heap.ExtBut c h h')(n:i≠c):h'.IsTupleIter i l k:=let⟨ob,q,r⟩:=x;⟨ob,e _ _ n q,r⟩
theorem ZSt.frame{xs:Array WU}{TI TO:WS}{k:Nat}(x:ZSt xs ys z TI TO i1 i2 l1 l2 k h)
 (e:∀b o,o.cls≠.type "list"->h.get? b=A? o->h'.get? b=A? o):ZSt xs ys z TI TO i1 i2 l1 l2 k h':=by
 obtain⟨D,hz,hTI,⟨a,b,hTO⟩,⟨o1,a1,a2,a3⟩,⟨o2,b1,b2,b3⟩,⟨o3,c1,c2,c3⟩,⟨o4,d1,d2,d3⟩⟩:=x;refine⟨D,?_,e _ _ (by simp) hTI,⟨a,b,e _ _ (by simp) hTO⟩,⟨o1,e _ _ (by rw[a2];simp) a1,a2,a3⟩,⟨o2,e _ _ (by rw[b2];simp) b1,b2,b3⟩,⟨o3,e _ _ (by rw[c2];simp) c1,c2,c3⟩,⟨o4,e _ _ (by rw[d2];simp) d1,d2,d3⟩⟩;rcases hz with g|⟨T,b,u,v,g,g2,g3⟩
 .exact .inl (e _ _ (by simp) g)
 .exact .inr ⟨T,b,u,v,e _ _ (by simp) g,e _ _ (by simp) g2,g3⟩
open Sem (wp)
theorem bb_zip_itemA{TI TO:WS}{k:Nat}{xs:Array WU}{x y a b:WU}(D:ZipApart z TI TO i1 i2 l1 l2)
 (hz:IsZip s.1 z TI TO .none) (hTI:Zj s.1 TI (.ref i1) (.ref i2)) (hTO:Zj s.1 TO a b)
 (h1:s.1.IsTupleIter i1 l1 k) (h2:s.1.IsTupleIter i2 l2 k) (BK:s.1.IsTuple l1 xs) (Bf:s.1.IsTuple l2 ys) (hx:xs[k]?=A? x) (hy:ys[k]?=A? y)
 (hQ:∀h',IsZip h' z TI TO (Za s.1.1.size)->Zj h' TO x y->h'.IsTupleIter i1 l1 (k+1)->h'.IsTupleIter i2 l2 (k+1)->Zj h' s.1.1.size x y->h'.objs.size=s.1.1.size+1 ->
  (∀c o,c≠z->c≠TO->c≠i1->c≠i2->s.1.get? c=A? o->h'.get? c=A? o)->Q (.ref s.1.1.size) {s with heap:=h'}) :
 W9 (Xv prog w) A (Zp.«zip.__next__» ⟨[.ref z],[]⟩) (λfin s'=>∃v,fin=.done (.ret v)/\Q v s') E s:=by
 show W9 _ _ (field (.ref z) 2 >>= _) _ _ _;refine WN (XX hz rfl (x:=.bool CU) rfl ?_);show W9 _ _ (field (.ref z) 3 >>= _) _ _ _;refine WN (XX hz rfl (x:=.ref TI) rfl ?_);refine WN (Yy hTI rfl ?_);show W9 _ _ (X8 (.ref z) >>= _) _ _ _;refine WN ?_;unfold X8;refine WN (XX hz rfl (x:=.none) rfl (WW ?_));simp only[if_true];refine WN (Zw ?_);refine WN (XX hz rfl (x:=.ref TO) rfl ?_);refine WN (ZQ hz (by simp) λAm AF Ad=>?_);replace AF:IsZip Am z TI TO .ellipsis:=AF;refine WN ?_;simp only[List.zipIdx_cons,List.zipIdx_nil,List.forIn_cons,List.forIn_nil];refine WN (WN (wpAny_onRaise ?_));show W9 _ _ (X2 (.ref i1) >>= _) _ _ _;refine WN (bb_tupNext (IsTupleIter.but h1 Ad.extBut D.i1z) (IsTuple.but BK Ad.extBut D.l1z) hx λA7 Cv Aj=>WW ?_);have BE:Zj A7 TO a b:=Aj.extBut _ _ D.TOi1 (Ad.extBut _ _ D.TOz hTO);refine WN (Yy BE rfl ?_);refine WN (wpAny_updateSeq_pair BE λCq B2 AB=>?_);replace B2:Zj Cq TO x b:=B2;refine WN (wpAny_letGo (WW ?_));refine WN (WN (wpAny_onRaise ?_));show W9 _ _ (X2 (.ref i2) >>= _) _ _ _
 refine WN (bb_tupNext (IsTupleIter.but (IsTupleIter.but (IsTupleIter.but h2 Ad.extBut D.i2z) Aj.extBut D.i12.symm) AB.extBut D.TOi2.symm)
  (IsTuple.but (IsTuple.but (IsTuple.but Bf Ad.extBut D.l2z) Aj.extBut D.l2i1) AB.extBut D.l2TO) hy λAH D' Az=>WW ?_)
 have Ea:Zj AH TO x b:=Az.extBut _ _ D.TOi2 B2;refine WN (Yy Ea rfl ?_);refine WN (wpAny_updateSeq_pair Ea λAI B3 Bn=>?_);replace B3:Zj AI TO x y:=B3;refine WN (wpAny_letGo (WW (WW ?_)));refine WN (Yy B3 rfl ?_);refine WN (wpAny_newTuple ?_);have hsz:AI.objs.size=s.1.1.size:=by rw[Bn.1,Az.1,AB.1,Aj.1,Ad.1]
 have FU:IsZip AI z TI TO .ellipsis:=Bn.extBut _ _ D.TOz.symm (Az.extBut _ _ D.i2z.symm (AB.extBut _ _ D.TOz.symm (Aj.extBut _ _ D.i1z.symm AF)))
 have I0:∀c o,c≠z->c≠TO->c≠i1->c≠i2->s.1.get? c=A? o->AI.get? c=A? o:=λc o c1 c2 c3 c4 e =>
  Bn.extBut _ _ c2 (Az.extBut _ _ c4 (AB.extBut _ _ c2 (Aj.extBut _ _ c3 (Ad.extBut _ _ c1 e))))
 have Ja:AI.IsTupleIter i1 l1 (k+1):=IsTupleIter.but (IsTupleIter.but (IsTupleIter.but Cv AB.extBut D.TOi1.symm) Az.extBut D.i12) Bn.extBut D.TOi1.symm;have Jb:AI.IsTupleIter i2 l2 (k+1):=IsTupleIter.but D' Bn.extBut D.TOi2.symm;have Jc:z<AI.objs.size:=Xa FU;show W9 _ _ (Builtin.SmallTypes.ownedTupleHandOut (.ref z) (.ref AI.objs.size) >>= _) _ _ _;refine WN ?_;unfold Builtin.SmallTypes.ownedTupleHandOut;have Jd:IsZip (AI.push {cls:=.type "tuple",data:=.seq #[x,y]}) z TI TO .ellipsis:=WV _ FU;refine WN (ZQ Jd (by simp) λM3 Eb Ec=>?_);replace Eb:IsZip M3 z TI TO (Za AI.objs.size):=Eb;refine ZQ Eb (by simp) λEd Dr Ee=>?_;replace Dr:IsZip Ed z TI TO (Za AI.objs.size):=Dr;have up:∀c o,c≠z->AI.get? c=A? o->Ed.get? c=A? o:=λc o c1 e=>Ee.extBut _ _ c1 (Ec.extBut _ _ c1 (WV _ e));have FV:Zj Ed AI.objs.size x y:=Ee.extBut _ _ (Nat.ne_of_gt Jc) (Ec.extBut _ _ (Nat.ne_of_gt Jc) (W3 _ rfl));have Qq:Ed.objs.size=AI.objs.size+1:=by rw[Ee.1,Ec.1,X4]
 rw[hsz]at Dr FV Qq;refine WW ⟨_,rfl,?_⟩;show Q (.ref AI.objs.size) _;rw[hsz];refine hQ Ed Dr (up _ _ D.TOz B3) ?_ ?_ FV Qq λc o c1 c2 c3 c4 e=>up c o c1 (I0 c o c1 c2 c3 c4 e)
 .obtain⟨o,e,r⟩:=Ja;exact⟨o,up _ o D.i1z e,r⟩
 .obtain⟨o,e,r⟩:=Jb;exact⟨o,up _ o D.i2z e,r⟩
theorem bb_loadIfAlive{o:Zc}{Q:Option Zc->WY->Prop}(hQ:∀u,A? o=A? u->Q (A? u) s)(h:s.1.get? a=A? o):W9 (Xv prog w) A (loadIfAlive a) Q E s:=by
 intro Γ p Wd;show Sem.wp _ _ (.loadIfAlive a .pure) _ _ _ _;rw[Sem.wp_loadIfAlive,h];exact hQ o rfl
theorem bb_notfree{T:WS}{b:Bool}{f2 TI TO v:WU}(hz:s.1.get? z=A? {cls:=.type "zip",data:=.fields #[Za T,.bool b,f2,TI,TO]})(hT:Zj s.1 T u v) :
 W9 (Xv prog w) A (X8 (.ref z)) (λa s1=>a=CU/\∃Am,s1={s with heap:=Am}/\Am.get? z=A? {cls:=.type "zip",data:=.fields #[Za T,.bool C?,f2,TI,TO]}/\YD z s.1 Am) E s:=by
 unfold X8;refine WN (XX hz rfl (x:=Za T) rfl ?_);show W9 _ _ (loadIfAlive (T:Int).toNat >>= _) _ _ _;rw[Xu];refine WN (bb_loadIfAlive (λo(e:A? _=A? o)=>?_) hT);cases e;show W9 _ _ (if(A? _:Option Zc).isNone=C? then _ else _) _ _ _;rw[a! (show¬((A? _:Option Zc).isNone=C?)from W5)];refine WN (XX hz rfl (x:=.bool b) rfl ?_);cases b with
 |true=>exact WW ⟨rfl,s.1,rfl,hz,rfl,λ_ _=>rfl⟩
 |false=>exact WN (ZQ hz (by simp) λAm AF Ad=>WW ⟨rfl,Am,rfl,AF,Ad⟩)
theorem bb_zip_itemB{TI TO T:WS}{k:Nat}{xs:Array WU}{x y v:WU}{b:Bool}(D:ZipApart z TI TO i1 i2 l1 l2)
 (hz:s.1.get? z=A? {cls:=.type "zip",data:=.fields #[Za T,.bool b,.bool CU,.ref TI,.ref TO]}) (hT:Zj s.1 T u v) (hTI:Zj s.1 TI (.ref i1) (.ref i2))
 (h1:s.1.IsTupleIter i1 l1 k) (h2:s.1.IsTupleIter i2 l2 k) (BK:s.1.IsTuple l1 xs) (Bf:s.1.IsTuple l2 ys) (hx:xs[k]?=A? x) (hy:ys[k]?=A? y)
 (hQ:∀h',h'.get? z=A? {cls:=.type "zip",data:=.fields #[Za T,.bool C?,.bool CU,.ref TI,.ref TO]}->h'.IsTupleIter i1 l1 (k+1)->h'.IsTupleIter i2 l2 (k+1)->Zj h' s.1.1.size x y->h'.objs.size=s.1.1.size+1 ->
  (∀c o,c≠z->c≠i1->c≠i2->s.1.get? c=A? o->h'.get? c=A? o)->Q (.ref s.1.1.size) {s with heap:=h'}) :
 W9 (Xv prog w) A (Zp.«zip.__next__» ⟨[.ref z],[]⟩) (λfin s'=>∃v,fin=.done (.ret v)/\Q v s') E s:=by
 show W9 _ _ (field (.ref z) 2 >>= _) _ _ _;refine WN (XX hz rfl (x:=.bool CU) rfl ?_);show W9 _ _ (field (.ref z) 3 >>= _) _ _ _;refine WN (XX hz rfl (x:=.ref TI) rfl ?_);refine WN (Yy hTI rfl ?_);show W9 _ _ (X8 (.ref z) >>= _) _ _ _;refine WN (Y9 (bb_notfree hz hT) (λa s1⟨e1,Am,e2,AF,Ad⟩=>?_) λ_ _ x=>x);subst e1 e2;simp only[Yb,if_false];rw[<-Array.forIn_toList];refine WN ?_;simp only[List.forIn_cons,List.forIn_nil];refine WN (WN (Yv ?_));show W9 _ _ (X2 (.ref i1) >>= _) _ _ _;refine WN (bb_tupNext (IsTupleIter.but h1 Ad.extBut D.i1z) (IsTuple.but BK Ad.extBut D.l1z) hx λA7 Cv Aj=>WW (WW ?_));refine WN (WN (Yv ?_));show W9 _ _ (X2 (.ref i2) >>= _) _ _ _;refine WN (bb_tupNext (IsTupleIter.but (IsTupleIter.but h2 Ad.extBut D.i2z) Aj.extBut D.i12.symm) (IsTuple.but (IsTuple.but Bf Ad.extBut D.l2z) Aj.extBut D.l2i1) hy λAH D' Az=>WW (WW (WW ?_)));refine WN (wpAny_newTuple (hsz:=by show 2<=Xe;decide) (WW ⟨_,rfl,?_⟩));have hsz:AH.objs.size=s.1.1.size:=by rw[Az.1,Aj.1,Ad.1]
 show Q (.ref AH.objs.size) {s with heap:=AH.push {cls:=.type "tuple",data:=.seq #[x,y]}};have FW:Zj (AH.push {cls:=.type "tuple",data:=.seq #[x,y]}) AH.objs.size x y:=W3 _ rfl;have Ca:(AH.push {cls:=.type "tuple",data:=.seq #[x,y]}).objs.size=AH.objs.size+1:=X4 ..;have Je:=IsTupleIter.but Cv Az.extBut D.i12;rw[hsz]at FW Ca;rw[hsz];refine hQ _ (WV _ (Az.extBut _ _ D.i2z.symm (Aj.extBut _ _ D.i1z.symm AF))) ?_ ?_ FW Ca λc o c1 c3 c4 e=>WV _ (Az.extBut _ _ c4 (Aj.extBut _ _ c3 (Ad.extBut _ _ c1 e)))
 .obtain⟨o,e,r⟩:=Je;exact⟨o,WV _ e,r⟩
 .obtain⟨o,e,r⟩:=D';exact⟨o,WV _ e,r⟩
theorem bb_zip_end{TI TO:WS}{k:Nat}{xs:Array WU}{Q:Fin->WY->Prop}(hh:A.handled=B?)
 (S:ZSt xs ys z TI TO i1 i2 l1 l2 k s.1) (Cw:xs[k]?=B?\/ys[k]?=B?)
 (hE:∀h' e,(∀c o,c≠z->c≠TO->c≠i1->c≠i2->s.1.get? c=A? o->h'.get? c=A? o)->(∃o,h'.get? e=A? o/\o.cls=.type "StopIteration")->E (.ref e) {s with heap:=h'}) :
 W9 (Xv prog w) A (Zp.«zip.__next__» ⟨[.ref z],[]⟩) Q E s:=by
 obtain⟨D,hz,hTI,⟨a,b,hTO⟩,h1,h2,BK,Bf⟩:=S;rcases hz with hz|⟨T,bb,u,v,hz,hT,Qr⟩
 .show W9 _ _ (field (.ref z) 2 >>= _) _ _ _;refine WN (XX hz rfl (x:=.bool CU) rfl ?_);show W9 _ _ (field (.ref z) 3 >>= _) _ _ _;refine WN (XX hz rfl (x:=.ref TI) rfl ?_);refine WN (Yy hTI rfl ?_);show W9 _ _ (X8 (.ref z) >>= _) _ _ _;refine WN ?_;unfold X8;refine WN (XX hz rfl (x:=.none) rfl (WW ?_));simp only[if_true];refine WN (Zw ?_);refine WN (XX hz rfl (x:=.ref TO) rfl ?_);refine WN (ZQ hz (by simp) λAm AF Ad=>?_);replace AF:IsZip Am z TI TO .ellipsis:=AF;refine WN ?_;simp only[List.zipIdx_cons,List.zipIdx_nil,List.forIn_cons,List.forIn_nil];refine WN (WN (wpAny_onRaise ?_));show W9 _ _ (X2 (.ref i1) >>= _) _ _ _;cases hx:xs[k]? with
  | none =>
    refine WN (bb_tupEnd hh (IsTupleIter.but h1 Ad.extBut D.i1z) (IsTuple.but BK Ad.extBut D.l1z) hx λA7 e Aj he=>?_);obtain⟨oe,GI,Jf⟩:=he;have FY:IsZip A7 z TI TO .ellipsis:=Aj _ _ D.i1z.symm AF;have M4:e≠z:=λx=>by subst x;rw[FY]at GI;cases GI;simp at Jf
    refine ZQ FY (by simp) λCq _ AB=>hE Cq e (λc o c1 _ c3 _ x=>AB.extBut _ _ c1 (Aj _ _ c3 (Ad.extBut _ _ c1 x))) ⟨oe,AB.extBut _ _ M4 GI,Jf⟩
  | some x =>
    have hy:ys[k]?=none:=by rcases Cw with h|h;rw[hx]at h;cases h;exact h
    refine WN (bb_tupNext (IsTupleIter.but h1 Ad.extBut D.i1z) (IsTuple.but BK Ad.extBut D.l1z) hx λA7 Cv Aj=>WW ?_);have BE:Zj A7 TO a b:=Aj.extBut _ _ D.TOi1 (Ad.extBut _ _ D.TOz hTO);refine WN (Yy BE rfl ?_);refine WN (wpAny_updateSeq_pair BE λCq B2 AB=>?_);refine WN (wpAny_letGo (WW ?_));refine WN (WN (wpAny_onRaise ?_));show W9 _ _ (X2 (.ref i2) >>= _) _ _ _
    refine WN (bb_tupEnd hh (IsTupleIter.but (IsTupleIter.but (IsTupleIter.but h2 Ad.extBut D.i2z) Aj.extBut D.i12.symm) AB.extBut D.TOi2.symm)
     (IsTuple.but (IsTuple.but (IsTuple.but Bf Ad.extBut D.l2z) Aj.extBut D.l2i1) AB.extBut D.l2TO) hy λAH e Az he=>?_)
    obtain⟨oe,GI,Jf⟩:=he;have FZ:IsZip AH z TI TO .ellipsis:=Az _ _ D.i2z.symm (AB.extBut _ _ D.TOz.symm (Aj.extBut _ _ D.i1z.symm AF));have M4:e≠z:=λx=>by subst x;rw[FZ]at GI;cases GI;simp at Jf
    refine ZQ FZ (by simp) λAI _ Bn=>hE AI e (λc o c1 c2 c3 c4 x=>Bn.extBut _ _ c1 (Az _ _ c4 (AB.extBut _ _ c2 (Aj.extBut _ _ c3 (Ad.extBut _ _ c1 x))))) ⟨oe,Bn.extBut _ _ M4 GI,Jf⟩
 .show W9 _ _ (field (.ref z) 2 >>= _) _ _ _;refine WN (XX hz rfl (x:=.bool CU) rfl ?_);show W9 _ _ (field (.ref z) 3 >>= _) _ _ _;refine WN (XX hz rfl (x:=.ref TI) rfl ?_);refine WN (Yy hTI rfl ?_);show W9 _ _ (X8 (.ref z) >>= _) _ _ _;refine WN (Y9 (bb_notfree hz hT) (λa s1⟨e1,Am,e2,AF,Ad⟩=>?_) λ_ _ x=>x);subst e1 e2;simp only[Yb,if_false];rw[<-Array.forIn_toList];refine WN ?_;simp only[List.forIn_cons,List.forIn_nil];refine WN (WN (Yv ?_));show W9 _ _ (X2 (.ref i1) >>= _) _ _ _;cases hx:xs[k]? with
  | none =>
    refine WN (bb_tupEnd hh (IsTupleIter.but h1 Ad.extBut D.i1z) (IsTuple.but BK Ad.extBut D.l1z) hx λA7 e Aj he=>?_);exact hE A7 e (λc o c1 _ c3 _ x=>Aj _ _ c3 (Ad.extBut _ _ c1 x)) he
  | some x =>
    have hy:ys[k]?=none:=by rcases Cw with h|h;rw[hx]at h;cases h;exact h
    refine WN (bb_tupNext (IsTupleIter.but h1 Ad.extBut D.i1z) (IsTuple.but BK Ad.extBut D.l1z) hx λA7 Cv Aj=>WW (WW ?_));refine WN (WN (Yv ?_));show W9 _ _ (X2 (.ref i2) >>= _) _ _ _;refine WN (bb_tupEnd hh (IsTupleIter.but (IsTupleIter.but h2 Ad.extBut D.i2z) Aj.extBut D.i12.symm) (IsTuple.but (IsTuple.but Bf Ad.extBut D.l2z) Aj.extBut D.l2i1) hy λAH e Az he=>?_);exact hE AH e (λc o c1 _ c3 c4 x=>Az _ _ c4 (Aj.extBut _ _ c3 (Ad.extBut _ _ c1 x))) he
theorem bb_zip_next{TI TO:WS}{k:Nat}{xs:Array WU}{x y:WU}{Q:Option WU->WY->Prop}(S:ZSt xs ys z TI TO i1 i2 l1 l2 k s.1)(hx:xs[k]?=A? x)(hy:ys[k]?=A? y)
 (hQ:∀h',ZSt xs ys z TI TO i1 i2 l1 l2 (k+1) h'->Zj h' s.1.1.size x y->h'.objs.size=s.1.1.size+1 ->
  (∀c o,c∉[z,TO,i1,i2]->s.1.get? c=A? o->h'.get? c=A? o)->Q (A? (.ref s.1.1.size)) {s with heap:=h'}) :
 W9 (Xv prog w) A (pyNext (.ref z)) Q E s:=by
 have hT:=S.typeIs;obtain⟨D,hz,hTI,⟨a,b,hTO⟩,h1,h2,BK,Bf⟩:=S;have n1:s.1.1.size≠TO:=Nat.ne_of_gt (Xa hTO);unfold pyNext;refine WN (wpAny_attempt (X3 (name:=Xq "__next__") hT F.slot_zip_next (X5 F.slot_zip_next hT F.entry_zip_next ?_ (F.args_zip_next_1 _))));rcases hz with hz|⟨T,bb,u,v,hz,FW,Qr⟩
 .refine bb_zip_itemA D hz hTI hTO h1 h2 BK Bf hx hy λh' a1 a2 a3 a4 a5 a6 a7=>WW ?_;refine hQ h' ⟨D,.inr ⟨_,_,_,_,a1,a5,n1⟩,a7 _ _ D.TIz D.TITO D.TIi1 D.TIi2 hTI,⟨_,_,a2⟩,a3,a4,?_,?_⟩ a5 a6 λc o hc e=>a7 c o (λq=>hc (by simp[q])) (λq=>hc (by simp[q])) (λq=>hc (by simp[q])) (λq=>hc (by simp[q])) e
  .obtain⟨o,e,r⟩:=BK;exact⟨o,a7 _ _ D.l1z D.l1TO D.l1i1 D.l1i2 e,r⟩
  .obtain⟨o,e,r⟩:=Bf;exact⟨o,a7 _ _ D.l2z D.l2TO D.l2i1 D.l2i2 e,r⟩
 .refine bb_zip_itemB D hz FW hTI h1 h2 BK Bf hx hy λh' a1 a3 a4 a5 a6 a7=>WW ?_;have S8:T≠z:=by rintro rfl;exact g! (YU (h! Obj.cls (Xp (hz.symm.trans FW)))) (by decide)
  have M5:T≠i1:=by rintro rfl;obtain⟨o,e,c,_⟩:=h1;have e2:=Xp (FW.symm.trans e);rw[<-e2]at c;exact g! (YU c) (by decide)
  have M6:T≠i2:=by rintro rfl;obtain⟨o,e,c,_⟩:=h2;have e2:=Xp (FW.symm.trans e);rw[<-e2]at c;exact g! (YU c) (by decide)
  refine hQ h' ⟨D,.inr ⟨T,C?,u,v,a1,a7 _ _ S8 M5 M6 FW,Qr⟩,a7 _ _ D.TIz D.TIi1 D.TIi2 hTI,⟨a,b,a7 _ _ D.TOz D.TOi1 D.TOi2 hTO⟩,a3,a4,?_,?_⟩ a5 a6 λc o hc e=>a7 c o (λq=>hc (by simp[q])) (λq=>hc (by simp[q])) (λq=>hc (by simp[q])) e
  .obtain⟨o,e,r⟩:=BK;exact⟨o,a7 _ _ D.l1z D.l1i1 D.l1i2 e,r⟩
  .obtain⟨o,e,r⟩:=Bf;exact⟨o,a7 _ _ D.l2z D.l2i1 D.l2i2 e,r⟩
theorem bb_zip_done{TI TO:WS}{k:Nat}{xs:Array WU}{Q:Option WU->WY->Prop}(hh:A.handled=B?)(S:ZSt xs ys z TI TO i1 i2 l1 l2 k s.1)(Cw:xs[k]?=B?\/ys[k]?=B?)
 (hQ:∀h',(∀c o,c∉[z,TO,i1,i2]->s.1.get? c=A? o->h'.get? c=A? o)->Q B? {s with heap:=h'}):W9 (Xv prog w) A (pyNext (.ref z)) Q E s:=by
 have hT:=S.typeIs;unfold pyNext
 refine WN (wpAny_attempt (X3 (name:=Xq "__next__") hT F.slot_zip_next
  (X5 F.slot_zip_next hT F.entry_zip_next (bb_zip_end hh S Cw λh' e hk he=>?_) (F.args_zip_next_1 _))))
 obtain⟨o,ho,hc⟩:=he;refine WN (ZK (T:="StopIteration") (b:=C?) ⟨o,ho,hc⟩ isSubtype_stop ?_);exact WW (hQ _ λc o hc=>hk c o (λq=>hc (by simp[q])) (λq=>hc (by simp[q])) (λq=>hc (by simp[q])) (λq=>hc (by simp[q])))
theorem bb_zip_iter{TI TO:WS}{k:Nat}{xs:Array WU}(S:ZSt xs ys z TI TO i1 i2 l1 l2 k s.1)(h:Q (.ref z) s):W9 (Xv prog w) A (pyIter (.ref z)) Q E s:=by
 have hT:=S.typeIs;refine wpAny_pyIter_slot hT F.slot_zip_iter (X5 F.slot_zip_iter hT F.entry_zip_iter ?_ (F.args_zip_iter_1 _));show W9 _ _ (ret (.ref z)) _ _ s;exact WW ⟨_,rfl,"zip",_,hT,F.slot_zip_next.lookup,h⟩
open Sem (wp)
namespace F
theorem bb_nolen_zip:typeLookup (.type "zip") "__len__"=pure none:=by rw[Y8,Yt];kernel_rfl
theorem bb_nohint_zip:typeLookup (.type "zip") "__length_hint__"=pure none:=by rw[Y8,Yt];kernel_rfl
end F
def ZIt(xs ys:Array WU)(n0:Nat)(h:Yd)(acc:Array WU)(k:Nat):Prop:=acc.size=k/\∀(j:Nat)(v:WU),acc[j]?=A? v->∃(T:WS)(x y:WU),v=Xm T/\n0<=T/\Zj h T x y/\xs[j]?=A? x/\ys[j]?=A? y
section
variable{R:Result->WY->Prop}
theorem bb_zip_loop{TI TO S:WS}{xs:Array WU}{n0:Nat}(hh:A.in1.handled=B?)(hn:n=min xs.size ys.size)(hz:n<=Xe)(Qs:S∉[z,TO,i1,i2])(hf:∀c∈[z,TO,i1,i2],c<n0)(res:WU) :
 ∀(k i:Nat)(s:WY)(acc:Array WU)(c:Nat),n - i=k->i<=n->ZSt xs ys z TI TO i1 i2 l1 l2 i s.1->n0<=s.1.1.size->s.1.get? S=A? {cls:=.type "list",dict:=B?,data:=.seq acc c,slots:=#[]}->ZIt xs ys n0 s.1 acc i ->
 (∀h' A8 c',(∀b o,b≠S->b∉[z,TO,i1,i2]->s.1.get? b=A? o->h'.get? b=A? o)->h'.get? S=A? {cls:=.type "list",dict:=B?,data:=.seq A8 c',slots:=#[]}->ZIt xs ys n0 h' A8 n->R (.ok (.ret res)) {s with heap:=h'}) ->
 codeAny (Xv prog w) A (.builtin "list.extend.loop" ⟨[.ref S,.ref z,res],[]⟩) R s:=by
 intro k;have F0:∀{T:WS},n0<=T->T∉[z,TO,i1,i2]:=λh m=>g! (hf _ m) (Nat.not_lt.mpr h);induction k with
 | zero =>
   intro i s acc c hk hi AW h0 hS An hR;have B0:i=n:=by lia
   subst B0;refine codeAny_builtin F.entry_extend_loop ?_;rw[Around.under_plainId YE _];show W9 _ A.in1 (pyNext (.ref z) >>= _) _ _ s
   have Cw:xs[i]?=B?\/ys[i]?=none:=by
    rcases Nat.le_total xs.size ys.size with h|h
    .exact .inl (Array.getElem?_eq_none (by lia))
    .exact .inr (Array.getElem?_eq_none (by lia))
   refine WN (bb_zip_done hh AW Cw λh' A'=>WW ?_);refine hR h' acc c (λb o _ hb e=>A' b o hb e) (A' _ _ Qs hS) ⟨An.1,λj v hv=>?_⟩;obtain⟨T,x,y,e1,e2,e3,e4⟩:=An.2 j v hv;exact⟨T,x,y,e1,e2,A' _ _ (F0 e2) e3,e4⟩
 | succ k ih =>
   intro i s acc c hk hi AW h0 hS An hR;have Ah:i<n:=by lia
   refine codeAny_builtin F.entry_extend_loop ?_;rw[Around.under_plainId YE _];show W9 _ A.in1 (pyNext (.ref z) >>= _) _ _ s;have hx:xs[i]?=A? xs[i]:=Zg (by lia);have hy:ys[i]?=A? ys[i]:=Zg (by lia);refine WN (bb_zip_next AW hx hy λh' M7 hT hsz A'=>?_);have DV:=A' S _ Qs hS;have M8:S<s.1.1.size:=Xa hS;show W9 _ A.in1 (updateSeq S (·.push (.ref s.1.1.size)) >>= _) _ _ _;refine WN ?_;have Ct:∀b o,b≠S->h'.get? b=A? o->(h'.update S (Yg (·.push (Xm s.1.1.size)))).get? b=A? o:=λb o hb e=>(XW _ _ (YT hb)).trans e
   refine YV DV rfl (WW ⟨plainId_quiet YE _,ih (i+1) _ (acc.push (.ref s.1.1.size)) _ (by lia) Ah (M7.frame λb o ho e=>Ct b o (λz=>?_) e) ?_ (XO _ DV rfl) ?_ λJg A8 c' GJ GK Ef=>?_⟩)
    (by rw[An.1];lia) (by show(acc.push _).size<=Xe+1;rw[Array.size_push,An.1];lia)
   .rw[z,DV]at e;cases e;exact ho rfl
   .show n0<=(h'.update S _).objs.size;rw[Heap.size_update];lia
   .refine⟨by rw[Array.size_push,An.1],λj v hv=>?_⟩;rw[Array.getElem?_push]at hv;split at hv
    .rename_i e
     rw[An.1]at e;cases hv;subst e;exact⟨_,_,_,D?,h0,Ct _ _ (Nat.ne_of_gt M8) hT,hx,hy⟩
    .obtain⟨T,x,y,e1,e2,e3,e4⟩:=An.2 j v hv
     have S9:T≠S:=by
      rintro rfl;exact g! (YU (h! Obj.cls (Xp (e3.symm.trans hS)))) (by decide)
     exact⟨T,x,y,e1,e2,Ct _ _ S9 (A' _ _ (F0 e2) e3),e4⟩
   .exact hR Jg A8 c' (λb o hb hb2 e=>GJ b o hb hb2 (Ct b o hb (A' b o hb2 e))) GK Ef
end
theorem bb_list_zip{TI TO:WS}{xs:Array WU}{n0:Nat}(hh:A.in1.in1.handled=B?)(AW:ZSt xs ys z TI TO i1 i2 l1 l2 0 s.1)(hn:n=min xs.size ys.size)(hz:n<=Xe)(h0:n0<=s.1.1.size)(hf:∀c∈[z,TO,i1,i2],c<n0)
 (hQ:∀h' acc c,(∀b o,b∉[z,TO,i1,i2]->s.1.get? b=A? o->h'.get? b=A? o)->h'.get? s.1.1.size=A? {cls:=.type "list",dict:=B?,data:=.seq acc c,slots:=#[]}->ZIt xs ys n0 h' acc n->Q (.ref s.1.1.size) {s with heap:=h'}) :
 W9 (Xv prog w) A (call (.type "list") [.ref z]) Q E s:=by
 have HW:s.1.1.size∉[z,TO,i1,i2]:=λhm=>g! (hf _ hm) (Nat.not_lt.mpr h0);have MS:s.1.1.size≠z:=λe=>HW (by simp[e])
 refine callType_codes (Q₁:=λobj Ab=>obj=.ref s.1.1.size/\Ab={s with heap:=s.1.push {cls:=.type "list",data:=.seq #[]}}) F.called_list (F.typeCall_list_1 _) F.entry_list_init
  (code_list_new _ ⟨rfl,rfl⟩) λobj Ab Am=>?_
 obtain⟨rfl,rfl⟩:=Am;have hS:(s.1.push {cls:=.type "list",data:=.seq #[]}).get? s.1.1.size=A? {cls:=.type "list",data:=.seq #[]}:=W3 _ rfl;refine⟨⟨_,hS,D?⟩,F.args_list_init_2 _ _,?_⟩;show W9 _ A.in1.in1 (do let old <-ZJ (.ref s.1.1.size);Builtin.List.listUpdate (.ref s.1.1.size) (λ_=>#[]);letGo old.toList.reverse;Ze (.ref s.1.1.size) (.ref z) .none) _ _ _;refine WN ?_;unfold ZJ;refine WN (Yy hS rfl (WW ?_));refine WN (YV hS rfl ?_);have Bl:=XO (Yg (λ_=>(#[]:Array WU))) hS rfl;refine WN (wpAny_letGo ?_);have Cz:((s.1.push {cls:=.type "list",data:=.seq #[]}).update s.1.1.size (Yg (λ_=>(#[]:Array WU)))).objs.size=s.1.1.size+1:=by rw[Heap.size_update,X4]
 generalize hH:(s.1.push {cls:=.type "list",data:=.seq #[]}).update s.1.1.size (Yg (λ_=>(#[]:Array WU)))=H2 at Bl Cz |-
 have old:∀b o,s.1.get? b=A? o->H2.get? b=A? o:=λb o e=>by
  rw[<-hH,XW _ _ (YT (XA (Xa e)))];exact WV _ e
 obtain⟨c2,D9⟩:∃c,H2.get? s.1.1.size=A? {cls:=.type "list",data:=.seq #[] c}:=⟨_,Bl⟩;have CW:ZSt xs ys z TI TO i1 i2 l1 l2 0 H2:=AW.frame λb o _ e=>old b o e;have Jh:({s with heap:=H2}:WY).TypeIs (.ref z) "zip":=CW.typeIs;unfold Ze;refine WN (ZH Jh ?_);have h1:Zo (.ref s.1.1.size) (.ref z)=false:=by simp[Zo,MS]
 have h2:(Zl "zip" == Zl "list")=false:=by decide
 have h3:(Zl "zip" == Zl "tuple")=false:=by decide
 simp only[h1,h2,h3,Bool.or_false,Yb,if_false];refine WN (bb_zip_iter CW ?_);refine WN (Yv ?_);unfold ZI;refine WN (Yq Jh F.bb_nolen_zip ?_);show W9 _ _ (specialOf (Xm z) (Xq "__length_hint__") >>= _) _ _ _;refine WN (Yq Jh F.bb_nohint_zip ?_);refine WW ?_
 have key:∀(h:Yd)(c₁:Nat),ZSt xs ys z TI TO i1 i2 l1 l2 0 h->n0<=h.objs.size->(∀b o,b≠s.1.1.size->H2.get? b=A? o->h.get? b=A? o)->h.get? s.1.1.size=A? {cls:=.type "list",data:=.seq #[] c₁} ->
  codeAny (Xv prog w) A.in1 (.builtin "list.extend.loop" ⟨[.ref s.1.1.size,.ref z,.none],[]⟩) (wants (λr AG=>r=.none/\Q (.ref s.1.1.size) AG) E) {s with heap:=h}:=by
  intro h c₁ hs Ji hk Cr;refine bb_zip_loop hh hn hz HW hf .none n 0 _ #[] c₁ rfl (Xh _) hs Ji Cr ⟨rfl,λj v e=>by simp at e⟩ λh' A8 c' hm DV An=>?_;exact⟨D?,hQ h' A8 c' (λb o hb e=>hm b o (XA (Xa e)) hb (hk b o (XA (Xa e)) (old b o e))) DV An⟩
 show W9 _ _ (rule "list.extend.makes-room" >>= λ_=>Builtin.List.listTouch (.ref s.1.1.size) >>= λ_=>again (.builtin "list.extend.loop" ⟨[.ref s.1.1.size,.ref z,.none],[]⟩)) _ _ _;refine WN (Zw ?_);refine WN ?_;show W9 _ _ (updateSeq s.1.1.size (·.push .none) >>= λ_=>updateSeq s.1.1.size (·.pop)) _ _ _;refine WN (YV D9 rfl ?_);have Bm:=XO (Yg (·.push Yp)) D9 rfl;refine YV (hz:=by seq_fits) Bm rfl ?_;have Cs:=XO (Yg (·.pop)) Bm rfl
 have Ct:∀b o,b≠s.1.1.size->H2.get? b=A? o->((H2.update s.1.1.size (Yg (·.push Yp))).update s.1.1.size (Yg (·.pop))).get? b=A? o :=
  λb o hb e=>(XW _ _ (YT hb)).trans ((XW _ _ (YT hb)).trans e)
 refine WW ⟨plainId_quiet YE _,key _ _ (CW.frame λb o ho e=>Ct b o (λq=>?_) e) ?_ Ct Cs⟩
 .rw[q,D9]at e;cases e;exact ho rfl
 .rw[Heap.size_update,Heap.size_update];show n0<=H2.objs.size;lia
end PySem
namespace L2
open PySem PySem.Spec PyProof.Rows
theorem Inv.laidAll{X:Cx}(I:Inv X Z Y H s)(k:∀b u,s.1.get? b=A? u->h'.get? b=A? u)
 (old:∀b,b<s.1.1.size->H' b=H b) (new:∀b u,s.1.1.size<=b->H' b=A? u->ObjOk X.prog X.w H' h' b u):Inv X Z Y H' {s with heap:=h',toks:=t'}:=by
 have sm:∀b u,H b=A? u->H' b=A? u:=λb u e=>by rw[old b (I.hok.lt e)];exact e
 refine I.un ⟨λb u q _ _ _=>k b u q,λb u q _ _ _=>⟨u.slots,k b u q⟩,λb u q n _=>by rw[old b (Xa q)];exact n,λb u q _=>⟨u,k b u q⟩,λb xs q=>sm _ _ q,λb u xs q=>sm _ _ q,λb ps q=>⟨#[],by rw[sm _ _ q];simp⟩⟩ λb u q=>?_;by_cases hb:b<s.1.1.size
 .rw[old b hb]at q;exact(I.hok b u q).stay (λc v _ e=>k c v e) (λc e=>sm _ _ e) λc xs e=>sm _ _ e
 .exact new b u (Nat.not_lt.mp hb) q
def mD(H:Hp):List WS->List (V×V)->Hp
 |t::ts,p::ps=>upd (mD H ts ps) t (.tup [p.1,p.2])
 |_,_=>H
theorem lM:∀{ts:List WS}{ps:List (V×V)},b∉ts->mD H ts ps b=H b
 | [],_,_=>rfl
 |_::_,[],_=>rfl
 | t::ts,p::ps,h=>by
   rw[mD,ag (λe=>h (by simp[e]))];exact lM λm=>h (W8 _ m)
theorem pU:∀{ts:List WS}{ps:List (V×V)}{b:WS}{u:HO},mD H ts ps b=A? u->H b=A? u\/∃(j:Nat)(p:V×V),ts[j]?=A? b/\ps[j]?=A? p/\u=.tup [p.1,p.2]
 | [],_,_,_,h=>.inl h
 |_::_,[],_,_,h=>.inl h
 | t::ts,p::ps,b,u,h=>by
   rw[mD]at h;by_cases e:b=t
   .subst e;rw[ac]at h;exact .inr ⟨0,p,rfl,rfl,(Xp h).symm⟩
   .rw[ag e]at h;rcases pU h with q|⟨j,p',q1,q2,q3⟩
    .exact .inl q
    .exact .inr ⟨j+1,p',by simpa using q1,by simpa using q2,q3⟩
theorem qx{H:Hp}:∀{ts:List WS}{ps:List (V×V)}{t:WS},ts.length=ps.length->t∈ts->∃(i:Nat)(p:V×V),ts[i]?=A? t/\ps[i]?=A? p/\mD H ts ps t=A? (.tup [p.1,p.2])
 | [],_,_,_,h=>nomatch h
 |_::_,[],_,hl,_=>by simp at hl
 | u::ts,p::ps,t,hl,h=>by
   by_cases e:t=u
   .subst e;exact⟨0,p,D?,D?,by rw[mD,ac]⟩
   .obtain⟨i,p',q1,q2,q3⟩:=qx (H:=H) (ts:=ts) (ps:=ps) (t:=t) (by simpa using hl) (by
     rcases W7.mp h with h|h
     .exact g! h e
     .exact h)
    exact⟨i+1,p',by simpa using q1,by simpa using q2,by rw[mD,ag e];exact q3⟩
theorem fo:∀{ps:List α}{ts:List β},ps.length=ts.length->(∀(j:Nat)p t,ps[j]?=A? p->ts[j]?=A? t->F p t)->Xs F ps ts
 | [],[],_,_=>.nil
 | [],_::_,h,_=>by simp at h
 |_::_,[],h,_=>by simp at h
 |p::ps,t::ts,h,f=>.cons (f 0 p t rfl rfl) (fo (by simpa using h) λj p' t' e1 e2=>f (j+1) p' t' (by simpa using e1) (by simpa using e2))
theorem t8{P:Nat->WS->Prop}:∀{vs:List WU}(n:Nat),(∀(j:Nat)v,vs[j]?=A? v->∃T,v=Xm T/\P (n+j) T)->∃ts:List WS,vs=ts.map Xm/\∀(j:Nat)T,ts[j]?=A? T->P (n+j) T
 | [],n,_=>⟨[],rfl,λj T h=>by simp at h⟩
 | v::vs,n,h=>by
   obtain⟨T,e1,e2⟩:=h 0 v rfl
   obtain⟨ts,q1,q2⟩:=t8 (P:=P) (vs:=vs) (n+1) λj v' hv=>by
    have:=h (j+1) v' (by simpa using hv);rw[show n+1+j=n+(j+1)by lia];exact this
   refine⟨T::ts,by rw[e1,q1];rfl,λj T' hT=>?_⟩;cases j with
   |zero=>simp at hT;subst hT;exact e2
   | succ j =>
     have:=q2 j T' (by simpa using hT);rw[show n+1+j=n+(j+1)by lia]at this;exact this
theorem zD{xs:List α}{ys:List β}{p:α×β}(h:(xs.zip ys)[j]?=A? p):xs[j]?=A? p.1/\ys[j]?=A? p.2:=by
 rw[Zf]at h;exact h
def xb(K:WQ)(t:TA):TE:=λY H Q=>t Y H λvs H2=>∃a b xs ys,vs=[.ref a,.ref b]/\SqT K H2 a xs/\SqT K H2 b ys /\
 ∀(l:WS)(ts:List WS)(H':Hp),Same H2 H'->H2 l=B?->H' l=A? (.lst (ts.map i!))->Xs (λ(p:V×V)t=>H' t=A? (.tup [p.1,p.2])) (xs.zip ys) ts->Q (.ref l) H'
section
variable{X:Cx}{e1 e2:X6}{t:TA}{p p2 Ax:Z4}
theorem rB(hc:X.calm=C?)(g1:Gl X "list")(m1:X.mg "list"=B?)(g2:Gl X "zip")(m2:X.mg "zip"=B?)(ha:PA X [e1,e2] t)
 (h1:XH [.Call (.Name "zip" p2) [e1,e2] [] Ax] X.env=[(CU,Y4 (.Call (.Name "zip" p2) [e1,e2] [] Ax) X.env)]:=by rfl) (h2:XH [e1,e2] X.env=(CU,Y4 e1 X.env)::XH [e2] X.env:=by rfl) (h3:(Z2 Ax (XH [e2] X.env)).any (·.1)=false:=by rfl) :
 PE X (.Call (.Name "list" p) [.Call (.Name "zip" p2) [e1,e2] [] Ax] [] pos) (xb X.K t):=by
 intro Z s Y H Q I h;refine Yk (db I g1 m1 boot_list (X1 ?_ h1 rfl));rw[h1];show W9 _ _ (spliced ((CU,Y4 (.Call (.Name "zip" p2) [e1,e2] [] Ax) X.env)::[])) _ _ s;refine YK ?_;refine Yk (db I g2 m2 boot_zip ?_);refine X1 (thn (ha Ax Z s Y H _ I h) λus s2⟨vs,H2,I2,r,a,b,xs,ys,ev,F1,F3,q⟩=>?_) h2 h3;subst ev;obtain⟨u1,u2,rfl,r1,r2⟩:=vals2 r;cases r1;cases r2;obtain⟨ia,GL,pa,HY⟩:=I2.tuple F1;obtain⟨ib,GN,pb,M9⟩:=I2.tuple F3;have E8:=GL.length;have Ta:=GN.length;have Bd:a<s2.1.1.size:=by obtain⟨o,e,_⟩:=pa;exact Xa e
 have Bg:b<s2.1.1.size:=by obtain⟨o,e,_⟩:=pb;exact Xa e
 have hh:X.A.in1.in1.handled=none:=I2.ok.hd hc;refine bb_call_zip (show s2.1.IsTuple a ia.toArray from pa) (show s2.1.IsTuple b ib.toArray from pb) λh' z1 z2 z3 z4 z5 z6 z7=>Zh ?_;have D:ZipApart (s2.1.1.size+4) (s2.1.1.size+2) (s2.1.1.size+3) s2.1.1.size (s2.1.1.size+1) a b:=zipApart_new Bd Bg
 have st:ZSt ia.toArray ib.toArray (s2.1.1.size+4) (s2.1.1.size+2) (s2.1.1.size+3) s2.1.1.size (s2.1.1.size+1) a b 0 h':=by
  refine⟨D,.inl z1,z2,⟨_,_,z3⟩,z4,z5,?_,?_⟩
  .obtain⟨o,e,r⟩:=pa;exact⟨o,z7 _ _ e,r⟩
  .obtain⟨o,e,r⟩:=pb;exact⟨o,z7 _ _ e,r⟩
 have hf:∀c∈[s2.1.1.size+4,s2.1.1.size+3,s2.1.1.size,s2.1.1.size+1],s2.1.1.size<=c/\c<h'.objs.size:=λc hc=>by
  simp at hc;rw[z6];have AN:(c:Nat)=s2.1.1.size+4\/(c:Nat)=s2.1.1.size+3\/(c:Nat)=s2.1.1.size\/(c:Nat)=s2.1.1.size+1:=hc;constructor
  .show(s2.1.1.size:Nat)<=(c:Nat);lia
  .show(c:Nat)<s2.1.1.size+5;lia
 refine bb_list_zip (s:={s2 with heap:=h'}) hh st rfl (by rw[W0,W0];lia) (WX _) (λc hc=>(hf c hc).2) λh2 acc c kp hS An=>?_;replace hS:h2.get? h'.objs.size=A? {cls:=.type "list",dict:=B?,data:=.seq acc c,slots:=#[]}:=hS;have M':∀b o,s2.1.get? b=A? o->h2.get? b=A? o:=λb o e=>kp b o (λm=>g! (Xa e) (Nat.not_lt.mpr (hf b m).1)) (z7 b o e);obtain⟨hsz,hit⟩:=An
 obtain⟨ts,et,ht⟩:=t8 (P:=λj T=>h'.objs.size<=T/\∃x y,Zj h2 T x y/\ia.toArray[j]?=A? x/\ib.toArray[j]?=A? y) (vs:=acc.toList) 0 (λj v hv=>by
  obtain⟨T,x,y,g1,g2,g3,g4,g5⟩:=hit j v (by simpa using hv);rw[Nat.zero_add];exact⟨T,g1,g2,x,y,g3,g4,g5⟩)
 simp only[Nat.zero_add]at ht
 have AD:ts.length=(xs.zip ys).length:=by
  have e:=h! Zu et;rw[WO,XR,hsz,W0,W0]at e;rw[List.length_zip];lia
 have rel:∀(j:Nat)(p:V×V)(T:WS),(xs.zip ys)[j]?=A? p->ts[j]?=A? T->∃x y,Zj h2 T x y/\RelV p.1 x/\RelV p.2 y:=λj p T hp hT=>by
  obtain⟨_,x,y,g3,g4,g5⟩:=ht j T hT;obtain⟨DW,BL⟩:=zD hp;obtain⟨x',k1,k2⟩:=GL.get DW;obtain⟨y',k3,k4⟩:=GN.get BL
  have e1:x'=x:=by
   have:ia[j]?=A? x:=by simpa using g4
   rw[k1]at this;exact Xp this
  have e2:y'=y:=by
   have:ib[j]?=A? y:=by simpa using g5
   rw[k3]at this;exact Xp this
  subst e1 e2;exact⟨_,_,g3,k2,k4⟩
 have same:∀(i j:Nat)(p p':V×V)(T:WS),(xs.zip ys)[i]?=A? p->(xs.zip ys)[j]?=A? p'->ts[i]?=A? T->ts[j]?=A? T->p=p':=λi j p p' T h1 h2 h3 h4=>by
  obtain⟨x,y,g1,g2,g3⟩:=rel i p T h1 h3;obtain⟨x',y',k1,k2,k3⟩:=rel j p' T h2 h4;have e:=Xp (g1.symm.trans k1);have ed:=h! Obj.data e;injection ed with Tb _;have el:=h! Array.toList Tb;have ex:x=x':=(List.cons.inj el).1;have ey:y=y':=(List.cons.inj (List.cons.inj el).2).1;subst ex ey;obtain⟨p1,p2⟩:=p;obtain⟨q1,q2⟩:=p';have f1:p1=q1:=g2.inj k2;have f2:p2=q2:=g3.inj k3;rw[f1,f2]
 have Jj:h'.objs.size∉ts:=λm=>by
  obtain⟨j,hj⟩:=List.getElem?_of_mem m;obtain⟨_,x,y,g3,_⟩:=ht j _ hj;exact g! (YU (h! Obj.cls (Xp (g3.symm.trans hS)))) (by decide)
 have E9:s2.1.1.size<h'.objs.size:=by rw[z6];lia
 have Jk:∀T∈ts,h'.objs.size<=T:=λT m=>by
  obtain⟨j,hj⟩:=List.getElem?_of_mem m;exact(ht j _ hj).1
 have F4:∀b,s2.1.1.size<=b->H2 b=none:=λb hb=>I2.hok.fresh hb;have Bf:H2 h'.objs.size=none:=F4 _ (ZT E9)
 have Tc:∀(j:Nat)(p:V×V)(T:WS),(xs.zip ys)[j]?=A? p->ts[j]?=A? T->mD H2 ts (xs.zip ys) T=A? (.tup [p.1,p.2]):=λj p T hp hT=>by
  obtain⟨i,p',k1,k2,k3⟩:=qx (H:=H2) AD (WT hT);rw[k3,same i j p' p T k2 hp k1 hT]
 have I3:Inv X Z Y (upd (mD H2 ts (xs.zip ys)) h'.objs.size (.lst (ts.map i!))) {s2 with heap:=h2,toks:=s2.toks}:=by
  refine I2.laidAll M' (λb hb=>?_) λb u hb hu=>?_
  .rw[ag (XA (Nat.lt_trans hb E9)),lM];exactλm=>g! (Nat.lt_trans hb E9) (Nat.not_lt.mpr (Jk b m))
  .by_cases e:b=h'.objs.size
   .subst e;rw[ac]at hu;cases hu;refine⟨by rw[WO,AD,List.length_zip];lia,ts.map Xm,c,?_,by rw[<-et];exact hS⟩
    exact fo (by simp) λj p t e1 e2=>by
     rw[WZ]at e1 e2;cases q:ts[j]? with
     |none=>rw[q]at e1;cases e1
     |some T=>rw[q]at e1 e2;cases e1;cases e2;rfl
   .rw[ag e]at hu;rcases pU hu with q|⟨j,p,q1,q2,q3⟩
    .rw[F4 b hb]at q;cases q
    .subst q3;obtain⟨x,y,g1,g2,g3⟩:=rel j p b q2 q1;exact⟨by show 2<=Xe;decide,[x,y],0,.cons g2 (.cons g3 .nil),g1⟩
 refine⟨.ref h'.objs.size,_,I3,D?,q h'.objs.size ts _ (λb o e=>?_) Bf ac ?_⟩
 .have hb:=I2.hok.lt e;rw[ag (XA (Nat.lt_trans hb E9)),lM]
  .exact e
  .exactλm=>g! (Nat.lt_trans hb E9) (Nat.not_lt.mpr (Jk b m))
 .refine fo AD.symm λj p T hp hT=>?_;rw[ag (show T≠h'.objs.size fromλe=>Jj (by rw[<-e];exact WT hT))];exact Tc j p T hp hT
end
section
variable{κ:Type}[DecidableEq κ]
def aH(f':List (κ×V))(k:κ):Option V:=(f'.find? λkv=>decide (kv.1=k)).map (·.2)
def putK(f':List (κ×V))(k:κ)(v:V):List (κ×V) :=
 if(f'.any λkv=>decide (kv.1=k))=C? then f'.map (λkv=>if kv.1=k then(kv.1,v)else kv)else f'++[(k,v)]
theorem bD{p:κ×V}{r:List (κ×V)}{k:κ}(e:p.1=k):aH (p::r) k=A? p.2:=by simp[aH,ZO,e]
theorem bE{p:κ×V}{r:List (κ×V)}{k:κ}(e:¬p.1=k):aH (p::r) k=aH r k:=by simp[aH,ZO,e]
theorem eK(k:κ):∀f':List (κ×V),(f'.any λkv=>decide (kv.1=k))=(aH f' k).isSome
 | []=>rfl
 | p::r=>by
   rw[List.any_cons];by_cases e:p.1=k
   .simp only[bD e,d! e,Bool.true_or,Option.isSome_some]
   .rw[bE e,c! e,Bool.false_or];exact eK k r
theorem qH(k j:κ)(y:V):∀f':List (κ×V),aH (f'.map λkv=>if kv.1=k then(kv.1,y)else kv) j=(aH f' j).map λx=>if j=k then y else x
 | []=>rfl
 | p::r=>by
   have ih:=qH k j y r;rw[Xr];by_cases h:p.1=k
   .rw[b! h];by_cases e:p.1=j
    .rw[bD (p:=(p.1,y)) e,bD e,Option.map_some,b! (e.symm.trans h)]
    .rw[bE (p:=(p.1,y)) e,bE e,ih]
   .rw[a! h];by_cases e:p.1=j
    .rw[bD (p:=p) e,bD e,Option.map_some,a! (λz=>h (e.trans z))]
    .rw[bE (p:=p) e,bE e,ih]
theorem mV(k j:κ)(y:V):∀f':List (κ×V),aH f' k=B?->aH (f'++[(k,y)]) j=if j=k then A? y else aH f' j
 | [],_=>by
   by_cases e:k=j
   .rw[b! e.symm];exact bD (p:=(k,y)) e
   .rw[a! (λz=>e z.symm)];exact bE (p:=(k,y)) e
 | p::r,hn=>by
   rw[Yn];have hk:¬p.1=k:=λz=>by rw[bD z]at hn;cases hn
   rw[bE hk]at hn;have ih:=mV k j y r hn;by_cases e:p.1=j
   .rw[bD e,bD e,a! (λz=>hk (e.trans z))]
   .rw[bE e,bE e,ih]
theorem fq(f':List (κ×V))(k j:κ)(y:V):aH (putK f' k y) j=if j=k then A? y else aH f' j:=by
 unfold putK;by_cases a:(f'.any λkv=>decide (kv.1=k))=C?
 .rw[b! a,qH];rw[eK]at a;by_cases e:j=k
  .obtain⟨x,hx⟩:=Z0.mp a;rw[b! e,e,hx,Option.map_some,b! rfl]
  .rw[a! e];cases aH f' j with
   |none=>rfl
   |some x=>rw[Option.map_some,a! e]
 .rw[a! a];refine mV k j y f' ?_;rw[eK]at a;cases q:aH f' k with
  |none=>rfl
  |some x=>rw[q]at a;exact(a rfl).elim
theorem bt(f':List (κ×V))(k:κ)(v:V):(putK f' k v).length<=f'.length+1:=by
 unfold putK;split
 .rw[WO];lia
 .rw[Xg,W2,List.length_nil];lia
theorem i6{f':List (κ×V)}{k:κ}(v:V)(h:aH f' k=B?):putK f' k v=f'++[(k,v)]:=by
 unfold putK;rw[eK,h];exact a! (by decide)
theorem RelO.isSome_eq{o:Option V}{u:Option WU}(r:RelO o u):o.isSome=u.isSome:=by
 cases o with
 | none=>cases u with
   |none=>rfl
   |some _=>exact(show False from r).elim
 | some _=>cases u with
   |none=>exact(show False from r).elim
   |some _=>rfl
theorem RelO.getD{o:Option V}{u:Option WU}{d:V}{d':WU}(r:RelO o u)(rd:RelV d d'):RelV (o.getD d) (u.getD d'):=by
 cases o with
 | none=>cases u with
   |none=>exact rd
   |some _=>exact(show False from r).elim
 | some _=>cases u with
   |none=>exact(show False from r).elim
   |some _=>exact r
theorem KV.val{f':List (κ×V)}{vs:List (κ×WU)}(r:KV f' vs)(k:κ):RelO (aH f' k) (valueAt vs k):=by
 unfold KV at r;induction r with
 |nil=>exact YW
 | @cons p q ps qs h t ih =>
   obtain⟨h1,h2⟩:=h;by_cases e:p.1=k
   .have e':q.1=k:=h1.symm.trans e;have b:valueAt (q::qs) k=A? q.2:=by simp[valueAt,ZO,e']
    rw[bD e,b];exact h2
   .have e':¬q.1=k:=λz=>e (h1.trans z);have b:valueAt (q::qs) k=valueAt qs k:=by simp[valueAt,ZO,e']
    rw[bE e,b];exact ih
theorem KV.any{f':List (κ×V)}{vs:List (κ×WU)}(r:KV f' vs)(k:κ):(f'.any λkv=>decide (kv.1=k))=vs.any λkv=>decide (kv.1=k):=by
 unfold KV at r;induction r with
 |nil=>rfl
 |cons h t ih=>rw[List.any_cons,List.any_cons,ih,h.1]
theorem KV.repl{f':List (κ×V)}{vs:List (κ×WU)}(r:KV f' vs)(k:κ)(ry:RelV y u) :
 KV (f'.map λkv=>if kv.1=k then(kv.1,y)else kv) (vs.map λkv=>if kv.1=k then(kv.1,u)else kv):=by
 unfold KV at r |-;induction r with
 |nil=>exact .nil
 | @cons p q ps qs h t ih =>
   rw[Xr,Xr];refine .cons ?_ ih;obtain⟨h1,h2⟩:=h;by_cases e:p.1=k
   .rw[b! e,b! (h1.symm.trans e)];exact⟨h1,ry⟩
   .rw[a! e,a! (λz=>e (h1.trans z))];exact⟨h1,h2⟩
theorem KV.put{f':List (κ×V)}{vs:List (κ×WU)}(r:KV f' vs)(k:κ)(ry:RelV y u):KV (putK f' k y) (stored vs k u):=by
 unfold putK stored;rw[r.any k];by_cases e:(vs.any λkv=>decide (kv.1=k))=C?
 .rw[b! e,b! e];exact r.repl k ry
 .rw[a! e,a! e];exact Paired.snoc r ⟨rfl,ry⟩
theorem KV.length{f':List (κ×V)}{vs:List (κ×WU)}(r:KV f' vs):f'.length=vs.length:=W4 r
end
theorem jU{k:Key}(r:RelV (kV k) u):(ao P w).is k u=true:=by
 cases k with
 |inl i=>obtain⟨t,e⟩:=(show∃t,u=Value.int i t from r);subst e;exact pV P w i t
 |inr x=>obtain⟨t,e⟩:=(show∃t,u=Value.str x t from r);subst e;exact pN P w x t
theorem mW:∀{ks:List Key}{us:List WU},Vals (ks.map kV) us->ItemsAre (ao P w) ks us
 | [],_,r=>by rw[Y2]at r;cases r;exact .nil
 | k::ks,_,r=>by
   rw[Xr]at r;cases r with
   |cons h t=>exact .cons (jU h) (mW t)
abbrev KTd(H:Hp):List (List Key×V)->List (List Key×WS×WU)->Prop:=Xs λp q=>p.1=q.1/\H q.2.1=A? (.tup (p.1.map kV))/\RelV p.2 q.2.2
theorem KTd.val{f':List (List Key×V)}{xs:List (List Key×WS×WU)}(r:KTd H f' xs)(k:List Key):RelO (aH f' k) ((atKey xs k).map (·.2)):=by
 induction r with
 |nil=>exact YW
 | @cons p q ps qs h t ih =>
   obtain⟨h1,_,h2⟩:=h;by_cases e:p.1=k
   .have e':q.1=k:=h1.symm.trans e;have b:atKey (q::qs) k=A? q.2:=by simp[atKey,ZO,e']
    rw[bD e,b];exact h2
   .have e':¬q.1=k:=λz=>e (h1.trans z);have b:atKey (q::qs) k=atKey qs k:=by simp[atKey,ZO,e']
    rw[bE e,b];exact ih
theorem KTd.repl{f':List (List Key×V)}{xs:List (List Key×WS×WU)}(r:KTd H f' xs)(k:List Key)(ry:RelV y u) :
 KTd H (f'.map λkv=>if kv.1=k then(kv.1,y)else kv) (xs.map (putAt k u)):=by
 induction r with
 |nil=>exact .nil
 | @cons p q ps qs h t ih =>
   rw[Xr,Xr];refine .cons ?_ ih;obtain⟨h1,h2,h3⟩:=h;unfold putAt;by_cases e:p.1=k
   .rw[b! e,b! (h1.symm.trans e)];exact⟨h1,h2,ry⟩
   .rw[a! e,a! (λz=>e (h1.trans z))];exact⟨h1,h2,h3⟩
theorem KTd.put{f':List (List Key×V)}{xs:List (List Key×WS×WU)}(r:KTd H f' xs)(k:List Key)(hb:H b=A? (.tup (k.map kV)))(ry:RelV y u) :
 KTd H (putK f' k y) (storedH xs k b u):=by
 have e:(f'.any λkv=>decide (kv.1=k))=(atKey xs k).isSome:=by
  rw[eK,(r.val k).isSome_eq,Option.isSome_map]
 unfold putK storedH;rw[e];by_cases q:(atKey xs k).isSome=C?
 .rw[b! q,b! q];exact r.repl k ry
 .rw[a! q,a! q];exact Paired.snoc r ⟨rfl,hb,ry⟩
theorem KTd.keeps{f':List (List Key×V)}{xs:List (List Key×WS×WU)}(r:KTd H f' xs)(ht:∀b ys,H b=A? (.tup ys)->H' b=A? (.tup ys)):KTd H' f' xs :=
 Xs.mapP r λ_ _ z=>⟨z.1,ht _ _ z.2.1,z.2.2⟩
theorem zr{u:HO}(ok:HOk P w H h)(e:Rd H a u):ObjOk P w H h a u:=e.ok ok
theorem nE{f':List (Key×V)}(ok:HOk P w H h)(e:Rd H a (.dK f')):f'.length<=Xe/\(a == YO)=CU/\∃vs,KV f' vs/\h.DictOf (ao P w) a vs :=
 show ObjOk P w H h a (.dK f')from zr ok e
theorem yZ{f':List (Key×V)}(ok:HOk P w H h)(e:H a=A? (.dK f')):f'.length<=Xe/\(a == YO)=CU/\∃vs,KV f' vs/\h.DictOf (ao P w) a vs:=nE ok (.inl e)
theorem fB{ks:List Key}(ok:HOk P w H h)(e:H a=A? (.tup (ks.map kV))):(tupleKind (ao P w)).is h ks a:=by
 obtain⟨_,its,n,r,h1⟩:=(show ObjOk P w H h a (.tup (ks.map kV))from ok a _ e);exact⟨_,its.toArray,n,h1,D?,D?,by simpa using mW r⟩
theorem m7{f':List (List Key×V)}(ok:HOk P w H h)(e:Rd H a (.dT f')):f'.length<=Xe/\(a == YO)=CU /\
 ∃xs,KTd H f' xs/\h.DictOfH (tupleKind (ao P w)) a xs:=by
 obtain⟨z,y,xs,r,o,es,ep,h1,h2,h3,h4,h5⟩:=(show ObjOk P w H h a (.dT f')from zr ok e);refine⟨z,y,xs,r,o,es,ep,h1,h2,h3,h4,λx hx=>?_,h5⟩
 have all:∀{l:List (List Key×V)}{m:List (List Key×WS×WU)},KTd H l m->∀x∈m,(tupleKind (ao P w)).is h x.1 x.2.1:=by
  intro l m q;induction q with
  |nil=>intro x hx;exact nomatch hx
  | @cons p q ps qs hq t ih =>
    intro x hx;rcases W7.mp hx with e|hx
    .subst e;exact fB ok (by rw[<-hq.1];exact hq.2.1)
    .exact ih x hx
 exact all r x hx
theorem pL{f':List (List Key×V)}(ok:HOk P w H h)(e:H a=A? (.dT f')):f'.length<=Xe/\(a == YO)=CU /\
 ∃xs,KTd H f' xs/\h.DictOfH (tupleKind (ao P w)) a xs:=m7 ok (.inl e)
def DGet(H:Hp)(a:WS)(y:V)(r:Option V):Prop :=
 (∃f' k,Rd H a (.dK f')/\y=kV k/\r=aH f' k)\/∃f' k b,Rd H a (.dT f')/\y=.ref b/\H b=A? (.tup (k.map kV))/\r=aH f' k
def DPut(H:Hp)(a:WS)(y v:V)(H':Hp):Prop :=
 (∃f' k,H a=A? (.dK f')/\y=kV k/\f'.length<Xe/\H'=upd H a (.dK (putK f' k v))) \/
 ∃f' k b,H a=A? (.dT f')/\y=.ref b/\H b=A? (.tup (k.map kV))/\f'.length<Xe/\H'=upd H a (.dT (putK f' k v))
theorem DGet.k{f':List (Key×V)}{k:Key}(e:H a=A? (.dK f')):DGet H a (kV k) (aH f' k):=.inl ⟨f',k,.inl e,rfl,rfl⟩
theorem DGet.t{f':List (List Key×V)}{k:List Key}(e:H a=A? (.dT f'))(eb:H b=A? (.tup (k.map kV))):DGet H a (.ref b) (aH f' k):=.inr ⟨f',k,b,.inl e,rfl,eb,rfl⟩
theorem DPut.t{f':List (List Key×V)}{k:List Key}(e:H a=A? (.dT f'))(eb:H b=A? (.tup (k.map kV)))(hl:f'.length<Xe) :
 DPut H a (.ref b) v (upd H a (.dT (putK f' k v))):=.inr ⟨f',k,b,e,rfl,eb,hl,rfl⟩
section
variable{X:Cx}{r:WU}{o:Option V}
theorem Inv.big(I:Inv X Z Y H s):YO<s.1.1.size:=by
 have h:Yl<s.1.1.size:=(I.mod.glob.keeps I.bk).lt;exact Nat.lt_trans (by decide) h
theorem nB(hu:A.units+1<YH)(I:Inv X Z Y H s)(g:DGet H a y (A? v))(ry:RelV y u)(h:∀w' s',Inv X Z Y H s'->RelV v w'->Q w' s') :
 W9 (Xv X.prog X.w) A (getItem (.ref a) u) Q E s:=by
 rcases g with⟨f',k,e,ey,l⟩|⟨f',k,b,e,ey,eb,l⟩
 .subst ey;obtain⟨z,hd,vs,rel,dd⟩:=nE I.hok e;obtain⟨w',hw,Cm⟩:=RelO.some_of (v:=v) (o:=valueAt vs k) (by rw[l];exact rel.val k);exact wpAny_getItem_of (jU ry) dd.mapOf hw (h w' _ (I.tok _) Cm)
 .subst ey;cases(show u=Xm b from ry);obtain⟨z,hd,xs,rel,dd⟩:=m7 I.hok e;obtain⟨w',hw,Cm⟩:=RelO.some_of (v:=v) (o:=(atKey xs k).map (·.2)) (by rw[l];exact rel.val k);obtain⟨p,hp,BL⟩:=XD.mp hw;refine wpAny_getItem_heap (tupleKind_room_in1 hu) (fB I.hok eb) dd hp ?_;rw[BL];exact h w' _ (I.tok _) Cm
theorem abk(hu:A.units+1<YH)(I:Inv X Z Y H s)(g:DGet H a y o)(ry:RelV y u)(h:∀s',Inv X Z Y H s'->Q (.bool o.isSome) s') :
 W9 (Xv X.prog X.w) A (compareOp .In u (.ref a)) Q E s:=by
 rcases g with⟨f',k,e,ey,l⟩|⟨f',k,b,e,ey,eb,l⟩
 .subst ey;obtain⟨z,hd,vs,rel,dd⟩:=nE I.hok e;refine wpAny_in_of (jU ry) hd dd.mapOf ?_;rw[<-(rel.val k).isSome_eq,<-l];exact h _ (I.tok _)
 .subst ey;cases(show u=Xm b from ry);obtain⟨z,hd,xs,rel,dd⟩:=m7 I.hok e;refine wpAny_in_heap (tupleKind_room_in1 hu) (fB I.hok eb) hd dd ?_;have q:=(rel.val k).isSome_eq;rw[Option.isSome_map]at q;rw[<-q,<-l];exact h _ (I.tok _)
theorem fN{ob:HO}(I:Inv X Z Y H s)(mu:Mut (H a))(hs:YD a s.1 h')(he:∃q,h'.get? a=A? q)(new:ObjOk X.prog X.w (upd H a ob) h' a ob) :
 Inv X Z Y (upd H a ob) {s with heap:=h',toks:=t'} :=
 I.write (x:=a) (e:=a) mu (.inl rfl) (λb q hb z=>(hs.2 b hb).trans z) he new
theorem vO{f':List (Key×V)}{vs:List (Key×WU)}(z:f'.length<=Xe)(hd:(a == YO)=CU)(rel:KV f' vs)(dd:h'.DictOf (ao P w) a vs) :
 ObjOk P w H' h' a (.dK f'):=⟨z,hd,vs,rel,dd⟩
theorem vd{Q:Unit->WY->Prop}(hu:A.units+1<YH)(I:Inv X Z Y H s)(g:DPut H a y v H')(ry:RelV y u)(rv:RelV v r)(h:∀s',Inv X Z Y H' s'->Q () s') :
 W9 (Xv X.prog X.w) A (setItem (.ref a) u r) Q E s:=by
 rcases g with⟨f',k,e,ey,l,eH⟩|⟨f',k,b,e,ey,eb,l,eH⟩
 .subst ey eH;obtain⟨z,hd,vs,rel,dd⟩:=yZ I.hok e;have hz:vs.length<=Xe:=by rw[<-rel.length];exact z
  have hl:(putK f' k v).length<=Xe:=by have:=bt f' k v;lia
  refine wpAny_setItem_pairs (hsz:=hz) (jU ry) dd λh' C7 hs=>h _ ?_;have he:∃q,h'.get? a=A? q:=let⟨q,_,_,hq,_⟩:=C7;⟨q,hq⟩
  exact fN I (by rw[e];exact YW) hs he (vO hl hd (rel.put k rv) C7)
 .subst ey eH;cases(show u=Xm b from ry);obtain⟨z,hd,xs,rel,dd⟩:=pL I.hok e;have hz:xs.length<=Xe:=by rw[<-W4 rel];exact z
  have hl:(putK f' k v).length<=Xe:=by have:=bt f' k v;lia
  refine wpAny_setItem_heap (hsz:=hz) (tupleKind_room_in1 hu) (fB I.hok eb) dd λh' C7 hs=>h _ ?_;obtain⟨q,es,ep,hq,h2,h3,h4,_,h5⟩:=C7;refine fN I (by rw[e];exact YW) hs ⟨q,hq⟩ ⟨hl,hd,_,(rel.put k eb rv).keeps λc ys ec=>?_,q,es,ep,hq,h2,h3,h4,h5⟩;rw[ag (eJ ec e (λz=>nomatch z))];exact ec
end
section
variable{X:Cx}{f':List (Key×V)}{k:Key}
end
def yU(i:X6):Prop:=∀ov iv,subscripted i CU ov iv=operate [ov,iv] (getItem ov iv)
theorem oh{value slice:X6}{T id:String}
 (hl:typeLookup (.type T) "__getitem__"=pure (A? (.builtin id))) (hs:yU slice)
 (h:W9 (Xv prog w) A (Y4 value env) (λo Ab=>W9 (Xv prog w) A (Y4 slice env) (λi AG=>AG.TypeIs o T/\W9 (Xv prog w) A (getItem o i) Q E AG) E Ab) E s) :
 W9 (Xv prog w) A (Y4 (.Subscript value slice pos) env) Q E s:=by
 refine Subscript_ (Y9 h (λo Ab Am=>Y9 Am (λi AG A7=>?_) λ_ _ x=>x) λ_ _ x=>x);obtain⟨hT,A7⟩:=A7;unfold subscriptTail;refine WN ?_;rw[getitemInPython_of_ne hT.not_modules];refine WN (Yq hT hl ?_)
 have fin:W9 (Xv prog w) A (subscripted slice CU o i) (λr BY=>W9 (Xv prog w) A (letTemporaryGo value o r >>= λ_=>pure r) Q E BY) E AG:=by
  rw[hs o i];exact wpAny_operating (Y9 A7 (λr BY Cq=>WN (wpAny_letTemporaryGo (WW Cq))) λ_ _ x=>x)
 first
  |exact WW (WN fin)
  |exact WN (WW (WN fin))
  |exact WN fin
theorem j7{X:Cx}{o:Option V}(I:Inv X Z Y H s)(g:DGet H a y o):s.TypeIs (.ref a) "dict":=by
 rcases g with⟨f',k,e,_,_⟩|⟨f',k,b,e,_,_,_⟩
 .obtain⟨_,_,vs,_,dd⟩:=nE I.hok e;exact dd.typeIs
 .obtain⟨_,_,xs,_,dd⟩:=m7 I.hok e;exact dd.typeIs
def aaT(td ty:TE):TE:=λY H Q=>td Y H λx H1=>ty Y H1 λy H2=>∃a v,x=.ref a/\DGet H2 a y (A? v)/\Q v H2
def abM(ty td:TE):TE:=λY H Q=>ty Y H λy H1=>td Y H1 λx H2=>∃a o,x=.ref a/\DGet H2 a y o/\Q (.bl o.isSome) H2
def aba(td ty tv:TE):TS:=λD Y H=>tv Y H λv H1=>td Y H1 λx H2=>ty Y H2 λy H3=>∃a H4,x=.ref a/\DPut H3 a y v H4/\D.nx Y H4
section
variable{X:Cx}{o i value:X6}{IJ:Z4}{td ty tv:TE}
theorem oU(hu:X.A.units+1<YH)(ho:PE X o td)(hi:PE X i ty)(hs:yU i):PE X (.Subscript o i pos) (aaT td ty):=by
 intro Z s Y H Q I h;refine oh PySem.F.slot_dict_getitem.lookup hs (thn (ho Z s Y H _ I h) λu s1⟨x,H1,I1,rx,q1⟩=>thn (hi Z s1 Y H1 _ I1 q1) λiv s2⟨y,H2,I2,ry,a,v,ex,g,q2⟩=>?_);subst ex;obtain rfl:u=Xm a:=rx;exact⟨j7 I2 g,nB hu I2 g ry λw' s3 I3 Cm=>⟨v,H2,I3,Cm,q2⟩⟩
theorem zL(hu:X.A.units+1<YH)(hi:PE X i ty)(ho:PE X o td):PC X .In i o (abM ty td):=by
 intro Z s Y H Q I h;refine thn (hi Z s Y H _ I h) λiv s1⟨y,H1,I1,ry,q1⟩=>thn (ho Z s1 Y H1 _ I1 q1) λu s2⟨x,H2,I2,rx,a,ov,ex,g,q2⟩=>?_;subst ex;obtain rfl:u=Xm a:=rx;exact abk hu I2 g ry λs3 I3=>⟨.bl ov.isSome,H2,I3,rfl,q2⟩
theorem tV(hu:X.A.units+1<YH)(ho:PE X o td)(hi:PE X i ty)(hv:PE X value tv)(hs:swapsWith value (A? (.Subscript o i pos')) pos.line X.env=pure CU) :
 PS X (.Assign [.Subscript o i pos'] value pos) (aba td ty tv):=by
 intro Z s Y H D I h;refine wpAny_Assign_Subscript (thn (hv Z s Y H _ I h) λr s1⟨v,H1,I1,rv,q1⟩=>thn (ho Z s1 Y H1 _ I1 q1) λu s2⟨x,H2,I2,rx,q2⟩=>thn (hi Z s2 Y H2 _ I2 q2) λiv s3⟨y,H3,I3,ry,a,H4,ex,g,q3⟩=>?_) hs;subst ex;obtain rfl:u=Xm a:=rx;exact vd hu I3 g ry rv λs4 I4=>⟨Y,H4,I4,q3⟩
end
theorem qp(h:Yd)(hb:YO<h.objs.size):ObjOk P w H (h.push {cls:=.type "dict",data:=.dict #[]}) h.objs.size (.dK []) :=
 ⟨Xh _,beq_eq_false_iff_ne.mpr (YT (XA hb)),[],.nil,Heap.DictOf.new h⟩
theorem p8(h:Yd)(hb:YO<h.objs.size):ObjOk P w H (h.push {cls:=.type "dict",data:=.dict #[]}) h.objs.size (.dT []) :=
 ⟨Xh _,beq_eq_false_iff_ne.mpr (YT (XA hb)),[],.nil,_,#[],0,W3 _ rfl,⟨rfl,rfl,rfl⟩,rfl,rfl,List.nodup_nil⟩
def zW:TE:=λ_ H Q=>∀p,H p=B?->Q (.ref p) (upd H p (.dK []))
def zN:TE:=λ_ H Q=>∀p,H p=B?->Q (.ref p) (upd H p (.dT []))
section
variable{X:Cx}
theorem xG:PE X (.Dict [] [] pos) zW:=λZ s Y H Q I h =>
 wpAny_Dict_empty ⟨.ref s.1.1.size,_,I.laid (a:=s.1.1.size) (o:=.dK []) (t':=s.toks) (λ_ _ q=>WV _ q) (WX _) (qp s.1 I.big),rfl,h _ (I.hok.fresh (WX _))⟩
theorem kN:PE X (.Dict [] [] pos) zN:=λZ s Y H Q I h =>
 wpAny_Dict_empty ⟨.ref s.1.1.size,_,I.laid (a:=s.1.1.size) (o:=.dT []) (t':=s.toks) (λ_ _ q=>WV _ q) (WX _) (p8 s.1 I.big),rfl,h _ (I.hok.fresh (WX _))⟩
end
def rQ:List (TE×TE)->St->Hp->(List (V×V)->Hp->Prop)->Prop
 | [],_,H,Q=>Q [] H
 |(tk,tv)::r,Y,H,Q=>tk Y H λx H1=>tv Y H1 λy H2=>rQ r Y H2 λps H3=>Q ((x,y)::ps) H3
abbrev VV:List (V×V)->List (WU×WU)->Prop:=Xs λp q=>RelV p.1 q.1/\RelV p.2 q.2
def PPs(X:Cx)(pos:Z4)(keys:List (Option X6))(values:List X6)(E':List (TE×TE)):Prop :=
 ∀(Z:List (WS×Zc))(s:WY)(Y:St)(H:Hp)(Q:List (V×V)->Hp->Prop),Inv X Z Y H s->rQ E' Y H Q ->
   W9 (Xv X.prog X.w) X.A (evalPairs (pairTrees keys values X.env pos)) (λvs s'=>∃ps H',Inv X Z Y H' s'/\VV ps vs/\Q ps H') X.xe s
theorem tT{X:Cx}:PPs X pos [] [] []:=λZ s Y H Q I h=>pairTrees_nil_walk ⟨[],H,I,.nil,h⟩
theorem p6{X:Cx}{k v:X6}{ks:List (Option X6)}{vs:List X6}{tk tv:TE}{E':List (TE×TE)}(hk:PE X k tk)(hv:PE X v tv)(hr:PPs X pos ks vs E') :
 PPs X pos (A? k::ks) (v::vs) ((tk,tv)::E'):=λZ s Y H Q I h =>
 pairTrees_cons_walk (thn (hk Z s Y H _ I h) λu s1⟨x,H1,I1,rx,q1⟩=>thn (hv Z s1 Y H1 _ I1 q1) λw2 s2⟨y,H2,I2,ry,q2⟩ =>
  thn (hr Z s2 Y H2 _ I2 q2) λws s3⟨ps,H3,I3,rel,q3⟩=>⟨(x,y)::ps,H3,I3,.cons ⟨rx,ry⟩ rel,q3⟩)
def jc(f' more:List (Key×V)):List (Key×V):=more.foldl (λacc kv=>putK acc kv.1 kv.2) f'
theorem KV.merge:∀{more:List (Key×V)}{rs:List (Key×WU)}{f':List (Key×V)}{vs:List (Key×WU)},KV more rs->KV f' vs->KV (jc f' more) (merged vs rs):=by
 intro more rs f' vs r;unfold KV at r;induction r generalizing f' vs with
 |nil=>intro q;exact q
 | @cons p q ps qs h t ih =>
   intro r0
   have e:KV (putK f' p.1 p.2) (stored vs q.1 q.2):=by
    have:=r0.put p.1 h.2;rw[<-h.1];exact this
   exact ih e
theorem gZ:∀(more f':List (Key×V)),(jc f' more).length<=f'.length+more.length
 | [],f'=>by show f'.length<=f'.length+0;lia
 | p::r,f'=>by
   have h1:=gZ r (putK f' p.1 p.2);have h2:=bt f' p.1 p.2;show(jc (putK f' p.1 p.2) r).length<=_;rw[W2];lia
theorem l8{P:W6}{w:Xo}:∀{f':List (Key×V)}{ws:List (WU×WU)},VV (f'.map λkv=>(kV kv.1,kv.2)) ws->∃rs,Carries (ao P w) ws rs/\KV f' rs
 | [],_,r=>by rw[Y2]at r;cases r;exact⟨[],YW,.nil⟩
 | p::f',_,r=>by
   rw[Xr]at r;cases r with
   | @cons a b as bs h t =>
     obtain⟨rs,c,q⟩:=l8 (P:=P) (w:=w) t;obtain⟨b1,b2⟩:=b;exact⟨(p.1,b2)::rs,⟨jU h.1,D?,c⟩,.cons ⟨D?,h.2⟩ q⟩
def aa7(E':List (TE×TE)):TE:=λY H Q=>∀p,H p=B?->rQ E' Y (upd H p (.dK [])) λps H2=>H2 p=A? (.dK [])/\∃f':List (Key×V),ps=f'.map (λkv=>(kV kv.1,kv.2))/\f'.length<=15/\Q (.ref p) (upd H2 p (.dK (jc [] f')))
theorem uf{X:Cx}{keys:List (Option X6)}{values:List X6}{E':List (TE×TE)}(h:PPs X pos keys values E')(Ac:keys.all (·.isSome)=C?)(hl:keys.length=values.length)(h0:keys≠[])
 (Td:keys.length<=15):PE X (.Dict keys values pos) (aa7 E'):=by
 intro Z s Y H Q I q;have hn:=I.hok.fresh (WX s.1.1.size);have I1:=I.laid (a:=s.1.1.size) (o:=.dK []) (h':=s.1.push {cls:=.type "dict",data:=.dict #[]}) (t':=s.toks) (λ_ _ q=>WV _ q) (WX _) (qp s.1 I.big);refine wpAny_Dict_walk (knd:=ao X.prog X.w) Ac hl h0 Td (thn (h Z _ Y _ _ I1 (q _ hn)) λws s2⟨ps,H2,I2,rel,e,f',ep,lk,q2⟩=>?_);subst ep;obtain⟨rs,c,rk⟩:=l8 (P:=X.prog) (w:=X.w) rel;obtain⟨z,hd,We,r0,dd⟩:=yZ I2.hok e;cases r0;refine⟨rs,c,dd,λh' C7 hs=>⟨.ref s.1.1.size,_,?_,D?,q2⟩⟩
 have hz:(jc [] f').length<=Xe:=by
  have h1:=gZ f' [];rw[List.length_nil]at h1;rw[sizeLine_eq];lia
 have he:∃q,h'.get? s.1.1.size=A? q:=let⟨q,_,_,hq,_⟩:=C7;⟨q,hq⟩
 exact fN I2 (by rw[e];exact YW) hs he (vO hz hd (rk.merge .nil) C7)
structure M2(X:Cx)(o:X6)(m:Xk)(apos:Z4)(e f:X6)(Aq:Z4):Prop where
 base:attributeBase o m X.env (Y4 o X.env)=Y4 o X.env
 few:((Z2 Aq (XH [e,f] X.env)).all (λx=>!x.1) && (backToKw Aq (keywordEach [] X.env)).all (λx=>x.1.isSome)
  && decide (([e,f]:List X6).length+([]:List Keyword).length+(if([]:List Keyword).isEmpty then 0 else 1)<30))=C?
 line:(apos.endLine == Aq.line)=C?
 trees:Z2 Aq (XH [e,f] X.env)=[(CU,Y4 e X.env),(CU,Y4 f X.env)]
def IsD(H:Hp)(a:WS):Prop:=(∃f',Rd H a (.dK f'))\/∃f',Rd H a (.dT f')
theorem aam{X:Cx}(I:Inv X Z Y H s)(d:IsD H a) :
 s.TypeIs (.ref a) "dict"/\(∀b,Xm a=.ref b->∃ob,s.1.get? b=A? ob/\ob.dict=B?)/\(a == YO)=false:=by
 rcases d with⟨f',e⟩|⟨f',e⟩
 .obtain⟨_,hd,vs,_,dd⟩:=nE I.hok e;refine⟨dd.typeIs,λb q=>?_,hd⟩;cases q;obtain⟨ob,_,_,h1,h2,_⟩:=dd;exact⟨ob,h1,h2.2.1⟩
 .obtain⟨_,hd,xs,_,dd⟩:=m7 I.hok e;refine⟨dd.typeIs,λb q=>?_,hd⟩;cases q;obtain⟨ob,_,_,h1,h2,_⟩:=dd;exact⟨ob,h1,h2.2.1⟩
section
variable{X:Cx}{d:V}{r:WU}{o:Option V}
theorem aax(hu:A.units+1<YH)(I:Inv X Z Y H s)(g:DGet H a y o)(ry:RelV y u)(rd:RelV d r)(h:∀w' s',Inv X Z Y H s'->RelV (o.getD d) w'->Q w' s') :
 W9 (Xv X.prog X.w) A (call (.builtin "dict.get") [.ref a,u,r]) Q E s:=by
 rcases g with⟨f',k,e,ey,l⟩|⟨f',k,b,e,ey,eb,l⟩
 .subst ey;obtain⟨z,hd,vs,rel,dd⟩:=nE I.hok e;refine call_meetsIn PySem.F.slot_dict_get dd.typeIs PySem.F.entry_dict_get (PySem.F.args_dict_get_3 _ _ _) (meets_dict_get_default (ao X.prog X.w) a (jU ry) hd r) ⟨_,dd.mapOf,h _ _ (I.tok _) ?_⟩;rw[l];exact(rel.val k).getD rd
 .subst ey;cases(show u=Xm b from ry);obtain⟨z,hd,xs,rel,dd⟩:=m7 I.hok e;refine call_meetsIn PySem.F.slot_dict_get dd.typeIs PySem.F.entry_dict_get (PySem.F.args_dict_get_3 _ _ _) (meetsH_dict_get_default (tupleKind (ao X.prog X.w)) a b hd r) ⟨tupleKind_room_in1 hu,k,xs,fB I.hok eb,dd,h _ _ (I.tok _) ?_⟩;rw[l];exact(rel.val k).getD rd
end
def wa(td ty tx:TE):TE:=λY H Q=>td Y H λx H1=>∃a,x=.ref a/\IsD H1 a/\ty Y H1 λy H2=>tx Y H2 λz H3=>∃o,DGet H3 a y o/\Q (o.getD z) H3
section
variable{X:Cx}{o f:X6}{apos Aq:Z4}{td ty tx:TE}
theorem xx(hu:X.A.units+1<YH)(ho:PE X o td)(he:PE X e ty)(hf:PE X f tx)(m:M2 X o "get" apos e f Aq):PE X (.Call (.Attribute o "get" apos) [e,f] [] Aq) (wa td ty tx):=by
 intro Z s Y H Q I h;refine wpAny_Call_method m.base m.few m.line PySem.F.plainAttrs_dict PySem.F.slot_dict_get PySem.F.type_dict_get (thn (ho Z s Y H _ I h) λu s1⟨x,H1,I1,rx,a,ex,d,q1⟩=>?_);subst ex;obtain rfl:u=Xm a:=rx;obtain⟨t1,t2,_⟩:=aam I1 d;refine⟨t1,t2,?_⟩;rw[m.trees]
 refine Calls.callWith_builtin rfl (Calls.evalArgs_plain (YK (thn (he Z s1 Y H1 _ I1 q1) λiv s2⟨y,H2,I2,ry,q2⟩ =>
  YK (thn (hf Z s2 Y H2 _ I2 q2) λfv s3⟨z,H3,I3,rz,ov,g,q3⟩=>Zh ?_))))
 exact aax hu I3 g ry rz λw' s4 I4 Cm=>⟨_,H3,I4,Cm,q3⟩
end
section
variable{X:Cx}{f':List (Key×V)}
end
section
variable{X:Cx}
end
inductive y4(K:WQ)(T:String)(xs:List V)(H:Hp)(Q:VK):Prop
 |mk (x:_) (b:_) (t:_) (CK:xs=[x,.ty T]) (CL:iX K H x t) (D5:PySem.W.kitOne K t (.type T)=A? b) (E1:Q (.bl b) H):y4 K T xs H Q
def abH(K:WQ)(T:String):List V->Hp->VK->Prop:=y4 K T
theorem nN{X:Cx}{T:String}:fz X (.builtin "isinstance") (abH X.K T):=by
 intro Z s Y H xs us Q I r h;obtain⟨x,b,t,e,ty,k,q⟩:=h;exact wU (T:=T) (b:=b) (t:=t) Z s Y H xs us Q I r ⟨x,e,ty,k,q⟩
theorem w9{J:It}(zs:List α)(p:α->Bool)(f:α->V)(hz:zs.length=xs.length)(hn:xs.length<=1000000)
 (E7:∀i H2,Same H H2->i<xs.length->J.go i H2) (Bc:∀H2,Same H H2->J.stop xs.length H2) (B1:∀(i:Nat)H2 x H3,Same H H2->i<xs.length->J.yld i H2 x H3->H3=H2/\xs[i]?=A? x)
 (hb:∀(i:Nat)x z H2(R:VK)(R0:Hp->Prop),xs[i]?=A? x->zs[i]?=A? z->Same H H2->(p z=C?->R (f z) H2)->(p z=CU->R0 H2)->g x (cσ js Y) H2 λAv H3=>tt Av H3 λb H4=>if b=C? then te Av H4 R else R0 H4)
 (q:∀D,H D=B?->fin D (upd H D (.lst ((zs.filter p).map f)))) :
 ∀D,H D=B?->∃(n:Nat)(W:Nat->Hp->Prop),W 0 (upd H D (.lst []))/\gS js g tt te Y J D n W λH'=>fin D H':=by
 intro D hD;refine⟨xs.length,λi H2=>i<=xs.length/\H2=upd H D (.lst (((zs.take i).filter p).map f)),⟨Xh _,by simp⟩,?_⟩;rintro i H2 ⟨hi,rfl⟩;have sm:∀o,Same H (upd H D o):=λo=>ae hD o;by_cases h:i=xs.length
 .left;subst h;refine⟨Bc _ (sm _),?_⟩;rw[<-hz,YB];exact q D hD
 .right;have AY:i<xs.length:=by lia
  refine⟨AY,E7 i _ (sm _) AY,λx H1 hy=>?_⟩;obtain⟨rfl,hx⟩:=B1 i _ x H1 (sm _) AY hy;have MU:i<zs.length:=by lia
  have e1:zs[i]?=A? zs[i]:=WR MU
  have e2:(zs.take (i+1)).filter p=(zs.take i).filter p++(if p zs[i]=C? then[zs[i]]else[]):=by
   rw[Yh,e1,ZC];show _++List.filter p [zs[i]]=_;rw[X0,List.filter_nil]
  have hlen:(((zs.take i).filter p).map f).length<=1000000:=by
   rw[WO];have:=ZF p (zs.take i);rw[XS]at this;lia
  refine hb i x zs[i] _ _ _ hx e1 (sm _) (λhp=>⟨_,ac,Nat.lt_of_le_of_lt hlen (by decide),AY,?_⟩) (λhp=>⟨AY,?_⟩)
  .rw[km,e2,b! hp,Xb];rfl
  .rw[e2,a! (by rw[hp];exact W5),XC]
theorem gX(zs:List α)(p:α->Bool)(f:α->V)(hS:SqL K H a xs)(hz:zs.length=xs.length)(hn:xs.length<=1000000)
 (hb:∀(i:Nat)x z H2(R:VK)(R0:Hp->Prop),xs[i]?=A? x->zs[i]?=A? z->Same H H2->(p z=C?->R (f z) H2)->(p z=CU->R0 H2)->g x (cσ js Y) H2 λAv H3=>tt Av H3 λb H4=>if b=C? then te Av H4 R else R0 H4)
 (q:∀D,H D=B?->fin D (upd H D (.lst ((zs.filter p).map f)))) :
 ∀D,H D=B?->∃(n:Nat)(W:Nat->Hp->Prop),W 0 (upd H D (.lst []))/\gS js g tt te Y (Itl K a) D n W λH'=>fin D H' :=
 w9 zs p f hz hn (λi H2 s hi=>⟨xs,xs[i],s.seq hS,WR hi⟩) (λH2 s=>⟨xs,s.seq hS,WX _⟩) (λi H2 x H3 s hi hy=>⟨hy.1,hy.2 xs (s.seq hS)⟩) hb q
theorem aac:PySem.W.kitOne K (.type "int") (.type "int")=A? true:=rfl
theorem zV:PySem.W.kitOne K (.type "int") (.type "bool")=A? false:=by with_unfolding_all rfl
end L2
namespace BB
open PySem L2
set_option genInjectivity true in
inductive Dv where
 |int (i:Int)
 |str (x:Xk)
 |tup (ds:List Dv)
mutual
def Dv.deep:Dv->Nat
 |.int _=>0
 |.str _=>0
 |.tup ds=>bA ds+1
def bA:List Dv->Nat
 | []=>0
 |d::ds=>max d.deep (bA ds)
end
mutual
def Dv.tot:Dv->Nat
 |.int _=>1
 |.str _=>1
 |.tup ds=>yP ds+1
def yP:List Dv->Nat
 | []=>0
 |d::ds=>d.tot+yP ds
end
mutual
def DAt(H:Hp):Dv->V->Prop
 |.int i,v=>v=.int i
 |.str x,v=>v=.str x
 |.tup ds,v=>∃a vs,v=.ref a/\H a=A? (.tup vs)/\DAts H ds vs
def DAts(H:Hp):List Dv->List V->Prop
 | [],vs=>vs=[]
 |d::ds,vs=>∃v r,vs=v::r/\DAt H d v/\DAts H ds r
end
theorem DAts.nil:DAts H [] []:=by rw[DAts]
theorem DAts.cons{d:Dv}{ds:List Dv}(h1:DAt H d v)(h2:DAts H ds vs):DAts H (d::ds) (v::vs):=by rw[DAts];exact⟨v,vs,D?,h1,h2⟩
theorem DAts.length:∀{ds:List Dv}{vs:List V},DAts H ds vs->vs.length=ds.length
 | [],vs,h=>by rw[DAts]at h;subst h;rfl
 | d::ds,vs,h=>by
   rw[DAts]at h;obtain⟨v,r,rfl,h1,h2⟩:=h;rw[W2,W2,h2.length]
theorem DAts.at:∀{ds:List Dv}{vs:List V}{i:Nat}{d:Dv},DAts H ds vs->ds[i]?=A? d->∃v,vs[i]?=A? v/\DAt H d v
 | [],vs,i,d,h,e=>by simp at e
 | d0::ds,vs,i,d,h,e=>by
   rw[DAts]at h;obtain⟨v,r,rfl,h1,h2⟩:=h;cases i with
   |zero=>simp at e;subst e;exact⟨v,D?,h1⟩
   | succ i =>
     obtain⟨u,g1,g2⟩:=h2.at (i:=i) (by simpa using e);exact⟨u,by simpa using g1,g2⟩
theorem ff:∀{ds:List Dv}{i:Nat}{d:Dv},ds[i]?=A? d->d.deep<=bA ds
 | [],i,d,e=>by simp at e
 | d0::ds,i,d,e=>by
   rw[bA];cases i with
   |zero=>simp at e;subst e;lia
   | succ i =>
     have:=ff (ds:=ds) (i:=i) (by simpa using e);lia
theorem tz:∀{ds:List Dv}{i:Nat}{d:Dv},ds[i]?=A? d->d.tot<=yP ds
 | [],i,d,e=>by simp at e
 | d0::ds,i,d,e=>by
   rw[yP];cases i with
   |zero=>simp at e;subst e;lia
   | succ i =>
     have:=tz (ds:=ds) (i:=i) (by simpa using e);lia
theorem Dv.tot_pos(d:Dv):1<=d.tot:=by
 cases d with
 |int i=>rw[Dv.tot];lia
 |str x=>rw[Dv.tot];lia
 |tup ds=>rw[Dv.tot];lia
mutual
def Th.dv:Th->Dv
 |.knot n ks=>.tup (.str n::dvs ks)
 |.call s k=>.tup [.str q,.int s,.int k]
def dvs:List Th->List Dv
 | []=>[]
 |t::ts=>t.dv::dvs ts
end
mutual
theorem At.dv:∀{t:Th}{a:WS},At H t a->DAt H t.dv (.ref a)
 | .knot n ks,a,h=>by
   rw[At]at h;obtain⟨_,as,h1,h2⟩:=h;rw[Th.dv,DAt];exact⟨a,_,D?,h1,.cons (by rw[DAt]) (Ats.dvs h2)⟩
 | .call s k,a,h=>by
   rw[At]at h;rw[Th.dv,DAt];exact⟨a,_,D?,h,.cons (by rw[DAt]) (.cons (by rw[DAt]) (.cons (by rw[DAt]) .nil))⟩
theorem Ats.dvs:∀{ts:List Th}{as:List WS},Ats H ts as->DAts H (dvs ts) (as.map i!)
 | [],as,h=>by rw[Ats]at h;subst h;rw[BB.dvs];exact .nil
 | t::ts,as,h=>by
   rw[Ats]at h;obtain⟨a,r,rfl,h1,h2⟩:=h;rw[BB.dvs,Xr];exact .cons (At.dv h1) (Ats.dvs h2)
end
mutual
theorem Th.dv_deep:∀t:Th,t.dv.deep<=t.tall
 | .knot n ks=>by
   have:=iT ks;rw[Th.dv,Dv.deep,bA,Dv.deep,u!];lia
 |.call s k=>by rw[Th.dv,u!];simp[Dv.deep,bA]
theorem iT:∀ts:List Th,bA (dvs ts)<=aI ts
 | []=>by rw[dvs,bA];exact Xh _
 | t::ts=>by
   have:=t.dv_deep;have:=iT ts;rw[dvs,bA,aI];lia
end
theorem rP{ys:List V}{Q:VK}(ha:H a=A? (.tup xs))(hb:H b=A? (.tup ys))(hz:xs.length+ys.length<=1000000)(q:∀p H',k! H H'->H' p=A? (.tup (xs++ys))->Q (.ref p) H'):qU K (.ref a) (.ref b) H Q:=by
 refine⟨a,b,xs,ys,D?,D?,o! ha,o! hb,de hz,λe=>?_,λ_ e=>?_,λ_ _ p hp=>?_⟩
 .exact q b H (.refl _) (by rw[e];exact hb)
 .exact q a H (.refl _) (by rw[e,XC];exact ha)
 .exact q p _ (ae hp _) ac
mutual
def Th.pl(pre:List Int):Th->List (List Int×Th)
 |.knot n ks=>(pre,.knot n ks)::pls pre 0 ks
 |.call s k=>[(pre,.call s k)]
def pls(pre:List Int)(i:Int):List Th->List (List Int×Th)
 | []=>[]
 |t::ts=>t.pl (pre++[i])++pls pre (i+1) ts
end
theorem Th.pl_eq(pre:List Int)(t:Th):t.pl pre=(pre,t)::pls pre 0 t.kids:=by
 cases t with
 |knot n ks=>rw[Th.pl];rfl
 |call s k=>rw[Th.pl];simp[K!,pls]
mutual
theorem Th.pl_len(pre:List Int):∀t:Th,(t.pl pre).length=t.size
 |.knot n ks=>by rw[Th.pl,p!,W2,tG pre 0 ks]
 |.call s k=>by rw[Th.pl,p!];rfl
theorem tG(pre:List Int)(i:Int):∀ts:List Th,(pls pre i ts).length=ak ts
 | []=>by rw[pls,ak];rfl
 |t::ts=>by rw[pls,ak,Xg,Th.pl_len _ t,tG pre (i+1) ts]
end
def szP:List (List Int×Th)->Nat
 | []=>0
 |p::ps=>p.2.size+szP ps
def plP:List (List Int×Th)->List (List Int×Th)
 | []=>[]
 |p::ps=>p.2.pl p.1++plP ps
theorem cH:∀a b,szP (a++b)=szP a+szP b
 | [],b=>by simp[szP]
 |p::a,b=>by rw[Yn,szP,szP,cH a b,Z1]
theorem kI(a:List (List Int×Th)):szP a.reverse=szP a:=by
 induction a with
 |nil=>rfl
 |cons x xs ih=>rw[X7,cH,ih,szP,szP,szP];lia
theorem lw:∀a b,plP (a++b)=plP a++plP b
 | [],b=>by simp[plP]
 |p::a,b=>by rw[Yn,plP,plP,lw a b,XG]
theorem tF:∀a,(plP a).length=szP a
 | []=>rfl
 |p::a=>by rw[plP,szP,Xg,Th.pl_len,tF a]
theorem oB:∀a,a.length<=szP a
 | []=>Xh _
 | p::a=>by
   have:=p.2.size_pos;have:=oB a;rw[W2,szP];lia
def cU(pre:List Int)(i:Int):List Th->List (List Int×Th)
 | []=>[]
 |t::ts=>(pre++[i],t)::cU pre (i+1) ts
theorem f9(pre:List Int)(i:Int):∀ts,(cU pre i ts).length=ts.length
 | []=>rfl
 |t::ts=>by rw[cU,W2,W2,f9 pre (i+1) ts]
theorem qe(pre:List Int)(i:Int):∀ts,plP (cU pre i ts)=pls pre i ts
 | []=>by rw[cU,plP,pls]
 |t::ts=>by rw[cU,plP,pls,qe pre (i+1) ts]
theorem iY(pre:List Int)(i:Int):∀ts,szP (cU pre i ts)=ak ts
 | []=>by rw[cU,szP,ak]
 |t::ts=>by rw[cU,szP,ak,iY pre (i+1) ts]
theorem lU(pre:List Int):∀(i:Int)(ts:List Th)(j:Nat)(t:Th),ts[j]?=A? t->(cU pre i ts)[j]?=A? (pre++[i+j],t)
 |i,[],j,t,e=>by simp at e
 |i,u::ts,0,t,e=>by simp at e;subst e;rw[cU];simp
 | i,u::ts,j+1,t,e=>by
   rw[cU,Z8,lU pre (i+1) ts j t (by simpa using e)];have:i+1+(j:Int)=i+((j+1:Nat):Int):=by lia
   rw[this]
theorem l4(pre:List Int):∀(i:Int)(ts:List Th)(p:List Int×Th),p∈cU pre i ts->p.1.length=pre.length+1/\p.2∈ts
 |i,[],p,h=>by rw[cU]at h;cases h
 | i,u::ts,p,h=>by
   rw[cU]at h;rcases W7.mp h with rfl|h
   .exact⟨by simp,Xd ..⟩
   .have:=l4 pre (i+1) ts p h;exact⟨this.1,W8 _ this.2⟩
theorem P2.reverse:∀{a:List α}{b:List β},Xs F a b->Xs F a.reverse b.reverse
 |_,_,.nil=>.nil
 | _,_,.cons r t=>by
   rw[X7,X7];exact t! (P2.reverse t) (.cons r .nil)
theorem P2.snoc_inv{a:List α}{b:List β}{y:β}(h:Xs F a (b++[y])):∃us x,a=us++[x]/\Xs F us b/\F x y:=by
 have r:=P2.reverse h;rw[Yz,List.reverse_singleton,List.singleton_append]at r;cases e:a.reverse with
 |nil=>rw[e]at r;cases r
 | cons x us =>
   rw[e]at r;cases r with
   | cons h1 h2 =>
     refine⟨us.reverse,x,?_,?_,h1⟩
     .rw[<-X7,<-e,Y6]
     .have:=P2.reverse h2;rw[Y6]at this;exact this
theorem oW{t u:Th}(h:u∈t.kids):u.tall+1<=t.tall:=by
 have:=cA h;rw[t.tall_eq];lia
def Th.sub:Th->List Int->Option Th
 |t,[]=>A? t
 |t,i::r=>if 0<=i then(match t.kids[i.toNat]? with|some u=>u.sub r|none=>B?)else B?
termination_by _ p=>p.length
theorem eN(t:Th):t.sub []=A? t:=by rw[Th.sub]
theorem qh{t u:Th}{i:Int}{r:List Int}(h0:0<=i)(h:t.kids[i.toNat]?=A? u):t.sub (i::r)=u.sub r:=by rw[Th.sub,b! h0,h]
mutual
theorem vE:∀(t:Th)(pre p:List Int)(u:Th),(p,u)∈t.pl pre->∃r,p=pre++r/\t.sub r=A? u/\r.length+u.tall<=t.tall/\u.size<=t.size
 | .knot n ks,pre,p,u,h=>by
   rw[Th.pl]at h;rcases W7.mp h with e|h
   .cases e;exact⟨[],by simp,eN _,by simp,WX _⟩
   .obtain⟨j,v,r,h1,rfl,h3,h4,h5,h6,h7⟩:=uc ks pre 0 p u h;refine⟨(0+(j:Int))::r,by simp,?_,?_,?_⟩
    .rw[qh (u:=v) (by lia) (by rw[show(0+(j:Int)).toNat=j by lia];exact h1)];exact h3
    .rw[u!,W2];lia
    .rw[p!];lia
 | .call s k,pre,p,u,h=>by
   rw[Th.pl]at h;have e:(p,u)=(pre,z! s k):=by simpa using h
   cases e;exact⟨[],by simp,eN _,by simp,WX _⟩
theorem uc:∀(ts:List Th)(pre:List Int)(i:Int)(p:List Int)(u:Th),(p,u)∈pls pre i ts->∃(j:Nat)(v:Th)(r:List Int),ts[j]?=A? v/\p=pre++(i+(j:Int))::r/\v.sub r=A? u/\r.length+u.tall<=v.tall/\v.tall<=aI ts/\u.size<=v.size/\v.size<=ak ts
 | [],pre,i,p,u,h=>by rw[pls]at h;cases h
 | t::ts,pre,i,p,u,h=>by
   rw[pls]at h;rcases Xz.mp h with h|h
   .obtain⟨r,rfl,h1,h2,h3⟩:=vE t (pre++[i]) p u h;exact⟨0,t,r,D?,by simp,h1,h2,by rw[aI];lia,h3,by rw[ak];lia⟩
   .obtain⟨j,v,r,h1,rfl,h3,h4,h5,h6,h7⟩:=uc ts pre (i+1) p u h;refine⟨j+1,v,r,by simpa using h1,?_,h3,h4,by rw[aI];lia,h6,by rw[ak];lia⟩;have:i+1+(j:Int)=i+((j+1:Nat):Int):=by lia
    rw[this]
end
theorem aU:∀{ts:List Th}{t:Th},t∈ts->t.size<=ak ts
 | u::ts,t,h=>by
   rw[ak];rcases W7.mp h with rfl|h
   .lia
   .have:=aU h;lia
end BB
open BB.Th renaming pl->C!,pl_len->D!
variable{es ds:List BB.Dv}
namespace BB
open PySem L2
mutual
def Th.kn:Th->Nat
 |.knot _ ks=>kns ks+1
 |.call _ _=>0
def kns:List Th->Nat
 | []=>0
 |t::ts=>t.kn+kns ts
end
section
variable{ext:Th->List V}{t:Th}{es:List WS}
end
def Th.isCall:Th->Bool
 |.knot _ _=>CU
 |.call _ _=>C?
def oj:List Int×Th->Option (List Int×Int×Int)
 |(_,.knot _ _)=>B?
 |(p,.call s k)=>A? (p,s,k)
def callsOf(ps:List (List Int×Th)):List (List Int×Int×Int):=ps.filterMap oj
theorem eh(a b:List (List Int×Th)):callsOf (a++b)=callsOf a++callsOf b:=List.filterMap_append
theorem jE(a:List (List Int×Th)):(callsOf a).length<=a.length:=List.length_filterMap_le _ _
def CAt(H:Hp)(c:List Int×Int×Int)(a:WS):Prop:=∃pa ca,H a=A? (.tup [.ref pa,.ref ca])/\H pa=A? (.tup (c.1.map q!))/\H ca=A? (.tup [.int c.2.1,.int c.2.2])
def CsAt(H:Hp)(cs:List (List Int×Int×Int))(as:List WS):Prop:=Xs (CAt H) cs as
theorem CAt.mono(k:KT H H'){c:List Int×Int×Int}(h:CAt H c a):CAt H' c a:=by
 obtain⟨pa,ca,h1,h2,h3⟩:=h;exact⟨pa,ca,k _ _ h1,k _ _ h2,k _ _ h3⟩
theorem CsAt.mono(k:KT H H'){cs:List (List Int×Int×Int)}(h:CsAt H cs as):CsAt H' cs as:=y! (λ_ _ e=>CAt.mono k e) h
def TK(K:WQ)(H:Hp)(a:WS)(xs:List V):Prop:=H a=A? (.tup xs)\/(xs=[.str (Xq "*")]/\∃(o:Zc)(its:Array WU)(n:Nat),K.lookup a=A? o/\o.cls=.type "tuple"/\o.data=.seq its n/\its.size<=Xe/\Vals xs its.toList)
theorem TK.of(h:H a=A? (.tup xs)):TK K H a xs:=.inl h
theorem TK.sq(h:TK K H a xs):SqT K H a xs:=by
 rcases h with h|h
 .exact o! h
 .exact .inr h.2
theorem TK.mono(h:TK K H a xs)(k:KT H H'):TK K H' a xs:=by
 rcases h with h|h
 .exact .inl (k _ _ h)
 .exact .inr h
mutual
def DAtK(K:WQ)(H:Hp):Dv->V->Prop
 |.int i,v=>v=.int i
 |.str x,v=>v=.str x
 |.tup ds,v=>∃a vs,v=.ref a/\TK K H a vs/\DAtsK K H ds vs
def DAtsK(K:WQ)(H:Hp):List Dv->List V->Prop
 | [],vs=>vs=[]
 |d::ds,vs=>∃v r,vs=v::r/\DAtK K H d v/\DAtsK K H ds r
end
theorem DAtsK.nil:DAtsK K H [] []:=by rw[DAtsK]
theorem DAtsK.cons{d:Dv}(h1:DAtK K H d v)(h2:DAtsK K H ds vs):DAtsK K H (d::ds) (v::vs):=by rw[DAtsK];exact⟨v,vs,D?,h1,h2⟩
theorem DAtsK.length:∀{ds:List Dv}{vs:List V},DAtsK K H ds vs->vs.length=ds.length
 | [],vs,h=>by rw[DAtsK]at h;subst h;rfl
 | d::ds,vs,h=>by
   rw[DAtsK]at h;obtain⟨v,r,rfl,h1,h2⟩:=h;rw[W2,W2,h2.length]
theorem DAtsK.at:∀{ds:List Dv}{vs:List V}{i:Nat}{d:Dv},DAtsK K H ds vs->ds[i]?=A? d->∃v,vs[i]?=A? v/\DAtK K H d v
 | [],vs,i,d,h,e=>by simp at e
 | d0::ds,vs,i,d,h,e=>by
   rw[DAtsK]at h;obtain⟨v,r,rfl,h1,h2⟩:=h;cases i with
   |zero=>simp at e;subst e;exact⟨v,D?,h1⟩
   | succ i =>
     obtain⟨u,g1,g2⟩:=h2.at (i:=i) (by simpa using e);exact⟨u,by simpa using g1,g2⟩
mutual
theorem DAt.k:∀{d:Dv}{v:V},DAt H d v->DAtK K H d v
 |.int i,v,h=>by rw[DAt]at h;rw[DAtK];exact h
 |.str x,v,h=>by rw[DAt]at h;rw[DAtK];exact h
 | .tup ds,v,h=>by
   rw[DAt]at h;rw[DAtK];obtain⟨a,vs,e,h1,h2⟩:=h;exact⟨a,vs,e,.of h1,DAts.k h2⟩
theorem DAts.k:∀{ds:List Dv}{vs:List V},DAts H ds vs->DAtsK K H ds vs
 | [],vs,h=>by rw[DAts]at h;rw[DAtsK];exact h
 | d::ds,vs,h=>by
   rw[DAts]at h;rw[DAtsK];obtain⟨v,r,e,h1,h2⟩:=h;exact⟨v,r,e,DAt.k h1,DAts.k h2⟩
end
mutual
theorem DAtK.inj{X:Cx}(I:Inv X Z Y H s):∀{d e:Dv}{v:V},DAtK X.K H d v->DAtK X.K H e v->d=e
 |.int i,.int j,v,h,g=>by rw[DAtK]at h;rw[DAtK]at g;rw[h]at g;cases g;rfl
 |.int i,.str y,v,h,g=>by rw[DAtK]at h;rw[DAtK]at g;rw[h]at g;cases g
 |.int i,.tup es,v,h,g=>by rw[DAtK]at h;rw[DAtK]at g;obtain⟨a,vs,e,_⟩:=g;rw[h]at e;cases e
 |.str x,.int j,v,h,g=>by rw[DAtK]at h;rw[DAtK]at g;rw[h]at g;cases g
 |.str x,.str y,v,h,g=>by rw[DAtK]at h;rw[DAtK]at g;rw[h]at g;cases g;rfl
 |.str x,.tup es,v,h,g=>by rw[DAtK]at h;rw[DAtK]at g;obtain⟨a,vs,e,_⟩:=g;rw[h]at e;cases e
 |.tup ds,.int j,v,h,g=>by rw[DAtK]at h;rw[DAtK]at g;obtain⟨a,vs,e,_⟩:=h;rw[e]at g;cases g
 |.tup ds,.str y,v,h,g=>by rw[DAtK]at h;rw[DAtK]at g;obtain⟨a,vs,e,_⟩:=h;rw[e]at g;cases g
 | .tup ds,.tup es,v,h,g=>by
   rw[DAtK]at h;rw[DAtK]at g;obtain⟨a,vs,e1,h1,h2⟩:=h;obtain⟨b,ws,e2,g1,g2⟩:=g;rw[e1]at e2;cases e2;have e3:=I.tuple_inj h1.sq g1.sq;subst e3;rw[DAtsK.inj I h2 g2]
theorem DAtsK.inj{X:Cx}(I:Inv X Z Y H s):∀{ds es:List Dv}{vs:List V},DAtsK X.K H ds vs->DAtsK X.K H es vs->ds=es
 | [],[],vs,h,g=>rfl
 | [],e::es,vs,h,g=>by rw[DAtsK]at h;rw[DAtsK]at g;obtain⟨v,r,z,_⟩:=g;rw[h]at z;cases z
 |d::ds,[],vs,h,g=>by rw[DAtsK]at h;rw[DAtsK]at g;obtain⟨v,r,z,_⟩:=h;rw[g]at z;cases z
 | d::ds,e::es,vs,h,g=>by
   rw[DAtsK]at h;rw[DAtsK]at g;obtain⟨v,r,z,h1,h2⟩:=h;obtain⟨v',r',z',g1,g2⟩:=g;rw[z]at z';cases z';rw[DAtK.inj I h1 g1,DAtsK.inj I h2 g2]
end
end BB
namespace L2
open PySem PySem.Spec PySem.SeqAt PyProof.Rows BB
open Classical in
theorem hX[DecidableEq α]{ds es:List α}(p1:s.1.IsTuple a its.toArray)(p2:s.1.IsTuple b Ag.toArray)(l1:its.length=ds.length)(l2:Ag.length=es.length)(hu:A.units<YH)
 (ih:∀(j:Nat)(d e:α)(u v:WU),ds[j]?=A? d->es[j]?=A? e->its[j]?=A? u->Ag[j]?=A? v->EqAt A.in1 s u v (decide (d=e))):RcAt A s (.ref a) (.ref b) (decide (ds=es)):=by
 have Na:RcAt A s (.ref a) (.ref b) ((XF (min its.toArray.size Ag.toArray.size)).all (λj=>decide (ds[j]?=es[j]?)) && its.toArray.size == Ag.toArray.size):=by
  refine RcAt.tuples p1 p2 hu λj h1 h2=>?_;have DD:j<ds.length:=by rw[<-l1];simpa using h1
  have C8:j<es.length:=by rw[<-l2];simpa using h2
  have e1:ds[j]?=A? ds[j]:=WR DD;have e2:es[j]?=A? es[j]:=WR C8;have e3:decide (ds[j]?=es[j]?)=decide (ds[j]=es[j]):=by rw[e1,e2];simp
  have g1:its[j]?=A? its[j]:=WR (by rw[l1];exact DD);have g2:Ag[j]?=A? Ag[j]:=WR (by rw[l2];exact C8);rw[e3];exact ih j ds[j] es[j] its[j] Ag[j] e1 e2 g1 g2
 have e:decide (ds=es)=((XF (min its.toArray.size Ag.toArray.size)).all (λj=>decide (ds[j]?=es[j]?)) && its.toArray.size == Ag.toArray.size):=by
  rw[W0,W0,l1,l2];by_cases h:ds=es
  .subst h;rw[d! rfl];symm;simp
  .rw[c! h];symm;by_cases hl:ds.length=es.length
   .rw[hl,Nat.min_self]
    have:¬((XF es.length).all (λj=>decide (ds[j]?=es[j]?)))=true:=by
     intro z;apply h;apply List.ext_getElem?;intro j;by_cases hj:j<es.length
     .exact e! (List.all_eq_true.mp z j (YR.mpr hj))
     .rw[ZG (by lia),ZG (by lia)]
    rw[Yo.mpr this];rfl
   .have:(ds.length == es.length)=false:=by simpa using hl
    rw[this,Bool.and_false]
 rw[e];exact Na
open Classical in
theorem nQ{X:Cx}(I:Inv X Z Y H s){ws:List V}(ha:SqT X.K H a vs)(hb:SqT X.K H b ws)(Cb:DAtsK X.K H ds vs)(hws:DAtsK X.K H es ws)(hu:A.units<YH)
 (ih:∀(j:Nat)(d e:Dv)(x y:V)(u v:WU),ds[j]?=A? d->DAtK X.K H d x->DAtK X.K H e y->RelV x u->RelV y v->EqAt A.in1 s u v (decide (d=e))):RcAt A s (.ref a) (.ref b) (decide (Dv.tup ds=Dv.tup es)):=by
 obtain⟨its,r1,p1,_⟩:=I.tuple ha;obtain⟨Ag,r2,p2,_⟩:=I.tuple hb;rw[show decide (Dv.tup ds=Dv.tup es)=decide (ds=es)from decide_eq_decide.mpr ⟨λz=>Dv.tup.inj z,λz=>h! _ z⟩];refine hX (show s.1.IsTuple a its.toArray from p1) (show s.1.IsTuple b Ag.toArray from p2) (by rw[<-r1.length,Cb.length]) (by rw[<-r2.length,hws.length]) hu λj d e u v e1 e2 e3 e4=>?_;obtain⟨x',AV,dx⟩:=Cb.at e1;obtain⟨y',D6,dy⟩:=hws.at e2;obtain⟨u',BF,Fb⟩:=r1.get AV;obtain⟨v',Bh,Eg⟩:=r2.get D6;rw[BF]at e3;rw[Bh]at e4;cases e3;cases e4;exact ih j d e x' y' _ _ e1 dx dy Fb Eg
open Classical in
theorem i0{X:Cx}(I:Inv X Z Y H s):∀(n:Nat)(d e:Dv),d.tot<=n->∀(x y:V)(u v:WU)(A:XI),DAtK X.K H d x->DAtK X.K H e y->RelV x u->RelV y v->A.units+d.deep<YH->EqAt A s u v (decide (d=e))
 |0,d,e,hn,x,y,u,v,A,hd,he,ru,rv,hu=>by have:=d.tot_pos;lia
 | n+1,.int i,.int j,hn,x,y,u,v,A,hd,he,ru,rv,hu=>by
   rw[DAtK]at hd;rw[DAtK]at he;subst hd he;obtain⟨t,rfl⟩:=ru;obtain⟨t',rfl⟩:=rv
   have e:decide (Dv.int i=Dv.int j)=(i == j):=by
    by_cases h:i=j
    .subst h;simp
    .rw[c! (λz=>h (Dv.int.inj z))];simp[h]
   rw[e];exact EqAt.int_int i t j t'
 | n+1,.int i,.str b,hn,x,y,u,v,A,hd,he,ru,rv,hu=>by
   rw[DAtK]at hd;rw[DAtK]at he;subst hd he;obtain⟨t,rfl⟩:=ru;obtain⟨t',rfl⟩:=rv;rw[c! (λz=>by cases z)];exact EqAt.int_str i t b t'
 | n+1,.int i,.tup es,hn,x,y,u,v,A,hd,he,ru,rv,hu=>by
   rw[DAtK]at hd;rw[DAtK]at he;obtain⟨a,vs,rfl,ha,_⟩:=he;subst hd;obtain⟨t,rfl⟩:=ru;cases rv;obtain⟨its,_,p,_⟩:=I.tuple (ha.sq);rw[c! (λz=>by cases z)];exact EqAt.int_tuple i t (show s.1.IsTuple a its.toArray from p) (by lia)
 | n+1,.str b,.int j,hn,x,y,u,v,A,hd,he,ru,rv,hu=>by
   rw[DAtK]at hd;rw[DAtK]at he;subst hd he;obtain⟨t,rfl⟩:=ru;obtain⟨t',rfl⟩:=rv;rw[c! (λz=>by cases z)];exact EqAt.str_int b t j t'
 | n+1,.str b,.str c,hn,x,y,u,v,A,hd,he,ru,rv,hu=>by
   rw[DAtK]at hd;rw[DAtK]at he;subst hd he;obtain⟨t,rfl⟩:=ru;obtain⟨t',rfl⟩:=rv
   have e:decide (Dv.str b=Dv.str c)=(b == c):=by
    by_cases h:b=c
    .subst h;simp
    .rw[c! (λz=>h (Dv.str.inj z))];simp[h]
   rw[e];exact EqAt.str_str b t c t'
 | n+1,.str b,.tup es,hn,x,y,u,v,A,hd,he,ru,rv,hu=>by
   rw[DAtK]at hd;rw[DAtK]at he;obtain⟨a,vs,rfl,ha,_⟩:=he;subst hd;obtain⟨t,rfl⟩:=ru;cases rv;obtain⟨its,_,p,_⟩:=I.tuple (ha.sq);rw[c! (λz=>by cases z)];exact EqAt.str_tuple b t (show s.1.IsTuple a its.toArray from p) (by lia)
 | n+1,.tup ds,.int j,hn,x,y,u,v,A,hd,he,ru,rv,hu=>by
   rw[DAtK]at hd;rw[DAtK]at he;obtain⟨a,vs,rfl,ha,_⟩:=hd;subst he;cases ru;obtain⟨t,rfl⟩:=rv;obtain⟨its,_,p,_⟩:=I.tuple (ha.sq);rw[c! (λz=>by cases z)];exact EqAt.tuple_int j t (show s.1.IsTuple a its.toArray from p) (by lia)
 | n+1,.tup ds,.str b,hn,x,y,u,v,A,hd,he,ru,rv,hu=>by
   rw[DAtK]at hd;rw[DAtK]at he;obtain⟨a,vs,rfl,ha,_⟩:=hd;subst he;cases ru;obtain⟨t,rfl⟩:=rv;obtain⟨its,_,p,_⟩:=I.tuple (ha.sq);rw[c! (λz=>by cases z)];exact EqAt.tuple_str b t (show s.1.IsTuple a its.toArray from p) (by lia)
 | n+1,.tup ds,.tup es,hn,x,y,u,v,A,hd,he,ru,rv,hu=>by
   have F5:=hd;have Te:=he;rw[DAtK]at hd;rw[DAtK]at he;obtain⟨a,vs,rfl,ha,Cb⟩:=hd;obtain⟨b,ws,rfl,hb,hws⟩:=he;cases ru;cases rv;by_cases Cc:a=b
   .subst Cc;rw[d! (DAtK.inj I F5 Te)];exact EqAt.same _
   rw[Dv.tot]at hn;rw[Dv.deep]at hu;refine EqAt.of_refs Cc (nQ I ha.sq hb.sq Cb hws (by lia) λj d e x' y' u' v' e1 dx dy Fb Eg=>?_);have q1:=tz e1;have q2:=ff e1;refine i0 I n d e (by lia) x' y' u' v' A.in1 dx dy Fb Eg ?_;show A.units+1+_<YH;lia
end L2
namespace BB
open PySem PySem.Spec PyProof.Rows L2
mutual
theorem DAt.inj:∀{d e:Dv}{v:V},DAt H d v->DAt H e v->d=e
 |.int i,.int j,v,h,g=>by rw[DAt]at h;rw[DAt]at g;rw[h]at g;cases g;rfl
 |.int i,.str y,v,h,g=>by rw[DAt]at h;rw[DAt]at g;rw[h]at g;cases g
 |.int i,.tup es,v,h,g=>by rw[DAt]at h;rw[DAt]at g;obtain⟨a,vs,e,_⟩:=g;rw[h]at e;cases e
 |.str x,.int j,v,h,g=>by rw[DAt]at h;rw[DAt]at g;rw[h]at g;cases g
 |.str x,.str y,v,h,g=>by rw[DAt]at h;rw[DAt]at g;rw[h]at g;cases g;rfl
 |.str x,.tup es,v,h,g=>by rw[DAt]at h;rw[DAt]at g;obtain⟨a,vs,e,_⟩:=g;rw[h]at e;cases e
 |.tup ds,.int j,v,h,g=>by rw[DAt]at h;rw[DAt]at g;obtain⟨a,vs,e,_⟩:=h;rw[e]at g;cases g
 |.tup ds,.str y,v,h,g=>by rw[DAt]at h;rw[DAt]at g;obtain⟨a,vs,e,_⟩:=h;rw[e]at g;cases g
 | .tup ds,.tup es,v,h,g=>by
   rw[DAt]at h;rw[DAt]at g;obtain⟨a,vs,e1,h1,h2⟩:=h;obtain⟨b,ws,e2,g1,g2⟩:=g;rw[e1]at e2;cases e2;rw[h1]at g1;cases g1;rw[DAts.inj h2 g2]
theorem DAts.inj:∀{ds es:List Dv}{vs:List V},DAts H ds vs->DAts H es vs->ds=es
 | [],[],vs,h,g=>rfl
 | [],e::es,vs,h,g=>by rw[DAts]at h;rw[DAts]at g;obtain⟨v,r,z,_⟩:=g;rw[h]at z;cases z
 |d::ds,[],vs,h,g=>by rw[DAts]at h;rw[DAts]at g;obtain⟨v,r,z,_⟩:=h;rw[g]at z;cases z
 | d::ds,e::es,vs,h,g=>by
   rw[DAts]at h;rw[DAts]at g;obtain⟨v,r,z,h1,h2⟩:=h;obtain⟨v',r',z',g1,g2⟩:=g;rw[z]at z';cases z';rw[DAt.inj h1 g1,DAts.inj h2 g2]
end
end BB
namespace L2
open PySem PySem.Spec PySem.SeqAt PyProof.Rows BB
open Classical in
theorem t5{X:Cx}(I:Inv X Z Y H s):∀(n:Nat)(d e:Dv),d.tot<=n->∀(x y:V)(u v:WU)(A:XI),DAt H d x->DAt H e y->RelV x u->RelV y v->A.units+d.deep<YH->EqAt A s u v (decide (d=e)):=λn d e hn x y u v A hd he=>i0 I n d e hn x y u v A hd.k he.k
end L2
namespace BB
open PySem L2
theorem oX{t u:Th}{i:Int}{r:List Int}(h:t.sub (i::r)=A? u):0<=i/\∃w,t.kids[i.toNat]?=A? w/\w.sub r=A? u:=by
 rw[Th.sub]at h;split at h
 .rename_i h0
  split at h
  .rename_i w hw
   exact⟨h0,w,hw,h⟩
  .cases h
 .cases h
theorem Ats.set:∀{ts:List Th}{as:List WS}(i:Nat){x:Th}{a:WS},Ats H ts as->At H x a->Ats H (ts.set i x) (as.set i a)
 | [],as,i,x,a,h,g=>by rw[Ats]at h;subst h;exact .nil
 | t::ts,as,i,x,a,h,g=>by
   rw[Ats]at h;obtain⟨b,r,rfl,h1,h2⟩:=h;cases i with
   |zero=>exact .cons g h2
   |succ i=>exact .cons h1 (Ats.set i h2 g)
end BB
namespace PySem
theorem bb_extendT(l:WS)(items:Array WU)(n:Nat)(b:WS)(BG:Array WU)(n2:Nat)(dd:Option WS)(sl:Array (Option WU))(g0:¬(!items.isEmpty && Y7 (items.size+BG.size))=C?)(g1:items.size<=Xe)(g2:items.size+BG.size<=Xe+1) :
 Meets (Zp.«list.extend» ⟨[.ref l,.ref b],[]⟩) (λ_ R s=>s.1.get? l=A? {cls:=.type "list",dict:=B?,data:=.seq items n,slots:=#[]}/\s.1.get? b=A? {cls:=.type "tuple",dict:=dd,data:=.seq BG n2,slots:=sl}/\R (.ok (.ret Yp)) {s with heap:=s.1.update l (Yg λx=>x++BG),toks:=s.toks}) :=
 .of_wp λprog w A R s h=>by
  obtain⟨hp,g,d,tk,os⟩:=s;obtain⟨hl,hb,h⟩:=h;have f1:=AutoSeq1.idx_int;have f2:=AutoSeq1.sub_tuple_tuple;have f3:=AutoSeq1.sub_list_list;have f4:=AutoSeq1.sub_tuple_list;have f5:=AutoSeq1.sub_list_tuple;have z2:(items++BG).size<=Xe+1:=by rw[Array.size_append];exact g2
  wp_walk using(YV hl rfl (hz:=g1) (_hz':=z2)),Zq hl,Zq hb
  exact⟨_,D?,h⟩
end PySem
namespace L2
open PySem PySem.Spec PyProof.Rows
section
variable{X:Cx}
def wj(K:WQ):V->List V->Hp->VK->Prop:=λx vs H Q=>∃l b xs zs,x=.ref l/\vs=[.ref b]/\H l=A? (.lst xs)/\SqT K H b zs/\xs.length+zs.length<=Xe/\Q .non (upd H l (.lst (xs++zs)))
theorem sG:MtM X "list.extend" (wj X.K):=by
 intro Z s Y H x vs v us Q I rx rv h;obtain⟨l,b,xs,zs,rfl,rfl,hH,hB,hz,q⟩:=h;cases rx;obtain⟨u,rfl,ru⟩:=rv.one;cases ru;obtain⟨z,its,n,r,hl,e⟩:=I.lstM hH;obtain⟨Ag,r2,p2,_⟩:=I.tuple hB;have Bf:=r2.length;obtain⟨⟨IL,HS,data2,HU⟩,e2,BQ,n2,hd2⟩:=p2;simp only at BQ hd2;subst BQ hd2;have hsz:its.toArray.size+Ag.toArray.size<=Xe:=by rw[W0,W0];lia
 have Co:¬(!its.toArray.isEmpty && Y7 (its.toArray.size+Ag.toArray.size))=true:=by
  rw[iF hsz,Bool.and_false];exact W5
 refine call_meets F.slot_list_extend ⟨_,e,rfl⟩ F.entry_list_extend (F.args_list_extend_2 _ _)
  (bb_extendT l its.toArray n b Ag.toArray n2 HS HU Co (by rw[W0];lia) (by lia)) ⟨e,e2,?_⟩
 refine⟨.non,_,I.lset (its':=its++Ag) hH e (by simp) (r.append r2) ?_,D?,q⟩;rw[Xg];lia
end
end L2
namespace BB
open PySem L2
def kDv(k:Xk×Int):Dv:=.tup [.str k.1,.int k.2]
theorem sJ:∀{ks:List (Xk×Int)}{as:List WS},Xs (KAt H) ks as->DAts H (ks.map kDv) (as.map i!)
 |_,_,.nil=>.nil
 | _,_,.cons r h=>by
   rw[Xr,Xr];refine .cons ?_ (sJ h);rw[kDv,DAt];exact⟨_,_,D?,r,.cons (by rw[DAt]) (.cons (by rw[DAt]) .nil)⟩
theorem iQ:∀ks:List (Xk×Int),bA (ks.map kDv)<=1
 | []=>by rw[Y2,bA];exact Xh _
 | k::ks=>by
   have:=iQ ks;rw[Xr,bA,kDv];simp only[Dv.deep,bA];lia
def star:Xk:=Xq "*"
theorem l6(h:Low x):x≠star:=by
 intro e;subst e;have:=h 42 (by decide +kernel);lia
open Classical in
def Th.isHole:Th->Bool
 |.knot n ks=>decide (n=star/\ks=[])
 |.call _ _=>CU
def Th.isKnot(t:Th):Bool:=!t.isCall && !t.isHole
theorem io:∀(n:Nat)(ts:List Th),ak ts<=n->∀x∈walks ts,x.tall<=aI ts
 |_,[],_,x,h=>by simp[walks]at h
 | 0,t::ts,hn,x,h=>by
   have:=t.size_pos;rw[ak]at hn;lia
 | n+1,t::ts,hn,x,h=>by
   have hs:=t.size_eq;have ht:=t.tall_eq;rw[ak]at hn;rw[aI];rw[walks,t.walk_eq,Yn,W7,Xz]at h;rcases h with rfl|h|h
   .lia
   .have:=io n t.kids (by lia) x h;lia
   .have:=io n ts (by lia) x h;lia
theorem u7(t x:Th)(h:x∈t.walk):x.tall<=t.tall:=by
 have:=io _ [t] (WX _) x (by simpa[walks]using h);simpa[aI]using this
end BB
open BB.Th renaming isHole->A!
namespace PySem
open Sem (wp)
namespace F
theorem bb_entry_upd:entryFor table "dict.update.loop"=A? Zp.«dict.update.loop»:=entryFor_of_tree (by kernel_rfl)
theorem bb_plain_upd:plainId "dict.update.loop"=true:=by decide +kernel
end F
section
variable{xs:Array WU}{k:Nat}
end
end PySem
open PySem.F renaming bb_plain_upd->E!
namespace L2
open PySem PySem.Spec PyProof.Rows BB
section
variable{X:Cx}
end
end L2
namespace BB
open PySem L2
end BB
namespace HT
open PySem PySem.Spec PyProof.Rows
theorem getItem_tuple_whole{t:WS}(ht:IsTup s.1 t items)(hs:s.1.IsSliceOf sl vl vu .none)(pl:IsPart vl lo)(pu:IsPart vu hi)
 (hw:sIx items.size 0 lo=0/\sIx items.size items.size hi=items.size) (h:Q (.ref t) s):W9 (Xv prog w) A (getItem (.ref t) (.ref sl)) Q E s:=by
 obtain⟨os,DB,Ck,Bz⟩:=id hs;have IM:s.TypeIs (.ref sl) "slice":=⟨os,DB,Ck⟩;have hT:s.TypeIs (.ref t) "tuple":=ht.typeIs;unfold getItem
 try with_reducible refine Yv ?_
 first|refine WN (WW ?_)|skip
 refine WN (wpAny_sequenceKey ht.typeIs (by decide) ?_)
 refine WN (X3 (name:=Xq "__getitem__") ht.typeIs XQ
  (X5 XQ ht.typeIs entry_tuple_getitem ?_ (args_tuple_getitem _ _)))
 show W9 _ _ (ZW (.ref t) >>= _) _ _ s;refine WN (tupleItemsOf_ ht ?_);refine WN (ZH IM ?_);rw[b! (by decide)];refine WN (sliceApplied_gen hs pl pu ?_)
 have GO:(((sIx items.size 0 lo:Nat):Int) == 0 && (1:Int) == 1 && (sIx items.size items.size hi - sIx items.size 0 lo) == items.size)=true:=by
  rw[hw.1,hw.2];simp
 show W9 _ _ (if(((sIx items.size 0 lo:Nat):Int) == 0 && (1:Int) == 1 && (sIx items.size items.size hi - sIx items.size 0 lo) == items.size)=C? then _ else _) _ _ s;rw[b! GO];refine WN (m:=Builtin.Tuple.tupleIsExact _) ?_;unfold Builtin.Tuple.tupleIsExact;refine WN (ZH hT (WW ?_));rw[b! (by decide)];exact WN (Zw (WW ⟨_,rfl,WW h⟩))
end HT
namespace L2
open PySem PySem.Spec PyProof.Rows
end L2
namespace PySem
open Sem (wp)
section
variable{ep:Nat}{od:Zc}{es:Array DictEntry}
theorem bb_keyNext{en:DictEntry}{Q:Option WU->WY->Prop}(g:s.1.IsKeyIter it d i es.size ep)(g1:s.1.get? d=A? od)(g2:od.data=.dict es ep)(hx:es[i]?=A? en)
 (fin:∀h',h'.IsKeyIter it d (i+1) es.size ep->YD it s.1 h'->Q (A? en.key) {s with heap:=h'}):W9 (Xv prog w) A (pyNext (.ref it)) Q E s:=by
 obtain⟨o,q1,q2,q3⟩:=id g;unfold pyNext;refine WN (wpAny_attempt (X3 (name:=Xq "__next__") g.typeIs Zx (X5 Zx g.typeIs F.entry_dict_keyiterator_next ?_ (F.args_dict_keyiterator_next_1 _))));refine WN (WW ?_);refine WN ?_;refine WN ?_
 first|refine WN (wpAny_typeNameOfWhole_keyiter g.typeIs (WW ?_))|refine WN (wpAny_typeNameOf_keyiter g.typeIs (WW ?_))
 refine WN (wpAny_fieldsOf q1 q3 ?_);have own:Builtin.Dict_items.ownsTuple "dict_keyiterator"=false:=by decide
 simp only[own,Yb,if_false];show W9 _ _ (if(Xm d == Yp)=C? then _ else _) _ _ s;rw[a! (show¬((Xm d == Yp)=C?)from W5)];refine WN (WW ?_);refine WN (wpAny_dictEntries g1 g2 ?_);rw[a! (by simp)];refine WN (WW ?_);refine WN (wpAny_dictEpoch g1 g2 ?_);rw[a! (by simp)];refine WW ?_;have lt:i<es.size:=(Array.getElem?_eq_some_iff.mp hx).1;have ee:es[i]=en:=(Array.getElem?_eq_some_iff.mp hx).2;simp only[show¬((i:Int)<0)from by lia,if_false,Xu,Zg lt];refine WN ?_
 first|refine WN (wpAny_typeNameOfWhole_keyiter g.typeIs (WW ?_))|refine WN (wpAny_typeNameOf_keyiter g.typeIs (WW ?_))
 refine WN (wpAny_isOneOf_keyiter g.typeIs ?_);show W9 _ _ (setField (.ref it) 1 (Za ((i:Int)+1)) >>= _) _ _ s;refine WN (wpAny_setField q1 q3 (by simp) ?_);have g':(s.1.update it (Obj.mapFields (·.setIfInBounds 1 (Za ((i:Int)+1))))).IsKeyIter it d (i+1) es.size ep:=⟨_,XO _ q1 (Obj.isFreed_of_fields (Zm q3 _)),(Obj.cls_mapFields ..).trans q2,by rw[Zm q3];simp[Za]⟩;refine WN (Yv ?_);refine WN (wpAny_isOneOf_keyiter (s:={s with heap:=s.1.update it (Obj.mapFields (·.setIfInBounds 1 (Za ((i:Int)+1))))}) g'.typeIs ?_);show W9 _ _ (pure es[i].key) _ _ _;rw[ee];exact WW (WW ⟨_,rfl,WW (fin _ g' (Zi ..))⟩)
theorem bb_keyEnd{Q:Option WU->WY->Prop}(calm:A.handled=B?)(g:s.1.IsKeyIter it d i es.size ep)(g1:s.1.get? d=A? od)(g2:od.data=.dict es ep)(hx:es.size<=i)
 (fin:∀h',Heap.ExtBut it s.1 h'->Q B? {s with heap:=h'}):W9 (Xv prog w) A (pyNext (.ref it)) Q E s:=by
 obtain⟨o,q1,q2,q3⟩:=id g;unfold pyNext;refine WN (wpAny_attempt (X3 (name:=Xq "__next__") g.typeIs Zx (X5 Zx g.typeIs F.entry_dict_keyiterator_next ?_ (F.args_dict_keyiterator_next_1 _))));refine WN (WW ?_);refine WN ?_;refine WN ?_
 first|refine WN (wpAny_typeNameOfWhole_keyiter g.typeIs (WW ?_))|refine WN (wpAny_typeNameOf_keyiter g.typeIs (WW ?_))
 refine WN (wpAny_fieldsOf q1 q3 ?_);have own:Builtin.Dict_items.ownsTuple "dict_keyiterator"=false:=by decide
 simp only[own,Yb,if_false];show W9 _ _ (if(Xm d == Yp)=C? then _ else _) _ _ s;rw[a! (show¬((Xm d == Yp)=C?)from W5)];refine WN (WW ?_);refine WN (wpAny_dictEntries g1 g2 ?_);rw[a! (by simp)];refine WN (WW ?_);refine WN (wpAny_dictEpoch g1 g2 ?_);rw[a! (by simp)];refine WW ?_;simp only[show¬((i:Int)<0)from by lia,if_false,Xu,Array.getElem?_eq_none hx];refine WN ?_
 first|refine WN (wpAny_typeNameOfWhole_keyiter g.typeIs (WW ?_))|refine WN (wpAny_typeNameOf_keyiter g.typeIs (WW ?_))
 show W9 _ _ (setField (.ref it) 0 .none >>= _) _ _ s;refine WN (wpAny_setField q1 q3 (by simp) ?_);show W9 _ _ (newExc (.type "StopIteration") [] >>= _) _ _ _;refine WN ?_;simp only[newExc,newTuple];refine WN (Ye ?_ (by size_fits));refine WN (m:=firstArgMember _ _) (wpAny_of_eq (a:=Yp) (by first|rfl|(simp only[firstArgMember];rfl)) ?_);refine Ye ?_ (by size_fits);simp only[raiseNew];refine WN (wpAny_handled ?_)
 first|rw[show A.in1.handled=B? from calm]|rw[calm]
 refine WN (WW (wpAny_throw ?_));refine WN (ZK (T:="StopIteration") (b:=C?) ⟨_,W3 _ rfl,rfl⟩ isSubtype_stop ?_);exact WW (fin _ (((Zi ..).extBut.push _).push _))
theorem bb_keyIter(ns:(d == YO)=CU)(g1:s.1.get? d=A? od)(gc:od.cls=.type "dict")(g2:od.data=.dict es ep)
 (fin:Q (.ref s.1.1.size) {s with heap:=s.1.push {cls:=.type "dict_keyiterator",data:=.fields #[.ref d,.int 0 0,.int es.size 0,.int ep 0]}}):W9 (Xv prog w) A (pyIter (.ref d)) Q E s:=by
 have gT:s.TypeIs (.ref d) "dict":=⟨_,g1,gc⟩;refine wpAny_pyIter_slot gT F.slot_dict_iter (X5 F.slot_dict_iter gT F.entry_dict_iter ?_ (F.args_dict_iter_1 _));unfold Zp.«dict.__iter__»;refine WN ?_;unfold Builtin.Dict.dictSlotNone;refine WN (wpAny_notOrdered_dict gT ?_);show W9 _ _ (pure (Xm d)) _ _ s;refine WW ?_;show W9 _ _ (Builtin.Dict.showsAll d >>= _) _ _ s;unfold Builtin.Dict.showsAll;rw[a! (by rw[ns];exact W5)];refine WN (WW ?_);refine WN (wpAny_dictEntries g1 g2 ?_);refine WN (wpAny_dictEpoch g1 g2 ?_);refine WN (Ye (WW ⟨_,rfl,"dict_keyiterator",_,⟨_,W3 _ rfl,rfl⟩,Zx.lookup,?_⟩));simpa[Za]using fin
end
end PySem
namespace L2
open PySem PySem.Spec PyProof.Rows
section
variable{X:Cx}
end
end L2
namespace BB
open PySem L2
inductive Top where
 |nm (n:Xk) (m:Nat)
 |th (t:Th)
def bl:List Top->List Th
 | []=>[]
 |.nm n m::S=>.knot n ((bl S).take m)::(bl S).drop m
 |.th t::S=>t::bl S
def TopsOk:List Top->Prop
 | []=>True
 |.nm _ m::S=>m<=(bl S).length/\TopsOk S
 |.th _::S=>TopsOk S
theorem TopsOk.drop:∀{l:List Top}(i:Nat),TopsOk l->TopsOk (l.drop i)
 |l,0,h=>by rw[Z9];exact h
 | [],i+1,h=>by rw[List.drop_nil];exact h
 | .nm n m::S,i+1,h=>by
   rw[TopsOk]at h;rw[List.drop_succ_cons];exact TopsOk.drop i h.2
 | .th t::S,i+1,h=>by
   rw[TopsOk]at h;rw[List.drop_succ_cons];exact TopsOk.drop i h
theorem sw:∀l:List Top,(bl l).length<=l.length
 | []=>WX _
 | .nm n m::S=>by
   have:=sw S;rw[bl,W2,W2,List.length_drop];lia
 | .th t::S=>by
   have:=sw S;rw[bl,W2,W2];lia
mutual
def Th.fill(f:Int->Int->Th):Th->Th
 |.knot n ks=>.knot n (fills f ks)
 |.call s k=>f s k
def fills(f:Int->Int->Th):List Th->List Th
 | []=>[]
 |t::ts=>t.fill f::fills f ts
end
theorem jp(f:Int->Int->Th):∀ts:List Th,(fills f ts).length=ts.length
 | []=>by rw[fills]
 |t::ts=>by rw[fills,W2,W2,jp f ts]
mutual
theorem jk(f g:Int->Int->Th):∀t:Th,(t.fill f).fill g=t.fill λs k=>(f s k).fill g
 |.knot n ks=>by rw[Th.fill,Th.fill,Th.fill,jF f g ks]
 |.call s k=>by rw[Th.fill,Th.fill]
theorem jF(f g:Int->Int->Th):∀ts:List Th,fills g (fills f ts)=fills (λs k=>(f s k).fill g) ts
 | []=>by rw[fills,fills,fills]
 |t::ts=>by rw[fills,fills,fills,jk f g t,jF f g ts]
end
mutual
theorem tI:∀t:Th,t.fill z!=t
 |.knot n ks=>by rw[Th.fill,qd ks]
 |.call s k=>by rw[Th.fill]
theorem qd:∀ts:List Th,fills z! ts=ts
 | []=>by rw[fills]
 |t::ts=>by rw[fills,tI t,qd ts]
end
def eQ(f:Int->Int->Th):Th->Top
 |.knot n ks=>.nm n ks.length
 |.call s k=>.th (f s k)
theorem mn(f:Int->Int->Th):∀(n:Nat)(ts:List Th),ak ts<=n->∀S,bl ((walks ts).map (eQ f)++S)=fills f ts++bl S/\(TopsOk S->TopsOk ((walks ts).map (eQ f)++S))
 |_,[],_,S=>by rw[walks,fills];exact⟨D?,λh=>h⟩
 | 0,t::ts,hn,S=>by
   have:=t.size_pos;rw[ak]at hn;lia
 | n+1,t::ts,hn,S=>by
   have hs:=t.size_eq;rw[ak]at hn;have h2:=mn f n ts (by lia) S;have e:(walks (t::ts)).map (eQ f)++S=eQ f t::((walks t.kids).map (eQ f)++((walks ts).map (eQ f)++S)):=by rw[walks,t.walk_eq];simp
   have h1:=mn f n t.kids (by lia) ((walks ts).map (eQ f)++S);rw[e];cases t with
   | knot nm ks =>
     simp only[K!]at h1 |-;refine⟨?_,λhS=>?_⟩
     .show bl (.nm nm ks.length::_)=_;rw[bl,h1.1,h2.1,<-jp f ks,List.take_left,List.drop_left,fills,Th.fill];rfl
     .show TopsOk (.nm nm ks.length::_);rw[TopsOk];refine⟨?_,h1.2 (h2.2 hS)⟩;rw[h1.1,Xg,jp];exact Y5 _ _
   | call s k =>
     simp only[K!,walks,Y2,Y0]at h1 |-;refine⟨?_,λhS=>?_⟩
     .show bl (.th (f s k)::_)=_;rw[bl,h2.1,fills,Th.fill];rfl
     .show TopsOk (.th (f s k)::_);rw[TopsOk];exact h2.2 hS
theorem tU(f:Int->Int->Th)(t:Th):bl (t.walk.map (eQ f))=[t.fill f]/\TopsOk (t.walk.map (eQ f)):=by
 have h:=mn f _ [t] (WX _) [];have e:walks [t]=t.walk:=by simp[walks]
 rw[e,XC]at h;refine⟨?_,h.2 (by rw[TopsOk];trivial)⟩;rw[h.1,fills,fills,bl];rfl
theorem sW(x:V)(xs:List V):jn (x::xs) B? (A? 1)=[x]:=by
 unfold jn;rw[show(A? (1:Int))=A? ((1:Nat):Int)from rfl,HT.sIx_nat,HT.sIx_none,W2,Nat.min_eq_left (by lia)];rfl
end BB
open BB.Th renaming fill->v!
namespace PySem
open Sem (wp)
end PySem
namespace L2
open PySem PySem.Spec PyProof.Rows BB
end L2
namespace BB
open PySem L2
theorem gg{k:Nat}(hr:L2.Room k A):A.units+150+2<YH:=by
 have:=hr.un;lia
def hole:Th:=.knot star []
def Th.name:Th->Xk
 |.knot n _=>n
 |.call _ _=>q
def az:Th->Th->Bool
 |.knot n ks,.knot m us=>!(n! n ks).isHole && decide (n=m) && decide (ks.length=us.length)
 |_,_=>CU
mutual
def Th.sbs:Th->Th->List (Th×Th)
 |.knot n ks,r=>(.knot n ks,r)::(if az (.knot n ks) r=C? then o7 ks r.kids else[])
 |.call s k,r=>[(.call s k,r)]
def o7:List Th->List Th->List (Th×Th)
 | [],_=>[]
 | k::ks,us=>match us with
   | []=>[]
   |u::us=>k.sbs u++o7 ks us
end
def wks:List (Th×Th)->List (Th×Th)
 | []=>[]
 |p::ps=>p.1.sbs p.2++wks ps
theorem mq:∀a b:List (Th×Th),wks (a++b)=wks a++wks b
 | [],b=>rfl
 |p::a,b=>by rw[Yn,wks,wks,mq a b,XG]
theorem sM:∀ks us:List Th,wks (ks.zip us)=o7 ks us
 | [],_=>by rw[List.zip_nil_left,wks,o7]
 |k::ks,[]=>by rw[List.zip_nil_right,wks,o7]
 |k::ks,u::us=>by rw[Zz,wks,o7,sM ks us]
theorem Th.sbs_eq(l r:Th):l.sbs r=(l,r)::(if az l r=C? then wks (l.kids.zip r.kids)else[]):=by
 cases l with
 |knot n ks=>rw[Th.sbs,sM];rfl
 | call s k =>
   rw[Th.sbs];have:az (.call s k) r=false:=by cases r <;> rfl
   rw[this];rfl
def szL:List (Th×Th)->Nat
 | []=>0
 |p::ps=>p.1.size+szL ps
theorem eB:∀a b,szL (a++b)=szL a+szL b
 | [],b=>by simp[szL]
 |p::a,b=>by rw[Yn,szL,szL,eB a b,Z1]
theorem tj(a:List (Th×Th)):szL a.reverse=szL a:=by
 induction a with
 |nil=>rfl
 |cons x xs ih=>rw[X7,eB,ih,szL,szL,szL];lia
theorem iM:∀ks us:List Th,szL (ks.zip us)<=ak ks
 | [],_=>by rw[List.zip_nil_left,szL];exact Xh _
 |k::ks,[]=>by rw[List.zip_nil_right,szL];exact Xh _
 | k::ks,u::us=>by
   have:=iM ks us;rw[Zz,szL,ak];show k.size+_<=_;lia
theorem oT:∀a:List (Th×Th),a.length<=szL a
 | []=>Xh _
 | p::a=>by
   have:=p.1.size_pos;have:=oT a;rw[W2,szL];lia
theorem oR:∀(n:Nat)(ps:List (Th×Th)),szL ps<=n->(wks ps).length<=szL ps
 |_,[],_=>Xh _
 | 0,p::ps,h=>by
   have:=p.1.size_pos;rw[szL]at h;lia
 | n+1,p::ps,h=>by
   have hs:=p.1.size_eq;have hz:=iM p.1.kids p.2.kids;rw[szL]at h;have h1:=oR n ps (by lia);have h2:=oR n (p.1.kids.zip p.2.kids) (by lia);rw[wks,Th.sbs_eq,szL,Xg,W2];split
   .lia
   .rw[List.length_nil];lia
theorem x9(l r:Th):(l.sbs r).length<=l.size:=by
 have:=oR _ [(l,r)] (WX _);rw[wks,wks,XC,szL,szL]at this;exact this
theorem oE:∀(n:Nat)(ps:List (Th×Th)),szL ps<=n->∀x∈wks ps,∃p∈ps,x.1.tall<=p.1.tall/\x.2.tall<=p.2.tall/\x.1.size<=p.1.size/\x.2.size<=p.2.size
 |_,[],_,x,h=>nomatch h
 | 0,p::ps,h,x,_=>by
   have:=p.1.size_pos;rw[szL]at h;lia
 | n+1,p::ps,h,x,hx=>by
   have hs:=p.1.size_eq;have hz:=iM p.1.kids p.2.kids;rw[szL]at h;rw[wks,Th.sbs_eq,Xz]at hx;rcases hx with hx|hx
   .rcases W7.mp hx with rfl|hx
    .exact⟨p,Xd ..,WX _,WX _,WX _,WX _⟩
    .split at hx
     .obtain⟨y,hy,h1,h2,h3,h4⟩:=oE n _ (by lia) x hx;have m1:y.1∈p.1.kids:=(ZM hy).1;have m2:y.2∈p.2.kids:=(ZM hy).2;have t1:=cA m1;have t2:=cA m2;have z1:=aU m1;have z2:=aU m2;have e1:=p.1.tall_eq;have e2:=p.2.tall_eq;have e4:=p.2.size_eq;exact⟨p,Xd ..,by lia,by lia,by lia,by lia⟩
     .cases hx
   .obtain⟨y,hy,r⟩:=oE n ps (by lia) x hx;exact⟨y,W8 _ hy,r⟩
theorem ug{l r:Th}{x:Th×Th}(h:x∈l.sbs r):x.1.tall<=l.tall/\x.2.tall<=r.tall/\x.1.size<=l.size/\x.2.size<=r.size:=by
 obtain⟨p,hp,r⟩:=oE _ [(l,r)] (WX _) x (by rw[wks,wks,XC];exact h);rw[Xc]at hp;subst hp;exact r
mutual
def Th.lies:Th->Th->Bool
 |.knot n ks,r=>(n! n ks).isHole ||(az (.knot n ks) r && aF ks r.kids)
 |.call _ _,_=>CU
def aF:List Th->List Th->Bool
 | [],_=>C?
 | k::ks,us=>match us with
   | []=>C?
   |u::us=>k.lies u && aF ks us
end
theorem fR{l r:Th}(h:l.isHole=C?):az l r=false:=by
 cases l with
 | knot n ks =>
   cases r with
   | knot m us =>
     show(!(n! n ks).isHole && decide (n=m) && decide (ks.length=us.length))=CU;rw[h];rfl
   |call s k=>rfl
 |call s k=>cases h
mutual
def Th.noCall:Th->Prop
 |.knot _ ks=>aK ks
 |.call _ _=>False
def aK:List Th->Prop
 | []=>True
 |t::ts=>t.noCall/\aK ts
end
theorem cK:∀{ts:List Th}{t:Th},aK ts->t∈ts->t.noCall
 | [],_,_,h=>nomatch h
 | u::ts,t,hn,h=>by
   rw[aK]at hn;rcases W7.mp h with rfl|h
   .exact hn.1
   .exact cK hn.2 h
def Th.wid:Th->Nat
 |.knot _ ks=>ks.length
 |.call _ _=>2
theorem bp{l r:Th}(h:az l r=C?):∃n ks us,l=.knot n ks/\r=.knot n us/\ks.length=us.length/\l.isHole=false:=by
 cases l with
 | knot n ks =>
   cases r with
   | knot m us =>
     have h':(!(n! n ks).isHole && decide (n=m) && decide (ks.length=us.length))=true:=h;simp only[XT,decide_eq_true_eq,Bool.not_eq_true']at h';obtain⟨⟨h1,h2⟩,h3⟩:=h';subst h2;exact⟨n,ks,us,D?,D?,h3,h1⟩
   |call s k=>cases h
 |call s k=>cases r <;> cases h
theorem wW(l r:Th)(S:List (Th×Th)):wks ((l,r)::S)=(l,r)::((if az l r=C? then wks (l.kids.zip r.kids)else[])++wks S):=by
 rw[wks,Th.sbs_eq];rfl
theorem j4:hole.noCall:=by rw[hole,Th.noCall,aK];trivial
theorem bS:hole.isHole=true:=by
 show decide (star=star/\([]:List Th)=[])=C?;exact d! ⟨rfl,rfl⟩
theorem mY:hole.tall=1:=by rw[hole,u!,aI]
theorem dP:hole.size=1:=by rw[hole,p!,ak]
theorem yf:star≠q:=by decide
end BB
open BB.Th renaming noCall->w!,lies->x!
namespace L2
open PySem PySem.Spec PySem.SeqAt PyProof.Rows BB
open Classical in
theorem vy{X:Cx}(I:Inv X Z Y H s){ws:List V}(r1:Vals vs its)(r2:Vals ws Ag)(Cb:DAts H ds vs)(hws:DAts H es ws)(hu:A.units+bA ds+2<YH) :
 ∀j(h1:j<its.toArray.size)(h2:j<Ag.toArray.size),EqAt A.in1 s its.toArray[j] Ag.toArray[j] (decide (ds[j]?=es[j]?)):=by
 intro j h1 h2;have l1:its.length=ds.length:=by rw[<-r1.length,Cb.length]
 have l2:Ag.length=es.length:=by rw[<-r2.length,hws.length]
 have DD:j<ds.length:=by rw[<-l1];simpa using h1
 have C8:j<es.length:=by rw[<-l2];simpa using h2
 have e1:ds[j]?=A? ds[j]:=WR DD;have e2:es[j]?=A? es[j]:=WR C8;obtain⟨x',AV,dx⟩:=Cb.at e1;obtain⟨y',D6,dy⟩:=hws.at e2;obtain⟨u',BF,Fb⟩:=r1.get AV;obtain⟨v',Bh,Eg⟩:=r2.get D6;have e3:decide (ds[j]?=es[j]?)=decide (ds[j]=es[j]):=by rw[e1,e2];simp
 have e4:its.toArray[j]=u':=by
  rw[WR (by rw[l1];exact DD)]at BF;simpa using BF
 have e5:Ag.toArray[j]=v':=by
  rw[WR (by rw[l2];exact C8)]at Bh;simpa using Bh
 rw[e3,e4,e5];have q2:=ff e1;refine t5 I _ ds[j] es[j] (WX _) x' y' u' v' A.in1 dx dy Fb Eg ?_;show A.units+1+_<YH;lia
open Classical in
theorem kK(hl:ds.length=es.length):(XF ds.length).all (λj=>decide (ds[j]?=es[j]?))=decide (ds=es):=by
 by_cases h:ds=es
 .subst h;rw[d! rfl];simp
 .rw[c! h];refine Yo.mpr λz=>h (List.ext_getElem? λj=>?_);by_cases hj:j<ds.length
  .exact e! (List.all_eq_true.mp z j (YR.mpr hj))
  .rw[ZG (by lia),ZG (by lia)]
end L2
namespace BB
open PySem L2
mutual
def Th.hw(pre:List Int):Th->Th->List (List Int×Th)
 |.knot n ks,t=>if(n! n ks).isHole=C? then[(pre,t)]else hws pre 0 ks t.kids
 |.call _ _,_=>[]
def hws(pre:List Int)(i:Int):List Th->List Th->List (List Int×Th)
 | [],_=>[]
 | k::ks,us=>match us with
   | []=>[]
   |u::us=>k.hw (pre++[i]) u++hws pre (i+1) ks us
end
theorem dF(h:f.isHole=C?)(pre:List Int)(t:Th):f.hw pre t=[(pre,t)]:=by
 cases f with
 |knot n ks=>rw[Th.hw,b! h]
 |call s k=>cases h
theorem kG(h:f.isHole=C?):f=hole:=by
 cases f with
 | knot n ks =>
   have h':=e! (show decide (n=star/\ks=[])=C? from h);rw[h'.1,h'.2];rfl
 |call s k=>cases h
theorem ba{t:Th}(h:f.lies t=C?):f.isHole=C?\/∃n ks us,f=.knot n ks/\t=.knot n us/\ks.length=us.length/\f.isHole=CU/\az f t=C?/\aF ks us=true:=by
 cases f with
 | knot n ks =>
   rw[x!]at h;cases hh:(n! n ks).isHole with
   |true=>exact .inl rfl
   | false =>
     rw[hh,Bool.false_or,XT]at h;obtain⟨n',EK,us,e1,rfl,e3,_⟩:=bp h.1;cases e1;exact .inr ⟨n,ks,us,rfl,rfl,e3,rfl,h.1,h.2⟩
 |call s k=>rw[x!]at h;cases h
theorem aR{k u:Th}{ks us:List Th}:aF (k::ks) (u::us)=(k.lies u && aF ks us):=by rw[aF]
mutual
theorem i8:∀(pre:List Int)(f t:Th),f.lies t=C?->((f.pl pre).filter λp=>p.2.isHole).map (·.1)=(f.hw pre t).map (·.1)
 | pre,.knot n ks,t,h=>by
   rcases ba h with hh|⟨n',EK,us,e1,rfl,e3,hh,_,hl⟩
   .rw[dF hh,kG hh,hole,C!,pls];rw[X0,b! (show(n! star []).isHole=C? from bS)];rfl
   .cases e1;rw[C!,Th.hw,a! (by rw[hh];exact W5),X0,a! (show¬(n! n ks).isHole=C? by rw[hh];exact W5)];exact lI pre 0 ks us e3 hl
 |pre,.call s k,t,h=>by rw[x!]at h;cases h
theorem lI:∀(pre:List Int)(i:Int)(ks us:List Th),ks.length=us.length->aF ks us=C?->((pls pre i ks).filter λp=>p.2.isHole).map (·.1)=(hws pre i ks us).map (·.1)
 |pre,i,[],us,_,_=>by rw[pls,hws];rfl
 |pre,i,k::ks,[],e,_=>by simp at e
 | pre,i,k::ks,u::us,e,h=>by
   rw[aR,XT]at h;rw[pls,hws,ZC,Xb,Xb,i8 _ k u h.1,lI pre (i+1) ks us (by simpa using e) h.2]
end
mutual
theorem rh:∀(pre:List Int)(f t:Th),f.lies t=C?->((f.sbs t).filter λp=>p.1.isHole).map (·.2)=(f.hw pre t).map (·.2)
 | pre,.knot n ks,t,h=>by
   rcases ba h with hh|⟨n',EK,us,e1,rfl,e3,hh,hs,hl⟩
   .rw[dF hh,Th.sbs,fR hh,a! W5,X0,b! hh];rfl
   .cases e1;rw[Th.sbs,hs,b! rfl,Th.hw,a! (by rw[hh];exact W5),X0,a! (show¬(n! n ks).isHole=C? by rw[hh];exact W5)];exact nq pre 0 ks us e3 hl
 |pre,.call s k,t,h=>by rw[x!]at h;cases h
theorem nq:∀(pre:List Int)(i:Int)(ks us:List Th),ks.length=us.length->aF ks us=C?->((o7 ks us).filter λp=>p.1.isHole).map (·.2)=(hws pre i ks us).map (·.2)
 |pre,i,[],us,_,_=>by rw[o7,hws];rfl
 |pre,i,k::ks,[],e,_=>by simp at e
 | pre,i,k::ks,u::us,e,h=>by
   rw[aR,XT]at h;rw[o7,hws,ZC,Xb,Xb,rh _ k u h.1,nq pre (i+1) ks us (by simpa using e) h.2]
end
def aZ:List Th->List Th->List Top
 | [],_=>[]
 |x::xs,ps=>if x.isHole=C? then .th (ps.headD hole)::aZ xs ps.tail else .nm x.name x.wid::aZ xs ps
def aS(xs:List Th):Nat:=(xs.filter A!).length
theorem di(a b:List Th):aS (a++b)=aS a+aS b:=by unfold aS;rw[ZC,Xg]
theorem cu:∀(xs ys ps:List Th),aZ (xs++ys) ps=aZ xs ps++aZ ys (ps.drop (aS xs))
 | [],ys,ps=>by show _=[]++aZ ys (ps.drop 0);rfl
 | x::xs,ys,ps=>by
   rw[Yn,aZ,aZ];by_cases h:x.isHole=C?
   .rw[b! h,b! h];have hn:aS (x::xs)=aS xs+1:=by unfold aS;rw[X0,b! h];rfl
    rw[cu xs ys ps.tail,hn,List.drop_tail,Nat.add_comm];rfl
   .rw[a! h,a! h];have hn:aS (x::xs)=aS xs:=by unfold aS;rw[X0,a! h]
    rw[cu xs ys ps,hn];rfl
mutual
theorem oS:∀(pre:List Int)(f t:Th),f.lies t=C?->∀(P:List Th)(S:List Top),aZ f.walk ((f.hw pre t).map (·.2)++P)=aZ f.walk ((f.hw pre t).map (·.2))/\aS f.walk=(f.hw pre t).length/\bl (aZ f.walk ((f.hw pre t).map (·.2))++S)=t::bl S/\(TopsOk S->TopsOk (aZ f.walk ((f.hw pre t).map (·.2))++S))
 | pre,.knot n ks,t,h,P,S=>by
   rcases ba h with hh|⟨n',EK,us,e1,rfl,e3,hh,_,hl⟩
   .have he:=kG hh;rw[dF hh,he];have Tf:hole.walk=[hole]:=by rw[hole,Th.walk,walks]
    have ht:∀Q:List Th,aZ [hole] (t::Q)=[.th t]:=λQ=>by rw[aZ,b! bS];rfl
    rw[Tf];refine⟨by rw[Xr,Yn,ht,Y2,ht],by unfold aS;rw[X0,b! bS];rfl,?_,λhS=>?_⟩
    .rw[Xr,ht];show bl (.th t::S)=_;rw[bl]
    .rw[Xr,ht];show TopsOk (.th t::S);rw[TopsOk];exact hS
   .cases e1;have Ap:¬(n! n ks).isHole=true:=by rw[hh];exact W5
    have ih:=pJ pre 0 ks us e3 hl P S;have e:(n! n ks).hw pre (.knot n us)=hws pre 0 ks us:=by rw[Th.hw,a! Ap];rfl
    rw[e,Th.walk];have hg:∀Q:List Th,aZ (.knot n ks::walks ks) Q=.nm n ks.length::aZ (walks ks) Q:=λQ=>by rw[aZ,a! Ap];rfl
    refine⟨by rw[hg,hg,ih.1],?_,?_,λhS=>?_⟩
    .have:aS (n! n ks::walks ks)=aS (walks ks):=by unfold aS;rw[X0,a! Ap]
     rw[this];exact ih.2.1
    .rw[hg,Yn,bl,ih.2.2.1,e3,List.take_left,List.drop_left]
    .rw[hg,Yn,TopsOk];exact⟨by rw[ih.2.2.1,Xg,e3];exact Y5 _ _,ih.2.2.2 hS⟩
 |pre,.call s k,t,h,P,S=>by rw[x!]at h;cases h
theorem pJ:∀(pre:List Int)(i:Int)(ks us:List Th),ks.length=us.length->aF ks us=C?->∀(P:List Th)(S:List Top),aZ (walks ks) ((hws pre i ks us).map (·.2)++P)=aZ (walks ks) ((hws pre i ks us).map (·.2))/\aS (walks ks)=(hws pre i ks us).length/\bl (aZ (walks ks) ((hws pre i ks us).map (·.2))++S)=us++bl S/\(TopsOk S->TopsOk (aZ (walks ks) ((hws pre i ks us).map (·.2))++S))
 | pre,i,[],us,e,_,P,S=>by
   have:us=[]:=XZ.mp (by simpa using e.symm);subst this;rw[walks,hws];exact⟨D?,D?,D?,λh=>h⟩
 |pre,i,k::ks,[],e,_,P,S=>by simp at e
 | pre,i,k::ks,u::us,e,h,P,S=>by
   rw[aR,XT]at h;have i2:=pJ pre (i+1) ks us (by simpa using e) h.2 P S;have i1:=oS (pre++[i]) k u h.1 ((hws pre (i+1) ks us).map (·.2)) (aZ (walks ks) ((hws pre (i+1) ks us).map (·.2))++S);have Tg:=oS (pre++[i]) k u h.1 ((hws pre (i+1) ks us).map (·.2)++P) S
   have hd:∀Q:List Th,((k.hw (pre++[i]) u).map (·.2)++Q).drop (aS k.walk)=Q:=λQ=>by
    rw[i1.2.1,<-WO (as:=k.hw (pre++[i]) u) (f:=(·.2)),List.drop_left]
   have C9:aZ (walks (k::ks)) ((hws pre i (k::ks) (u::us)).map (·.2))=aZ k.walk ((k.hw (pre++[i]) u).map (·.2))++aZ (walks ks) ((hws pre (i+1) ks us).map (·.2)):=by
    rw[walks,hws,Xb,cu,hd,i1.1]
   refine⟨?_,?_,?_,λhS=>?_⟩
   .rw[C9,walks,hws,Xb,XG,cu,hd,Tg.1,i2.1]
   .rw[walks,hws,di,Xg,i1.2.1,i2.2.1]
   .rw[C9,XG,i1.2.2.1,i2.2.2.1];rfl
   .rw[C9,XG];exact i1.2.2.2 (i2.2.2.2 hS)
end
theorem uq(pre:List Int){t:Th}(h:f.lies t=C?):bl (aZ f.walk ((f.hw pre t).map (·.2)))=[t]/\TopsOk (aZ f.walk ((f.hw pre t).map (·.2)))/\aS f.walk=(f.hw pre t).length:=by
 obtain⟨_,h2,h3,h4⟩:=oS pre f t h [] [];rw[XC]at h3 h4;exact⟨by rw[h3,bl],h4 (by rw[TopsOk];trivial),h2⟩
theorem gB:∀(xs ps:List Th),(aZ xs ps).length=xs.length
 | [],_=>rfl
 | x::xs,ps=>by
   rw[aZ];split
   .rw[W2,W2,gB xs ps.tail]
   .rw[W2,W2,gB xs ps]
theorem iU:∀(xs ps:List Th)(t:Th),Top.th t∈aZ xs ps->t∈ps\/t=hole
 | [],_,t,h=>nomatch h
 | x::xs,ps,t,h=>by
   rw[aZ]at h;split at h
   .cases ps with
    | nil =>
      rcases W7.mp h with h|h
      .cases h;exact .inr rfl
      .exact iU xs [] t h
    | cons p ps =>
      rcases W7.mp h with h|h
      .cases h;exact .inl (Xd ..)
      .rcases iU xs ps t h with h|h
       .exact .inl (W8 _ h)
       .exact .inr h
   .rcases W7.mp h with h|h
    .cases h
    .exact iU xs ps t h
theorem xX(pre:List Int){t:Th}(h:f.lies t=C?):∀p∈f.hw pre t,p.2.size<=t.size/\p.2.tall<=t.tall:=by
 intro p hp;have h1:p.2∈(f.hw pre t).map (·.2):=Xl.mpr ⟨p,hp,rfl⟩;rw[<-rh pre f t h]at h1;obtain⟨x,hx,e⟩:=Xl.mp h1;have:=ug (Y1.mp hx).1;rw[<-e];exact⟨this.2.2.2,this.2.1⟩
theorem zT(pre:List Int){t:Th}(h:f.lies t=C?):(f.hw pre t).length<=f.size:=by
 have h1:=(uq pre h).2.2;rw[<-h1];unfold aS;have:=ZF A! f.walk;rw[J!]at this;exact this
theorem pick{G:α->β->γ->Prop}(h:∀x a,F x a->∃c,G x a c):∀{xs:List α}{as:List β},Xs F xs as->∃cs:List γ,cs.length=as.length/\∀(i:Nat)x a c,xs[i]?=A? x->as[i]?=A? a->cs[i]?=A? c->G x a c
 |_,_,.nil=>⟨[],rfl,λi x a c e=>by simp at e⟩
 | _,_,.cons r t=>by
   obtain⟨c,hc⟩:=h _ _ r;obtain⟨cs,h1,h2⟩:=pick h t;refine⟨c::cs,by rw[W2,W2,h1],λi x a c' e1 e2 e3=>?_⟩;cases i with
   |zero=>simp at e1 e2 e3;subst e1 e2 e3;exact hc
   |succ i=>exact h2 i x a c' (by simpa using e1) (by simpa using e2) (by simpa using e3)
theorem sK{R:α->γ->Prop}(p:α->Bool):∀{xs:List α}{cs:List γ},xs.length=cs.length->(∀(i:Nat)x c,xs[i]?=A? x->cs[i]?=A? c->R x c)->Xs R (xs.filter p) (((xs.zip cs).filter λz=>p z.1).map (·.2))
 | [],[],_,_=>.nil
 | [],_::_,h,_=>by simp at h
 |_::_,[],h,_=>by simp at h
 | x::xs,c::cs,h,r=>by
   rw[Zz,X0,X0];have ih:=sK p (xs:=xs) (cs:=cs) (R:=R) (by simpa using h) λi x' c' e1 e2=>r (i+1) x' c' (by simpa using e1) (by simpa using e2);by_cases e:p x=C?
   .rw[b! e,b! e];exact .cons (r 0 x c rfl rfl) ih
   .rw[a! e,a! e];exact ih
theorem P2.mapl{R:β->γ->Prop}(f:α->β):∀{xs:List α}{cs:List γ},Xs (λx c=>R (f x) c) xs cs->Xs R (xs.map f) cs
 |_,_,.nil=>.nil
 |_,_,.cons r h=>.cons r (P2.mapl f h)
mutual
theorem jH:∀f:Th,f.noCall->∀x∈f.walk,x.noCall
 | .knot n ks,h,x,hx=>by
   rw[Th.walk]at hx;rcases W7.mp hx with rfl|hx
   .exact h
   .rw[w!]at h;exact iZ ks h x hx
 |.call s k,h,x,hx=>by rw[w!]at h;exact h.elim
theorem iZ:∀ts:List Th,aK ts->∀x∈walks ts,x.noCall
 | [],_,x,hx=>by rw[walks]at hx;cases hx
 | t::ts,h,x,hx=>by
   rw[aK]at h;rw[walks]at hx;rcases Xz.mp hx with hx|hx
   .exact jH t h.1 x hx
   .exact iZ ts h.2 x hx
end
theorem jP{C:Nat}:∀ts:List Th,(∀u∈ts,u.size<=B/\u.tall<=C)->bA (dvs ts)<=C
 | [],_=>by rw[dvs,bA];exact Xh _
 | t::ts,h=>by
   have h1:=jP ts λu hu=>h u (W8 _ hu);have h2:=(h t (Xd ..)).2;have h3:=t.dv_deep;rw[dvs,bA];lia
inductive Rep where
 |i
 |p
def enc(s l:Int):Int:=1000 * s+l
def StV(r:Rep)(H:Hp)(s:Int)(v:V):Prop:=match r with
 |.i=>v=.int s
 |.p=>∃(a:WS)(x y:Int),v=.ref a/\H a=A? (.tup [.int x,.int y])/\s=enc x y/\0<=x/\0<=y/\y<1000
theorem StV.mono{r:Rep}(k:KT H H'){s:Int}(h:StV r H s v):StV r H' s v:=by
 cases r with
 |i=>exact h
 | p =>
   obtain⟨a,x,y,e,h1,h2⟩:=h;exact⟨a,x,y,e,k _ _ h1,h2⟩
theorem oF{x y x' y':Int}(h:enc x y=enc x' y')(h1:0<=y)(h2:y<1000)(h3:0<=y')(h4:y'<1000):x=x'/\y=y':=by
 unfold enc at h;lia
mutual
def AtK(rp:Rep)(K:WQ)(H:Hp):Th->WS->Prop
 |.knot n ks,a=>n≠q/\∃as:List WS,TK K H a (.str n::as.map i!)/\AtsK rp K H ks as
 |.call s k,a=>∃v,TK K H a [.str q,v,.int k]/\StV rp H s v
def AtsK(rp:Rep)(K:WQ)(H:Hp):List Th->List WS->Prop
 | [],as=>as=[]
 |t::ts,as=>∃a r,as=a::r/\AtK rp K H t a/\AtsK rp K H ts r
end
mutual
theorem AtK.mono(k:KT H H'):∀{t:Th}{a:WS},AtK rp K H t a->AtK rp K H' t a
 | .knot n ks,a,h=>by
   rw[AtK]at h |-;obtain⟨h0,as,h1,h2⟩:=h;exact⟨h0,as,h1.mono k,AtsK.mono k h2⟩
 | .call s c,a,h=>by
   rw[AtK]at h |-;obtain⟨v,h1,h2⟩:=h;exact⟨v,h1.mono k,h2.mono k⟩
theorem AtsK.mono(k:KT H H'):∀{ts:List Th}{as:List WS},AtsK rp K H ts as->AtsK rp K H' ts as
 | [],as,h=>by rw[AtsK]at h |-;exact h
 | t::ts,as,h=>by
   rw[AtsK]at h |-;obtain⟨a,r,e,h1,h2⟩:=h;exact⟨a,r,e,AtK.mono k h1,AtsK.mono k h2⟩
end
theorem AtsK.nil:AtsK rp K H [] []:=by rw[AtsK]
theorem AtsK.cons{t:Th}(h1:AtK rp K H t a)(h2:AtsK rp K H ts as):AtsK rp K H (t::ts) (a::as):=by rw[AtsK];exact⟨a,as,D?,h1,h2⟩
theorem AtsK.append:∀{ts us:List Th}{as bs:List WS},AtsK rp K H ts as->AtsK rp K H us bs->AtsK rp K H (ts++us) (as++bs)
 | [],us,as,bs,h,g=>by rw[AtsK]at h;subst h;exact g
 | t::ts,us,as,bs,h,g=>by
   rw[AtsK]at h;obtain⟨a,r,rfl,h1,h2⟩:=h;exact .cons h1 (h2.append g)
theorem AtsK.length:∀{ts:List Th}{as:List WS},AtsK rp K H ts as->as.length=ts.length
 | [],as,h=>by rw[AtsK]at h;subst h;rfl
 | t::ts,as,h=>by
   rw[AtsK]at h;obtain⟨a,r,rfl,h1,h2⟩:=h;rw[W2,W2,h2.length]
theorem AtsK.reverse:∀{ts:List Th}{as:List WS},AtsK rp K H ts as->AtsK rp K H ts.reverse as.reverse
 | [],as,h=>by rw[AtsK]at h;subst h;exact .nil
 | t::ts,as,h=>by
   rw[AtsK]at h;obtain⟨a,r,rfl,h1,h2⟩:=h;rw[X7,X7];exact h2.reverse.append (.cons h1 .nil)
theorem AtsK.get:∀{ts:List Th}{as:List WS}{i:Nat}{a:WS},AtsK rp K H ts as->as[i]?=A? a->∃t,ts[i]?=A? t/\AtK rp K H t a
 | [],as,i,a,h,e=>by rw[AtsK]at h;subst h;simp at e
 | t::ts,as,i,a,h,e=>by
   rw[AtsK]at h;obtain⟨b,r,rfl,h1,h2⟩:=h;cases i with
   |zero=>simp at e;subst e;exact⟨t,D?,h1⟩
   |succ i=>exact h2.get (i:=i) (by simpa using e)
theorem AtsK.at:∀{ts:List Th}{as:List WS}{i:Nat}{t:Th},AtsK rp K H ts as->ts[i]?=A? t->∃a,as[i]?=A? a/\AtK rp K H t a
 | [],as,i,a,h,e=>by simp at e
 | t::ts,as,i,a,h,e=>by
   rw[AtsK]at h;obtain⟨b,r,rfl,h1,h2⟩:=h;cases i with
   |zero=>simp at e;subst e;exact⟨b,D?,h1⟩
   |succ i=>exact h2.at (i:=i) (by simpa using e)
theorem AtsK.snoc_inv(h:AtsK rp K H ts (as++[a])):∃us t,ts=us++[t]/\AtsK rp K H us as/\AtK rp K H t a:=by
 have r:=h.reverse;rw[Yz,List.reverse_singleton,List.singleton_append]at r;cases e:ts.reverse with
 |nil=>rw[e,AtsK]at r;cases r
 | cons t us =>
   rw[e,AtsK]at r;obtain⟨b,z,e1,h1,h2⟩:=r;cases e1;refine⟨us.reverse,t,?_,?_,h1⟩
   .rw[<-X7,<-e,Y6]
   .have:=h2.reverse;rw[Y6]at this;exact this
mutual
theorem AtK.dv:∀{t:Th}{a:WS},AtK .i K H t a->DAtK K H t.dv (.ref a)
 | .knot n ks,a,h=>by
   rw[AtK]at h;obtain⟨_,as,h1,h2⟩:=h;rw[Th.dv,DAtK];exact⟨a,_,D?,h1,.cons (by rw[DAtK]) (AtsK.dvs h2)⟩
 | .call s k,a,h=>by
   rw[AtK]at h;obtain⟨v,h,hv⟩:=h;cases(show v=.int s from hv);rw[Th.dv,DAtK];exact⟨a,_,D?,h,.cons (by rw[DAtK]) (.cons (by rw[DAtK]) (.cons (by rw[DAtK]) .nil))⟩
theorem AtsK.dvs:∀{ts:List Th}{as:List WS},AtsK .i K H ts as->DAtsK K H (dvs ts) (as.map i!)
 | [],as,h=>by rw[AtsK]at h;subst h;rw[BB.dvs];exact .nil
 | t::ts,as,h=>by
   rw[AtsK]at h;obtain⟨a,r,rfl,h1,h2⟩:=h;rw[BB.dvs,Xr];exact .cons (AtK.dv h1) (AtsK.dvs h2)
end
mutual
theorem At.k:∀{t:Th}{a:WS},At H t a->AtK .i K H t a
 | .knot n ks,a,h=>by
   rw[At]at h;rw[AtK];obtain⟨h0,as,h1,h2⟩:=h;exact⟨h0,as,.of h1,Ats.k h2⟩
 | .call s c,a,h=>by
   rw[At]at h;rw[AtK];exact⟨_,.of h,D?⟩
theorem Ats.k:∀{ts:List Th}{as:List WS},Ats H ts as->AtsK .i K H ts as
 | [],as,h=>by rw[Ats]at h;rw[AtsK];exact h
 | t::ts,as,h=>by
   rw[Ats]at h;rw[AtsK];obtain⟨a,r,e,h1,h2⟩:=h;exact⟨a,r,e,At.k h1,Ats.k h2⟩
end
theorem AtK.row{t:Th}(h:AtK rp K H t a):∃r,TK K H a (.str t.name::r)/\r.length=t.wid:=by
 cases t with
 | knot n ks =>
   rw[AtK]at h;obtain⟨_,as,h1,h2⟩:=h;exact⟨_,h1,by rw[WO,h2.length];rfl⟩
 | call s k =>
   rw[AtK]at h;obtain⟨v,h,_⟩:=h;exact⟨_,h,D?⟩
theorem qg{l:Th}{x:WS}(h:AtK rp K H l x)(r:Th):az l r=(l.isKnot && (decide (l.name=r.name) && decide (l.wid=r.wid))):=by
 cases l with
 | knot n ks =>
   rw[AtK]at h;cases r with
   | knot m us =>
     show(!(n! n ks).isHole && decide (n=m) && decide (ks.length=us.length))=(!false && !(n! n ks).isHole && (decide (n=m) && decide (ks.length=us.length)));rw[Bool.and_assoc];rfl
   | call s k =>
     show CU=(_ && (decide (n=q) && _));rw[c! h.1];simp
 |call s k=>cases r <;> rfl
theorem abS{ys:List V}{Q:VK}(ha:TK K H a xs)(hb:TK K H b ys)(hz:xs.length+ys.length<=1000000)(q:∀p H',k! H H'->TK K H' p (xs++ys)->Q (.ref p) H'):qU K (.ref a) (.ref b) H Q:=by
 refine⟨a,b,xs,ys,D?,D?,ha.sq,hb.sq,de hz,λe=>?_,λ_ e=>?_,λ_ _ p hp=>?_⟩
 .exact q b H (.refl _) (by rw[e];exact hb)
 .exact q a H (.refl _) (by rw[e,XC];exact ha)
 .exact q p _ (ae hp _) (.of ac)
def PPK(K:WQ)(H:Hp)(p:Th×Th)(a:WS):Prop:=∃x y,H a=A? (.tup [.ref x,.ref y])/\AtK .i K H p.1 x/\AtK .i K H p.2 y
theorem PPK.mono(k:KT H H'){p:Th×Th}(h:PPK K H p a):PPK K H' p a:=by
 obtain⟨x,y,h1,h2,h3⟩:=h;exact⟨x,y,k _ _ h1,h2.mono k,h3.mono k⟩
theorem dO(k:KT H H'){ps:List (Th×Th)}(h:Xs (PPK K H) ps as):Xs (PPK K H') ps as:=y! (λ_ _ e=>PPK.mono k e) h
theorem qk:∀{ks us:List Th}{as bs ts:List WS},AtsK .i K H ks as->AtsK .i K H us bs->Xs (λ(p:V×V)t=>H t=A? (.tup [p.1,p.2])) ((as.map i!).zip (bs.map i!)) ts->Xs (PPK K H) (ks.zip us) ts
 | [],us,as,bs,ts,h1,h2,h=>by
   rw[AtsK]at h1;subst h1;rw[Y2,List.zip_nil_left]at h;cases h;rw[List.zip_nil_left];exact .nil
 | k::ks,[],as,bs,ts,h1,h2,h=>by
   rw[AtsK]at h2;subst h2;rw[Y2,List.zip_nil_right]at h;cases h;rw[List.zip_nil_right];exact .nil
 | k::ks,u::us,as,bs,ts,h1,h2,h=>by
   rw[AtsK]at h1 h2;obtain⟨a,ar,rfl,a1,a2⟩:=h1;obtain⟨b,br,rfl,b1,b2⟩:=h2;rw[Xr,Xr,Zz]at h;cases h with
   | cons r h =>
     rw[Zz];exact .cons ⟨a,b,r,a1,b1⟩ (qk a2 b2 h)
def TopAtK(rp:Rep)(K:WQ)(H:Hp):Top->WS->Prop
 |.nm n m,a=>∃ta,H a=A? (.tup [.ref ta,.int (m:Nat)])/\n≠q/\TK K H ta [.str n]
 |.th t,a=>∃ta,H a=A? (.tup [.ref ta,.int 0])/\AtK rp K H t ta
theorem TopAtK.mono(k:KT H H'):∀{x:Top}{a:WS},TopAtK rp K H x a->TopAtK rp K H' x a
 | .nm n m,a,h=>by
   obtain⟨ta,h1,h2,h3⟩:=h;exact⟨ta,k _ _ h1,h2,h3.mono k⟩
 | .th t,a,h=>by
   obtain⟨ta,h1,h2⟩:=h;exact⟨ta,k _ _ h1,h2.mono k⟩
theorem cW(k:KT H H'){l:List Top}(h:Xs (TopAtK rp K H) l as):Xs (TopAtK rp K H') l as:=y! (λ_ _ e=>TopAtK.mono k e) h
theorem AtK.whole{t:Th}(h:AtK rp K H t a):∃xs,TK K H a xs/\xs.length<=t.size+2/\∀(H':Hp)(p:WS),KT H H'->TK K H' p xs->AtK rp K H' t p:=by
 cases t with
 | knot n ks =>
   rw[AtK]at h;obtain⟨h0,as,h1,h2⟩:=h;refine⟨_,h1,?_,λH' p kt hp=>?_⟩
   .have:=h2.length;have:=cJ ks;rw[W2,WO,p!];lia
   .rw[AtK];exact⟨h0,as,hp,h2.mono kt⟩
 | call s k =>
   rw[AtK]at h;obtain⟨v,h,hv⟩:=h;refine⟨_,h,by rw[p!];exact WX _,λH' p kt hp=>?_⟩;rw[AtK];exact⟨v,hp,hv.mono kt⟩
theorem xE(h:TK K H a [.str star]):AtK rp K H hole a:=by
 rw[hole,AtK];exact⟨yf,[],h,by rw[AtsK]⟩
theorem og:∀{ts:List Th}{as:List WS},Xs (AtK rp K H) ts as->AtsK rp K H ts as
 |_,_,.nil=>.nil
 |_,_,.cons r h=>.cons r (og h)
end BB
namespace L2
open PySem PySem.Spec PySem.SeqAt PyProof.Rows BB
def y6(K:WQ)(B:Nat):R2:=λx y H Q=>∃a b vs ws ds es,x=.ref a/\y=.ref b/\SqT K H a vs/\SqT K H b ws/\DAtsK K H ds vs/\DAtsK K H es ws/\bA ds<=B/\∀b:Bool,(b=C?↔ds=es)->Q (.bl b) H
open Classical in
theorem tm{X:Cx}(hu:X.A.units+B+2<YH):OpR X (compareOp .Eq) (y6 X.K B):=by
 intro Z s Y H x y v u Q I rx ry h;obtain⟨a,b,vs,ws,ds,es,rfl,rfl,ha,hb,Cb,hws,hB,q⟩:=h;cases rx;cases ry
 have r:RcAt X.A s (.ref a) (.ref b) (decide (Dv.tup ds=Dv.tup es)):=nQ I ha hb Cb hws (by lia) λj d e x' y' u' v' e1 dx dy Fb Eg=>by
  have q2:=ff e1;refine i0 I _ d e (WX _) x' y' u' v' X.A.in1 dx dy Fb Eg ?_;show X.A.units+1+_<YH;lia
 refine r X.prog X.w X.xe _ ⟨.bl (decide (Dv.tup ds=Dv.tup es)),H,I,rfl,q _ ?_⟩;constructor
 .intro z;exact Dv.tup.inj (e! z)
 .intro z;rw[z];exact d! rfl
def abu(K:WQ):V->Option Int->Option Int->Hp->VK->Prop:=λx lo hi H Q=>∃a xs,x=.ref a/\TK K H a xs/\∀p H',Same H H'->TK K H' p (jn xs lo hi)->Q (.ref p) H'
theorem ub{X:Cx}:SlR X (abu X.K):=by
 intro Z s Y H x v vl vu lo hi sl Q I rx hs pl pu h;obtain⟨a,xs,rfl,ha,q⟩:=h;by_cases hw:H! xs.length 0 lo=0/\H! xs.length xs.length hi=xs.length
 .obtain⟨its,r,p1,hz⟩:=I.tuple ha.sq;have hl:=r.length;cases rx
  have e:jn xs lo hi=xs:=by
   unfold jn;rw[hw.1,hw.2,Z9,Nat.sub_zero,YB]
  refine⟨"tuple",_,XQ.lookup,p1.typeIs,HT.getItem_tuple_whole p1 hs pl pu (by rw[W0,<-hl];exact hw) ⟨.ref a,H,I,D?,q a H (.refl _) (by rw[e];exact ha)⟩⟩
 .exact kQ Z s Y H _ v vl vu lo hi sl Q I rx hs pl pu ⟨a,xs,rfl,ha.sq,hw,λp hp=>q p _ (ae hp _) (.of ac)⟩
end L2
namespace BB
open PySem L2
mutual
def Th.com:Th->Th->Th
 |.knot n ks,r=>if az (.knot n ks) r=C? then .knot n (dJ ks r.kids)else hole
 |.call _ _,_=>hole
def dJ:List Th->List Th->List Th
 | [],_=>[]
 | k::ks,us=>match us with
   | []=>[]
   |u::us=>k.com u::dJ ks us
end
theorem qX:∀ks us:List Th,dJ ks us=(ks.zip us).map λp=>p.1.com p.2
 | [],_=>by rw[dJ];rfl
 |k::ks,[]=>by rw[dJ];rfl
 |k::ks,u::us=>by rw[dJ,qX ks us];rfl
theorem ii(l r:Th):l.com r=if az l r=C? then .knot l.name ((l.kids.zip r.kids).map λp=>p.1.com p.2)else hole:=by
 cases l with
 |knot n ks=>rw[Th.com,qX];rfl
 | call s k =>
   rw[Th.com];have:az (.call s k) r=false:=by cases r <;> rfl
   rw[this];rfl
def topC(p:Th×Th):Top:=if az p.1 p.2=C? then .nm p.1.name p.1.kids.length else .th hole
theorem rD:∀(n:Nat)(ps:List (Th×Th)),szL ps<=n->∀S,bl ((wks ps).map topC++S)=ps.map (λp=>p.1.com p.2)++bl S/\(TopsOk S->TopsOk ((wks ps).map topC++S))
 |_,[],_,S=>⟨rfl,λh=>h⟩
 | 0,p::ps,h,S=>by
   have:=p.1.size_pos;rw[szL]at h;lia
 | n+1,p::ps,h,S=>by
   have hs:=p.1.size_eq;have hz:=iM p.1.kids p.2.kids;rw[szL]at h;have i2:=rD n ps (by lia) S;rw[wks,Th.sbs_eq,Xb,XG,Xr,Yn];have hc:(p::ps).map (λp=>p.1.com p.2)=p.1.com p.2::ps.map (λp=>p.1.com p.2):=rfl;by_cases AW:az p.1 p.2=C?
   .have i1:=rD n (p.1.kids.zip p.2.kids) (by lia) ((wks ps).map topC++S);obtain⟨nm,ks,us,e1,e2,e3,_⟩:=bp AW
    have hl:((p.1.kids.zip p.2.kids).map λp=>p.1.com p.2).length=p.1.kids.length:=by
     rw[WO,List.length_zip,e1,e2];simp only[K!];lia
    have ht:topC (p.1,p.2)=.nm p.1.name p.1.kids.length:=by unfold topC;rw[b! AW]
    rw[b! AW,ht];refine⟨?_,λhS=>?_⟩
    .rw[bl,i1.1,i2.1,hc,ii,b! AW,<-hl,List.take_left,List.drop_left];rfl
    .rw[TopsOk];exact⟨by rw[i1.1,Xg,hl];exact Y5 _ _,i1.2 (i2.2 hS)⟩
   .have ht:topC (p.1,p.2)=.th hole:=by unfold topC;rw[a! AW]
    rw[a! AW,ht,Y2,Y0];refine⟨?_,λhS=>?_⟩
    .rw[bl,i2.1,hc,ii,a! AW];rfl
    .rw[TopsOk];exact i2.2 hS
theorem z9(l r:Th):bl ((l.sbs r).map topC)=[l.com r]/\TopsOk ((l.sbs r).map topC):=by
 have h:=rD _ [(l,r)] (WX _) [];rw[wks,wks,XC,XC]at h;refine⟨?_,h.2 (by rw[TopsOk];trivial)⟩;rw[h.1,bl];rfl
theorem cT(l r:Th):az l r=az r l:=by
 cases l with
 | knot n ks =>
   cases r with
   | knot m us =>
     show(!decide (n=star/\ks=[]) && decide (n=m) && decide (ks.length=us.length))=(!decide (m=star/\us=[]) && decide (m=n) && decide (us.length=ks.length));by_cases h1:n=m
     .subst h1;by_cases h2:ks.length=us.length
      .have h3:(n=star/\ks=[])↔(n=star/\us=[]):=by
        constructor
        .rintro⟨a,b⟩;rw[b]at h2;exact⟨a,XZ.mp h2.symm⟩
        .rintro⟨a,b⟩;rw[b]at h2;exact⟨a,XZ.mp h2⟩
       rw[decide_eq_decide.mpr h3,h2]
      .have C8:¬us.length=ks.length:=λe=>h2 e.symm;simp[h2,C8]
     .have DD:¬m=n:=λe=>h1 e.symm;simp[h1,DD]
   |call s k=>rfl
 |call s k=>cases r <;> rfl
mutual
theorem pX:∀l r:Th,(l.com r).size<=l.size/\(l.com r).tall<=l.tall
 | .knot n ks,r=>by
   have h:=mU ks r.kids;rw[Th.com];split
   .rw[p!,p!,u!,u!];lia
   .have:=(n! n ks).size_pos;have:=(n! n ks).tall_eq;rw[dP,mY];lia
 |.call s k,r=>by rw[Th.com,dP,mY,p!,u!];lia
theorem mU:∀ks us:List Th,ak (dJ ks us)<=ak ks/\aI (dJ ks us)<=aI ks
 | [],us=>by rw[dJ,ak,aI];exact⟨WX _,WX _⟩
 |k::ks,[]=>by rw[dJ,ak,aI];exact⟨Xh _,Xh _⟩
 | k::ks,u::us=>by
   have h1:=pX k u;have h2:=mU ks us;rw[dJ,ak,ak,aI,aI];lia
end
mutual
theorem kR:∀l r:Th,(l.com r).noCall
 | .knot n ks,r=>by
   rw[Th.com];split
   .rw[w!];exact jS ks r.kids
   .exact j4
 |.call s k,r=>by rw[Th.com];exact j4
theorem jS:∀ks us:List Th,aK (dJ ks us)
 | [],us=>by rw[dJ,aK];trivial
 |k::ks,[]=>by rw[dJ,aK];trivial
 |k::ks,u::us=>by rw[dJ,aK];exact⟨kR k u,jS ks us⟩
end
theorem TK.const(h:∀H:Hp,SqT K H a [.str star]):TK K H a [.str star]:=by
 rcases h (λ_=>B?)with(h|⟨o,h⟩)|h
 .cases h
 .cases h
 .exact .inr ⟨rfl,h⟩
theorem yD{t:Th}{h0:WS}{Q:VK}(hA:AtK .i K H t a)(e0:TK K H h0 [.str star])(AD:t.tall<=150)(k:Q (.bl t.isHole) H):y6 K 150 (.ref a) (.ref h0) H Q:=by
 cases t with
 | knot n ks =>
   rw[AtK]at hA;obtain⟨hn,as,h1,h2⟩:=hA;rw[u!]at AD;have hd:=iT ks;refine⟨a,h0,_,_,.str n::dvs ks,[.str star],D?,D?,h1.sq,e0.sq,.cons (by rw[DAtK]) h2.dvs,.cons (by rw[DAtK]) .nil,by rw[bA,Dv.deep];lia,λb hb=>?_⟩
   have e:b=(n! n ks).isHole:=by
    rw[Bool.eq_iff_iff,hb];show _↔decide (n=star/\ks=[])=C?;rw[decide_eq_true_iff];constructor
    .intro z;have z1:=List.cons.inj z;refine⟨Dv.str.inj z1.1,?_⟩;cases ks with
     |nil=>rfl
     |cons x xs=>rw[dvs]at z1;cases z1.2
    .rintro⟨z1,z2⟩;rw[z1,z2,dvs]
   rw[e];exact k
 | call sn kn =>
   rw[AtK]at hA;obtain⟨v,hA,hv⟩:=hA;cases(show v=.int sn from hv);refine⟨a,h0,_,_,[.str q,.int sn,.int kn],[.str star],D?,D?,hA.sq,e0.sq,.cons (by rw[DAtK]) (.cons (by rw[DAtK]) (.cons (by rw[DAtK]) .nil)),.cons (by rw[DAtK]) .nil,by simp[bA,Dv.deep],λb hb=>?_⟩
   have e:b=(z! sn kn).isHole:=by
    show b=CU;cases b with
    |false=>rfl
    |true=>exact g! (hb.mp rfl) (by simp)
   rw[e];exact k
end BB
namespace L2
open PySem PySem.Spec PyProof.Rows BB
end L2
namespace BB
open PySem L2
theorem ig(h:f.isHole=CU):f.lies hole=false:=by
 cases f with
 | knot n ks =>
   rw[x!,h]
   have:az (.knot n ks) hole=false:=by
    rw[cT];exact fR bS
   rw[this];rfl
 |call s k=>rw[x!]
theorem eX{a b:Th}(h1:az f a=C?)(h2:az f b=C?):az a b=true:=by
 obtain⟨n,ks,us,rfl,rfl,e3,hh⟩:=bp h1;obtain⟨n',EK,vs,e1,rfl,e4,_⟩:=bp h2;cases e1
 have hn:(n! n us).isHole=false:=by
  cases hz:(n! n us).isHole with
  |false=>rfl
  | true =>
    rw[cT,fR hz]at h1;cases h1
 show(!(n! n us).isHole && decide (n=n) && decide (us.length=vs.length))=C?;rw[hn];have:us.length=vs.length:=by lia
 simp[this]
theorem mJ{a b:Th}(h:az a b=C?):az f a=az f b:=by
 cases h1:az f a with
 | true =>
   cases h2:az f b with
   |true=>rfl
   | false =>
     have:=eX (f:=a) (a:=f) (b:=b) (by rw[cT];exact h1) h;rw[h2]at this;cases this
 | false =>
   cases h2:az f b with
   |false=>rfl
   | true =>
     have:=eX (f:=b) (a:=f) (b:=a) (by rw[cT];exact h2) (by rw[cT];exact h);rw[h1]at this;cases this
theorem ql{n:Xk}{us vs:List Th}(f:Th)(h:us.length=vs.length):az f (.knot n us)=az f (.knot n vs):=by
 cases f with
 |knot m ks=>show(_ && _ && decide (ks.length=us.length))=(_ && _ && decide (ks.length=vs.length));rw[h]
 |call s k=>rfl
theorem qB:∀ks us:List Th,(dJ ks us).length=min ks.length us.length
 | [],us=>by rw[dJ];simp
 |k::ks,[]=>by rw[dJ];simp
 |k::ks,u::us=>by rw[dJ,W2,qB ks us,W2,W2];lia
mutual
theorem lu:∀f a b:Th,f.lies (a.com b)=(f.lies a && f.lies b)
 |.call s k,a,b=>by rw[x!,x!,x!];rfl
 | .knot n ks,a,b=>by
   cases hh:(n! n ks).isHole with
   | true =>
     rw[x!,x!,x!,hh];rfl
   | false =>
     by_cases Cc:az a b=C?
     .obtain⟨m,us,vs,rfl,rfl,e3,_⟩:=bp Cc;have hc:(n! m us).com (.knot m vs)=.knot m (dJ us vs):=by rw[Th.com,b! Cc];rfl
      have hl:(dJ us vs).length=us.length:=by rw[qB];lia
      rw[hc,x!,x!,x!,hh,Bool.false_or,Bool.false_or,Bool.false_or,ql (.knot n ks) hl,<-mJ (f:=.knot n ks) Cc];cases hs:az (.knot n ks) (.knot m us)with
      |false=>rfl
      | true =>
        show(C? && aF ks (dJ us vs))=((C? && aF ks us) && (C? && aF ks vs));rw[Bool.true_and,Bool.true_and,Bool.true_and];obtain⟨_,_,_,e1,e2,e4,_⟩:=bp hs;cases e1;cases e2;exact lL ks us vs e4 (by lia)
     .have hc:a.com b=hole:=by rw[ii,a! Cc]
      rw[hc,ig hh];cases h1:(n! n ks).lies a with
      |false=>rfl
      | true =>
        cases h2:(n! n ks).lies b with
        |false=>rfl
        | true =>
          rw[x!,hh,Bool.false_or,XT]at h1 h2;exact g! (eX h1.1 h2.1) Cc
theorem lL:∀ks us vs:List Th,ks.length=us.length->ks.length=vs.length->aF ks (dJ us vs)=(aF ks us && aF ks vs)
 | [],us,vs,_,_=>by rw[aF,aF,aF];rfl
 |k::ks,[],vs,h,_=>by simp at h
 |k::ks,u::us,[],_,h=>by simp at h
 | k::ks,u::us,v::vs,h1,h2=>by
   rw[dJ,aR,aR,aR,lu k u v,lL ks us vs (by simpa using h1) (by simpa using h2)];cases k.lies u <;> cases k.lies v <;> cases aF ks us <;> cases aF ks vs <;> rfl
end
def PAtK(K:WQ)(H:Hp)(p:List Int×Th)(a:WS):Prop:=∃pa ta,H a=A? (.tup [.ref pa,.ref ta])/\H pa=A? (.tup (p.1.map q!))/\AtK .i K H p.2 ta
def PsAtK(K:WQ)(H:Hp)(ps:List (List Int×Th))(as:List WS):Prop:=Xs (PAtK K H) ps as
theorem PAtK.mono(k:KT H H'){p:List Int×Th}(h:PAtK K H p a):PAtK K H' p a:=by
 obtain⟨pa,ta,h1,h2,h3⟩:=h;exact⟨pa,ta,k _ _ h1,k _ _ h2,h3.mono k⟩
theorem PsAtK.mono(k:KT H H'){ps:List (List Int×Th)}(h:PsAtK K H ps as):PsAtK K H' ps as:=y! (λ_ _ e=>PAtK.mono k e) h
end BB
open BB.PsAtK renaming mono->I!
namespace L2
open PySem PySem.Spec PySem.Calls PyProof.Rows PySem.W
section
variable{g:Array GenState}{d:Drawn}{t:Nat}{os:OsState}{C:WS}{o:Zc}{K:Frag}
end
section
variable{f:WS}{cd:WU}{outer:List Env}{E:XK}
end
section
variable{X:Cx}
end
open PySem.SeqAt
theorem fL{k:Nat}(hr:Room k A):A.units+2<YH:=by
 have:=hr.units;lia
end L2
namespace BB
open PySem
end BB
namespace L2
open PySem PySem.Spec PySem.Calls PyProof.Rows BB
section
variable{R:Result->WY->Prop}
end
end L2
namespace PySem
end PySem
namespace L2
open PySem PySem.Spec PySem.Calls PyProof.Rows BB
section
variable{X:Cx}
def abx(K:WQ)(tl:TE):TI:=λY H R=>tl Y H λx H1=>∃a,x=.ref a/\(((∃xs,SqL K H1 a xs)/\R (Itl K a) H1)\/((∃xs,SqT K H1 a xs)/\R (Itt K a) H1))
theorem aao{l:X6}(hl:PE X l tl):PI X tg l (abx X.K tl):=by
 intro Z s Y H R I h;refine thn (hl Z s Y H _ I h) λv s1⟨x,H1,I1,r1,q1⟩=>?_;obtain⟨a,e,q⟩:=q1;subst e;cases r1
 have fp:∀b∈[s1.1.1.size],jg X Z H1 b:=λb hb=>by
  have e:b=s1.1.1.size:=by simpa using hb
  subst e;exact I1.fpOk (WX _) (I1.hok.fresh (WX _))
 rcases q with⟨⟨xs,hq⟩,q⟩|⟨⟨xs,hq⟩,q⟩
 .obtain⟨its,rv,p,hz⟩:=I1.list hq;refine wpAny_pyIter_list p.isList ?_;exact⟨s1.1.1.size,[s1.1.1.size],_,_,H1,D?,I1.kept (t':=s1.toks) λb o e=>WV _ e,nR a _,⟨_,W3 _ rfl,D?,D?⟩,fp,q⟩
 .obtain⟨its,rv,p,hz⟩:=I1.tuple hq;refine ZR (show s1.1.IsTuple a its.toArray from p) ?_;exact⟨s1.1.1.size,[s1.1.1.size],_,_,H1,D?,I1.kept (t':=s1.toks) λb o e=>WV _ e,lj a _,⟨_,W3 _ rfl,D?,D?⟩,fp,q⟩
end
end L2
namespace BB
open PySem L2
theorem xN{J:It}(zs:List α)(f:α->V)(hz:zs.length=xs.length)(hn:xs.length<=1000000)
 (E7:∀i H2,k! H H2->i<xs.length->J.go i H2) (Bc:∀H2,k! H H2->J.stop xs.length H2) (B1:∀(i:Nat)H2 x H3,k! H H2->i<xs.length->J.yld i H2 x H3->H3=H2/\xs[i]?=A? x)
 (hb:∀(i:Nat)x z H2(R:VK)(W':Hp->Prop),xs[i]?=A? x->zs[i]?=A? z->k! H H2->(∀H3,k! H2 H3->R (f z) H3)->g x (cσ js Y) H2 λAv H3=>tt Av H3 λb H4=>if b=C? then te Av H4 R else W' H4)
 (CA:∀D H',H D=B?->k! H H'->H' D=A? (.lst (zs.map f))->fin D H') :
 ∀D,H D=B?->∃(n:Nat)(W:Nat->Hp->Prop),W 0 (upd H D (.lst []))/\gS js g tt te Y J D n W λH'=>fin D H':=by
 intro D hD;refine⟨xs.length,λi H'=>i<=xs.length/\k! H H'/\H' D=A? (.lst ((zs.take i).map f)),⟨Xh _,ae hD _,by rw[ac];rfl⟩,?_⟩;rintro i H' ⟨hi,s1,e1⟩;by_cases Ah:i<xs.length
 .refine .inr ⟨Ah,E7 i H' s1 Ah,λv H1 hy=>?_⟩;obtain⟨e,hx⟩:=B1 i H' v H1 s1 Ah hy;subst e;obtain⟨z,Ca⟩:∃z,zs[i]?=A? z:=⟨_,WR (by lia)⟩;refine hb i v z _ _ _ hx Ca s1 λH3 s3=>⟨_,s3 _ _ e1,?_,Ah,am (s1.trans s3) hD,?_⟩
  .rw[WO,XS];have:Xe=16777216:=sizeLine_eq;lia
  .rw[ac,take_snoc Ca,Xb];rfl
 .have AY:i=xs.length:=by lia
  subst AY;refine .inl ⟨Bc _ s1,CA D H' hD s1 ?_⟩;rw[e1,YG (by lia)]
end BB
namespace HT
open PySem PySem.Spec PyProof.Rows
theorem adjust_back(n:Nat):Z3 B? B? (-1) (n:Int)=((n:Int) - 1,-1):=rfl
theorem places_back(n:Nat):YI ((n:Int) - 1) (-1) (-1)=n:=by
 unfold YI;have h1:¬((-1:Int) > 0):=by lia
 simp only[h1,if_false];by_cases h:n=0
 .subst h;decide
 .have h2:((n:Int) - 1) > -1:=by lia
  simp only[h2,if_true];rw[show(- -1:Int)=1 by decide,Int.ediv_one];lia
theorem pick_back(xs:Array WU):((XF xs.size).filterMap λ(m:Nat)=>xs[(((xs.size:Nat):Int) - 1+(m:Int) * (-1)).toNat]?).toArray=xs.toList.reverse.toArray:=by
 congr 1
 have e:∀m∈XF xs.size,xs[(((xs.size:Nat):Int) - 1+(m:Int) * (-1)).toNat]?=xs.toList.reverse[m]?:=by
  intro m hm;have F6:=YR.mp hm;rw[List.getElem?_reverse (by rw[XR];exact F6),Array.getElem?_toList,XR];congr 1;lia
 have f:∀(l:List Nat)(f g:Nat->Option WU),(∀m∈l,f m=g m)->l.filterMap f=l.filterMap g:=by
  intro l f g;induction l with
  |nil=>intro _;rfl
  | cons y ys ih =>
    intro h;rw[Z5,Z5,h y (by simp),ih (λm hm=>h m (by simp[hm]))]
 rw[f _ _ _ e]
 have gl:∀(ys:List WU),(XF ys.length).filterMap (λm=>ys[m]?)=ys:=by
  intro ys;have:=pick_run ys.toArray 0 ys.length;simp only[List.filterMap_map]at this
  have e3:((λx=>ys.toArray[x]?) ∘ λx=>0+x)=λm=>ys[m]?:=by
   funext m;simp
  rw[e3]at this;rw[this];simp
 have:=gl xs.toList.reverse;rw[Ys,XR]at this;exact this
theorem sliceApplied_back{t:Tok}{Q:Int×Int×Nat->WY->Prop}(hs:s.1.IsSliceOf sl .none .none (.int (-1) t))
 (h:Q ((n:Int) - 1,-1,n) s):W9 (Xv prog w) A (Builtin.Slice.sliceApplied (.ref sl) (pure (n:Int))) Q E s:=by
 obtain⟨os,DB,Ck,Bz⟩:=id hs;unfold Builtin.Slice.sliceApplied Builtin.Slice.sliceFields;refine WN (WN (XX DB Bz (x:=.none) rfl (WN (XX DB Bz (x:=.none) rfl (WN (XX DB Bz (x:=.int (-1) t) rfl (WW ?_)))))));refine WN (slicePart_int ?_);show W9 _ _ (if((-1:Int) == 0)=C? then _ else _) _ _ s;rw[a! (by decide)];refine WN (slicePart_none (WN (slicePart_none (WN (WW ?_)))));show W9 _ _ (match Z3 B? B? (-1) (n:Int)with|(lo,hi)=>pure (lo,(-1:Int),YI lo hi (-1))) _ _ s;rw[adjust_back n];show W9 _ _ (pure ((n:Int) - 1,(-1:Int),YI ((n:Int) - 1) (-1) (-1))) _ _ s;rw[places_back];exact WW h
theorem getItem_tuple_back{t:WS}{tk:Tok}(ht:IsTup s.1 t items)(hs:s.1.IsSliceOf sl .none .none (.int (-1) tk))
 (h:Q (.ref s.1.1.size) {s with heap:=s.1.push {cls:=.type "tuple",data:=.seq items.toList.reverse.toArray}})
 (hsz:items.size<=Xe):W9 (Xv prog w) A (getItem (.ref t) (.ref sl)) Q E s:=by
 have Bb:sizeOk (.seq items.toList.reverse.toArray):=by
  show items.toList.reverse.toArray.size<=Xe;rw[W0,Ys,XR];exact hsz
 obtain⟨os,DB,Ck,Bz⟩:=id hs;have IM:s.TypeIs (.ref sl) "slice":=⟨os,DB,Ck⟩;unfold getItem
 try with_reducible refine Yv ?_
 first|refine WN (WW ?_)|skip
 refine WN (wpAny_sequenceKey ht.typeIs (by decide) ?_)
 refine WN (X3 (name:=Xq "__getitem__") ht.typeIs XQ
  (X5 XQ ht.typeIs entry_tuple_getitem ?_ (args_tuple_getitem _ _)))
 show W9 _ _ (ZW (.ref t) >>= _) _ _ s;refine WN (tupleItemsOf_ ht ?_);refine WN (ZH IM ?_);rw[b! (by decide)];refine WN (sliceApplied_back hs ?_)
 have C0:¬((((items.size:Nat):Int) - 1 == 0 && (-1:Int) == 1 && items.size == items.size)=C?):=by
  simp
 show W9 _ _ (if(((items.size:Nat):Int) - 1 == 0 && (-1:Int) == 1 && items.size == items.size)=C? then _ else _) _ _ s;rw[a! C0,pick_back]
 first
  |exact WN (m:=YN _) (Ye (WW ⟨_,rfl,WW h⟩) Bb)
  |exact WN (m:=YN _) (Ye (WN (WW (WW ⟨_,rfl,WW h⟩))) Bb)
  |exact WN (WN (m:=YN _) (Ye (WW (WW ⟨_,rfl,WW h⟩)) Bb))
  |exact WN (WN (m:=YN _) (Ye (WW ⟨_,rfl,WW h⟩) Bb))
end HT
namespace L2
open PySem PySem.Spec PyProof.Rows
section
variable{X:Cx}{p2 p3 p4:Z4}
def BkR(X:Cx)(r:V->Hp->VK->Prop):Prop :=
 ∀(Z:List (WS×Zc))(s:WY)(Y:St)(H:Hp)(x:V)(v:WU)(t:Tok)(sl:WS)(Q:VK),Inv X Z Y H s->RelV x v->s.1.IsSliceOf sl .none .none (.int (-1) t)->r x H Q ->
   ∃T id,typeLookup (.type T) "__getitem__"=pure (A? (.builtin id))/\s.TypeIs v T/\W9 (Xv X.prog X.w) X.A (getItem v (.ref sl)) (EP X Z Y Q) X.xe s
def tBk(r:V->Hp->VK->Prop)(te:TE):TE:=λY H Q=>te Y H λx H1=>r x H1 Q
theorem uB{r:V->Hp->VK->Prop}(hr:BkR X r)(he:PE X e te):PE X (.Subscript e (.Slice B? B? (A? (.UnaryOp .USub (.Constant (.int 1) 0 p3) p4)) p2) pos) (tBk r te):=by
 intro Z s Y H Q I h;refine Subscript_ (thn (he Z s Y H _ I h) λv s1⟨x,H1,I1,r1,q1⟩=>?_);refine wpAny_Slice ?_;rw[evalPart_none];refine WW ?_;refine WW ?_;have Ti:PO X (A? (.UnaryOp .USub (.Constant (.int 1) 0 p3) p4)) (zp (tUn (rU λi=>.int (-i)) (tC (.int 1)))):=fH (abd zS ai);refine thn (Ti Z s1 Y H1 (λo H'=>o=A? (-1)/\r x H' Q) I1 ⟨1,rfl,_,rfl,rfl,q1⟩) λvs s2⟨o,H2,I2,ps,ho,q2⟩=>?_;subst ho;cases ps with
 | int i t =>
   have I4:Inv X Z Y H2 {s2 with heap:=s2.1.push {cls:=.type "slice",data:=.fields #[.none,.none,.int (-1) t]}}:=I2.kept (t':=s2.toks) λb ob q=>WV _ q;obtain⟨T,id,hT,ht,hg⟩:=hr Z {s2 with heap:=s2.1.push {cls:=.type "slice",data:=.fields #[.none,.none,.int (-1) t]}} Y H2 x v t s2.1.1.size Q I4 r1 (Heap.IsSliceOf.new ..) q2;show W9 (Xv X.prog X.w) X.A (subscriptTail e (.Slice B? B? (A? (.UnaryOp .USub (.Constant (.int 1) 0 p3) p4)) p2) v (.ref s2.1.1.size)) (EP X Z Y Q) X.xe {s2 with heap:=s2.1.push {cls:=.type "slice",data:=.fields #[.none,.none,.int (-1) t]}};exact tail_any (ops:=[v,.ref s2.1.1.size]) ht hT hg (by with_unfolding_all rfl)
def abF(K:WQ):V->Hp->VK->Prop:=λx H Q=>∃a xs,x=.ref a/\SqT K H a xs/\∀p,H p=B?->Q (.ref p) (upd H p (.tup xs.reverse))
def abN(K:WQ):V->Hp->VK->Prop:=λx H Q=>∃a xs,x=.ref a/\SqL K H a xs/\∀p,H p=B?->Q (.ref p) (upd H p (.lst xs.reverse))
theorem Vals.rev(r:Vals xs us):Vals xs.reverse us.reverse:=by
 induction r with
 |nil=>exact .nil
 |cons r1 r2 ih=>rw[X7,X7];exact ih.append (.cons r1 .nil)
theorem aar:BkR X (abF X.K):=by
 intro Z s Y H x v t sl Q I rx hs h;obtain⟨a,xs,rfl,hx,q⟩:=h;cases rx;obtain⟨its,r,ht,hz⟩:=I.tuple hx;have hlen:its.toArray.size=xs.length:=by rw[W0];exact r.length.symm
 refine⟨"tuple",_,XQ.lookup,ht.typeIs,?_⟩;refine HT.getItem_tuple_back ht hs ?_ (by rw[hlen];exact hz);refine⟨.ref s.1.1.size,_,I.laid (t':=s.toks) (o:=.tup xs.reverse) (λb ob q=>WV _ q) (WX _) ?_,D?,q _ (I.hok.fresh (WX _))⟩;exact⟨by rw[Ys];exact hz,_,0,r.rev,W3 _ rfl⟩
theorem lS(its:List WU):slicePick its.toArray B? B? (A? (-1))=its.reverse.toArray:=by
 unfold slicePick;have e:sliceBounds B? B? (A? (-1)) its.toArray.size=((its.toArray.size:Int) - 1,-1,-1):=rfl;rw[e];unfold sliceRange;have h1:¬((-1:Int) > 0):=by lia
 simp only[h1,if_false]
 have hc:(if((its.toArray.size:Nat):Int) - 1 > -1 then(((its.toArray.size:Nat):Int) - 1 - -1 - -1 - 1) / (- -1)else 0).toNat=its.toArray.size:=by
  by_cases h:its.toArray.size=0
  .rw[h];decide
  .rw[b! (by lia),show(- -1:Int)=1 by decide,Int.ediv_one];lia
 rw[hc,List.filterMap_map];have:=HT.pick_back its.toArray;rw[<-this];congr 1;congr 1;funext m;show its.toArray[(((its.toArray.size:Nat):Int) - 1+-1 * (m:Int)).toNat]?=_;rw[Int.mul_comm]
theorem yx:BkR X (abN X.K):=by
 intro Z s Y H x v t sl Q I rx hs h;obtain⟨a,xs,rfl,hx,q⟩:=h;cases rx;obtain⟨its,r,ht,hz⟩:=I.list hx;have hlen:=r.length;refine⟨"list",_,slot_list_getitem.lookup,ht.isList.typeIs,?_⟩;refine wpAny_getItem_list_slice ht.isList hs .none .none (.int _ _) (by simp) ?_ (by rw[W0] <;> lia);rw[lS];refine⟨.ref s.1.1.size,_,I.laid (t':=s.toks) (o:=.lst xs.reverse) (λb ob q=>WV _ q) (WX _) ?_,D?,q _ (I.hok.fresh (WX _))⟩;exact⟨by rw[Ys];exact hz,_,0,r.rev,W3 _ rfl⟩
end
open PySem.Calls
section
variable{X:Cx}
end
section
variable{X:Cx}
end
end L2
namespace BB
open PySem L2
structure cz(ks:List (Xk×Int)):Prop where
 ne:1<=ks.length
 le:ks.length<=8
 low:∀k∈ks,Low k.1/\k.1.length<=8
 num:∀k∈ks,0<=k.2/\k.2<=3
 zero:∃k∈ks,k.2=0
 nd:∀(i j:Nat)(k l:Xk×Int),ks[i]?=A? k->ks[j]?=A? l->k.1=l.1->i=j
mutual
def Th.FitS(ks:List (Xk×Int))(S C:Int):Th->Prop
 |.knot n ts=>(n,(ts.length:Int))∈ks/\FitSs ks S C ts
 |.call s k=>0<=s/\s<S/\0<=k/\k<C
def FitSs(ks:List (Xk×Int))(S C:Int):List Th->Prop
 | []=>True
 |t::ts=>t.FitS ks S C/\FitSs ks S C ts
end
theorem FitSs.of{ks:List (Xk×Int)}:∀{ts:List Th},(∀t∈ts,t.FitS ks S C)->FitSs ks S C ts
 | [],_=>by rw[FitSs];trivial
 | t::ts,h=>by
   rw[FitSs];exact⟨h t (Xd ..),FitSs.of λu hu=>h u (W8 _ hu)⟩
theorem mS(h:∀t∈ts,t.tall<=n):aI ts<=n:=by
 induction ts with
 |nil=>rw[aI];exact Xh _
 | cons t ts ih =>
   rw[aI];have h1:=h t (Xd ..);have h2:=ih λu hu=>h u (W8 _ hu);lia
def SameB(l:WS)(H H':Hp):Prop:=∀b o,b≠l->H b=A? o->H' b=A? o
theorem SameB.of{l:WS}(h:k! H H'):SameB l H H':=λb o _ e=>h b o e
def RowAt(H:Hp)(row:List Th)(a:WS):Prop:=∃as:List WS,H a=A? (.tup (as.map i!))/\Ats H row as
theorem RowAt.mono(k:KT H H'){row:List Th}(h:RowAt H row a):RowAt H' row a:=by
 obtain⟨as,h1,h2⟩:=h;exact⟨as,k _ _ h1,h2.mono k⟩
structure BookAt(H:Hp)(ins outs:List (Xk×Int))(head:Th)(rows:List (List Th))(r ia oa ha ra:WS)(Ak Ay AS:List WS):Prop where
 bk:H r=A? (.tup [.ref ia,.ref oa,.ref ha,.ref ra])
 inE:H ia=A? (.tup (Ak.map i!))
 inK:KsAt H ins Ak
 outE:H oa=A? (.tup (Ay.map i!))
 outK:KsAt H outs Ay
 hd:At H head ha
 rl:H ra=A? (.tup (AS.map i!))
 rw:Xs (RowAt H) rows AS
theorem BookAt.mono(k:KT H H'){r:WS}(b:BookAt H ins outs head rows r ia oa ha ra Ak Ay AS):BookAt H' ins outs head rows r ia oa ha ra Ak Ay AS :=
 ⟨k _ _ b.bk,k _ _ b.inE,b.inK.mono k,k _ _ b.outE,b.outK.mono k,b.hd.mono k,k _ _ b.rl,y! (λ_ _ e=>e.mono k) b.rw⟩
theorem i7{ks:List (Xk×Int)}:∀{ts:List Th},FitSs ks S C ts->∀t∈ts,t.FitS ks S C
 | [],_,t,ht=>by cases ht
 | a::ts,h,t,ht=>by
   rw[FitSs]at h;rcases W7.mp ht with rfl|ht
   .exact h.1
   .exact i7 h.2 t ht
def Bk(H:Hp)(ins outs:List (Xk×Int))(head:Th)(rows:List (List Th))(r:WS):Prop:=∃ia oa ha ra Ak Ay AS,BookAt H ins outs head rows r ia oa ha ra Ak Ay AS
theorem Bk.mono(k:KT H H'){r:WS}(b:Bk H ins outs head rows r):Bk H' ins outs head rows r:=by
 obtain⟨ia,oa,ha,ra,Ak,Ay,AS,b⟩:=b;exact⟨ia,oa,ha,ra,Ak,Ay,AS,b.mono k⟩
end BB
open BB.Th renaming FitS->r!
namespace L2
open PySem PySem.Spec PySem.Calls PyProof.Rows PySem.SeqAt
end L2
namespace BB
open PySem L2
end BB
namespace L2
open PySem PySem.Spec PyProof.Rows
section
variable{X:Cx}{p p2 Ax:Z4}
end
end L2
namespace BB
open PySem L2
theorem gL{F:Hp->α->WS->Prop}{J:It}(zs:List α)(hF:∀H1 H2 z p,KT H1 H2->F H1 z p->F H2 z p)(hz:zs.length=xs.length)(hn:xs.length<=1000000)
 (E7:∀i H2,k! H H2->i<xs.length->J.go i H2) (Bc:∀H2,k! H H2->J.stop xs.length H2) (B1:∀(i:Nat)H2 x H3,k! H H2->i<xs.length->J.yld i H2 x H3->H3=H2/\xs[i]?=A? x)
 (hb:∀(i:Nat)x z H2(R:VK)(W':Hp->Prop),xs[i]?=A? x->zs[i]?=A? z->k! H H2->(∀H3 p,k! H2 H3->F H3 z p->R (.ref p) H3)->g x (cσ js Y) H2 λAv H3=>tt Av H3 λb H4=>if b=C? then te Av H4 R else W' H4)
 (CA:∀D H' as,H D=B?->k! H H'->H' D=A? (.lst (as.map i!))->Xs (F H') zs as->fin D H') :
 ∀D,H D=B?->∃(n:Nat)(W:Nat->Hp->Prop),W 0 (upd H D (.lst []))/\gS js g tt te Y J D n W λH'=>fin D H':=by
 intro D hD;refine⟨xs.length,λi H'=>i<=xs.length/\k! H H'/\∃as:List WS,H' D=A? (.lst (as.map i!))/\Xs (F H') (zs.take i) as,⟨Xh _,ae hD _,[],by rw[ac];rfl,.nil⟩,?_⟩;rintro i H' ⟨hi,s1,as,e1,hp⟩;by_cases Ah:i<xs.length
 .refine .inr ⟨Ah,E7 i H' s1 Ah,λv H1 hy=>?_⟩;obtain⟨e,hx⟩:=B1 i H' v H1 s1 Ah hy;subst e;obtain⟨z,Ca⟩:∃z,zs[i]?=A? z:=⟨_,WR (by lia)⟩;have hl:(zs.take i).length=as.length:=W4 hp;rw[XS]at hl;refine hb i v z _ _ _ hx Ca s1 λH3 p s3 Nb=>⟨_,s3 _ _ e1,?_,Ah,am (s1.trans s3) hD,as++[p],?_,?_⟩
  .rw[WO];have:Xe=16777216:=sizeLine_eq;lia
  .rw[ac,Xb];rfl
  .have kt:KT H3 (upd H3 D (.lst (as.map i!++[.ref p]))):=aG (s3 _ _ e1);rw[take_snoc Ca];exact t! (y! (λx y e=>hF _ _ _ _ ((j! s3).trans kt) e) hp) (.cons (hF _ _ _ _ kt Nb) .nil)
 .have AY:i=xs.length:=by lia
  subst AY;refine .inl ⟨Bc _ s1,CA D H' as hD s1 e1 ?_⟩;rw[YG (by lia)]at hp;exact hp
end BB
namespace L2
open PySem PySem.Spec PyProof.Rows
theorem us1:∀{us:List α},us.length=1->∃a,us=[a]
 | [a],_=>⟨a,rfl⟩
theorem us2:∀{us:List α},us.length=2->∃a b,us=[a,b]
 | [a,b],_=>⟨a,b,rfl⟩
theorem us3:∀{us:List α},us.length=3->∃a b c,us=[a,b,c]
 | [a,b,c],_=>⟨a,b,c,rfl⟩
theorem us4:∀{us:List α},us.length=4->∃a b c d,us=[a,b,c,d]
 | [a,b,c,d],_=>⟨a,b,c,d,rfl⟩
theorem us5:∀{us:List α},us.length=5->∃a b c d e,us=[a,b,c,d,e]
 | [a,b,c,d,e],_=>⟨a,b,c,d,e,rfl⟩
end L2
namespace PySem
open Sem (wp)
section
variable{K:Type}[DecidableEq K]{knd:HeapKind prog w K}
end
end PySem
namespace L2
open PySem PySem.Spec PyProof.Rows BB
end L2
namespace BB
open PySem L2
theorem zE:(Xq "*")≠q:=by decide +kernel
end BB
namespace PySem
open Sem (wp)
section
variable{wr:List WS}{G:Array GenState->Array GenState->Prop}{P:Nat->WU->Prop}{St:Nat->WY->Prop}
end
end PySem
namespace L2
open PySem PySem.Spec PyProof.Rows
section
variable{X:Cx}{o:X6}{to:TE}{p2 Ax apos Aq:Z4}
end
end L2
namespace PySem
open Sem (wp)
namespace F
theorem bb_list_nokeys:typeLookup (.type "list") "keys"=pure none:=by rw[Y8,Yt];kernel_rfl
end F
section
variable{xs:Array WU}{k:Nat}
theorem bb_nokeysL{Q:Option WU->WY->Prop}(hA:A.handled=B?)(hx:s.1.get? a=A? {cls:=.type "list",data:=.seq xs k})
 (q:∀h' tk,(∀b o,s.1.get? b=A? o->h'.get? b=A? o)->Q B? {s with heap:=h',toks:=tk}):W9 (Xv prog w) A (getAttr? (.ref a) "keys") Q E s:=by
 obtain⟨hp,g,d,tk,os⟩:=s;have gT:∀z,(⟨hp,g,d,z,os⟩:WY).TypeIs (.ref a) "list":=λ_=>⟨_,hx,rfl⟩;have g1:=sub_AttributeError;have g3:=F.slot_list_getattribute.lookup;have g4:=F.slot_list_getattribute.bind (.ref a);have g5:=am_list_getattr_none;unfold getAttr? getAttrBy? getAttrBy
 repeat (any_goals (first|assumption|exact gT _|((with_reducible show W9 _ _ (call (Value.builtin "list.__getattribute__") _ _) _ _ _);refine call_meets F.slot_list_getattribute (gT _) am_entry_list_getattribute (F.args_list_getattribute_2 _ _) (meets_getattribute_miss_list a xs k #[] "keys" _ F.bb_list_nokeys (by decide +kernel) (by decide)) ⟨hx,hA,λh' Tj e AV=>?_⟩)|wp_step))
 obtain⟨t',u',he⟩:=AV.there;show W9 _ _ (getattributeRaised _ _ _ _ _ _ _) _ _ _;unfold getattributeRaised
 repeat (any_goals (first|assumption|wp_step))
 exact q h' Tj AV.keeps
end
end PySem
namespace L2
open PySem PySem.Spec PyProof.Rows
def df:List (List Key×V)->List (List Key×V)->List (List Key×V)
 |f',[]=>f'
 |f',p::ps=>df (putK f' p.1 p.2) ps
def PrA(H:Hp)(pr:List Key×V)(pa:WS):Prop:=∃ka,H pa=A? (.tup [.ref ka,pr.2])/\H ka=A? (.tup (pr.1.map kV))
section
variable{X:Cx}
theorem uX{r:WU}{k:List Key}{f':List (List Key×V)}{Q:Unit->WY->Prop}(hu:(tupleKind (ao X.prog X.w)).room A)(I:Inv X Z Y H s)(e:H a=A? (.dT f'))(eb:H b=A? (.tup (k.map kV)))(l:f'.length<Xe)(rv:RelV v r)(h:∀h' tk,YD a s.1 h'->Inv X Z Y (upd H a (.dT (putK f' k v))) {s with heap:=h',toks:=tk}->Q () {s with heap:=h',toks:=tk}) :
 W9 (Xv X.prog X.w) A (dictSet a (.ref b) r) Q E s:=by
 obtain⟨z,hd,xs,rel,dd⟩:=pL I.hok e;have hz:xs.length<=Xe:=by rw[<-W4 rel];exact z
 have hl:(putK f' k v).length<=Xe:=by have:=bt f' k v;lia
 refine wpAny_dictSet_heap (hsz:=hz) hu (fB I.hok eb) dd λh' C7 hs=>h _ _ hs ?_;obtain⟨q,es,ep,hq,h2,h3,h4,_,h5⟩:=C7;refine fN I (by rw[e];exact YW) hs ⟨q,hq⟩ ⟨hl,hd,_,(rel.put k eb rv).keeps λc ys ec=>?_,q,es,ep,hq,h2,h3,h4,h5⟩;rw[ag (eJ ec e (λz=>nomatch z))];exact ec
theorem rS{l:WS}{prs:List (List Key×V)}{ps:List WS}{R:Result->WY->Prop}(hh:A.handled=B?)(hu:A.units+8<YH)(hn:prs.length<=10000) :
 ∀(m i:Nat)(s:WY)(tk:Tok)(H:Hp)(f':List (List Key×V)),prs.length - i=m->i<=prs.length->Inv X Z Y H s->H d=A? (.dT f')->f'.length<=i->jg X Z H it->s.1.IsListIter it l i->H l=A? (.lst (ps.map i!))->Xs (PrA H) prs ps ->
   (∀s',Inv X Z Y (upd H d (.dT (df f' (prs.drop i)))) s'->R (.ok (.ret .none)) s') ->
   codeAny (Xv X.prog X.w) A (.builtin "dict.update.loop" ⟨[.ref d,.ref it,.int i tk,.none],[]⟩) R s:=by
 intro m;induction m with
 | zero =>
   intro i s tk H f' hk hi I ed CQ hf hit el Bo hR;have B0:i=prs.length:=by lia
   subst B0;obtain⟨its,rv,p,hz⟩:=I.list (l! (K:=X.K) el);have AR:prs.length=ps.length:=W4 Bo;have hl:=rv.length;rw[WO]at hl;obtain⟨f0,f1,f2,f3,f4,f5⟩:=hf;refine codeAny_builtin PySem.F.bb_entry_upd ?_;rw[Around.under_plainId E! _];show W9 _ A.in1 (pyNext (.ref it) >>= _) _ _ s;refine WN (wpAny_pyNext_list_end hh hit p.isList (by simp;lia) λh' eb=>?_);refine WN (WW (WW ?_));refine hR _ ?_;rw[List.drop_length]
   have e0:upd H d (.dT (df f' []))=H:=by
    funext b;by_cases hb:b=d
    .rw[hb,ac,ed];rfl
    .rw[ag hb]
   rw[e0];exact I.turned (t':=s.toks) (λb o hb e=>eb b o hb e) f0 f1 f3 f4 f5
 | succ m ih =>
   intro i s tk H f' hk hi I ed CQ hf hit el Bo hR;have Ah:i<prs.length:=by lia
   have AR:prs.length=ps.length:=W4 Bo;obtain⟨its,rv,p,hz⟩:=I.list (l! (K:=X.K) el);have hl:=rv.length;rw[WO]at hl;obtain⟨pa,EL,ka,BM,Fc⟩:=F! Bo (WR Ah);have hx:(ps.map i!)[i]?=A? (.ref pa):=by rw[WZ,EL];rfl
   obtain⟨u,Tn,ru⟩:=rv.get hx;cases ru;obtain⟨f0,f1,f2,f3,f4,f5⟩:=id hf;refine codeAny_builtin PySem.F.bb_entry_upd ?_;rw[Around.under_plainId E! _];show W9 _ A.in1 (pyNext (.ref it) >>= _) _ _ s;refine WN (wpAny_pyNext_list_item hit p.isList (x:=.ref pa) (by simpa using Tn) λh1 Nc To=>?_);have I1:Inv X Z Y H {s with heap:=h1}:=I.turned (t':=s.toks) (λb o hb e=>(To.2 b hb).trans e) f0 f1 f3 f4 f5;obtain⟨_,Ag,n2,Tp,e2⟩:=(show ObjOk X.prog X.w H h1 pa (.tup [.ref ka,(prs[i]).2])from I1.hok pa _ BM)
   obtain⟨vv,rfl,Tq⟩:∃vv,Ag=[.ref ka,vv]/\RelV (prs[i]).2 vv:=by
    cases Tp with
    | cons a b =>
      cases b with
      | cons c d =>
        cases d;cases a;exact⟨_,D?,c⟩
   have Tr:(⟨h1,s.gens,s.drawn,s.toks,s.os⟩:WY).TypeIs (.ref pa) "tuple":=⟨_,e2,rfl⟩;refine WN (Yv ?_);refine WN (wpAny_tryCatch ?_);unfold Builtin.Dict.pairItems;refine WN (ZH Tr ?_);rw[b! (by decide)];refine WN (Yy e2 rfl (WW ?_));show W9 _ _ (holding [.ref ka,vv] (dictSet d (.ref ka) vv)) _ _ _;refine Yv (uX (k:=(prs[i]).1) ?_ I1 ed Fc (by have:=fA;rw[sizeLine_eq];lia) Tq λh2 Wf DC I2=>?_)
   .exact tupleKind_room_in1 (by lia)
   refine WW ⟨plainId_quiet E! _,?_⟩
   have Jm:Za ((i:Int)+1)=.int ((i+1:Nat):Int) 0:=by
    show Value.int ((i:Int)+1) 0=_;rw[show((i+1:Nat):Int)=(i:Int)+1 by lia]
   rw[Jm];have Lz:it≠d:=λz=>by rw[z,ed]at f0;cases f0
   refine ih (i+1) _ 0 _ (putK f' (prs[i]).1 (prs[i]).2) (by lia) Ah I2 ac (by have:=bt f' (prs[i]).1 (prs[i]).2;lia) ⟨by rw[ag Lz];exact f0,f1,f2,f3,f4,f5⟩ ?_ ?_ ?_ λs' I'=>hR s' ?_
   .obtain⟨o,g1,r⟩:=Nc;exact⟨o,(DC.2 it Lz).trans g1,r⟩
   .rw[ag (eJ el ed (λz=>nomatch z))];exact el
   .refine y! (λx y e=>?_) Bo;obtain⟨Eh,g1,g2⟩:=e;exact⟨Eh,by rw[ag (eJ g1 ed (λz=>nomatch z))];exact g1,by rw[ag (eJ g2 ed (λz=>nomatch z))];exact g2⟩
   .rw[km]at I';rw[List.drop_eq_getElem_cons Ah];exact I'
def aav:List V->Hp->VK->Prop:=λxs H Q=>∃(l:WS)(ps:List WS)(prs:List (List Key×V)),xs=[.ref l]/\H l=A? (.lst (ps.map i!))/\Xs (PrA H) prs ps/\prs.length<=10000/\∀d,H d=B?->Q (.ref d) (upd H d (.dT (df [] prs)))
theorem lA(hu:X.A.units+12<YH)(hc:X.calm=C?):fz X (.type "dict") aav:=by
 intro Z s Y H xs us Q I r h;obtain⟨l,ps,prs,rfl,el,Bo,hn,q⟩:=h;obtain⟨u,rfl,rx⟩:=vals1 r;cases rx;obtain⟨z,its,n,rv,e⟩:=(show ObjOk X.prog X.w H s.1 l (.lst (ps.map i!))from I.hok l _ el);refine callType_codes (Q₁:=λobj Ab=>obj=.ref s.1.1.size/\Ab={s with heap:=s.1.push {cls:=.type "dict",data:=.dict #[]}}) PySem.F.kt_called_dict (PySem.F.kt_typeCall_dict_1 _) PySem.F.entry_dict_init (kt_code_dict_new _ ⟨rfl,rfl⟩) ?_;rintro obj Ab ⟨rfl,rfl⟩;have gn:(s.1.push {cls:=.type "dict",data:=.dict #[]}).DictOf (ao X.prog X.w) s.1.1.size []:=Heap.DictOf.new s.1;have gt:(s.1.push {cls:=.type "dict",data:=.dict #[]}).get? l=A? {cls:=.type "list",data:=.seq its.toArray n}:=WV _ e;refine⟨gn.typeIs,PySem.F.args_dict_init_2 _ _,?_⟩;have F5:=I.hok.fresh (WX s.1.1.size);have I1:Inv X Z Y (upd H s.1.1.size (.dT [])) {s with heap:=s.1.push {cls:=.type "dict",data:=.dict #[]}}:=I.laid (a:=s.1.1.size) (o:=.dT []) (t':=s.toks) (λ_ _ q=>WV _ q) (WX _) (p8 s.1 I.big);unfold Zp.«dict.__init__»;refine WN ?_;unfold Builtin.Dict.selfAndRest;refine WN (wpAny_notOrdered_dict gn.typeIs ?_);show W9 _ _ (pure (s.1.1.size,[Xm l])) _ _ _;refine WW ?_;show W9 _ _ (Builtin.Dict.updateFrom "dict.__init__" s.1.1.size (.ref l) [] .none) _ _ _;unfold Builtin.Dict.updateFrom;refine WN (ZH (T:="list") ⟨_,gt,rfl⟩ ?_);rw[b! (by decide)];refine WN (bb_nokeysL (A:=X.A.in1.in1) (I.ok.hd hc) gt λh1 Nf k1=>?_);have I2:Inv X Z Y (upd H s.1.1.size (.dT [])) {s with heap:=h1,toks:=Nf}:=I1.kept (t':=Nf) λb o e=>k1 b o e;simp only[Option.isNone_none,if_true];refine WN (Zw ?_);obtain⟨od,es,ep,Tt,Wg⟩:=id gn;have Ah:s.1.1.size<h1.objs.size:=Xa (k1 _ _ Tt);refine WN (wpAny_pyIter_list (l:=l) (items:=its.toArray) ⟨_,k1 _ _ gt,rfl,n,rfl⟩ ?_);refine WW ⟨plainId_quiet E! _,?_⟩;have Tu:l≠s.1.1.size:=aw el F5
 have Ng:Xs (PrA (upd H s.1.1.size (.dT []))) prs ps:=y! (λx y e=>by
  obtain⟨ka,g1,g2⟩:=e;exact⟨ka,by rw[ag (aw g1 F5)];exact g1,by rw[ag (aw g2 F5)];exact g2⟩) Bo
 have Tv:(upd H s.1.1.size (.dT [])) h1.objs.size=none:=I2.hok.fresh (WX _);refine rS (A:=X.A.in1) (d:=s.1.1.size) (it:=h1.objs.size) (l:=l) (prs:=prs) (ps:=ps) (I.ok.hd hc) (by show X.A.units+1+8<YH;lia) hn prs.length 0 _ 0 (upd H s.1.1.size (.dT [])) [] (Nat.sub_zero _) (Xh _) (I2.kept (t':=Nf) λb o e=>WV _ e) ac (WX _) (I2.fpOk (WX _) Tv) ⟨_,W3 _ rfl,rfl,rfl⟩ (by rw[ag Tu];exact el) Ng λs' I'=>?_;rw[km,Z9]at I';exact⟨D?,.ref s.1.1.size,_,I',D?,q _ F5⟩
end
end L2
namespace BB
open PySem L2
theorem yF{k:Nat}(hr:L2.Room k A):A.units+12<YH:=by
 have:=hr.units;lia
theorem jZ{R:List Key->V->Prop}:∀(prs f':List (List Key×V)),(∀k v,aH f' k=A? v->R k v)->(∀p∈prs,R p.1 p.2) ->
 (∀k v,aH (df f' prs) k=A? v->R k v)/\(∀k,((∃v,aH f' k=A? v)\/∃p∈prs,p.1=k)->∃v,aH (df f' prs) k=A? v)
 | [],f',h1,_=>⟨h1,λk h=>by
   rcases h with h|⟨p,hp,_⟩
   .exact h
   .cases hp⟩
 | p::prs,f',h1,h2=>by
   have ih:=jZ (R:=R) prs (putK f' p.1 p.2) (λk v hv=>by
    rw[fq]at hv;by_cases e:k=p.1
    .rw[b! e]at hv;cases hv;rw[e];exact h2 p (Xd ..)
    .rw[a! e]at hv;exact h1 k v hv) (λx hx=>h2 x (W8 _ hx))
   refine⟨ih.1,λk h=>ih.2 k ?_⟩;by_cases e:k=p.1
   .left;exact⟨p.2,by rw[fq,b! e]⟩
   .rcases h with⟨v,hv⟩|⟨x,hx,Qu⟩
    .left;exact⟨v,by rw[fq,a! e];exact hv⟩
    .rcases W7.mp hx with rfl|hx
     .exact g! Qu.symm e
     .exact .inr ⟨x,hx,Qu⟩
end BB
namespace PySem
theorem bb_zip_next0{TI TO:WS}{k:Nat}{xs:Array WU}{x y a b:WU}{Q:Option WU->WY->Prop}(D:ZipApart z TI TO i1 i2 l1 l2)
 (hz:IsZip s.1 z TI TO .none) (hTI:Zj s.1 TI (.ref i1) (.ref i2)) (hTO:Zj s.1 TO a b)
 (h1:s.1.IsTupleIter i1 l1 k) (h2:s.1.IsTupleIter i2 l2 k) (BK:s.1.IsTuple l1 xs) (Bf:s.1.IsTuple l2 ys) (hx:xs[k]?=A? x) (hy:ys[k]?=A? y)
 (hQ:∀h',IsZip h' z TI TO (Za s.1.1.size)->Zj h' TO x y->h'.IsTupleIter i1 l1 (k+1)->h'.IsTupleIter i2 l2 (k+1)->Zj h' s.1.1.size x y->h'.objs.size=s.1.1.size+1 ->
  (∀c o,c≠z->c≠TO->c≠i1->c≠i2->s.1.get? c=A? o->h'.get? c=A? o)->Q (A? (.ref s.1.1.size)) {s with heap:=h'}) :
 W9 (Xv prog w) A (pyNext (.ref z)) Q E s:=by
 have hT:s.TypeIs (.ref z) "zip":=⟨_,hz,rfl⟩;unfold pyNext;refine WN (wpAny_attempt (X3 (name:=Xq "__next__") hT F.slot_zip_next (X5 F.slot_zip_next hT F.entry_zip_next ?_ (F.args_zip_next_1 _))));exact bb_zip_itemA D hz hTI hTO h1 h2 BK Bf hx hy λh' a1 a2 a3 a4 a5 a6 a7=>WW (hQ h' a1 a2 a3 a4 a5 a6 a7)
end PySem
namespace L2
open PySem PySem.Spec PyProof.Rows
def Itz(K:WQ)(a b:WS):It:=⟨λi H=>∃xs ys x y,SqT K H a xs/\SqT K H b ys/\xs[i]?=A? x/\ys[i]?=A? y,λi H v H'=>∃p x y,H p=B?/\v=.ref p/\H'=upd H p (.tup [x,y])/\(∀xs,SqT K H a xs->xs[i]?=A? x)/\(∀ys,SqT K H b ys->ys[i]?=A? y),λi H=>∃xs ys,SqT K H a xs/\SqT K H b ys/\(xs.length<=i\/ys.length<=i)⟩
structure ZTn(z TI TO i1 i2 a b:WS)(i:Nat)(h:Yd):Prop where
 ap:ZipApart z TI TO i1 i2 a b
 zip:IsZip h z TI TO .none
 hTI:Zj h TI (.ref i1) (.ref i2)
 hTO:∃u v,Zj h TO u v
 h1:h.IsTupleIter i1 a i
 h2:h.IsTupleIter i2 b i
theorem wM{k1}(a b z TI TO i1 i2:WS):Turn P w K (.Tuple elts k1 pos) (Itz K a b) [z,TI,TO,i1,i2] z (ZTn z TI TO i1 i2 a b) where
 mem:=by simp
 obj:=λi h st c hc=>by
  obtain⟨D,hz,hTI,⟨u,v,hTO⟩,⟨o1,a1,a2,a3⟩,⟨o2,b1,b2,b3⟩⟩:=st;simp only[W7,Z7,or_false]at hc;rcases hc with rfl|rfl|rfl|rfl|rfl
  .exact⟨_,hz,λv z=>by cases z⟩
  .exact⟨_,hTI,λv z=>by cases z⟩
  .exact⟨_,hTO,λv z=>by cases z⟩
  .exact⟨o1,a1,λv z=>by rw[a3]at z;cases z⟩
  .exact⟨o2,b1,λv z=>by rw[b3]at z;cases z⟩
 keep:=λi h h' st k=>by
  obtain⟨D,hz,hTI,⟨u,v,hTO⟩,⟨o1,a1,a2⟩,⟨o2,b1,b2⟩⟩:=st;exact⟨D,k _ (by simp) _ hz,k _ (by simp) _ hTI,⟨u,v,k _ (by simp) _ hTO⟩,⟨o1,k _ (by simp) _ a1,a2⟩,⟨o2,k _ (by simp) _ b1,b2⟩⟩
 item:=by
  intro X hP hw hK hc i Z s Y H E I hf st hg;subst hP hw hK;obtain⟨xs,ys,x,y,F1,F3,hx,hy⟩:=hg;obtain⟨ia,GL,pa,HY⟩:=I.tuple F1;obtain⟨ib,GN,pb,M9⟩:=I.tuple F3;obtain⟨u,hu,ru⟩:=GL.get hx;obtain⟨v,hv,rv⟩:=GN.get hy;obtain⟨D,hz,hTI,⟨ta,tb,hTO⟩,h1,h2⟩:=st
  have lt:∀c∈[z,TI,TO,i1,i2],c<s.1.1.size:=λc hc=>by
   simp only[W7,Z7,or_false]at hc;rcases hc with rfl|rfl|rfl|rfl|rfl
   .exact Xa hz
   .exact Xa hTI
   .exact Xa hTO
   .obtain⟨o,e,_⟩:=h1;exact Xa e
   .obtain⟨o,e,_⟩:=h2;exact Xa e
  refine bb_zip_next0 D hz hTI hTO h1 h2 (show s.1.IsTuple a ia.toArray from pa) (show s.1.IsTuple b ib.toArray from pb) (by simpa using hu) (by simpa using hv) λDD a1 a2 a3 a4 a5 a6 a7=>?_;refine⟨_,D?,wpAny_letOwnedTupleGo_zip a1 λC8 g1 sb=>?_⟩;replace sb:YD z DD C8:=sb;have IZ:H s.1.1.size=none:=I.hok.fresh (WX _)
  have IA:Inv X Z Y (upd H s.1.1.size (.tup [x,y])) {s with heap:=s.1.push {cls:=.type "tuple",data:=.seq #[u,v]},toks:=s.toks} :=
   I.laid (o:=.tup [x,y]) (λb ob q=>WV _ q) (WX _) ⟨by show 2<=Xe;decide,[u,v],0,.cons ru (.cons rv .nil),W3 _ rfl⟩
  have Wh:s.1.1.size≠z:=Nat.ne_of_gt (lt z (by simp));refine⟨.ref s.1.1.size,upd H s.1.1.size (.tup [x,y]),?_,D?,⟨_,x,y,IZ,D?,D?,λzs Jn=>by rw[I.tuple_inj Jn F1];exact hx,λzs Jn=>by rw[I.tuple_inj Jn F3];exact hy⟩,?_,λc hc=>?_⟩
  .have IB:Inv X Z Y (upd H s.1.1.size (.tup [x,y])) {s with heap:=C8,toks:=s.toks}:=by
    refine Inv.turnedL (s:={s with heap:=s.1.push {cls:=.type "tuple",data:=.seq #[u,v]},toks:=s.toks}) (h':=C8) (fp:=[z,TI,TO,i1,i2]) (t':=s.toks) IA (λc o hc q=>?_) λc hc=>?_
    .have n1:c≠z:=λe=>hc (by simp[e]);have n2:c≠TO:=λe=>hc (by simp[e]);have n3:c≠i1:=λe=>hc (by simp[e]);have n4:c≠i2:=λe=>hc (by simp[e]);rw[sb.2 c n1];by_cases hb2:c=s.1.1.size
     .subst hb2;have q':(s.1.push {cls:=.type "tuple",data:=.seq #[u,v]}).get? s.1.1.size=A? o:=q;rw[W3 _ rfl]at q';rw[<-q'];exact a5
     .have q':(s.1.push {cls:=.type "tuple",data:=.seq #[u,v]}).get? c=A? o:=q;rw[Heap.get?_push_ne _ _ _ hb2]at q';exact a7 c o n1 n2 n3 n4 q'
    .obtain⟨f0,f1⟩:=hf c hc;exact⟨by rw[ag (XA (lt c hc))];exact f0,f1⟩
   exact IB
  .have sT:∀c o,c≠z->DD.get? c=A? o->C8.get? c=A? o:=λc o hc e=>(sb.2 c hc).trans e;refine⟨D,g1,sT _ _ D.TIz (a7 _ _ D.TIz D.TITO D.TIi1 D.TIi2 hTI),⟨_,_,sT _ _ D.TOz a2⟩,?_,?_⟩
   .obtain⟨o,e,r⟩:=a3;exact⟨o,sT _ _ D.i1z e,r⟩
   .obtain⟨o,e,r⟩:=a4;exact⟨o,sT _ _ D.i2z e,r⟩
  .rw[ag (XA (lt c hc))];exact(hf c hc).1
 done:=by
  intro X hP hw hK hc i Z s Y H E I hf st hg;subst hP hw hK;obtain⟨xs,ys,F1,F3,Cw⟩:=hg;obtain⟨ia,GL,pa,HY⟩:=I.tuple F1;obtain⟨ib,GN,pb,M9⟩:=I.tuple F3;have E8:=GL.length;have Ta:=GN.length;obtain⟨D,hz,hTI,hTO,h1,h2⟩:=st;refine bb_zip_done (show X.A.handled=B? from I.ok.hd hc) ⟨D,.inl hz,hTI,hTO,h1,h2,pa,pb⟩ ?_ λh' kp=>⟨rfl,?_⟩
  .rcases Cw with h|h
   .exact .inl (by simp;lia)
   .exact .inr (by simp;lia)
  exact I.turnedL (fp:=[z,TI,TO,i1,i2]) (t':=s.toks) (λc o hc q=>kp c o (λhm=>hc (by simp only[W7,Z7,or_false]at hm |-;rcases hm with h|h|h|h <;> simp[h])) q) hf
 self:=λ_ _ _ _ _ st h=>wpAny_pyIter_zip st.zip h
section
variable{X:Cx}{e1 e2:X6}{t:TA}{p2 Ax:Z4}
def abz(K:WQ)(t:TA):TI:=λY H R=>t Y H λvs H1=>∃a b,vs=[.ref a,.ref b]/\(∃xs,SqT K H1 a xs)/\(∃ys,SqT K H1 b ys)/\R (Itz K a b) H1
theorem vq{k1}(g2:Gl X "zip")(m2:X.mg "zip"=B?)(ha:PA X [e1,e2] t)
 (h2:XH [e1,e2] X.env=(CU,Y4 e1 X.env)::XH [e2] X.env:=by rfl) (h3:(Z2 Ax (XH [e2] X.env)).any (·.1)=false:=by rfl):PI X (.Tuple elts k1 pos) (.Call (.Name "zip" p2) [e1,e2] [] Ax) (abz X.K t):=by
 intro Z s Y H R I h;refine Yk (db I g2 m2 boot_zip ?_);refine X1 (thn (ha Ax Z s Y H _ I h) λus s2⟨vs,H2,I2,r,a,b,ev,⟨xs,F1⟩,⟨ys,F3⟩,q⟩=>?_) h2 h3;subst ev;obtain⟨u1,u2,rfl,r1,r2⟩:=vals2 r;cases r1;cases r2;obtain⟨ia,GL,pa,HY⟩:=I2.tuple F1;obtain⟨ib,GN,pb,M9⟩:=I2.tuple F3;have Bd:a<s2.1.1.size:=by obtain⟨o,e,_⟩:=pa;exact Xa e
 have Bg:b<s2.1.1.size:=by obtain⟨o,e,_⟩:=pb;exact Xa e
 refine bb_call_zip (show s2.1.IsTuple a ia.toArray from pa) (show s2.1.IsTuple b ib.toArray from pb) λh' z1 z2 z3 z4 z5 z6 z7=>?_;have D:ZipApart (s2.1.1.size+4) (s2.1.1.size+2) (s2.1.1.size+3) s2.1.1.size (s2.1.1.size+1) a b:=zipApart_new Bd Bg;refine wpAny_pyIter_zip (s:={s2 with heap:=h'}) z1 ?_;refine⟨s2.1.1.size+4,[s2.1.1.size+4,s2.1.1.size+2,s2.1.1.size+3,s2.1.1.size,s2.1.1.size+1],_,_,H2,D?,I2.kept (t':=s2.toks) z7,wM a b _ _ _ _ _,⟨D,z1,z2,⟨_,_,z3⟩,z4,z5⟩,λc hc=>?_,q⟩
 have AN:s2.1.1.size<=c:=by
  simp only[W7,Z7,or_false]at hc;rcases hc with h|h|h|h|h <;> rw[h]
  .exact Y5 _ _
  .exact Y5 _ _
  .exact Y5 _ _
  .exact WX _
  .exact Y5 _ _
 exact I2.fpOk AN (I2.hok.fresh AN)
end
end L2
namespace BB
open PySem L2
noncomputable section
local instance:DecidableEq Th:=λ_ _=>Classical.propDecidable _
end
end BB
namespace PySem
open Sem (wp)
section
variable{K:Type}[DecidableEq K]{knd:HeapKind prog w K}
theorem bb_setDefault_heap{xs:List (K×WS×WU)}{k:K}{v:WU}(hu:knd.room A)(CZ:knd.is s.1 k a)(hm:s.1.DictOfH knd d xs)
 (GP:∀p,atKey xs k=A? p->Q p.2 {s with toks:=s.toks+knd.draws k})
 (GB:atKey xs k=B?->∀h',h'.DictOfH knd d (storedH xs k a v)->YD d s.1 h'->Q v {s with heap:=h',toks:=s.toks+knd.draws k})
 (hsz:xs.length<=Xe):W9 (Xv prog w) A (dictSetDefault d (.ref a) v) Q E s:=by
 obtain⟨o,es,ep,ho,hc,hd,he,HZ,hn⟩:=hm;unfold dictSetDefault
 try with_reducible refine Yv ?_
 refine WN (knd.pyHash hu CZ ?_);refine WN (wpAny_dictFind_heap (s:={s with toks:=s.toks+knd.draws k}) hu CZ ho hd he HZ hn ?_ ?_)
 .intro C0;have Nh:k∉xs.map (·.1):=not_mem_keys_of_get C0
  refine WN (Zw (WN (wpAny_updateDictKeys (hz:=by have e:=size_of_entries he;lia) (s:={s with toks:=s.toks+knd.draws k}) ho hd (WW (GB (atKey_none_of_get C0) _ ⟨_,_,ep+1,XO _ ho (Obj.isFreed_of_dict (Obj.data_mapDictKeys hd _)),
   hc.mapDictKeys _,Obj.data_mapDictKeys hd _,?_,?_,?_⟩ (Zi ..))))))
  .rw[storedH_new (atKey_none_of_get C0)];simp[he,entryOfKey]
  .rw[storedH_new (atKey_none_of_get C0)];intro x hx;rcases Xz.mp hx with hx|hx
   .exact knd.keeps (HZ x hx) ho hd (Zi ..)
   .simp only[Xc]at hx;subst hx;exact knd.keeps CZ ho hd (Zi ..)
  .rw[storedH_new (atKey_none_of_get C0)];rw[Xb,List.nodup_append];refine⟨hn,by simp,?_⟩;intro x hx y hy;simp only[Xr,Y2,Xc]at hy;subst hy;exactλe=>Nh (e ▸ hx)
 .intro j p hj;have h1:=GP _ (atKey_of_get hn hj);refine WN (wpAny_dictEntries (s:={s with toks:=s.toks+knd.draws k}) ho hd ?_);rw[entry_at he j,hj];exact WN (Zw (WW h1))
theorem bb_meets_setdefault(knd:HeapKind prog w K)(d a:WS)(dflt:WU)(hd:(d == YO)=CU) :
 MeetsIn prog w (Zp.«dict.setdefault» ⟨[.ref d,.ref a,dflt],[]⟩) (λA R s=>knd.room A.in1/\∃k xs,knd.is s.1 k a/\s.1.DictOfH knd d xs/\xs.length<=Xe /\
  (∀p,atKey xs k=A? p->R (.ok (.ret p.2)) {s with toks:=s.toks+knd.draws k}) /\
  (atKey xs k=B?->∀h',h'.DictOfH knd d (storedH xs k a dflt)->YD d s.1 h'->R (.ok (.ret dflt)) {s with heap:=h',toks:=s.toks+knd.draws k})) :=
 .of_wp λA R s⟨hu,k,xs,CZ,hm,hz,h1,h2⟩=>by
  unfold Zp.«dict.setdefault»;refine WN ?_;unfold Builtin.Dict.keyAndDefault;have hT:s.TypeIs (.ref d) "dict":=hm.typeIs;refine WN (wpAny_notOrdered_dict hT ?_);show W9 _ _ (pure (d,Xm a,A? dflt)) _ _ s;refine WW ?_;show W9 _ _ (if(d == YO)=C? then _ else(dictSetDefault d (.ref a) dflt >>= _)) _ _ s;rw[a! (by rw[hd];exact W5)];exact WN (bb_setDefault_heap hu CZ hm (λp hp=>WW ⟨_,rfl,h1 p hp⟩) (λhn h' F6 CO=>WW ⟨_,rfl,h2 hn h' F6 CO⟩) hz)
end
end PySem
namespace L2
open PySem PySem.Spec PyProof.Rows
def yG:V->List V->Hp->VK->Prop:=λx vs H Q=>∃(a b:WS)(v:V)(k:List Key)(f':List (List Key×V)),x=.ref a/\vs=[.ref b,v]/\H a=A? (.dT f')/\H b=A? (.tup (k.map kV))/\f'.length<Xe /\
 (∀u,aH f' k=A? u->Q u H)/\(aH f' k=B?->Q v (upd H a (.dT (putK f' k v))))
theorem mC{X:Cx}(hu:X.A.units+1<YH):MtM X "dict.setdefault" yG:=by
 intro Z s Y H x vs v us Q I rx rv h;obtain⟨a,b,y,k,f',rfl,rfl,e,eb,l,q1,q2⟩:=h;cases rx;cases rv with
 |cons r1 rv =>
 cases rv with
 |cons r2 rv =>
 cases rv;cases r1;obtain⟨z,hd,xs,rel,dd⟩:=pL I.hok e;have hz:xs.length<=Xe:=by rw[<-W4 rel];exact z
 have hl:(putK f' k y).length<=Xe:=by have:=bt f' k y;lia
 have hT:s.TypeIs (.ref a) "dict":=dd.typeIs;refine call_meetsIn Zn hT PySem.F.entry_dict_setdefault (PySem.F.args_dict_setdefault_3 _ _ _) (bb_meets_setdefault (tupleKind (ao X.prog X.w)) a b _ hd) ⟨tupleKind_room_in1 hu,k,xs,fB I.hok eb,dd,hz,λp hp=>?_,λhn h' C7 hs=>?_⟩
 .have hr:=rel.val k;rw[hp]at hr;cases hv:aH f' k with
  |none=>rw[hv]at hr;exact hr.elim
  | some u =>
    rw[hv]at hr;exact⟨u,H,I.tok _,hr,q1 u hv⟩
 .have hr:=rel.val k;rw[hn]at hr;cases hv:aH f' k with
  |some u=>rw[hv]at hr;exact hr.elim
  | none =>
    refine⟨y,_,?_,r2,q2 hv⟩;obtain⟨q,es,ep,hq,h2,h3,h4,_,h5⟩:=C7;refine fN I (by rw[e];exact YW) hs ⟨q,hq⟩ ⟨hl,hd,_,(rel.put k eb r2).keeps λc ys ec=>?_,q,es,ep,hq,h2,h3,h4,h5⟩;rw[ag (eJ ec e (λz=>nomatch z))];exact ec
end L2
namespace PySem
open Sem (wp)
section
variable{R:Result->WY->Prop}
theorem bb_key_loop{S:WS}{es:Array DictEntry}{ep:Nat}{od:Zc}(hh:A.in1.handled=B?)(hz:es.size<=Xe)(GQ:S≠it)(Jo:S≠d)(Lz:d≠it)(g2:od.data=.dict es ep)(res:WU) :
 ∀(k i:Nat)(s:WY)(acc:Array WU)(c:Nat),es.size - i=k->i<=es.size->s.1.IsKeyIter it d i es.size ep->s.1.get? d=A? od->s.1.get? S=A? {cls:=.type "list",dict:=B?,data:=.seq acc c,slots:=#[]}->acc.toList=(es.toList.take i).map (·.key) ->
 (∀h' A8 c',(∀b o,b≠S->b≠it->s.1.get? b=A? o->h'.get? b=A? o)->h'.get? S=A? {cls:=.type "list",dict:=B?,data:=.seq A8 c',slots:=#[]}->A8.toList=es.toList.map (·.key)->R (.ok (.ret res)) {s with heap:=h'}) ->
 codeAny (Xv prog w) A (.builtin "list.extend.loop" ⟨[.ref S,.ref it,res],[]⟩) R s:=by
 intro k;induction k with
 | zero =>
   intro i s acc c hk hi hit hd hS An hR;have B0:i=es.size:=by lia
   subst B0;refine codeAny_builtin F.entry_extend_loop ?_;rw[Around.under_plainId YE _];show W9 _ A.in1 (pyNext (.ref it) >>= _) _ _ s;refine WN (bb_keyEnd hh hit hd g2 (WX _) λh' A'=>WW ?_);refine hR h' acc c (λb o _ hb e=>A' b o hb e) (A' _ _ GQ hS) ?_;rw[An,YG (by rw[XR];lia)]
 | succ k ih =>
   intro i s acc c hk hi hit hd hS An hR;have Ah:i<es.size:=by lia
   refine codeAny_builtin F.entry_extend_loop ?_;rw[Around.under_plainId YE _];show W9 _ A.in1 (pyNext (.ref it) >>= _) _ _ s;have hx:es[i]?=A? es[i]:=Zg Ah
   have Bd:acc.size=i:=by
    have:=h! Zu An;rw[XR,WO,XS,XR]at this;lia
   refine WN (bb_keyNext hit hd g2 hx λh' E5 A'=>?_);have DV:=(A'.2 S GQ).trans hS;have Bv:=(A'.2 d Lz).trans hd;show W9 _ A.in1 (updateSeq S (·.push es[i].key) >>= _) _ _ _;refine WN ?_;have Ct:∀b o,b≠S->h'.get? b=A? o->(h'.update S (Yg (·.push es[i].key))).get? b=A? o:=λb o hb e=>(XW _ _ (YT hb)).trans e
   refine YV DV rfl (WW ⟨plainId_quiet YE _,ih (i+1) _ (acc.push es[i].key) _ (by lia) Ah (E5.at λo e=>Ct _ _ (YT GQ) e) (Ct _ _ (YT Jo) Bv) (XO _ DV rfl) ?_ λJg A8 c' GJ GK Ef=>?_⟩)
    (by rw[Bd];lia) (by show(acc.push _).size<=Xe+1;rw[Array.size_push,Bd];lia)
   .rw[Array.toList_push,An,Yh,WR (by rw[XR];exact Ah),Xb];simp
   .exact hR Jg A8 c' (λb o hb hb2 e=>GJ b o hb hb2 (Ct b o hb ((A'.2 b hb2).trans e))) GK Ef
end
theorem bb_list_keys{es:Array DictEntry}{ep:Nat}{od:Zc}(hh:A.in1.in1.handled=B?)(ns:(d == YO)=CU)(hd:s.1.get? d=A? od)(gc:od.cls=.type "dict")(g2:od.data=.dict es ep)(hz:es.size<=Xe)
 (hQ:∀h' acc c,(∀b o,s.1.get? b=A? o->h'.get? b=A? o)->h'.get? s.1.1.size=A? {cls:=.type "list",dict:=B?,data:=.seq acc c,slots:=#[]}->acc.toList=es.toList.map (·.key)->Q (.ref s.1.1.size) {s with heap:=h'}) :
 W9 (Xv prog w) A (call (.type "list") [.ref d]) Q E s:=by
 have Fd:=Xa hd;have Jo:s.1.1.size≠d:=Nat.ne_of_gt Fd
 refine callType_codes (Q₁:=λobj Ab=>obj=.ref s.1.1.size/\Ab={s with heap:=s.1.push {cls:=.type "list",data:=.seq #[]}}) F.called_list (F.typeCall_list_1 _) F.entry_list_init
  (code_list_new _ ⟨rfl,rfl⟩) λobj Ab Am=>?_
 obtain⟨rfl,rfl⟩:=Am;have hS:(s.1.push {cls:=.type "list",data:=.seq #[]}).get? s.1.1.size=A? {cls:=.type "list",data:=.seq #[]}:=W3 _ rfl;refine⟨⟨_,hS,D?⟩,F.args_list_init_2 _ _,?_⟩;show W9 _ A.in1.in1 (do let old <-ZJ (.ref s.1.1.size);Builtin.List.listUpdate (.ref s.1.1.size) (λ_=>#[]);letGo old.toList.reverse;Ze (.ref s.1.1.size) (.ref d) .none) _ _ _;refine WN ?_;unfold ZJ;refine WN (Yy hS rfl (WW ?_));refine WN (YV hS rfl ?_);have Bl:=XO (Yg (λ_=>(#[]:Array WU))) hS rfl;refine WN (wpAny_letGo ?_);have Cz:((s.1.push {cls:=.type "list",data:=.seq #[]}).update s.1.1.size (Yg (λ_=>(#[]:Array WU)))).objs.size=s.1.1.size+1:=by rw[Heap.size_update,X4]
 generalize hH:(s.1.push {cls:=.type "list",data:=.seq #[]}).update s.1.1.size (Yg (λ_=>(#[]:Array WU)))=H2 at Bl Cz |-
 have old:∀b o,s.1.get? b=A? o->H2.get? b=A? o:=λb o e=>by
  rw[<-hH,XW _ _ (YT (XA (Xa e)))];exact WV _ e
 obtain⟨c2,D9⟩:∃c,H2.get? s.1.1.size=A? {cls:=.type "list",data:=.seq #[] c}:=⟨_,Bl⟩;have hd2:=old _ _ hd;have Jh:({s with heap:=H2}:WY).TypeIs (.ref d) "dict":=⟨_,hd2,gc⟩;unfold Ze;refine WN (ZH Jh ?_);have h1:Zo (.ref s.1.1.size) (.ref d)=false:=by simp[Zo,Jo]
 have h2:(Zl "dict" == Zl "list")=false:=by decide
 have h3:(Zl "dict" == Zl "tuple")=false:=by decide
 simp only[h1,h2,h3,Bool.or_false,Yb,if_false];refine WN (bb_keyIter (s:={s with heap:=H2}) ns hd2 gc g2 ?_);refine WN (Yv ?_);have GR:(H2.push {cls:=.type "dict_keyiterator",data:=.fields #[.ref d,.int 0 0,.int es.size 0,.int ep 0]}).IsKeyIter H2.objs.size d 0 es.size ep:=⟨_,W3 _ rfl,rfl,rfl⟩;have Ia:∀b o,H2.get? b=A? o->(H2.push {cls:=.type "dict_keyiterator",data:=.fields #[.ref d,.int 0 0,.int es.size 0,.int ep 0]}).get? b=A? o:=λb o e=>WV _ e;have Jp:s.1.1.size≠H2.objs.size:=by rw[Cz];lia
 have Ni:d≠H2.objs.size:=by rw[Cz];exact XA (Nat.lt_succ_of_lt Fd)
 show W9 _ _ _ _ _ ({s with heap:=H2.push {cls:=.type "dict_keyiterator",data:=.fields #[.ref d,.int 0 0,.int es.size 0,.int ep 0]}}:WY);generalize H2.push {cls:=.type "dict_keyiterator",data:=.fields #[.ref d,.int 0 0,.int es.size 0,.int ep 0]}=H3 at GR Ia |-;have Qv:=Ia _ _ hd2;have Nj:=Ia _ _ D9;have Nk:({s with heap:=H3}:WY).TypeIs (.ref d) "dict":=⟨_,Qv,gc⟩
 have key:∀(h:Yd)(c₁:Nat),h.IsKeyIter H2.objs.size d 0 es.size ep->(∀b o,b≠s.1.1.size->H3.get? b=A? o->h.get? b=A? o)->h.get? s.1.1.size=A? {cls:=.type "list",data:=.seq #[] c₁} ->
  codeAny (Xv prog w) A.in1 (.builtin "list.extend.loop" ⟨[.ref s.1.1.size,.ref H2.objs.size,.none],[]⟩) (wants (λr AG=>r=.none/\Q (.ref s.1.1.size) AG) E) {s with heap:=h}:=by
  intro h c₁ hit hk Cr;refine bb_key_loop hh hz Jp Jo Ni g2 .none es.size 0 _ #[] c₁ rfl (Xh _) hit (hk _ _ (YT Jo) Qv) Cr rfl λh' A8 c' hm DV An=>?_;refine⟨D?,hQ h' A8 c' (λb o e=>?_) DV An⟩;have hb:=XA (Xa e);exact hm b o hb (by rw[Cz];exact XA (Nat.lt_succ_of_lt (Xa e))) (hk b o hb (Ia b o (old b o e)))
 unfold ZI;refine WN (Yq Nk F.slot_dict_len.lookup ?_);generalize hid:("dict.__len__":String)=GF
 wp_delta
 rw[show splitId GF=A? ("dict","__len__")from by subst hid;decide +kernel];subst hid;refine WN (ZK (T:="dict") (b:=C?) Nk (by rw[isSubtype_type];kernel_rfl) ?_);refine wpAny_ite_split (λCc=>g! Cc (by decide)) (λ_=>?_);refine wpAny_ite_split (λ_=>?_) (λCc=>g! (by decide +kernel) Cc);refine WN (ZH Nk ?_);refine WW ?_;refine wpAny_ite_split (λ_=>?_) (λ_=>WW ⟨plainId_quiet YE _,key _ c2 GR (λb o _ e=>e) Nj⟩);refine WN (Zw ?_);refine WN ?_;show W9 _ _ (updateSeq s.1.1.size (·.push .none) >>= λ_=>updateSeq s.1.1.size (·.pop)) _ _ _;refine WN (YV Nj rfl ?_);have Bm:=XO (Yg (·.push Yp)) Nj rfl;refine YV (hz:=by seq_fits) Bm rfl ?_;have Cs:=XO (Yg (·.pop)) Bm rfl
 have Ct:∀b o,b≠s.1.1.size->H3.get? b=A? o->((H3.update s.1.1.size (Yg (·.push Yp))).update s.1.1.size (Yg (·.pop))).get? b=A? o :=
  λb o hb e=>(XW _ _ (YT hb)).trans ((XW _ _ (YT hb)).trans e)
 exact WW ⟨plainId_quiet YE _,key _ _ (GR.at λo e=>Ct _ _ (YT Jp) e) Ct Cs⟩
end PySem
namespace L2
open PySem PySem.Spec PyProof.Rows
def aal:List V->Hp->VK->Prop:=λxs H Q=>∃(a:WS)(f':List (List Key×V)),xs=[.ref a]/\H a=A? (.dT f')/\∀(l:WS)(bs:List WS),H l=B?->Xs (λkv b=>H b=A? (.tup (kv.1.map kV))) f' bs->Q (.ref l) (upd H l (.lst (bs.map i!)))
theorem vj{f':List (List Key×V)}{ys:List (List Key×WS×WU)}(rel:KTd H f' ys):Xs (λkv b=>H b=A? (.tup (kv.1.map kV))) f' (ys.map λy=>y.2.1):=by
 induction rel with
 |nil=>exact .nil
 |cons h t ih=>exact .cons h.2.1 ih
theorem mh{X:Cx}(hc:X.calm=C?):fz X (.type "list") aal:=by
 intro Z s Y H xs us Q I r h;obtain⟨a,f',rfl,e,q⟩:=h;obtain⟨u,rfl,rx⟩:=vals1 r;cases rx;obtain⟨z,hd,ys,rel,dd⟩:=pL I.hok e;have hT:=dd.typeIs;obtain⟨o,es,ep,ho,Tw,Ib,he,HZ,hn⟩:=dd;obtain⟨o',Bu,Br⟩:=hT;have eo:o'=o:=Xp (Bu.symm.trans ho);subst eo;have hl:f'.length=ys.length:=W4 rel
 have GS:es.toList.map (·.key)=ys.map λy=>Xm y.2.1:=by
  rw[he,YM];rfl
 have hsz:es.size<=Xe:=by
  have:=h! Zu GS;rw[WO,WO,XR]at this;lia
 have hh:X.A.in1.in1.handled=none:=I.ok.hd hc;refine bb_list_keys hh hd Bu Br Ib hsz λh' acc c hk hS An=>?_;have hp:Xs (λkv b=>H b=A? (.tup (kv.1.map kV))) f' (ys.map λy=>y.2.1):=vj rel;refine⟨.ref s.1.1.size,upd H s.1.1.size (.lst ((ys.map λy=>y.2.1).map i!)),?_,D?,q _ _ I.fresh hp⟩;refine I.laid (t':=s.toks) hk (WX _) ⟨by rw[WO,WO];lia,acc.toList,c,?_,hS⟩;rw[An,GS];clear hn HZ he GS An hS hl z rel hp q;induction ys with
 |nil=>exact .nil
 |cons y ys ih=>exact .cons rfl ih
open BB
theorem abp{ws:List V}(r1:Vals ws its)(hws:DAts H es ws)(j:Nat)(z:WU)(hz:its[j]?=A? z):∃e y',es[j]?=A? e/\DAt H e y'/\RelV y' z:=by
 have hj:j<its.length:=(glE hz);have l1:=r1.length;have l2:=hws.length;have Nl:j<es.length:=by lia
 obtain⟨y',D6,dy⟩:=hws.at (WR Nl);obtain⟨v',Bh,Eg⟩:=r1.get D6;rw[hz]at Bh;cases Bh;exact⟨_,y',WR Nl,dy,Eg⟩
theorem aay{z:WU}{e e':Dv}{y' Nm:V}(h1:DAt H e y')(h2:RelV y' z)(h3:DAt H e' Nm)(h4:RelV Nm z):e=e':=by
 have:=h2.inj h4;subst this;exact h1.inj h3
def yB(K:WQ)(B:Nat):V->List V->Hp->VK->Prop:=λx vs H Q=>∃(l:WS)(y:V)(ws:List V)(d:Dv)(es:List Dv)(j:Nat),x=.ref l/\vs=[y]/\SqL K H l ws/\DAt H d y/\DAts H es ws/\bA es<=B/\es[j]?=A? d/\(∀i,i<j->es[i]?≠A? d)/\es.length<=100000/\Q (.int (j:Nat)) H
open Classical in
theorem va{X:Cx}(hu:X.A.units+B+4<YH):MtM X "list.index" (yB X.K B):=by
 intro Z s Y H x vs v us Q I rx rv h;obtain⟨l,y,ws,d,es,j,rfl,rfl,hS,hd,hws,hB,hj,C0,hz,q⟩:=h;cases rx;obtain⟨u,rfl,ru⟩:=rv.one;obtain⟨its,r,pl,_⟩:=I.list hS;have hlen:=r.length;have Bf:=hws.length;obtain⟨⟨cls,dd,data,sl⟩,ho,hc,n,Ib⟩:=pl.isList;simp only at hc Ib;subst hc Ib;have F7:j<es.length:=(glE hj)
 have Nn:∀(m:Nat)(z:WU),its[m]?=A? z->∃e y',es[m]?=A? e/\DAt H e y'/\RelV y' z/\decide (∃y',DAt H d y'/\RelV y' z)=decide (e=d):=λm z hz=>by
  obtain⟨e,y',he,dy,ry⟩:=abp r hws m z hz;refine⟨e,y',he,dy,ry,?_⟩;by_cases h:e=d
  .rw[d! h,d! ⟨y',h ▸ dy,ry⟩]
  .rw[c! h,c!];rintro⟨Nm,h1,h2⟩;exact h (aay dy ry h1 h2)
 refine call_meets PySem.F.slot_list_index ⟨_,ho,rfl⟩ PySem.F.entry_list_index (PySem.F.args_list_index_2 _ _)
  (SeqAt.list_indexAt l its.toArray n dd sl u (λz=>decide (∃y',DAt H d y'/\RelV y' z)) j (by rw[W0];lia) (by lia) ?_ ?_) ⟨ho,λy hy=>?_,⟨.int (j:Nat),H,I.tok _,⟨_,rfl⟩,q⟩⟩
 .obtain⟨e,y',he,dy,ry,e3⟩:=Nn j (its.toArray[j]'(by rw[W0];lia)) (by simp);rw[hj]at he;cases he;rw[e3];exact d! rfl
 .intro m hm Ah;obtain⟨e,y',he,dy,ry,e3⟩:=Nn m (its.toArray[m]'hm) (by simp);rw[e3];exact c! λz=>C0 m Ah (by rw[he,z])
 .have D6:y∈its:=by simpa using hy
  obtain⟨m,hm⟩:=Xi.mp D6;obtain⟨e,y',he,dy,ry,e3⟩:=Nn m y hm;rw[e3];have hq:=ff he;refine t5 I _ e d (WX _) y' _ y u _ dy hd ry ru ?_;show X.A.units+1+_<YH;lia
def aa9(K:WQ)(B:Nat):R2:=λx y H Q=>∃a b vs ws ds es,x=.ref a/\y=.ref b/\SqL K H a vs/\SqL K H b ws/\DAts H ds vs/\DAts H es ws/\bA ds<=B/\∀b:Bool,(b=C?↔ds=es)->Q (.bl b) H
open Classical in
theorem yT{X:Cx}(hu:X.A.units+B+2<YH):OpR X (compareOp .Eq) (aa9 X.K B):=by
 intro Z s Y H x y v u Q I rx ry h;obtain⟨a,b,vs,ws,ds,es,rfl,rfl,ha,hb,Cb,hws,hB,q⟩:=h;cases rx;cases ry;obtain⟨its,r1,p1,_⟩:=I.list ha;obtain⟨Ag,r2,p2,_⟩:=I.list hb;have l1:its.length=ds.length:=by rw[<-r1.length,Cb.length]
 have l2:Ag.length=es.length:=by rw[<-r2.length,hws.length]
 by_cases hl:ds.length=es.length
 .have hsz:its.toArray.size=Ag.toArray.size:=by rw[W0,W0];lia
  refine SeqAt.RcAt.lists p1.isList p2.isList hsz (by lia) (vy I r1 r2 Cb hws (by lia)) X.prog X.w X.xe _ ?_
  have e:(XF its.toArray.size).all (λj=>decide (ds[j]?=es[j]?))=decide (ds=es):=by
   rw[W0,l1];exact kK hl
  refine⟨.bl (decide (ds=es)),H,I,by rw[e];rfl,q _ ?_⟩;simp
 .refine SeqAt.RcAt.lists_lengths p1.isList p2.isList (by rw[W0,W0,l1,l2];simpa using hl) (by lia) X.prog X.w X.xe _ ⟨.bl CU,H,I,rfl,q _ ?_⟩;exact⟨λz=>g! z W5,λz=>g! (by rw[z]) hl⟩
end L2
namespace PySem
open Sem (wp)
section
variable{K:Type}[DecidableEq K](knd:HeapKind prog w K)(d:WS)
theorem bb_meets_len(hd:(d == YO)=CU) :
 MeetsIn prog w (Zp.«dict.__len__» ⟨[.ref d],[]⟩) (λ_ R s=>∃xs,s.1.DictOfH knd d xs/\R (.ok (.ret (.int xs.length s.toks))) {s with toks:=s.toks+1}) :=
 .of_wp λA R s⟨xs,hm,h⟩=>by
  obtain⟨o,es,ep,ho,hc,Np,he,hp,hn⟩:=hm;show W9 _ _ (dictSize d >>= _) _ _ s;unfold dictSize;refine WN (WN (wpAny_dictEntries ho Np (WW ?_)));show W9 _ _ (Builtin.Dict.pendingCount d >>= _) _ _ s;refine WN (wpAny_pendingCount_other hd ?_);refine wpAny_ret_mkInt ?_
  have:es.size=xs.length:=by
   have:=h! Zu he;rw[WO,XR]at this;exact this
  rw[Nat.add_zero,this];exact h
end
section
variable{K:Type}[DecidableEq K]{knd:HeapKind prog w K}
theorem bb_call_len{xs:List (K×WS×WU)}(hd:(d == YO)=CU)(hm:s.1.DictOfH knd d xs)(AU:(xs.length:Int)<2 ^ 63)
 (h:Q (.int xs.length (s.toks+1)) {s with toks:=s.toks+1+1}):W9 (Xv prog w) A (call (.builtin "len") [.ref d]) Q E s:=by
 refine Calls.call_function_entry kind_len plain_len entry_len (args_len1 _) ?_;unfold Zp.«len»;refine WN (m:=oneArg "len" _) (WW ?_)
 refine WN (m:=callSpecial? (.ref d) (Xq "__len__")) (X3 (name:=Xq "__len__") hm.typeIs F.slot_dict_len
  (call_meetsIn F.slot_dict_len hm.typeIs F.entry_dict_len (F.args_dict_len_1 _) (bb_meets_len knd d hd) ⟨xs,hm,?_⟩))
 show W9 _ _ _ _ _ {s with toks:=s.toks+1};refine WN (Yv (WW ?_));refine WN (wpAny_letGo ?_);show W9 _ _ (if((xs.length:Nat):Int)<0 then _ else _) _ _ _;rw[a! (by lia)];show W9 _ _ (if((xs.length:Nat):Int) >= 2 ^ 63 then _ else _) _ _ _;rw[a! (by lia)];exact WN (wpAny_mkInt (WW ⟨_,rfl,h⟩))
end
end PySem
namespace L2
open PySem PySem.Spec PyProof.Rows
def aaz:List V->Hp->VK->Prop:=λxs H Q=>∃(a:WS)(f':List (List Key×V)),xs=[.ref a]/\H a=A? (.dT f')/\Q (.int f'.length) H
theorem ji{X:Cx}:fz X (.builtin "len") aaz:=by
 intro Z s Y H xs us Q I r h;obtain⟨a,f',rfl,e,q⟩:=h;obtain⟨u,rfl,rx⟩:=vals1 r;cases rx;obtain⟨z,hd,ys,rel,dd⟩:=pL I.hok e;have hl:f'.length=ys.length:=W4 rel;refine bb_call_len hd dd (by rw[sizeLine_eq]at z;lia) ?_;rw[<-hl];exact⟨.int f'.length,H,I.tok _,⟨_,D?⟩,q⟩
end L2
namespace BB
open PySem L2
theorem mj:∀{ks:List (Xk×Int)}{as:List WS},KsAt H ks as->∀z∈ks.zip as,z.1∈ks/\KAt H z.1 z.2
 |_,_,.nil,z,hz=>by simp at hz
 | _,_,.cons (a:=k) (b:=a) r t,z,hz=>by
   rw[Zz]at hz;rcases W7.mp hz with rfl|hz
   .exact⟨Xd ..,r⟩
   .obtain⟨h1,h2⟩:=mj t z hz;exact⟨W8 _ h1,h2⟩
open PySem.Builtin PySem.Builtin.Str
end BB
namespace L2
open PySem PySem.Spec PySem.Calls PyProof.Rows BB
section
variable{X:Cx}{Y:List (Option V)}
end
open PySem.Builtin PySem.Builtin.Str
variable{X:Cx}
end L2
namespace BB
open PySem L2
section
variable{t:Th}{es:List WS}
end
end BB
namespace L2
open PySem PySem.Spec PyProof.Rows BB
variable{X:Cx}
end L2
namespace L2
open PySem PySem.Spec PyProof.Rows PySem.W
open BB
variable{X:Cx}
end L2
namespace L2
open PySem PySem.Spec PySem.Calls PyProof.Rows PySem.W
end L2
namespace BB
open PySem L2 PySem.Builtin PySem.Builtin.Str
end BB
namespace L2
open PySem PySem.Spec PySem.Calls PyProof.Rows PySem.Builtin PySem.Builtin.Str BB
variable{X:Cx}
end L2
namespace L2
open PySem PySem.Spec PyProof.Rows
end L2
namespace BB
open PySem L2
end BB
namespace L2
open PySem PySem.Spec PyProof.Rows
open PySem.Calls
structure yk(P:W6)(w:Xo)(K:WQ)(mg:Xk->Option WU)(base:Yd)(CX:CXT)(k:Nat)(f:WS)(sp:Sp):Prop where
 fn:∀(A:XI)(outer:List Env)(s:WY)(H:Hp)(vs:List V)(Q:VK)(E:XK),Env0 P w K mg base A outer s H->sp vs H Q E->PySem.W.FnAt f s.1
 run:∀(A:XI)(outer:List Env)(s:WY)(H:Hp)(us:List WU)(vs:List V)(Q:VK)(E:XK),Room k A->Env0 P w K mg base A outer s H->Vals vs us->sp vs H Q E ->
  codeAny (Xv P w) A (.call (.ref f) ⟨us,[]⟩) (CR CX outer P w H s Q E) s
section
variable{X:Cx}{k:Nat}{E:XK}{p:Z4}{es:List X6}{t:TA}
def aak(P:W6)(w:Xo)(K:WQ)(mg:Xk->Option WU)(base:Yd)(CX:CXT)(k i:Nat)(E:XK)(t:TA):TE:=λY H Q=>∃f sp,Y[i]?=A? (A? (.ref f))/\yk P w K mg base CX k f sp/\t Y H λvs H1=>sp vs H1 Q E
theorem rn{M:Model}{E:WU->WY->Prop}{q:WS}{rest:List X6}(h:W9 M A (spliced (Z2 pos (XH (e::rest) env))) (λvs Ab=>PySem.W.FnAt q Ab.1/\W9 M A (call (.ref q) ([]++vs)) Q E Ab) E s)
 (he:XH (e::rest) env=(CU,Y4 e env)::XH rest env) (BC:(Z2 pos (XH rest env)).any (·.1)=CU) :
 W9 M A (callWith pos (.ref q) [] (Z2 pos (XH (e::rest) env)) []) Q E s:=by
 rw[he]at h |-;exact PySem.W.callWith_of (by show((CU ||(Z2 pos (XH rest env)).any (·.1)) ||false)=CU;rw[BC];rfl) PySem.W.keeps_F (evalArgs_plain h)
theorem vU(hN:X.N[i]?=A? x)(hv:Vis X.env.scope x)(hr:Room k X.A)(hx:Passes CX X E)(ha:PA X (e::es) t)(DA:(x == ("__debug__":Xk))=false:=by decide)(BX:(x == ("__classdict__":Xk))=false:=by decide)
 (he:XH (e::es) X.env=(CU,Y4 e X.env)::XH es X.env:=by rfl) (AR:(Z2 pos (XH es X.env)).any (·.1)=false:=by rfl) :
 PE X (.Call (.Name x p) (e::es) [] pos) (aak X.prog X.w X.K X.mg X.base CX k i E t):=by
 intro Z s Y H Q I h;obtain⟨f,sp,Nq,F,q⟩:=h;refine Yk (thn (xk (X:=X) hN hv DA BX Z s Y H (λv H1=>v=.ref f/\t Y H1 λvs H2=>sp vs H2 Q E) I ⟨_,Nq,rfl,q⟩) λu s1⟨v,H1,I1,r,e1,q1⟩=>?_);subst e1;obtain rfl:u=Xm f:=r;refine rn (thn (ha pos Z s1 Y H1 _ I1 q1) λus s2⟨vs,H2,I2,r2,q2⟩=>⟨F.fn X.A X.stack s2 H2 vs Q E I2.env0 q2,?_⟩) he AR;refine wpAny_call (codeAny_mono (F.run X.A X.stack s2 H2 ([]++us) vs Q E hr I2.env0 r2 q2) λr s' hq=>?_);cases r with
 |error e=>exact hx Z Y H2 s2 e s' I2 hq
 | ok fl =>
   cases fl with
   |ret u=>exact I2.after hq
   |next=>exact YC hq
   |brk=>exact YC hq
   |cont=>exact YC hq
end
def fgt(S:List WS)(H:Hp):Hp:=λb=>if b∈S then B? else H b
def rst(S:List WS)(H H':Hp):Hp:=λb=>if b∈S then H b else H' b
theorem jz{S:List WS}(h:b∈S):fgt S H b=none:=b! h
theorem bN{S:List WS}(h:b∉S):fgt S H b=H b:=a! h
theorem wV{S:List WS}(h:b∈S):rst S H H' b=H b:=b! h
theorem dL{S:List WS}(h:b∉S):rst S H H' b=H' b:=a! h
theorem vF{S:List WS}(h:fgt S H b=A? o):b∉S/\H b=A? o:=by
 by_cases hb:b∈S
 .rw[jz hb]at h;cases h
 .exact⟨hb,by rw[bN hb]at h;exact h⟩
def Exts(S:List WS)(H:Hp):Prop:=∀b∈S,∃φ,H b=A? (.ext φ)
theorem Exts.out{S:List WS}(x:Exts S H)(e:H b=A? o)(n:∀φ,o≠.ext φ):b∉S:=λz=>by
 obtain⟨φ,h⟩:=x b z;rw[e]at h;exact n φ (Xp h)
theorem HOk.fgt{S:List WS}(x:HOk P w H h)(hS:Exts S H):HOk P w (fgt S H) h:=λa o e=>by
 obtain⟨ha,e'⟩:=vF e;exact(x a o e').stay (λ_ _ _ q=>q) (λb q=>by rw[bN (hS.out q (by intro φ z;cases z))];exact q) λb xs q=>by rw[bN (hS.out q (by intro φ z;cases z))];exact q
theorem HOk.rst{S:List WS}(x:HOk P w H h)(x':HOk P w H' h')(hS:Exts S H)(hk:∀b∈S,∀o,h.get? b=A? o->h'.get? b=A? o)(hn:∀b∈S,H' b=B?):HOk P w (rst S H H') h':=λa o e=>by
 by_cases ha:a∈S
 .rw[wV ha]at e;obtain⟨φ,Tx⟩:=hS a ha;have e2:=Tx;rw[e]at e2;cases e2;obtain⟨p,⟨ob,q⟩,st⟩:=x a _ e;exact⟨st _ _ p (λo z=>hk a ha o z),⟨ob,hk a ha ob q⟩,st⟩
 .rw[dL ha]at e;have out:∀b u,H' b=A? u->b∉S:=λb u q z=>by rw[hn b z]at q;cases q
  exact(x' a o e).stay (λ_ _ _ q=>q) (λb q=>by rw[dL (out b _ q)];exact q) λb xs q=>by rw[dL (out b _ q)];exact q
def CellAt(H:Hp)(c:WS)(v:V):Prop:=∃φ,H c=A? (.ext φ)/\∀h:Yd,φ h->∃u,RelV v u/\h.IsCell c (A? u)
def CodeAt(H:Hp)(c:WS)(qual:Xk):Prop:=∃φ,H c=A? (.ext φ)/\∀h:Yd,φ h->h.CodeRec (.ref c) qual
def xV(H:Hp)(cl:List (Xk×WS))(ns:List Xk)(ws:List V):Prop:=Xs (λ(x:Xk)(v:V)=>∃c,cl.lookup x=A? c/\CellAt H c v) ns ws
theorem CellAt.mono(s:Same H H')(h:CellAt H c v):CellAt H' c v:=by
 obtain⟨φ,h1,h2⟩:=h;exact⟨φ,s _ _ h1,h2⟩
theorem CodeAt.mono(s:Same H H'){q:Xk}(h:CodeAt H c q):CodeAt H' c q:=by
 obtain⟨φ,h1,h2⟩:=h;exact⟨φ,s _ _ h1,h2⟩
theorem CellAt.now(x:HOk P w H h)(z:CellAt H c v):∃u,RelV v u/\h.IsCell c (A? u):=by
 obtain⟨φ,h1,h2⟩:=z;exact h2 h (x c _ h1).1
theorem jO(h:cl.lookup x=A? c):c∈cl.map (·.2):=Xl.mpr ⟨(x,c),Yj h,rfl⟩
theorem nZ:∀{l:List (Xk×WU)}{x:Xk}{u:WU},(l.map (·.1)).Nodup->(x,u)∈l->l.lookup x=A? u
 | [],_,_,_,h=>by cases h
 | (y,v)::l,x,u,nd,h=>by
   rw[Xr,ZN]at nd;rw[YJ];rcases W7.mp h with e|e
   .cases e;rw[beq_self_eq_true]
   .have Ap:(x == y)=false:=by
     rw[beq_eq_false_iff_ne];intro z;subst z;exact nd.1 (Xl.mpr ⟨_,e,rfl⟩)
    rw[Ap];exact nZ nd.2 e
theorem pC(nd:ps.Nodup)(hl:us.length=ps.length)(h1:ps[i]?=A? x)(h2:us[i]?=A? u):(ps.zip us).reverse.lookup x=A? u:=by
 refine nZ ?_ ?_
 .rw[List.map_reverse,List.map_fst_zip (by lia)];exact(List.pairwise_reverse.mpr (nd.imp λh z=>h z.symm))
 .rw[List.mem_reverse];exact WT (Zf.mpr ⟨h1,h2⟩)
structure Lam(mg:Xk->Option WU)(base:Yd)(c P:WS):Prop where
 hd:PySem.W.CodeHd base c P
 bl:base.BuiltinsAt mg P
def SameT(P:WS)(H H':Hp):Prop:=∀b o,b≠P->H b=A? o->H' b=A? o
def tabOf(pos:Z4)(c':WS):Array WU:=#[Za pos.line,Za pos.col,.ref c']
def TabSt(H:Hp)(P:WS)(pos:Z4)(qual:Xk):Prop:=H P=A? (.tbl #[])\/∃c',H P=A? (.tbl (tabOf pos c'))/\CodeAt H c' qual
theorem TabSt.mono(s:Same H H'){P:WS}(h:TabSt H P pos qual):TabSt H' P pos qual:=by
 rcases h with h|⟨c',h1,h2⟩
 .exact .inl (s _ _ h)
 .exact .inr ⟨c',s _ _ h1,h2.mono s⟩
theorem SameT.trans{P:WS}(a:SameT P H H1)(b:SameT P H1 H2):SameT P H H2:=λc o n e=>b c o n (a c o n e)
theorem Same.t(s:Same H H')(P:WS):SameT P H H':=λb o _ e=>s b o e
theorem SameT.kt{P:WS}(s:SameT P H H'){pp:Array WU}(hP:H P=A? (.tbl pp)):BB.KT H H':=λb xs e=>s b _ (λz=>by rw[z,hP]at e;cases e) e
theorem TabSt.kt{P:WS}(t:TabSt H P pos qual)(s:SameT P H H'):BB.KT H H':=by
 rcases t with h|⟨_,h,_⟩
 .exact s.kt h
 .exact s.kt h
theorem vK(pos:Z4)(c':WS):TriplesOk (tabOf pos c').toList:=trivial
theorem vg(pos:Z4)(c':WS):codeAmong pos (tabOf pos c').toList=A? (.ref c'):=by
 show codeAmong pos [Za pos.line,Za pos.col,.ref c']=_;simp[codeAmong,Za]
section
variable{X:Cx}{k:Nat}{f:WS}{p:Z4}{es:List X6}{t:TA}
def Trk(X:Cx)(Y:St)(cl:List (Xk×WS))(H H':Hp):Prop:=(∀b∈cl.map (·.2),H b=B?)/\(∀b,b∉cl.map (·.2)->H' b=H b)/\Exts (cl.map (·.2)) H'/\∀(i:Nat)(y:Xk)(v:V)(c:WS),X.N[i]?=A? y->Y[i]?=A? (A? v)->cl.lookup y=A? c->CellAt H' c v
def aaf(X:Cx)(cl:List (Xk×WS))(sp:Sp)(t:TA):TE:=λY H Q=>t Y H λvs H1=>∀H2,Trk X Y cl H1 H2->sp vs H2 (λv H3=>(∀b∈cl.map (·.2),H3 b=H2 b)/\Q v (fgt (cl.map (·.2)) H3)) E0
theorem Trk.same{X:Cx}(t:Trk X Y cl H H'):Same H H':=λb o e=>by
 rw[t.2.1 b (λz=>by rw[t.1 b z]at e;cases e)];exact e
theorem Trk.back{X:Cx}{H3:Hp}(t:Trk X Y cl H H')(s:Same H' H3):Same H (fgt (cl.map (·.2)) H3):=λb o e=>by
 rw[bN (λz=>by rw[t.1 b z]at e;cases e)];exact s _ _ (t.same _ _ e)
theorem Trk.kt{X:Cx}{H3:Hp}(t:Trk X Y cl H H')(s:Same H' H3):BB.KT H3 (fgt (cl.map (·.2)) H3):=λb xs e=>by
 rw[bN λz=>?_]
 .exact e
 obtain⟨φ,h⟩:=t.2.2.1 b z;rw[s _ _ h]at e;cases e
structure iR(X:Cx)(cl:List (Xk×WS)):Prop where
 look:∀y c,(y,c)∈cl->X.env.cells.lookup y=A? c
 fn:∀y c,(y,c)∈cl->X.fn y=C?
 kind:∀y c,(y,c)∈cl->X.env.kindOf y=A? .cell
theorem abm{y:Xk}(h1:X.env.cells.lookup y=A? c)(h2:X.fn y=C?)(h3:X.env.kindOf y=A? .cell):iR X [(y,c)] :=
 ⟨λ_ _ h=>by cases Xc.mp h;exact h1,λ_ _ h=>by cases Xc.mp h;exact h2,λ_ _ h=>by cases Xc.mp h;exact h3⟩
theorem xv(F:aX X.prog X.w X.K X.mg X.base CX0 k f fd ps sp)(hr:Room k X.A)(hg:Gl X x)(hm:X.mg x=A? (.ref f))(hk:PySem.W.keepIn X.K (.ref f)=C?)(hb:Binds X.K fd ps [])(oc:iR X cl)
 (ha:PA X (e::es) t) (DA:(x == ("__debug__":Xk))=false:=by decide) (he:XH (e::es) X.env=(CU,Y4 e X.env)::XH es X.env:=by rfl) (AR:(Z2 pos (XH es X.env)).any (·.1)=false:=by rfl) :
 PE X (.Call (.Name x p) (e::es) [] pos) (aaf X cl sp t):=by
 intro Z s Y H Q I h;refine Yk (ky I hg hm ?_ DA);refine PySem.W.callWith_K (h₀:=X.base) I.ok.mod.kin hk (thn (ha pos Z s Y H _ I h) λus s1⟨vs,H1,I1,r,q⟩=>⟨I1.kIn,?_⟩) he AR
 have AE:∀b∈cl.map (·.2),∃y,(y,b)∈cl:=λb hb=>by
  obtain⟨⟨y,c⟩,h1,h2⟩:=Xl.mp hb;cases h2;exact⟨y,h1⟩
 have Bj:∀b∈cl.map (·.2),∃v o,s1.1.get? b=A? o/\o.data=.cell v:=λb hb=>by
  obtain⟨y,hy⟩:=AE b hb;obtain⟨v,o,h1,h2⟩:=I1.cell y b (oc.look y b hy);exact⟨v,o,h1,h2⟩
 have Cj:∀b∈cl.map (·.2),H1 b=none:=λb hb=>by
  obtain⟨y,hy⟩:=AE b hb;exact I1.freeC y b (oc.look y b hy)
 obtain⟨H2,Qw⟩:∃H2:Hp,H2=λb=>if b∈cl.map (·.2)then A? (.ext λh=>h.get? b=s1.1.get? b/\(h.get? b).isSome=C?)else H1 b:=⟨_,rfl⟩
 have Jq:∀b∈cl.map (·.2),H2 b=A? (.ext λh=>h.get? b=s1.1.get? b/\(h.get? b).isSome=C?):=λb hb=>by rw[Qw];exact b! hb
 have Bs:∀b,b∉cl.map (·.2)->H2 b=H1 b:=λb hb=>by rw[Qw];exact a! hb
 have BS:Exts (cl.map (·.2)) H2:=λb hb=>⟨_,Jq b hb⟩;have Jr:∀b u,H1 b=A? u->b∉cl.map (·.2):=λb u z hb=>by rw[Cj b hb]at z;cases z
 have Nr:HOk X.prog X.w H2 s1.1:=λa o ea=>by
  by_cases hb:a∈cl.map (·.2)
  .rw[Jq a hb]at ea;cases ea;obtain⟨v,o,h1,h2⟩:=Bj a hb
   exact⟨⟨D?,by rw[h1];rfl⟩,⟨o,h1⟩,λg1 g2 z y=>by
    obtain⟨ob,Ic⟩:=Z0.mp z.2;have:=y ob Ic;exact⟨by rw[this,<-Ic];exact z.1,by rw[this];rfl⟩⟩
  .rw[Bs a hb]at ea;exact(I1.hok a o ea).stay (λ_ _ _ z=>z) (λb z=>by rw[Bs b (Jr b _ z)];exact z) λb xs z=>by rw[Bs b (Jr b _ z)];exact z
 have BA:∀b o,X.base.get? b=A? o->b∉cl.map (·.2):=λb o z hb=>by
  obtain⟨y,hy⟩:=AE b hb;have h1:=I1.ok.cab y b (oc.fn y b hy) (oc.look y b hy);exact g! (XM (Xa z) (Xw I1.ok.bsz h1)) (Yr _)
 have Js:∀b∈frs X.stack,b∉cl.map (·.2):=λb hb hc=>by
  obtain⟨y,hy⟩:=AE b hc;rcases W7.mp (I1.stkSub b hb)with z|z
  .exact I1.cne y b (oc.look y b hy) z
  .obtain⟨_,o,ho,_⟩:=I1.ok.funs.mem z;have h1:=I1.ok.cab y b (oc.fn y b hy) (oc.look y b hy);exact g! (XM (Xa ho) h1) (Yr _)
 have e0:=I1.env0;have e2:Env0 X.prog X.w X.K X.mg X.base X.A X.stack s1 H2:=⟨e0.frames,e0.mod,λb o z=>⟨(e0.bs b o z).1,by rw[Bs b (BA b o z)];exact(e0.bs b o z).2⟩,e0.bsz,e0.funs,λb hb=>by rw[Bs b (Js b hb)];exact e0.frf b hb,Nr,e0.bare⟩
 have Nt:Trk X Y cl H1 H2:=by
  refine⟨Cj,Bs,BS,λi y v c hN Nq hc=>?_⟩;have Qx:(y,c)∈cl:=Yj hc;have Tz:=oc.look y c Qx;have Dc:=oc.kind y c Qx;obtain⟨m,hn,hl⟩:=I1.loc;obtain⟨u,ru,l⟩:=hl i y v hN Nq (.inr (.inl Dc));rcases l with⟨z,_⟩|⟨_,c2,BQ,z⟩
  .rw[Dc]at z;cases z
  .rw[Tz]at BQ;cases BQ;refine⟨_,Jq c (jO hc),λh z'=>⟨u,ru,?_⟩⟩;obtain⟨o,ho,hd⟩:=z;exact⟨o,by rw[z'.1];exact ho,hd⟩
 have CM:=q H2 Nt;have hl:us.length=ps.length:=by rw[<-r.length];exact F.len _ _ _ _ CM
 have AA:=hb s1 us I1.kIn (by rw[XC];exact hl);rw[XC]at AA;refine wpAny_call (codeAny_mono (F.run X.A X.stack s1 H2 ⟨us,[]⟩ us vs _ _ hr e2 AA r CM) λrr s' hq=>?_);cases rr with
 |error e=>exact YC hq
 | ok fl =>
   cases fl with
   |next=>exact YC hq
   |brk=>exact YC hq
   |cont=>exact YC hq
   | ret u =>
     obtain⟨v,H3,os,bare,un,Jt,rv,hS,q3⟩:=hq;have TB:Exts (cl.map (·.2)) H3:=λb hb=>⟨_,(hS b hb).trans (Jq b hb)⟩;have kS:∀b∈cl.map (·.2),s'.1.get? b=s1.1.get? b:=λb hb=>((Jt b _ ((hS b hb).trans (Jq b hb))).1).1;refine⟨v,fgt (cl.map (·.2)) H3,I1.call' (ch:=[]) os ⟨λb o z n hb AV=>?_,λb o z n hb AV=>?_,λb o z n AV=>?_,λb o z AV=>un.there b o z AV,λb xs z=>?_,λb o u' z=>?_,λb pp z=>?_⟩ (Jt.fgt TB) bare (λb z=>by cases z),rv,q3⟩
     .by_cases hc:b∈cl.map (·.2)
      .rw[kS b hc];exact z
      .exact un.keep b o z (by rw[Bs b hc];exact n) hb AV
     .exact un.slot b o z (by rw[Bs b (Js b hb)];exact n) hb AV
     .by_cases hc:b∈cl.map (·.2)
      .exact jz hc
      .rw[bN hc];exact un.free b o z (by rw[Bs b hc];exact n) AV
     .have hc:=Jr b _ z;rw[bN hc];exact un.tups b xs (by rw[Bs b hc];exact z)
     .have hc:=Jr b _ z;rw[bN hc];exact un.frzs b o u' (by rw[Bs b hc];exact z)
     .have hc:=Jr b _ z;rw[bN hc];exact un.tbls b pp (by rw[Bs b hc];exact z)
end
theorem Fun.okT{st:Stmt}{f:WS}{k:Nat}(F:Fun K x qual st f fd)(hc:fd.code=.ref c)(S:dM N ps (aE st))(len:∀vs H Q E,sp vs H Q E->vs.length=ps.length)
 (Ba:∀(A:XI)(outer:List Env)(s:WY)(H:Hp)(vs:List V)(Q:VK)(E:XK),Room k (A.deeper (envOfC qual (aE st) s.1.1.size f (.ref c)))->sp vs H Q E ->
  ∃t,PSs (qW CX0 P w K mg base N qual (aE st) f (.ref c) A outer s H E).nox (bG st) t/\t {nx:=λ_ H'=>Q .non H',rt:=Q} (start N vs) H):aX P w K mg base CX0 (k+1) f fd ps sp:=by
 obtain⟨oc,od,kV,doc,pm,an,Ai,ct,EI,rfl,lk,BX⟩:=F.ex;have AN:Ai=.ref c:=hc;subst AN;refine zh lk BX S len λA outer s H vs Q E hr CM=>?_;obtain⟨t,h,q⟩:=Ba A outer s H vs Q E hr CM;exact⟨t,h.nox,q⟩
theorem yX{st:Stmt}{f P:WS}(F:Fun K x qual st f fd)(hn:PySem.W.nsIn K Yl x=A? (A? (.ref f)))(ht:PySem.W.tabIn K x=A? (c,P)):fd.code=.ref c:=by
 obtain⟨oc,od,kV,doc,pm,an,Ai,ct,EI,rfl,lk,BX⟩:=F.ex;unfold PySem.W.tabIn at ht;rw[hn]at ht;simp only[lk]at ht;show Ai=.ref c;cases Ai with
 | ref c2 =>
   simp only[PySem.W.fnOf]at ht;split at ht
   .split at ht
    .cases ht;rfl
    .cases ht
   .cases ht
 |_=>simp[PySem.W.fnOf]at ht
theorem uU{mb:Xk->Option WU}{k:Nat}{fa T:WS}{Ab:WY}{vs:List WU}
 (KX:K.In Ab.1) (Cp:Ab.1.Ns Yl mg) (hb:Ab.1.Ns builtinsNs mb) (TC:∀x:Xk,x≠"__name__"->mb x=bootBuiltins x) (GU:Ab.1.NoLimit) (hg:Ab.gens=#[])
 (ha:Ab.1.get? a=A? {cls:=.type "list",data:=.seq vs.toArray}) (hi:IntsAre vs ns) (hl:ns.length<=Xe) (hr:Room k callerA)
 (hC:PySem.W.CodeHd Ab.1 c T) (hT:Ab.1.get? T=A? (PySem.W.tabObj #[])) (Bg:Ab.1.BuiltinsAt mg T) (Nu:K.lookup T=B?)
 (F:∀base:Yd,K.In base->base.Ns Yl mg->Lam mg base c T->aX P w K mg base CX k fa fd [x] sp) (Ju:∀(s:WY)(u:WU),BindsTo s fd ⟨[u],[]⟩ [(x,u)])
 (CM:∀H:Hp,SqL K H a (ns.map q!)->H T=A? (.tbl #[])->sp [.ref a] H (λv _=>v=.bl C?) λ_ _ _=>False)
 (Nv:∀H e s',CX [] H Ab (λ_ _ _=>False) e s'->False) :
 codeAny (Xv P w) callerA (.call (.ref fa) ⟨[.ref a],[]⟩) (λr s'=>r=.ok (.ret (.bool C?))/\OldK Ab.1 s'.1/\s'.os=Ab.os/\AllBare s'.gens) Ab:=by
 have rv:=mO hi;have Nw:=hi.length;have Qy:a≠T:=λz=>by rw[z,hT]at ha;cases ha
 have core:∀H:Hp,(∀b,H b=B?\/(∃o xs,H b=A? (.frz o (.lst xs)))\/(b=T/\H b=A? (.tbl #[])))->H T=A? (.tbl #[])->SqL K H a (ns.map q!)->HOk P w H Ab.1->(∀b,H b≠B?->b=a\/b=T)->(H a≠B?->K.lookup a=B?) ->
  codeAny (Xv P w) callerA (.call (.ref fa) ⟨[.ref a],[]⟩) (λr s'=>r=.ok (.ret (.bool C?))/\OldK Ab.1 s'.1/\s'.os=Ab.os/\AllBare s'.gens) Ab:=by
  intro H hO Nx hS hok hA hK;have Bw:∀{b:WS}{o:Zc},Ab.1.get? b=A? o->H b=B?->(my Ab.1 H).get? b=A? o:=λe n=>xi e n
  have Ny:∀{b:WS}{o:Zc},Ab.1.get? b=A? o->(∀xs n,o.data≠.seq xs n)->(∀xs,o.data≠.fields xs\/o.cls≠.none)->H b=none:=λ{b o}e d1 d2=>by
   cases q:H b with
   |none=>rfl
   | some u =>
     rcases hA b (by rw[q];simp)with e'|e'
     .subst e';rw[ha]at e;cases e;exact g! rfl (d1 _ _)
     .subst e';rw[hT]at e;cases e;rcases d2 #[]with z|z
      .exact g! rfl z
      .exact g! rfl z
  have LA:∀{b:WS}{m:Xk->Option WU},Ab.1.Ns b m->(my Ab.1 H).Ns b m:=λ{b m}⟨o,es,ep,e,d,r⟩=>⟨o,es,ep,Bw e (Ny e (λxs n=>by rw[d];exactλz=>nomatch z) (λxs=>.inl (by rw[d];exactλz=>nomatch z))),d,r⟩
  have Qz:K.In (my Ab.1 H):=λb o e=>Bw (KX b o e) (by
   cases q:H b with
   |none=>rfl
   | some u =>
     rcases hA b (by rw[q];simp)with e'|e'
     .subst e';rw[hK (by rw[q];simp)]at e;cases e
     .subst e';rw[Nu]at e;cases e)
  have hM:Mod K mg (my Ab.1 H):=⟨Qz,LA Cp,⟨mb,LA hb,TC⟩,let⟨mc,h1,h2⟩:=GU;⟨mc,LA h1,h2⟩⟩
  have hL:Lam mg (my Ab.1 H) c T:=by
   refine⟨?_,?_⟩
   .obtain⟨o,TF,file,tf,flags,tg,TH,text,tt,e1,r1,r2,r3⟩:=hC;exact⟨o,TF,file,tf,flags,tg,TH,text,tt,Bw e1 (Ny e1 (λxs n=>by rw[r2];exactλz=>nomatch z) (λxs=>.inr (by rw[r1];exactλz=>nomatch z))),r1,r2,r3⟩
   .obtain⟨bm,o,h1,h2,h3,h4,h5,h6,h7,h8⟩:=Bg;exact⟨bm,o,h1,h2,h3,h4,Bw h5 (Ny h5 (λxs n=>by rw[h8];exactλz=>nomatch z) (λxs=>.inl (by rw[h8];exactλz=>nomatch z))),h6,h7,h8⟩
  have e0:Env0 P w K mg (my Ab.1 H) callerA [] Ab H:=⟨rfl,hM,λb o e=>yi e,Nat.le_of_eq (uK _ _),trivial,λb hb=>g! (show b∈([]:List WS)from hb) (by simp),hok,.of_eq hg⟩;refine codeAny_mono ((F _ Qz (LA Cp) hL).run callerA [] Ab H ⟨[.ref a],[]⟩ [.ref a] [.ref a] _ _ hr e0 (Ju Ab (.ref a)) (.cons rfl .nil) (CM H hS Nx)) λr s' h=>?_;cases r with
  |error e=>exact(Nv H e s' h).elim
  | ok fl =>
    cases fl with
    |next=>exact YC h
    |brk=>exact YC h
    |cont=>exact YC h
    | ret u =>
      obtain⟨v,H',os,bare,un,Jv,r',q⟩:=h;have q':v=.bl true:=q;subst q';obtain rfl:u=Value.bool true:=r';refine⟨D?,⟨λb o e=>?_,λb o e=>un.there b o e (by simp)⟩,os,bare⟩;cases q:H b with
      |none=>exact .inl (un.keep b o e q (by intro z;exact g! (show b∈([]:List WS)from z) (by simp)) (by simp))
      | some u =>
        rcases hO b with z|⟨ob,xs,z⟩|⟨rfl,z⟩
        .rw[q]at z;cases z
        .have z2:=un.frzs b ob _ z;obtain⟨e1,_⟩:=hok b _ z;obtain⟨e2,_⟩:=Jv b _ z2;rw[e]at e1;cases e1;exact .inl e2
        .obtain⟨more,z2⟩:=un.tbls b _ z;have e2:s'.1.get? b=A? {cls:=.none,data:=.fields (#[]++more)}:=Jv b _ z2;rw[hT]at e;cases e;exact .inr (.inl ⟨(hC.tab hT).isCodeTable,rfl,#[],more,rfl,e2⟩)
 have okT:∀H:Hp,ObjOk P w H Ab.1 T (.tbl #[]):=λ_=>hT;cases hk:K.lookup a with
 | some o =>
   have e:=KX a o hk;rw[ha]at e;cases e;refine core (λb=>if b=T then A? (.tbl #[])else B?) (λb=>?_) (b! rfl) (.inr ⟨_,vs.toArray,_,hk,rfl,rfl,rfl,by rw[W0,Nw];exact hl,by simpa using rv⟩) (λb u z=>?_) (λb z=>?_) λz=>g! (a! Qy) z
   .by_cases hb:b=T
    .exact .inr (.inr ⟨hb,b! hb⟩)
    .exact .inl (a! hb)
   .by_cases hb:b=T
    .have z':=(b! hb).symm.trans z;cases z';rw[hb];exact okT _
    .have z':=(a! hb).symm.trans z;cases z'
   .by_cases hb:b=T
    .exact .inr hb
    .exact g! (a! hb) z
 | none =>
   refine core (λb=>if b=T then A? (.tbl #[])else if b=a then A? (.frz {cls:=.type "list",data:=.seq vs.toArray} (.lst (ns.map q!)))else B?) (λb=>?_) (b! rfl) (.inl (.inr ⟨{cls:=.type "list",data:=.seq vs.toArray},(a! Qy).trans (b! rfl)⟩)) (λb u z=>?_) (λb z=>?_) λ_=>hk
   .by_cases hb:b=T
    .exact .inr (.inr ⟨hb,b! hb⟩)
    .by_cases AA:b=a
     .exact .inr (.inl ⟨_,_,(a! hb).trans (b! AA)⟩)
     .exact .inl ((a! hb).trans (a! AA))
   .by_cases hb:b=T
    .have z':=(b! hb).symm.trans z;cases z';rw[hb];exact okT _
    .have z':=(a! hb).symm.trans z;by_cases AA:b=a
     .have z2:=(b! AA).symm.trans z';cases z2;subst AA;exact⟨ha,by rw[WO];exact hl,vs,_,rv,ha⟩
     .have z2:=(a! AA).symm.trans z';cases z2
   .by_cases hb:b=T
    .exact .inr hb
    .by_cases AA:b=a
     .exact .inl AA
     .exact g! ((a! hb).trans (a! AA)) z
def tabAt(o:Zc):Option WS:=match o.data with
 | .fields vs=>(match(vs[11]?:Option WU)with
   |some (.ref P)=>A? P
   |_=>B?)
 |_=>B?
theorem aaw{f T:WS}{sl:Array (Option WU)}{ot:Zc}(hn:PySem.W.nsIn K Yl x=A? (A? (.ref f)))(hl:K.lookup f=A? ⟨oc,od,.func fd,sl⟩)(hc:fd.code=.ref c)(ho:K.lookup c=A? ot)(ht:tabAt ot=A? T):PySem.W.tabIn K x=A? (c,T):=by
 unfold PySem.W.tabIn;rw[hn];simp only[hl,hc,ho];obtain⟨o1,o2,o3,o4⟩:=ot;unfold tabAt at ht;cases o3 with
 | fields vs =>
   simp only at ht |-;split at ht
   .rename_i e
    cases ht;simp only[e]
   .cases ht
 |_=>cases ht
theorem vY{l:PySem.W.OpenLaw}{k:Nat}{q:W6}{d dt:DefRec}{K:Params->WQ}{CX:Xo->CXT}{sp:Xo->WS->Sp}{tn:Xk}
 (hn:l.most=A? n) (II:n<=Xe) (FQ:d.params.defaults=[]) (hr:Room k callerA) (hq:(recsOf q).find? (λe=>e.name == tn)=A? dt)
 (hY:∀(w:Xo)(h:Yd),YP w h->(K w.params).In h)
 (F:∀(w:Xo)(mg:Xk->Option WU)(fa:WS)(h:Yd),(K w.params).In h->h.Ns Yl mg->mg d.name=A? (.ref fa) ->
  ∃(fd:ZV)(c T:WS),(∀(s:WY)(u:WU),BindsTo s fd ⟨[u],[]⟩ [(x,u)])/\PySem.W.tabIn (K w.params) tn=A? (c,T)/\(K w.params).lookup T=B? /\
    ∀base:Yd,(K w.params).In base->base.Ns Yl mg->Lam mg base c T->aX l.prog w (K w.params) mg base (CX w) k fa fd [x] (sp w T))
 (CM:∀(w:Xo)(T:WS)(H:Hp)(a:WS)(ns:List Int),ns.length<=n->SqL (K w.params) H a (ns.map q!)->H T=A? (.tbl #[])->sp w T [.ref a] H (λv _=>v=.bl C?) λ_ _ _=>False)
 (Nv:∀(w:Xo)(H:Hp)(s:WY)(e:WU)(s':WY),CX w [] H s (λ_ _ _=>False) e s'->False) :
 PySem.W.WalkO q loose XP YP l.row.toRowW d [] (λf vs=>PySem.call f vs):=by
 refine Att.attach_call hn FQ λw s₀ Ab mg mb fa o pm cd doc a vs ns G Y ho hd BX MM GC hints hlen hg=>?_;have KX:=hY w _ Y;obtain⟨fd,c,T,hb,ht,Nu,hF⟩:=F w mg fa _ KX G.T.g MM;obtain⟨hC,hT⟩:=PySem.W.tab_of G.T KX hq ht
 have Bg:Ab.1.BuiltinsAt mg T:=by
  obtain⟨bm,ob,b1,b2,b3,b4,b5,b6⟩:=G.T.bmain;refine⟨bm,ob,b1,b2,λz=>?_,λz=>?_,b3,b4,b5,b6⟩
  .obtain⟨o',es,ep,e,d',_⟩:=G.T.g;rw[z,e]at b3;cases b3;rw[d']at b6;cases b6
  .rw[z,hT]at b3;cases b3;cases b4
 exact uU KX G.T.g G.T.b G.T.builtins G.T.nolimit hg GC hints (Xw hlen II) hr hC hT Bg Nu hF hb (λH hS Nx=>CM w T H a ns hlen hS Nx) λH e s'=>Nv w H Ab e s'
end L2
namespace BB
open PySem L2
def nM:Th->Option (Int×Int)
 |.knot _ _=>B?
 |.call s k=>A? (s,k)
def dE(t:Th):List (Int×Int):=t.walk.filterMap nM
def stT(t:Th):List Int:=(dE t).map (·.1)
def bC(ts:List Th):List Int:=ts.flatMap stT
theorem fc(s k:Int):stT (.call s k)=[s]:=rfl
theorem dw(n:Xk)(ks:List Th):stT (.knot n ks)=bC ks:=by
 unfold stT dE bC;rw[Th.walk,Z5];show((walks ks).filterMap nM).map (·.1)=_;induction ks with
 |nil=>rfl
 | cons t ts ih =>
   rw[walks,List.filterMap_append,Xb,ih];rfl
def fT(m:List Int)(s:Int):List Int:=if s∈m then m else m++[s]
def bd(m l:List Int):List Int:=l.foldl fT m
theorem eM(m a b:List Int):bd m (a++b)=bd (bd m a) b:=List.foldl_append
theorem pq(m:List Int)(s:Int):m <+: fT m s:=by
 unfold fT;split
 .exact List.prefix_refl _
 .exact List.prefix_append _ _
theorem gw(l:List Int):∀m:List Int,m <+: bd m l:=by
 induction l with
 |nil=>exactλm=>List.prefix_refl _
 |cons s l ih=>exactλm=>(pq m s).trans (ih _)
theorem re{m:List Int}{s x:Int}:x∈fT m s↔x∈m\/x=s:=by
 unfold fT;split
 .rename_i h
  exact⟨.inl,λz=>z.elim id λy=>y ▸ h⟩
 .rw[Xz,Xc]
theorem cr{l:List Int}:∀{m:List Int}{x:Int},x∈bd m l↔x∈m\/x∈l:=by
 induction l with
 |nil=>intro m x;simp[bd]
 | cons s l ih =>
   intro m x;show x∈bd (fT m s) l↔_;rw[ih,re,W7,or_assoc]
theorem yl{m:List Int}{s:Int}(h:m.Nodup):(fT m s).Nodup:=by
 unfold fT;split
 .exact h
 .rename_i hs
  refine List.nodup_append.mpr ⟨h,by simp,λa ha b hb e=>?_⟩;rw[Xc.mp hb]at e;exact hs (e ▸ ha)
theorem tN{l:List Int}:∀{m:List Int},m.Nodup->(bd m l).Nodup:=by
 induction l with
 |nil=>exactλh=>h
 |cons s l ih=>exactλh=>ih (yl h)
def bfs(R:Int->List Th):Nat->List Int->Nat->List Int
 |0,m,_=>m
 | n+1,m,i=>match m[i]? with
   |none=>m
   |some s=>bfs R n (bd m (bC (R s))) (i+1)
theorem fE(R:Int->List Th):∀(n:Nat)(m:List Int)(i:Nat),m <+: bfs R n m i
 |0,m,i=>List.prefix_refl _
 | n+1,m,i=>by
   rw[bfs];split
   .exact List.prefix_refl _
   .exact(gw _ _).trans (fE R n _ _)
theorem wf(R:Int->List Th):∀(n:Nat)(m:List Int)(i:Nat),m.Nodup->(bfs R n m i).Nodup
 |0,m,i,h=>h
 | n+1,m,i,h=>by
   rw[bfs];split
   .exact h
   .exact wf R n _ _ (tN h)
theorem vm(R:Int->List Th)(p:Int->Prop)(hR:∀s,p s->∀x∈bC (R s),p x):∀(n:Nat)(m:List Int)(i:Nat),(∀x∈m,p x)->∀x∈bfs R n m i,p x
 |0,m,i,h=>h
 | n+1,m,i,h=>by
   rw[bfs];split
   .exact h
   .rename_i s hs
    refine vm R p hR n _ _ λx hx=>?_;rcases cr.mp hx with z|z
    .exact h x z
    .exact hR s (h s (WT hs)) x z
theorem yS(R:Int->List Th)(n:Nat)(m:List Int)(i:Nat)(h:m.length<=i):bfs R n m i=m:=by
 cases n with
 |zero=>rfl
 |succ n=>rw[bfs,ZG h]
def idx(M:List Int)(s:Int):Int:=(M.idxOf s:Nat)
theorem sN{m:List Int}(h:m <+: M){s:Int}(hs:s∈m):idx M s=idx m s:=by
 obtain⟨r,rfl⟩:=h;unfold idx;rw[List.idxOf_append,b! hs]
theorem zx{s:Int}(hs:s∈M):0<=idx M s/\idx M s<(M.length:Int):=by
 have:=Zt hs;unfold idx;lia
theorem yt(nd:M.Nodup){s:Int}(h:M[i]?=A? s):idx M s=(i:Int):=by
 obtain⟨h1,h2⟩:=YF.mp h;unfold idx;rw[<-h2,List.Nodup.idxOf_getElem nd]
def ren(g:Int->Int)(t:Th):Th:=t.fill λs k=>.call (g s) k
theorem dl(g:Int->Int)(s k:Int):ren g (.call s k)=.call (g s) k:=by unfold ren;rw[v!]
theorem cM(f:Int->Int->Th):∀ts:List Th,fills f ts=ts.map (·.fill f)
 | []=>rfl
 |t::ts=>by rw[fills,cM f ts];rfl
theorem cO(g:Int->Int)(n:Xk)(ks:List Th):ren g (.knot n ks)=.knot n (ks.map (ren g)):=by
 unfold ren;rw[v!,cM]
mutual
theorem sP(g:Int->Int):∀t:Th,stT (ren g t)=(stT t).map g
 |.call s k=>by rw[dl,fc,fc];rfl
 |.knot n ks=>by rw[cO,dw,dw,lY g ks]
theorem lY(g:Int->Int):∀ts:List Th,bC (ts.map (ren g))=(bC ts).map g
 | []=>rfl
 | t::ts=>by
   show stT (ren g t)++bC (ts.map (ren g))=(stT t++bC ts).map g;rw[sP g t,lY g ts,Xb]
end
theorem rf{t:Th}{x:Int}(ht:t∈ts)(hx:x∈stT t):x∈bC ts:=List.mem_flatMap.mpr ⟨t,ht,hx⟩
mutual
theorem oQ{g h:Int->Int}:∀t:Th,(∀s∈stT t,g s=h s)->ren g t=ren h t
 |.call s k,e=>by rw[dl,dl,e s (by rw[fc];exact Xc.mpr rfl)]
 | .knot n ks,e=>by
   rw[cO,cO,tO ks λs hs=>e s (by rw[dw];exact hs)]
theorem tO{g h:Int->Int}:∀ts:List Th,(∀s∈bC ts,g s=h s)->ts.map (ren g)=ts.map (ren h)
 | [],_=>rfl
 | t::ts,e=>by
   rw[Xr,Xr,oQ t λs hs=>e s (XJ _ hs),tO ts λs hs=>e s (XB _ hs)]
end
mutual
theorem kC(g h:Int->Int):∀t:Th,ren h (ren g t)=ren (λs=>h (g s)) t
 |.call s k=>by rw[dl,dl,dl]
 |.knot n ks=>by rw[cO,cO,cO,nD g h ks]
theorem nD(g h:Int->Int):∀ts:List Th,(ts.map (ren g)).map (ren h)=ts.map (ren λs=>h (g s))
 | []=>rfl
 | t::ts=>by
   rw[Xr,Xr,Xr,kC g h t,nD g h ts]
end
mutual
theorem gq(g:Int->Int):∀t:Th,(ren g t).size=t.size/\(ren g t).tall=t.tall
 |.call s k=>by rw[dl,p!,p!,u!,u!];exact⟨D?,D?⟩
 | .knot n ks=>by
   have:=nJ g ks;rw[cO,p!,p!,u!,u!,this.1,this.2];exact⟨D?,D?⟩
theorem nJ(g:Int->Int):∀ts:List Th,ak (ts.map (ren g))=ak ts/\aI (ts.map (ren g))=aI ts
 | []=>⟨rfl,rfl⟩
 | t::ts=>by
   have h1:=gq g t;have h2:=nJ g ts;rw[Xr,ak,ak,aI,aI,h1.1,h1.2,h2.1,h2.2];exact⟨D?,D?⟩
end
theorem vX{g:Int->Int}{m:List Int}{s:Int}(h:∀x∈m,g x=g s->x=s):fT (m.map g) (g s)=(fT m s).map g:=by
 unfold fT;by_cases hs:s∈m
 .rw[b! hs,b! (Xl.mpr ⟨s,hs,rfl⟩)]
 .rw[a! hs,a!,Xb]
  .rfl
  .intro z;obtain⟨x,hx,e⟩:=Xl.mp z;exact hs (h x hx e ▸ hx)
theorem qo{g:Int->Int}(hg:∀x∈M,∀y∈M,g x=g y->x=y):∀{l m:List Int},(∀x∈m,x∈M)->(∀x∈l,x∈M)->bd (m.map g) (l.map g)=(bd m l).map g:=by
 intro l;induction l with
 |nil=>exactλ_ _=>rfl
 | cons s l ih =>
   intro m hm hl;have hs:=hl s (Xd ..);show bd (fT (m.map g) (g s)) (l.map g)=(bd (fT m s) l).map g;rw[vX λx hx e=>hg x (hm x hx) s hs e];exact ih (λx hx=>(re.mp hx).elim (hm x) λz=>z ▸ hs) λx hx=>hl x (W8 _ hx)
theorem ud{R':Int->List Th}{g:Int->Int}(hg:∀x∈M,∀y∈M,g x=g y->x=y)(hR:∀s∈M,R' (g s)=(R s).map (ren g)) :
 ∀(n:Nat)(m:List Int)(i:Nat),(∀x∈bfs R n m i,x∈M)->bfs R' n (m.map g) i=(bfs R n m i).map g
 |0,m,i,_=>rfl
 | n+1,m,i,h=>by
   rw[bfs]at h |-;rw[bfs];rw[WZ];cases hi:m[i]? with
   |none=>rfl
   | some s =>
     rw[hi]at h;have h':∀x∈bfs R n (bd m (bC (R s))) (i+1),x∈M:=h;have BZ:=(fE R n (bd m (bC (R s))) (i+1)).subset;have hm:∀x∈bd m (bC (R s)),x∈M:=λx hx=>h' x (BZ hx);have hs:s∈M:=hm s (cr.mpr (.inl (WT hi)));show bfs R' n (bd (m.map g) (bC (R' (g s)))) (i+1)=(bfs R n (bd m (bC (R s))) (i+1)).map g;rw[hR s hs,lY,qo hg (λx hx=>hm x (cr.mpr (.inl hx))) λx hx=>hm x (cr.mpr (.inr hx))];exact ud hg hR n _ _ h'
def rowOf(rows:List (List Th))(s:Int):List Th:=rows.getD s.toNat []
theorem im:∀(n:Nat)(m:List Int)(i:Nat),(bfs R n m i).length<i+n->(∀j s,j<i->m[j]?=A? s->∀x∈bC (R s),x∈bfs R n m i)->∀s∈bfs R n m i,∀x∈bC (R s),x∈bfs R n m i
 | 0,m,i,hl,h=>λs hs x hx=>by
   obtain⟨j,hj⟩:=Xi.mp hs;have F7:=(glE hj);exact h j s (by rw[bfs]at hl F7;lia) hj x hx
 | n+1,m,i,hl,h=>by
   rw[bfs]at hl h |-;cases hi:m[i]? with
   | none =>
     rw[hi]at h;intro s hs x hx;obtain⟨j,hj⟩:=Xi.mp (show s∈m from hs);have F7:=(glE hj);have:=List.getElem?_eq_none_iff.mp hi;exact h j s (by lia) hj x hx
   | some s0 =>
     rw[hi]at hl h
     have Gy:(bfs R n (bd m (bC (R s0))) (i+1)).length<i+1+n:=by
      have:(bfs R n (bd m (bC (R s0))) (i+1)).length<i+(n+1):=hl;lia
     refine im n (bd m (bC (R s0))) (i+1) Gy λj s hj QA x hx=>?_;have hp:=fE R n (bd m (bC (R s0))) (i+1);have C6:=(glE hi)
     have hm:m[j]?=A? s:=by
      obtain⟨r,hr⟩:=gw (bC (R s0)) m;rw[<-hr,Yi (by lia)]at QA;exact QA
     by_cases Nz:j=i
     .rw[Nz,hi]at hm;cases hm;exact hp.subset (cr.mpr (.inr hx))
     .exact h j s (by lia) hm x hx
end BB
namespace L2
open PySem PySem.Spec PySem.SeqAt PyProof.Rows
theorem qY{k l:Key}{v:WU}(hu:gY k u=C?)(hv:gY l v=C?):EqAt A s u v (decide (k=l)):=by
 rcases be hu with⟨i,t,rfl,rfl⟩|⟨x,t,rfl,rfl⟩
 .rcases be hv with⟨j,t',rfl,rfl⟩|⟨y,t',rfl,rfl⟩
  .have:decide ((Xn i:Key)=Xn j)=(i == j):=by
    by_cases h:i=j
    .subst h;simp
    .rw[c! (λz=>h (YL z)),beq_eq_false_iff_ne.mpr h]
   rw[this];exact EqAt.int_int i t j t'
  .rw[c! (λz=>nomatch z)];exact EqAt.int_str i t y t'
 .rcases be hv with⟨j,t',rfl,rfl⟩|⟨y,t',rfl,rfl⟩
  .rw[c! (λz=>nomatch z)];exact EqAt.str_int x t j t'
  .have:decide ((Zs x:Key)=Zs y)=(x == y):=by
    by_cases h:x=y
    .subst h;simp
    .rw[c! (λz=>h (Sum.inr.inj z)),beq_eq_false_iff_ne.mpr h]
   rw[this];exact EqAt.str_str x t y t'
theorem jd:∀{ks:List Key}{vs:List WU}{j:Nat}{k:Key}{v:WU},ItemsAre (ao P w) ks vs->ks[j]?=A? k->vs[j]?=A? v->gY k v=C?
 |_,_,0,k,v,.cons h _,e1,e2=>by cases e1;cases e2;exact h
 |_,_,j+1,k,v,.cons _ h,e1,e2=>jd (j:=j) h e1 e2
theorem uO{x y:List Key}(hx:IsTupleKey (ao P w) s.1 x a)(hy:IsTupleKey (ao P w) s.1 y b)(hu:A.units<YH):EqAt A s (.ref a) (.ref b) (decide (x=y)):=by
 by_cases Cc:a=b
 .subst Cc;obtain rfl:=hx.inj hy;rw[d! rfl];exact EqAt.same _
 .obtain⟨o,its,n,ho,hc,hd,hi⟩:=hx;obtain⟨o',its',n',Bu,AN,Bv,AY⟩:=hy;have p1:s.1.IsTuple a its.toList.toArray:=⟨o,ho,hc,n,by rw[hd]⟩;have p2:s.1.IsTuple b its'.toList.toArray:=⟨o',Bu,AN,n',by rw[Bv]⟩;have:=hX (ds:=x) (es:=y) p1 p2 hi.length.symm AY.length.symm hu λj d e u v e1 e2 e3 e4=>qY (A:=A.in1) (s:=s) (jd hi e1 e3) (jd AY e2 e4);exact EqAt.of_refs Cc this
abbrev au:=List Key×Key
theorem sf{ks:List Key}{Q:Bool->WY->Prop}(hk:IsTupleKey (ao P w) s.1 ks a)(h:Q C? s):W9 (Xv P w) A (eqIsQuiet (m+1) (.ref a)) Q E s:=by
 have hT:=hk.typeIs;obtain⟨o,items,n,ho,_,hd,hi⟩:=hk;unfold eqIsQuiet;refine WN (Yq hT F.slot_tuple_eq.lookup ?_);show W9 _ _ (isInstance (.ref a) (.type "tuple") >>= _) _ _ s;refine WN (ZK hT isSubtype_tuple_tuple ?_);simp only[Bool.not_true,Yb,if_false];refine WN (Yy ho hd ?_);refine WN ?_;show W9 _ _ (forIn items _ _) _ _ s;rw[<-Array.forIn_toList];refine wpAny_forIn_list _ (λrest r s'=>r.1=B?/\s'=s/\∀v∈rest,carriedByValue v=C?) _ ?_ ?_ _ _ ⟨rfl,rfl,hi.byValue⟩
 .rintro v rest r s' ⟨hr,rfl,Ac⟩;rw[eqIsQuiet_byValue _ (Ac v Xd)];refine WN (WW ?_);simp only[Bool.not_true,Yb,if_false];exact WW ⟨rfl,rfl,λu BF=>Ac u (W8 _ BF)⟩
 .rintro⟨r1,r2⟩ s' ⟨hr,rfl,_⟩;simp only at hr;subst hr;exact WW h
section
variable{X:Cx}{o i value:X6}{td ty tv:TE}
end
end L2
variable{f':List (L2.au×L2.V)}{Al:List L2.au}
namespace BB
open PySem L2
theorem FitSs.mem'{ks:List (Xk×Int)}:∀{ts:List Th},FitSs ks S C ts->∀t∈ts,t.FitS ks S C
 | [],_,t,ht=>by cases ht
 | u::us,h,t,ht=>by
   rw[FitSs]at h;rcases W7.mp ht with e|e
   .rw[e];exact h.1
   .exact FitSs.mem' h.2 t e
structure yy(ins outs:List (Xk×Int))(S:Int)(rows:List (List Th)):Prop where
 len:(rows.length:Int)=S
 row:∀row∈rows,row.length=ins.length/\∀(j:Nat)(p:Th)(k:Xk×Int),row[j]?=A? p->ins[j]?=A? k->p.FitS outs S k.2
mutual
def cnT:Th->Nat
 |.knot _ ks=>bY ks
 |.call _ _=>1
def bY:List Th->Nat
 | []=>0
 |t::ts=>cnT t+bY ts
end
structure Small(t:Th):Prop where
 tall:t.tall<=20
 kn:t.kn<=400
 cn:cnT t<=200
theorem y9(t:Th):t.kn=(if t.isCall=C? then 0 else 1)+kns t.kids:=by
 cases t with
 |knot n ks=>rw[Th.kn,Th.isCall,K!,a! W5];lia
 |call s k=>rw[Th.kn,Th.isCall,K!,b! rfl,kns]
theorem za(t:Th):cnT t=(if t.isCall=C? then 1 else 0)+bY t.kids:=by
 cases t with
 |knot n ks=>rw[cnT,Th.isCall,K!,a! W5];lia
 |call s k=>rw[cnT,Th.isCall,K!,b! rfl,bY]
theorem l5(a b:List Th):kns (a++b)=kns a+kns b:=by
 induction a with
 |nil=>rw[Y0,kns];lia
 |cons x a ih=>rw[Yn,kns,kns,ih];lia
theorem jT(a b:List Th):bY (a++b)=bY a+bY b:=by
 induction a with
 |nil=>rw[Y0,bY];lia
 |cons x a ih=>rw[Yn,bY,bY,ih];lia
mutual
theorem ol:∀t:Th,t.size=t.kn+cnT t
 |.knot n ks=>by rw[p!,Th.kn,cnT,qQ ks];lia
 |.call s k=>by rw[p!,Th.kn,cnT]
theorem qQ:∀ts:List Th,ak ts=kns ts+bY ts
 | []=>by rw[ak,kns,bY]
 |t::ts=>by rw[ak,kns,bY,ol t,qQ ts];lia
end
theorem Small.size{t:Th}(h:Small t):t.size<=600:=by
 have:=ol t;have:=h.kn;have:=h.cn;lia
def aV(R:Int->List Th)(head:Th):List Int:=bfs R 21 (bd [] (stT head)) 0
mutual
theorem tS{q:Int->Prop}(f:Int->Int->Th){ks:List (Xk×Int)}(hf:∀s c,0<=s->s<S->0<=c->c<C->∀x∈stT (f s c),q x):∀t:Th,t.FitS ks S C->∀x∈stT (t.fill f),q x
 | .call s c,h,x,hx=>by
   rw[r!]at h;rw[v!]at hx;exact hf s c h.1 h.2.1 h.2.2.1 h.2.2.2 x hx
 | .knot n ts,h,x,hx=>by
   rw[r!]at h;rw[v!,dw]at hx;exact pO f hf ts h.2 x hx
theorem pO{q:Int->Prop}(f:Int->Int->Th){ks:List (Xk×Int)}(hf:∀s c,0<=s->s<S->0<=c->c<C->∀x∈stT (f s c),q x):∀ts:List Th,FitSs ks S C ts->∀x∈bC (fills f ts),q x
 | [],_,x,hx=>by rw[fills]at hx;cases hx
 | t::ts,h,x,hx=>by
   rw[FitSs]at h;rw[fills]at hx;have AV:x∈stT (t.fill f)++bC (fills f ts):=hx;rcases Xz.mp AV with z|z
   .exact tS f hf t h.1 x z
   .exact pO f hf ts h.2 x z
end
theorem m8(ok:yy ins outs S rows){l:Int}(h0:0<=l)(h1:l<S):∃row,rows[l.toNat]?=A? row/\rowOf rows l=row/\row.length=ins.length/\∀t∈row,∃C,t.FitS outs S C:=by
 have hl:=ok.len;have hs:l.toNat<rows.length:=by lia
 refine⟨rows[l.toNat],WR hs,?_,(ok.row _ (List.getElem_mem hs)).1,λt ht=>?_⟩
 .unfold rowOf;rw[List.getD,WR hs];rfl
 .obtain⟨hlen,AU⟩:=ok.row _ (List.getElem_mem hs);obtain⟨j,hj⟩:=Xi.mp ht;have F7:=(glE hj);exact⟨_,AU j t _ hj (WR (by lia))⟩
section
variable{mid:List (Xk×Int)}{S1 S2:Int}{Ei Ej:Th}{Ek El:List (List Th)}
theorem oO(R:Int->List Th)(h:Th):(aV R h).Nodup:=wf _ _ _ _ (tN List.nodup_nil)
end
end BB
namespace L2
open PySem PySem.Spec PySem.Calls PyProof.Rows
abbrev lN:Zc:={cls:=.type "frame",data:=.dict #[]}
abbrev t6:Zc:={cls:=.type "cell",data:=.cell B?}
theorem ju{M:Model}{globals:WS}{closure:List (Xk×WS)}{binds:List (Xk×WU)}{func:Option WS}{code:WU}{builtins:WS}{Q:Env->WY->Prop}
 (hk:scope.kind=.function) (hl:∀x∈binds,scope.names.lookup x.1=A? .local)
 (hQ:∀h',h'.Ns s.1.1.size (λx=>binds.reverse.lookup x)->YD s.1.1.size (pushCells (s.1.push lN) scope.names) h' ->
  Q (newEnv scope s.1.1.size globals (cellsFrom (s.1.1.size+1) scope.names closure) qual func code B? builtins) {s with heap:=h',toks:=s.toks+binds.length}) :
 W9 M A (newFunctionEnv scope globals closure binds qual func code B? builtins) Q E s:=by
 simp only[newFunctionEnv,Option.isSome_none,Yb,if_false];refine WN (wpAny_alloc ?_);refine WN (wpAny_layCells _ (λname kind cells=>by cases TJ:kind == NameKind.cell <;> simp[TJ]) _ _ _ _ ?_);rw[show({s with heap:=s.1.push {cls:=.type "frame",data:=.dict #[]}}:WY).heap.1.size=s.1.1.size+1 from X4 ..];refine WN ?_;generalize Ck:cellsFrom (s.1.1.size+1) scope.names closure=cs at hQ |-
 refine wpAny_forIn_list _
  (λrest _ s'=>∃done h',binds=done++rest/\s'={s with heap:=h',toks:=s.toks+done.length} /\
   h'.Ns s.1.1.size (λx=>done.reverse.lookup x) /\
   YD s.1.1.size (pushCells (s.1.push lN) scope.names) h') _ ?_ ?_ binds _
  ⟨[],_,rfl,rfl,(Heap.Ns.new ..).keeps (pushCells_keeps _ _),Heap.SameBut.refl ..⟩
 .rintro⟨name,v⟩ rest _ s' ⟨done,h',hb,rfl,Cp,CN⟩
  have A':Env.kindOf {scope,locals:=s.1.1.size,globals,cells:=cs,qual,func,code,frame:=A? s.1.1.size,builtins} name=A? .local :=
   hl (name,v) (by rw[hb];simp)
  have hp:(({scope,locals:=s.1.1.size,globals,cells:=cs,qual,func,code,frame:=A? s.1.1.size,builtins}:Env).scope.kind == .class ||(({scope,locals:=s.1.1.size,globals,cells:=cs,qual,func,code,frame:=A? s.1.1.size,builtins}:Env).scope.kind == .module &&
   ({scope,locals:=s.1.1.size,globals,cells:=cs,qual,func,code,frame:=A? s.1.1.size,builtins}:Env).locals != ({scope,locals:=s.1.1.size,globals,cells:=cs,qual,func,code,frame:=A? s.1.1.size,builtins}:Env).globals))=false:=by
   show(scope.kind == .class ||(scope.kind == .module && _))=CU;rw[hk];rfl
  simp only[storeName_local A' hp];refine WN (wpAny_nsSet Cp λJg NA NB=>WW ⟨done++[(name,v)],Jg,by simp[hb],?_,?_,CN.trans NB⟩)
  .simp[Z1]
  .rw[lookup_reverse_snoc];exact NA
 .rintro _ s' ⟨done,h',hb,rfl,Cp,CN⟩;rw[XC]at hb;subst hb;exact WW (hQ h' Cp CN)
def NestAt(H:Hp)(f c':WS)(name qual:Xk)(params:Arguments)(body:List Stmt)(scope:Z6)(cl:List (Xk×WS)):Prop:=∃φ,H f=A? (.ext φ)/\∀h:Yd,φ h->∃doc pm DE,h.get? f=A? (PySem.W.fnMade name qual params body scope cl doc pm c' DE)
theorem NestAt.mono(s:Same H H'){f c':WS}{name:Xk}(h:NestAt H f c' name qual params body scope cl):NestAt H' f c' name qual params body scope cl:=by
 obtain⟨φ,h1,h2⟩:=h;exact⟨φ,s _ _ h1,h2⟩
def cxN(P:W6)(w:Xo)(K:WQ)(mg:Xk->Option WU)(base:Yd)(N:List Xk)(qual:Xk)(scope:Z6)(f:WS)(cd:WU)(y:Xk)(cl:List (Xk×WS))(A:XI)(outer:List Env)(s:WY)(H:Hp):Cx where
 prog:=P
 w:=w
 K:=K
 mg:=mg
 base:=base
 A:=A.deeper (PySem.W.envX qual scope s.1.1.size f cd ((y,s.1.1.size+1)::cl))
 N:=N
 s₀:=s
 H₀:=fgt (cl.map (·.2)) H
 env:=PySem.W.envX qual scope s.1.1.size f cd ((y,s.1.1.size+1)::cl)
 outer:=outer
 stack:=PySem.W.envX qual scope s.1.1.size f cd ((y,s.1.1.size+1)::cl)::outer
 ex:=[]
 calm:=C?
 fn:=λx=>x == y
 pn:=[]
 xe:=λ_ _=>False
structure ni(N ps fs:List Xk)(y:Xk)(cl:List (Xk×WS))(sc:Z6):Prop where
 kind:sc.kind=.function
 co:sc.isCoroutine=CU
 gen:sc.isGenerator=CU
 nd:N.Nodup
 pre:N.take (ps.length+fs.length)=ps++fs
 par:∀x∈ps,sc.names.lookup x=A? .local
 fre:∀x∈fs,sc.names.lookup x=A? .free
 cells:∀n:Nat,cellsFrom n sc.names cl=(y,n)::cl
 push:∀h:Yd,pushCells h sc.names=h.push t6
 cel:∀x,sc.names.lookup x=A? .cell->x=y
 has:∀x,sc.names.lookup x=A? .free->∃c,cl.lookup x=A? c
 inj:∀x z c,cl.lookup x=A? c->cl.lookup z=A? c->x=z
 ney:∀x∈fs,(x == y)=CU
 neq:∀x,sc.names.lookup x=A? .free->(x == y)=CU
theorem yM{k:Nat}{f c':WS}{name y:Xk}{fs:List Xk}
 (S:ni N ps fs y cl scope) (bind:∀(doc pm DE:WU)(us:List WU),us.length=ps.length->bindArgs (PySem.W.fnX name qual params body scope cl .none .none doc pm B? (.ref c') DE) ⟨us,[]⟩=pure (ps.zip us))
 (CM:∀vs H Q E,sp vs H Q E->vs.length=ps.length/\NestAt H f c' name qual params body scope cl/\CodeAt H c' qual/\Exts (cl.map (·.2)) H/\∀x c,cl.lookup x=A? c->∃v,CellAt H c v)
 (Ba:∀(A:XI)(outer:List Env)(s:WY)(H:Hp)(vs:List V)(Q:VK)(E:XK),Room k (A.deeper (PySem.W.envX qual scope s.1.1.size f (.ref c') ((y,s.1.1.size+1)::cl)))->sp vs H Q E ->
  ∃t ws,xV H cl fs ws/\PSs (cxN P w K mg base N qual scope f (.ref c') y cl A outer s H) body t/\t {nx:=λ_ H'=>(∀b∈cl.map (·.2),H' b=B?)->Q .non (rst (cl.map (·.2)) H H'),rt:=λv H'=>(∀b∈cl.map (·.2),H' b=B?)->Q v (rst (cl.map (·.2)) H H')} (start N (vs++ws)) (fgt (cl.map (·.2)) H)) :
 yk P w K mg base CX0 (k+1) f sp where
 fn:=λA outer s H vs Q E e0 h=>by
  obtain⟨_,⟨φ,h1,h2⟩,_⟩:=CM _ _ _ _ h;obtain⟨doc,pm,DE,e⟩:=h2 _ (e0.hok f _ h1).1;exact⟨_,_,_,_,e⟩
 run:=λA outer s H us vs Q E hr e0 r h=>by
  obtain⟨hl,⟨φ,h1,h2⟩,⟨ψ,g1,g2⟩,hx,NC⟩:=CM _ _ _ _ h;obtain⟨doc,pm,DE,ef⟩:=h2 _ (e0.hok f _ h1).1;have TL:=g2 _ (e0.hok c' _ g1).1;have E4:us.length=ps.length:=by rw[<-r.length];exact hl
  have NF:∀z∈ps.zip us,scope.names.lookup z.1=A? .local:=λ⟨n,v⟩hy=>S.par n (ZM hy).1;refine codeAny_call_function hr.depth ef rfl S.co S.gen rfl TL ?_;rw[show bindArgs _ _=_ from bind doc pm DE us E4];refine WW (ju S.kind NF λAm Cp CN=>?_);rw[S.push]at CN;have CB:∀b o,s.1.get? b=A? o->Am.get? b=A? o:=λb o e=>CN.extBut b o (XA (Xa e)) (WV _ (WV _ e));have NG:(s.1.push lN).objs.size=s.1.1.size+1:=X4 ..;have NH:Am.IsCell (s.1.1.size+1) none:=⟨t6,CN.extBut _ _ (Nat.ne_of_gt (Nat.lt_succ_self _)) (by rw[<-NG];exact W3 _ rfl),rfl⟩;refine⟨e0.mod.nolimit.keeps λb o e=>CB b o (e0.bs b o e).1,codeAny_func ?_⟩;show W9 _ (A.deeper (newEnv scope s.1.1.size Yl (cellsFrom (s.1.1.size+1) scope.names cl) (qual++".<locals>.") (A? f) (.ref c') B? builtinsNs)) _ _ _ _;rw[S.cells];obtain⟨t,ws,hws,ht,hq⟩:=Ba A outer s H vs Q E (hr.deeper _) h;have D7:fs.length=ws.length:=W4 hws;have AR:ps.length+fs.length<=N.length:=by have:=h! Zu S.pre;rw[XS,Xg]at this;lia
  have Br:∀x c,cl.lookup x=A? c->c∈cl.map (·.2):=λx c e=>jO e
  have Ah:∀c∈cl.map (·.2),c<s.1.1.size:=λc hc=>by
   obtain⟨GV,e⟩:=hx c hc;exact e0.hok.lt e
  have look:∀x c,((y,s.1.1.size+1)::cl).lookup x=A? c->(x=y/\c=s.1.1.size+1)\/((x == y)=CU/\cl.lookup x=A? c):=λx c e=>by
   rw[YJ]at e;cases hb:x == y with
   |true=>rw[hb]at e;cases e;exact .inl ⟨beq_iff_eq.mp hb,rfl⟩
   |false=>rw[hb]at e;exact .inr ⟨rfl,e⟩
  have F8:∀x c,(x == y)=CU->cl.lookup x=A? c->((y,s.1.1.size+1)::cl).lookup x=A? c:=λx c hb e=>by
   rw[YJ,hb];exact e
  have Jw:((y,s.1.1.size+1)::cl).lookup y=A? (s.1.1.size+1):=by
   rw[YJ,beq_self_eq_true]
  have GW:∀x c,((y,s.1.1.size+1)::cl).lookup x=A? c->∃v,Am.IsCell c v:=λx c e=>by
   rcases look x c e with⟨_,rfl⟩|⟨_,e⟩
   .exact⟨_,NH⟩
   .obtain⟨v,hv⟩:=NC x c e;obtain⟨u,_,o,ho,hd⟩:=hv.now e0.hok;exact⟨_,o,CB _ _ ho,hd⟩
  have GX:∀b,H b=B?->fgt (cl.map (·.2)) H b=none:=λb e=>by
   by_cases hb:b∈cl.map (·.2)
   .exact jz hb
   .rw[bN hb];exact e
  have ndP:ps.Nodup:=by
   have:N.take (ps.length+fs.length)=ps++fs:=S.pre;have h2:(ps++fs).Nodup:=by rw[<-this];exact S.nd.sublist (List.take_sublist _ _)
   exact(List.nodup_append.mp h2).1
  have Fe:∀(i:Nat)(x:Xk),i<ps.length+fs.length->N[i]?=A? x->(ps++fs)[i]?=A? x:=λi x hi e=>by
   rw[<-S.pre,List.getElem?_take_of_lt hi];exact e
  have I:Inv (cxN P w K mg base N qual scope f (.ref c') y cl A outer s H) [] (start N (vs++ws)) (fgt (cl.map (·.2)) H) {s with heap:=Am,toks:=s.toks+(ps.zip us).length}:=by
   refine⟨⟨e0.mod,S.kind,D?,D?,WX _,λx z c e1 e2=>?_,λx hx=>?_,λx c hf e=>?_,λ_=>hr.hd,Around.frames_deeper e0.frames,.inr ⟨D?,D?⟩,λb z=>(by cases z),λb o e=>⟨(e0.bs b o e).1,?_⟩,e0.bsz,λb _ _ z=>(by cases z),λb z=>(by cases z),e0.funs,λb hb=>?_⟩,
    rfl,e0.bare,Un.kept CB,⟨_,Cp,λi x v e1 e2 e3=>?_⟩,GW,?_,λx c e=>?_,λp hp=>(by cases hp),?_,?_⟩
   .rcases look x c e1 with⟨rfl,h1⟩|⟨_,h1⟩ <;> rcases look z c e2 with⟨rfl,h2⟩|⟨_,h2⟩
    .rfl
    .have:=Ah c (Br _ _ h2);lia
    .have:=Ah c (Br _ _ h1);lia
    .exact S.inj x z c h1 h2
   .have AV:scope.names.lookup x=A? .cell\/scope.names.lookup x=A? .free:=hx;rcases AV with z|z
    .exact⟨_,by rw[S.cel x z];exact Jw⟩
    .obtain⟨c,hc⟩:=S.has x z;exact⟨c,F8 x c (S.neq x z) hc⟩
   .have Jx:(x == y)=true:=hf;rcases look x c e with⟨_,h1⟩|⟨h1,_⟩
    .show s.1.1.size<=c;lia
    .rw[h1]at Jx;cases Jx
   .exact GX b (e0.bs b o e).2
   .exact GX b (e0.frf b hb)
   .have B0:i<(vs++ws).length:=by
     unfold start at e2;by_cases hi:i<(vs++ws).length
     .exact hi
     .rw[YS (by simpa using hi)]at e2;rw[List.getElem?_replicate]at e2;split at e2 <;> cases e2
    have ha:(vs++ws)[i]?=A? v:=by
     unfold start at e2;rw[Yi (by simpa using B0),WZ]at e2;cases e:(vs++ws)[i]? with
     |none=>rw[e]at e2;cases e2
     |some a=>rw[e]at e2;cases e2;rfl
    rw[Xg]at B0;have hp:=Fe i x (by lia) e1;by_cases hi:i<vs.length
    .rw[Yi hi]at ha;rw[Yi (by lia)]at hp;obtain⟨u,hu,rv⟩:=r.get ha;exact⟨u,rv,.inl ⟨S.par x (WT hp),pC ndP E4 hp hu⟩⟩
    .rw[YS (by lia)]at ha;rw[YS (by lia)]at hp;rw[hl]at ha;obtain⟨w',EM,c,hc,Bj⟩:=F! hws hp;rw[ha]at EM;cases EM;obtain⟨u,ru,o,ho,TM⟩:=Bj.now e0.hok;have hm:=WT hp;exact⟨u,ru,.inr ⟨.inr (S.fre x hm),c,F8 x c (S.ney x hm) hc,o,CB _ _ ho,TM⟩⟩
   .exact GX _ (e0.hok.fresh (WX _))
   .rcases look x c e with⟨_,rfl⟩|⟨_,e⟩
    .exact GX _ (e0.hok.fresh (by lia))
    .exact jz (Br x c e)
   .exact(e0.hok.fgt hx).kept CB
   .show(start N (vs++ws)).length=N.length;unfold start;rw[Xg,WO,List.length_replicate,Xg];lia
  refine Y9 (ht [] _ _ _ _ I hq) (λfl s' hs=>?_) λe s' z=>z.elim
  have fin:∀{Aa:St}{H':Hp}{v:V}{u:WU},Inv (cxN P w K mg base N qual scope f (.ref c') y cl A outer s H) [] Aa H' s'->RelV v u->((∀b∈cl.map (·.2),H' b=B?)->Q v (rst (cl.map (·.2)) H H'))->CE outer P w H s Q u s':=λ{Aa H' v u}I' rv q'=>by
   have un:Un (frs outer) [] (fgt (cl.map (·.2)) H) H' s.1 s'.1:=I'.base
   have kS:∀b∈cl.map (·.2),∀o,s.1.get? b=A? o->s'.1.get? b=A? o:=λb hb o e=>un.keep b o e (jz hb) (λz=>by
    obtain⟨GV,e'⟩:=hx b hb;rw[e0.frf b z]at e';cases e') (by simp)
   have LB:∀b∈cl.map (·.2),H' b=none:=λb hb=>by
    obtain⟨GV,e'⟩:=hx b hb;obtain⟨_,⟨o,ho⟩,_⟩:=e0.hok b _ e';exact un.free b o ho (jz hb) (by simp)
   have nS:∀b,H b=B?->b∉cl.map (·.2):=λb e hb=>by
    obtain⟨GV,e'⟩:=hx b hb;rw[e]at e';cases e'
   refine⟨v,rst (cl.map (·.2)) H H',I'.os,I'.bare,⟨λb o e n hb AV=>un.keep b o e (GX b n) hb AV,λb o e n hb AV=>un.slot b o e (GX b n) hb AV,λb o e n AV=>?_,λb o e AV=>un.there b o e AV,λb xs e=>?_,λb o u' e=>?_,λb pp e=>?_⟩,HOk.rst e0.hok I'.hok hx kS LB,rv,q' LB⟩
   .rw[dL (nS b n)];exact un.free b o e (GX b n) AV
   .have hb:=hx.out e (by intro GV z;cases z);rw[dL hb];exact un.tups b xs (by rw[bN hb];exact e)
   .have hb:=hx.out e (by intro GV z;cases z);rw[dL hb];exact un.frzs b o u' (by rw[bN hb];exact e)
   .have hb:=hx.out e (by intro GV z;cases z);rw[dL hb];exact un.tbls b pp (by rw[bN hb];exact e)
  cases fl with
  | ret u =>
    obtain⟨v,Aa,H',J,rv,q⟩:=hs;exact fin J rv q
  | next =>
    obtain⟨Aa,H',J,q⟩:=hs;exact fin (v:=V.non) (u:=Yp) J rfl q
  | brk =>
    obtain⟨_,_,_,q⟩:=hs;exact YC q
  | cont =>
    obtain⟨_,_,_,q⟩:=hs;exact YC q
theorem v8{S:List WS}(s:Same (fgt S H) H'):Same H (rst S H H'):=λb o e=>by
 by_cases hb:b∈S
 .rw[wV hb];exact e
 .rw[dL hb];exact s _ _ (by rw[bN hb];exact e)
theorem wk{S:List WS}(hn:∀b∈S,H' b=B?):Same H' (rst S H H'):=λb o e=>by
 rw[dL λz=>by rw[hn b z]at e;cases e];exact e
theorem zG{S:List WS}(hx:Exts S H):BB.KT H (fgt S H):=λb xs e=>by
 rw[bN (hx.out e λφ z=>nomatch z)];exact e
def aaB(X:Cx)(P:WS)(i:Nat)(name:Xk)(pos:Z4)(params:Arguments)(body:List Stmt)(scope:Z6)(cl:List (Xk×WS)):TS:=λD Y H=>TabSt H P pos (X.env.qual++name) /\
 ∀f c' H',SameT P H H'->H' P=A? (.tbl (tabOf pos c'))->CodeAt H' c' (X.env.qual++name)->NestAt H' f c' name (X.env.qual++name) params body scope cl->H f=B?->D.nx (Y.set i (A? (.ref f))) H'
theorem yH{X:Cx}{P:WS}{name:Xk}(L:Lam X.mg X.base c P)(hN:X.N.Nodup)(hi:X.N[i]?=A? name)(EN:Loc X.env.scope name)(hc:X.env.code=.ref c)(Br:closureFor scope X.env=pure cl)
 (F5:params.defaults=[]:=by rfl) (Cd:params.kw_defaults=[]:=by rfl) (ha:annTrees params B? X.env=[]:=by rfl) (hq:qualnameIn X.env name name=X.env.qual++name:=by rfl) (QB:X.fn name=C?\/X.env.scope.names.lookup name=A? .local:=by first|exact .inl rfl|exact .inr rfl|assumption) :
 PS X (.FunctionDef name params body [] B? [] scope B? name pos) (aaB X P i name pos params body scope cl):=by
 intro Z s Y H D I h;obtain⟨tab,q⟩:=h;have NI:s.1.Ns Yl X.mg:=I.mod.glob.keeps I.bk;have C:PySem.W.CodeHd s.1 c P:=L.hd.keeps I.bk
 have hb:s.1.BuiltinsAt X.mg P:=by
  obtain⟨bm,o,h1,h2,h3,h4,h5,h6⟩:=L.bl;exact⟨bm,o,h1,h2,h3,h4,I.bk _ _ h5,h6⟩
 refine PySem.W.nestDef_K F5 Cd ha ?_;rw[hq];rcases tab with hP|⟨c',hP,CV⟩
 .have LC:s.1.get? P=A? (PySem.W.tabObj #[]):=I.hok P _ hP
  have TN:Yl≠P:=λz=>by
   obtain⟨o,es,ep,e,d,_⟩:=NI;rw[z,LC]at e;cases e;cases d
  refine PySem.W.makeFunction_K Br I.ok.glob NI hc C LC trivial rfl TN hb λc' DE doc h' tk hx GY Ah Jy LD=>?_;have hsz:s.1.1.size<=h'.objs.size:=Xw GY (ZT Ah);have QC:H c'=none:=I.hok.fresh GY;have nf:H h'.objs.size=none:=I.hok.fresh hsz;have TQ:c'≠h'.objs.size:=XA Ah;have TR:P≠c':=λz=>by rw[z,QC]at hP;cases hP
  have TU:P≠h'.objs.size:=λz=>by rw[z,nf]at hP;cases hP
  obtain⟨ob,Ic⟩:∃ob,ob=PySem.W.fnMade name (X.env.qual++name) params body scope cl doc ((X.mg "__name__").getD .none) c' DE:=⟨_,rfl⟩;rw[<-Ic];have kp:∀b o,b≠P->s.1.get? b=A? o->(h'.push ob).get? b=A? o:=λb o n e=>WV _ (hx b o n e);obtain⟨H',LF⟩:∃H',H'=upd (upd (upd H P (.tbl (tabOf pos c'))) c' (.ext λh=>h.CodeRec (.ref c') (X.env.qual++name))) h'.objs.size (.ext λh=>h.get? h'.objs.size=A? ob):=⟨_,rfl⟩;have eP:H' P=A? (.tbl (tabOf pos c')):=by rw[LF,ag TU,ag TR,ac]
  have ec:H' c'=A? (.ext λh=>h.CodeRec (.ref c') (X.env.qual++name)):=by rw[LF,ag TQ,ac]
  have ef:H' h'.objs.size=A? (.ext λh=>h.get? h'.objs.size=A? ob):=by rw[LF,ac]
  have eo:∀b,b≠P->b≠c'->b≠h'.objs.size->H' b=H b:=λb n1 n2 n3=>by rw[LF,ag n3,ag n2,ag n1]
  have es:∀b o,H b=A? o->b≠P->H' b=A? o:=λb o e n=>by rw[eo b n (λz=>by rw[z,QC]at e;cases e) (λz=>by rw[z,nf]at e;cases e)];exact e
  have un:Un X.fs [] H H' s.1 (h'.push ob):=by
   have nP:∀b,H b=B?->b≠P:=λb n z=>by rw[z,hP]at n;cases n
   refine⟨λb o e n _ _=>kp b o (nP b n) e,λb o e n _ _=>⟨o.slots,kp b o (nP b n) e⟩,λb o e n _=>?_,λb o e _=>?_,λb xs e=>es b _ e (λz=>by rw[z,hP]at e;cases e),λb o u e=>es b _ e (λz=>by rw[z,hP]at e;cases e),λb pp e=>?_⟩
   .rw[eo b (nP b n) (XA (XM (Xa e) GY)) (XA (XM (Xa e) hsz))];exact n
   .by_cases hb:b=P
    .exact⟨_,by rw[hb];exact WV _ LD⟩
    .exact⟨o,kp b o hb e⟩
   .by_cases hb:b=P
    .subst hb;rw[hP]at e;cases e;exact⟨tabOf pos c',by rw[eP];simp⟩
    .exact⟨#[],by rw[es b _ e hb];simp⟩
  have hok:HOk X.prog X.w H' (h'.push ob):=λa o e=>by
   by_cases ha:a=P
   .subst ha;rw[eP]at e;cases e;exact WV _ LD
   by_cases AN:a=c'
   .subst AN;rw[ec]at e;cases e;refine⟨Jy.push _,?_,λh1 h2 z k=>?_⟩
    .obtain⟨_,oc,_,_,e1,e2,_⟩:=Jy;cases e1;exact⟨oc,WV _ e2⟩
    .obtain⟨_,oc,vs,t,e1,e2,e3⟩:=z;cases e1;exact⟨_,oc,vs,t,D?,k _ e2,e3⟩
   by_cases Jx:a=h'.objs.size
   .subst Jx;rw[ef]at e;cases e;have LH:ob.isFreed=false:=by rw[Ic];rfl
    exact⟨W3 _ LH,⟨_,W3 _ LH⟩,λh1 h2 z k=>k _ z⟩
   rw[eo a ha AN Jx]at e;refine(I.hok a o e).stay (λb u hb z=>kp b u ?_ z) (λb z=>es b _ z (λy=>by rw[y,hP]at z;cases z)) λb xs z=>es b _ z (λy=>by rw[y,hP]at z;cases z);rcases hb with hb|hb
   .rw[hb];exact ha
   .exactλy=>by rw[y,hP]at hb;cases hb
  refine gy (v:=.ref h'.objs.size) (I.un un hok) hN hi EN rfl (λs2 I2=>⟨_,H',I2,q _ c' H' (λb o n e=>es b o e n) eP ⟨_,ec,λ_ z=>z⟩ ⟨_,ef,λ_ z=>⟨_,_,_,by rw[z,Ic]⟩⟩ nf⟩) QB
 .have LC:s.1.get? P=A? (PySem.W.tabObj (tabOf pos c')):=I.hok P _ hP;refine PySem.W.makeFunction_hit Br I.ok.glob NI hc C LC (vK pos c') (vg pos c') hb λDE doc h' tk hk hsz=>?_;have nf:H h'.objs.size=none:=I.hok.fresh hsz
  have I':=I.laid (h':=h'.push {cls:=.type "function",data:=.func (PySem.W.fnX name (X.env.qual++name) params body scope cl .none .none doc ((X.mg "__name__").getD .none) B? (.ref c') DE)}) (a:=h'.objs.size) (t':=tk)
   (o:=.ext λh=>h.get? h'.objs.size=A? (PySem.W.fnMade name (X.env.qual++name) params body scope cl doc ((X.mg "__name__").getD .none) c' DE)) (λb u e=>WV _ (hk b u e)) hsz ⟨W3 _ rfl,⟨_,W3 _ rfl⟩,λh1 h2 z k=>k _ z⟩
  have sm:Same H (upd H h'.objs.size (.ext λh=>h.get? h'.objs.size=A? (PySem.W.fnMade name (X.env.qual++name) params body scope cl doc ((X.mg "__name__").getD .none) c' DE))):=ae nf _;exact gy (v:=.ref h'.objs.size) I' hN hi EN rfl (λs2 I2=>⟨_,_,I2,q _ c' _ (sm.t P) (sm _ _ hP) (CV.mono sm) ⟨_,ac,λ_ z=>⟨_,_,_,z⟩⟩ nf⟩) QB
theorem abJ{X:Cx}{y z:Xk}(h1:X.env.cells.lookup y=A? c)(h2:X.fn y=C?)(h3:X.env.kindOf y=A? .cell)(g1:X.env.cells.lookup z=A? d)(g2:X.fn z=C?)(g3:X.env.kindOf z=A? .cell):iR X [(y,c),(z,d)] :=
 ⟨λa b h=>(W7.mp h).elim (λe=>by cases e;exact h1) λe=>by cases Xc.mp e;exact g1,
  λa b h=>(W7.mp h).elim (λe=>by cases e;exact h2) λe=>by cases Xc.mp e;exact g2,
  λa b h=>(W7.mp h).elim (λe=>by cases e;exact h3) λe=>by cases Xc.mp e;exact g3⟩
end L2
namespace BB
open PySem L2
theorem oP(f:Int->Int->Th)(ts:List Th):(fills f ts).length=ts.length:=by rw[cM,WO]
mutual
theorem pH{ks:List (Xk×Int)}(f:Int->Int->Th)(hf:∀s c,0<=s->s<S->0<=c->c<C->(f s c).FitS ks S' C'):∀t:Th,t.FitS ks S C->(t.fill f).FitS ks S' C'
 | .call s c,h=>by
   rw[r!]at h;rw[v!];exact hf s c h.1 h.2.1 h.2.2.1 h.2.2.2
 | .knot n ts,h=>by
   rw[r!]at h;rw[v!,r!,oP];exact⟨h.1,mL f hf ts h.2⟩
theorem mL{ks:List (Xk×Int)}(f:Int->Int->Th)(hf:∀s c,0<=s->s<S->0<=c->c<C->(f s c).FitS ks S' C'):∀ts:List Th,FitSs ks S C ts->FitSs ks S' C' (fills f ts)
 | [],_=>by rw[fills,FitSs];trivial
 | t::ts,h=>by
   rw[FitSs]at h;rw[fills,FitSs];exact⟨pH f hf t h.1,mL f hf ts h.2⟩
end
mutual
theorem n6{ks:List (Xk×Int)}:∀t:Th,t.FitS ks S C->(∀x∈stT t,x∈M)->(ren (idx M) t).FitS ks (M.length:Int) C
 | .call s c,h,hm=>by
   rw[r!]at h;rw[dl,r!];have:=zx (hm s (by rw[fc];exact List.mem_singleton_self _));exact⟨this.1,this.2,h.2.2⟩
 | .knot n ts,h,hm=>by
   rw[r!]at h;rw[cO,r!,WO];exact⟨h.1,qz ts h.2 (by rw[dw]at hm;exact hm)⟩
theorem qz{ks:List (Xk×Int)}:∀ts:List Th,FitSs ks S C ts->(∀x∈bC ts,x∈M)->FitSs ks (M.length:Int) C (ts.map (ren (idx M)))
 | [],_,_=>by rw[Y2,FitSs];trivial
 | t::ts,h,hm=>by
   rw[FitSs]at h;rw[Xr,FitSs];exact⟨n6 t h.1 λx hx=>hm x (XJ _ hx),qz ts h.2 λx hx=>hm x (XB _ hx)⟩
end
section
variable{mid:List (Xk×Int)}{S1 S2:Int}{Ei Ej:Th}{Ek El:List (List Th)}{TV TY TZ T1 T2 T3 T4:Nat}
end
theorem kT:∀{ts:List Th}{as:List WS},Xs (At H) ts as->Ats H ts as
 |_,_,.nil=>.nil
 |_,_,.cons h g=>.cons h (kT g)
end BB
namespace L2
open PySem PySem.Spec PySem.Calls PyProof.Rows
abbrev cI(z:Int×Nat×Z4):X6:=.Constant (.int z.1) z.2.1 z.2.2
end L2
namespace BB
open PySem L2
mutual
theorem lv{f g:Int->Int->Th}:∀t:Th,(∀s∈stT t,∀k,f s k=g s k)->t.fill f=t.fill g
 | .call s k,h=>by
   rw[v!,v!];exact h s (by rw[fc];exact List.mem_singleton_self _) k
 | .knot n ts,h=>by
   rw[v!,v!,j8 ts (by rw[dw]at h;exact h)]
theorem j8{f g:Int->Int->Th}:∀ts:List Th,(∀s∈bC ts,∀k,f s k=g s k)->fills f ts=fills g ts
 | [],_=>by rw[fills,fills]
 | t::ts,h=>by
   rw[fills,fills,lv t λs hs=>h s (XJ _ hs),j8 ts λs hs=>h s (XB _ hs)]
end
mutual
theorem gd{ks:List (Xk×Int)}{f g:Int->Int->Th}:∀t:Th,t.FitS ks S C->(∀s k,0<=s->s<S->0<=k->k<C->f s k=g s k)->t.fill f=t.fill g
 | .call s k,h,hf=>by
   rw[r!]at h;rw[v!,v!];exact hf s k h.1 h.2.1 h.2.2.1 h.2.2.2
 | .knot n ts,h,hf=>by
   rw[r!]at h;rw[v!,v!,iI ts h.2 hf]
theorem iI{ks:List (Xk×Int)}{f g:Int->Int->Th}:∀ts:List Th,FitSs ks S C ts->(∀s k,0<=s->s<S->0<=k->k<C->f s k=g s k)->fills f ts=fills g ts
 | [],_,_=>by rw[fills,fills]
 | t::ts,h,hf=>by
   rw[FitSs]at h;rw[fills,fills,gd t h.1 hf,iI ts h.2 hf]
end
def yR(R:Int->List Th)(h:Th):Th:=ren (idx (aV R h)) h
def yo(R:Int->List Th)(h:Th):List (List Th):=(aV R h).map λs=>(R s).map (ren (idx (aV R h)))
theorem nF{g:Int->Int}:∀{M:List Int}{s:Int},(∀x∈M,∀y∈M,g x=g y->x=y)->s∈M->(M.map g).idxOf (g s)=M.idxOf s
 | [],s,_,hs=>by cases hs
 | y::M,s,hg,hs=>by
   rw[Xr,List.idxOf_cons,List.idxOf_cons];by_cases h:y=s
   .rw[h,beq_self_eq_true,beq_self_eq_true];rfl
   .have h2:g y≠g s:=λz=>h (hg y (Xd ..) s hs z);rw[beq_eq_false_iff_ne.mpr h,beq_eq_false_iff_ne.mpr h2];simp only[cond_false];have CO:s∈M:=(W7.mp hs).elim (λe=>g! e.symm h) id;rw[nF (λx hx y' hy=>hg x (W8 _ hx) y' (W8 _ hy)) CO]
theorem yA{R':Int->List Th}{h h':Th}{g:Int->Int}(hl:(aV R' h').length<=20)(hg:∀x∈aV R h,∀y∈aV R h,g x=g y->x=y)(hR:∀s∈aV R h,R' (g s)=(R s).map (ren g))(hh:h'=ren g h):yR R' h'=yR R h/\yo R' h'=yo R h:=by
 have Jz:∀x∈stT h,x∈aV R h:=λx hx=>(fE R 21 _ 0).subset (cr.mpr (.inr hx))
 have hM:aV R' h'=(aV R h).map g:=by
  have:=ud hg hR 21 (bd [] (stT h)) 0 λx hx=>hx;unfold aV;rw[hh,sP];have e:bd [] ((stT h).map g)=(bd [] (stT h)).map g:=qo (m:=[]) hg (λx hx=>by cases hx) Jz;rw[e];exact this
 have NJ:∀s∈aV R h,∀x∈bC (R s),x∈aV R h:=im 21 _ 0 (by show(aV R h).length<0+21;rw[hM,WO]at hl;lia) λj s hj=>g! hj (YZ _)
 have hi:∀s∈aV R h,idx (aV R' h') (g s)=idx (aV R h) s:=λs hs=>by
  rw[hM];unfold idx;rw[nF hg hs]
 have key:∀t:Th,(∀x∈stT t,x∈aV R h)->ren (idx (aV R' h')) (ren g t)=ren (idx (aV R h)) t:=λt ht=>by
  rw[kC];exact oQ t λs hs=>hi s (ht s hs)
 refine⟨?_,?_⟩
 .unfold yR;rw[hh]at hM hi key |-;exact key h Jz
 .unfold yo
  conv=>lhs;rw[hM]
  rw[YM];refine Zd λs hs=>?_;show(R' (g s)).map _=_;rw[hR s hs,YM];refine Zd λt ht=>?_;have:=key t λx hx=>NJ s hs x (rf ht hx);rw[<-this];show ren (idx ((aV R h).map g)) (ren g t)=_;rw[<-hM]
theorem vW{h:Th}(hl:(aV R h).length<=20):∀s∈aV R h,∀x∈bC (R s),x∈aV R h:=im 21 _ 0 (Nat.lt_of_le_of_lt hl (by decide)) λj s hj=>g! hj (YZ _)
section
variable{k0 k1 k2 k3:List (Xk×Int)}{SA SB SC:Int}{a0 b0 c0:Th}{QD QE QF:List (List Th)}
end
section
variable{mid:List (Xk×Int)}{S1 S2:Int}{Ei Ej:Th}{Ek El:List (List Th)}{TV TY TZ T1 T2 T3 T4:Nat}
end
theorem hid{G:Prop}(k:∀F:Prop,(G->F)->F):G:=k G id
inductive Ex1{A0:Type}(p:A0->Prop):Prop
 |mk (x0:A0) (h:p x0):Ex1 p
inductive Ex2{A0 A1:Type}(p:A0->A1->Prop):Prop
 |mk (x0:A0) (x1:A1) (h:p x0 x1):Ex2 p
inductive Ex3{A0 A1 A2:Type}(p:A0->A1->A2->Prop):Prop
 |mk (x0:A0) (x1:A1) (x2:A2) (h:p x0 x1 x2):Ex3 p
inductive Ex4{A0 A1 A2 A3:Type}(p:A0->A1->A2->A3->Prop):Prop
 |mk (x0:A0) (x1:A1) (x2:A2) (x3:A3) (h:p x0 x1 x2 x3):Ex4 p
inductive Ex5{A0 A1 A2 A3 A4:Type}(p:A0->A1->A2->A3->A4->Prop):Prop
 |mk (x0:A0) (x1:A1) (x2:A2) (x3:A3) (x4:A4) (h:p x0 x1 x2 x3 x4):Ex5 p
inductive Ex6{A0 A1 A2 A3 A4 A5:Type}(p:A0->A1->A2->A3->A4->A5->Prop):Prop
 |mk (x0:A0) (x1:A1) (x2:A2) (x3:A3) (x4:A4) (x5:A5) (h:p x0 x1 x2 x3 x4 x5):Ex6 p
inductive Ex7{A0 A1 A2 A3 A4 A5 A6:Type}(p:A0->A1->A2->A3->A4->A5->A6->Prop):Prop
 |mk (x0:A0) (x1:A1) (x2:A2) (x3:A3) (x4:A4) (x5:A5) (x6:A6) (h:p x0 x1 x2 x3 x4 x5 x6):Ex7 p
inductive An2(a0 a1:Prop):Prop
 |mk (h0:a0) (h1:a1):An2 a0 a1
inductive An3(a0 a1 a2:Prop):Prop
 |mk (h0:a0) (h1:a1) (h2:a2):An3 a0 a1 a2
inductive An4(a0 a1 a2 a3:Prop):Prop
 |mk (h0:a0) (h1:a1) (h2:a2) (h3:a3):An4 a0 a1 a2 a3
inductive An5(a0 a1 a2 a3 a4:Prop):Prop
 |mk (h0:a0) (h1:a1) (h2:a2) (h3:a3) (h4:a4):An5 a0 a1 a2 a3 a4
inductive An6(a0 a1 a2 a3 a4 a5:Prop):Prop
 |mk (h0:a0) (h1:a1) (h2:a2) (h3:a3) (h4:a4) (h5:a5):An6 a0 a1 a2 a3 a4 a5
inductive An7(a0 a1 a2 a3 a4 a5 a6:Prop):Prop
 |mk (h0:a0) (h1:a1) (h2:a2) (h3:a3) (h4:a4) (h5:a5) (h6:a6):An7 a0 a1 a2 a3 a4 a5 a6
inductive An8(a0 a1 a2 a3 a4 a5 a6 a7:Prop):Prop
 |mk (h0:a0) (h1:a1) (h2:a2) (h3:a3) (h4:a4) (h5:a5) (h6:a6) (h7:a7):An8 a0 a1 a2 a3 a4 a5 a6 a7
inductive An9(a0 a1 a2 a3 a4 a5 a6 a7 a8:Prop):Prop
 |mk (h0:a0) (h1:a1) (h2:a2) (h3:a3) (h4:a4) (h5:a5) (h6:a6) (h7:a7) (h8:a8):An9 a0 a1 a2 a3 a4 a5 a6 a7 a8
inductive wT(a0 a1 a2 a3 a4 a5 a6 a7 a8 a9:Prop):Prop
 |mk (h0:a0) (h1:a1) (h2:a2) (h3:a3) (h4:a4) (h5:a5) (h6:a6) (h7:a7) (h8:a8) (h9:a9):wT a0 a1 a2 a3 a4 a5 a6 a7 a8 a9
inductive aab(a0 a1 a2 a3 a4 a5 a6 a7 a8 a9 QG QH QI:Prop):Prop
 |mk (h0:a0) (h1:a1) (h2:a2) (h3:a3) (h4:a4) (h5:a5) (h6:a6) (h7:a7) (h8:a8) (h9:a9) (Wi:QG) (Wj:QH) (Wk:QI):aab a0 a1 a2 a3 a4 a5 a6 a7 a8 a9 QG QH QI
end BB
namespace L2
open PySem PySem.Spec PyProof.Rows
end L2
namespace BB
open PySem L2
section
variable{d:Nat}
end
end BB
namespace L2
open PySem PySem.Spec PyProof.Rows
section
variable{X:Cx}{apos Aq:Z4}
end
section
variable{X:Cx}{apos Aq:Z4}
end
end L2
namespace PySem
open Sem (wp)
section
variable{ep:Nat}{od:Zc}{es:Array DictEntry}{ok ov:WU}
end
end PySem
namespace L2
open PySem PySem.Spec PyProof.Rows
section
variable{X:Cx}{apos Aq:Z4}
end
section
variable{X:Cx}{e1 e2:X6}{t:TA}{p2 Ax:Z4}
end
section
variable{X:Cx}
end
end L2
namespace BB
open PySem L2
theorem oo(pre:List Int)(n:Xk)(ts:List Th):callsOf (C! pre (.knot n ts))=callsOf (pls pre 0 ts):=by
 rw[C!];rfl
theorem o6(pre:List Int)(s k:Int):callsOf (C! pre (.call s k))=[(pre,s,k)]:=by
 rw[C!];rfl
theorem o0(pre:List Int)(i:Int)(t:Th)(ts:List Th):callsOf (pls pre i (t::ts))=callsOf (t.pl (pre++[i]))++callsOf (pls pre (i+1) ts):=by
 rw[pls,eh]
theorem nT:∀{l m:List α},l.Nodup->(∀a∈l,a∈m)->l.length<=m.length
 | [],m,_,_=>Xh _
 | a::l,m,h,hs=>by
   rw[ZN]at h;obtain⟨m1,m2,rfl⟩:=List.append_of_mem (hs a (Xd ..))
   have:l.length<=(m1++m2).length:=nT h.2 λb hb=>by
    rcases Xz.mp (hs b (W8 _ hb))with z|z
    .exact XJ _ z
    .rcases W7.mp z with z|z
     .exact g! (z ▸ hb) h.1
     .exact XB _ z
   rw[Xg,W2]at*;rw[W2];lia
end BB
namespace L2
open PySem
theorem wz(Pv:Nat->St->Hp->Prop)(h0:Pv 0 Y H)(hl:∀i Y H,i<=xs.length->Pv i Y H->SqT K H a xs)
 (hs:∀i x p Y H,xs[i]?=A? x->H p=B?->Pv i Y H->g (.ref p) Y (upd H p (.tup [.int (i:Nat),x])) λAv H2=>tb {D with nx:=Pv (i+1),ct:=Pv (i+1),bk:=D.nx} Av H2) (hd:∀Y H,Pv xs.length Y H->D.nx Y H) :
 ∃W:Nat->Nat->St->Hp->Prop,(∃m,W 0 m Y H)/\∀i m Y H,W i m Y H ->
   ((Ite K a).stop i H/\D.nx Y H)\/((Ite K a).go i H/\∃N:St->Hp->Prop,(∀Aa H',N Aa H'->∃m',m'<m/\W (i+1) m' Aa H')/\∀x H',(Ite K a).yld i H x H'->g x Y H' λAv H2=>tb {D with nx:=N,ct:=N,bk:=D.nx} Av H2):=by
 refine⟨λi m Y H=>m=xs.length - i/\i<=xs.length/\Pv i Y H,⟨xs.length,by simp,Xh _,h0⟩,?_⟩;rintro i m Y H ⟨rfl,hi,p⟩;have q:=hl i Y H hi p;by_cases Ah:i<xs.length
 .refine .inr ⟨⟨xs,xs[i],q,by simp[Ah]⟩,Pv (i+1),λAa H' p'=>⟨xs.length - (i+1),by lia,rfl,Ah,p'⟩,λx H' y=>?_⟩;obtain⟨pa,y,hp,rfl,rfl,hy⟩:=y;exact hs i y pa Y H (hy xs q) hp p
 .have e:i=xs.length:=by lia
  subst e;exact .inl ⟨⟨xs,q,rfl⟩,hd Y H p⟩
theorem tZ{ys:List V}(Ff:xs.length=ys.length)(Pv:Nat->St->Hp->Prop)(h0:Pv 0 Y H)(hl:∀i Y H,i<=xs.length->Pv i Y H->SqT K H a xs/\SqT K H b ys)
 (hs:∀i x y p Y H,xs[i]?=A? x->ys[i]?=A? y->H p=B?->Pv i Y H->g (.ref p) Y (upd H p (.tup [x,y])) λAv H2=>tb {D with nx:=Pv (i+1),ct:=Pv (i+1),bk:=D.nx} Av H2) (hd:∀Y H,Pv xs.length Y H->D.nx Y H) :
 ∃W:Nat->Nat->St->Hp->Prop,(∃m,W 0 m Y H)/\∀i m Y H,W i m Y H ->
   ((Itz K a b).stop i H/\D.nx Y H)\/((Itz K a b).go i H/\∃N:St->Hp->Prop,(∀Aa H',N Aa H'->∃m',m'<m/\W (i+1) m' Aa H')/\∀x H',(Itz K a b).yld i H x H'->g x Y H' λAv H2=>tb {D with nx:=N,ct:=N,bk:=D.nx} Av H2):=by
 refine⟨λi m Y H=>m=xs.length - i/\i<=xs.length/\Pv i Y H,⟨xs.length,by simp,Xh _,h0⟩,?_⟩;rintro i m Y H ⟨rfl,hi,p⟩;obtain⟨q1,q2⟩:=hl i Y H hi p;by_cases Ah:i<xs.length
 .have NK:i<ys.length:=by lia
  refine .inr ⟨⟨xs,ys,xs[i],ys[i],q1,q2,by simp[Ah],by simp[NK]⟩,Pv (i+1),λAa H' p'=>⟨xs.length - (i+1),by lia,rfl,Ah,p'⟩,λx H' y=>?_⟩;obtain⟨pa,x,y,hp,rfl,rfl,hx,hy⟩:=y;exact hs i x y pa Y H (hx xs q1) (hy ys q2) hp p
 .have e:i=xs.length:=by lia
  subst e;exact .inl ⟨⟨xs,ys,q1,q2,.inl (WX _)⟩,hd Y H p⟩
end L2
namespace BB
open PySem L2
section
variable{C:WS}{Dp:DP}{ok:Th->Prop}{L:Lv}{n:Nd}{B:Lv}{Hg:Hp}{B':Lv}{sp:List (Key×V)}
end
section
variable{C:WS}{Dp:DP}{ok:Th->Prop}{H0:Hp}{L B:Lv}{L' B':Lv}
end
mutual
theorem gJ{ks:List (Xk×Int)}:∀(t:Th)(pre:List Int),t.FitS ks S C->∀c∈callsOf (t.pl pre),0<=c.2.1/\c.2.1<S/\0<=c.2.2/\c.2.2<C
 | .call s k,pre,h,c,hc=>by
   rw[o6]at hc;rw[Xc.mp hc];rw[r!]at h;exact h
 | .knot n ts,pre,h,c,hc=>by
   rw[oo]at hc;rw[r!]at h;exact lp ts pre 0 h.2 c hc
theorem lp{ks:List (Xk×Int)}:∀(ts:List Th)(pre:List Int)(i:Int),FitSs ks S C ts->∀c∈callsOf (pls pre i ts),0<=c.2.1/\c.2.1<S/\0<=c.2.2/\c.2.2<C
 | [],pre,i,_,c,hc=>by rw[pls]at hc;cases hc
 | t::ts,pre,i,h,c,hc=>by
   rw[o0]at hc;rw[FitSs]at h;rcases Xz.mp hc with hc|hc
   .exact gJ t _ h.1 c hc
   .exact lp ts _ _ h.2 c hc
end
section
variable{mid:List (Xk×Int)}{S1 S2:Int}{Ei Ej:Th}{Ek El:List (List Th)}
end
end BB
namespace L2
open PySem PySem.Spec PySem.SeqAt PyProof.Rows
def IsNesm(fl:Bool)(P:W6)(w:Xo)(h:Yd)(k:au)(a:WS):Prop:=∃(o:Zc)(n:Nat)(b:WS)(u:WU),h.get? a=A? o/\o.cls=.type "tuple"/\o.data=.seq (bif fl then #[.ref b,u]else #[u,.ref b]) n/\IsTupleKey (ao P w) h k.1 b/\gY k.2 u=C?
theorem IsNesm.typeIs{k:au}(x:IsNesm fl P w s.1 k a):s.TypeIs (.ref a) "tuple":=let⟨o,_,_,_,ho,hc,_⟩:=x;⟨o,ho,hc⟩
theorem IsNesm.inj{x y:au}(hx:IsNesm fl P w h x a)(hy:IsNesm fl P w h y a):x=y:=by
 obtain⟨o,n,b,u,ho,_,hd,hb,hu⟩:=hx;obtain⟨o',n',b',u',Bu,_,Bv,AA,BF⟩:=hy;obtain rfl:o=o':=Xp (ho.symm.trans Bu);rw[hd]at Bv;injection Bv with h1 _
 have h2:b=b'/\u=u':=by
  cases fl <;> (have h2:=h! Array.toList h1;cases h2;exact⟨D?,D?⟩)
 obtain⟨rfl,rfl⟩:=h2;exact Prod.ext (hb.inj AA) ((ao P w).inj _ _ _ hu BF)
theorem IsNesm.keeps{k:au}{o:Zc}{es ep}(x:IsNesm fl P w h k a)(ho:h.get? d=A? o)(hd:o.data=.dict es ep)(hs:YD d h h'):IsNesm fl P w h' k a:=by
 obtain⟨o',n,b,u,Bu,hc,Bv,hb,hu⟩:=x
 have Ap:a≠d:=by
  rintro rfl;obtain rfl:o'=o:=Xp (Bu.symm.trans ho);rw[hd]at Bv;exact nomatch Bv
 exact⟨o',n,b,u,(hs.2 a Ap).trans Bu,hc,Bv,hb.keeps ho hd hs,hu⟩
theorem uL{x y:au}(hx:IsNesm fl P w s.1 x a)(hy:IsNesm fl P w s.1 y b)(hu:A.units+1<YH):EqAt A s (.ref a) (.ref b) (decide (x=y)):=by
 by_cases Cc:a=b
 .subst Cc;obtain rfl:=hx.inj hy;rw[d! rfl];exact EqAt.same _
 .obtain⟨o,n,c,u,ho,hc,hd,hb,hk⟩:=hx;obtain⟨o',n',c',u',Bu,AN,Bv,AA,A'⟩:=hy;have p1:s.1.IsTuple a (bif fl then[Xm c,u]else[u,Xm c]).toArray:=⟨o,ho,hc,n,by rw[hd];cases fl <;> rfl⟩;have p2:s.1.IsTuple b (bif fl then[Xm c',u']else[u',Xm c']).toArray:=⟨o',Bu,AN,n',by rw[Bv];cases fl <;> rfl⟩
  have h1:EqAt A.in1 s u u' (decide ((Zs x.2:Sum (List Key) Key)=Zs y.2)):=by
   rw[show decide ((Zs x.2:Sum (List Key) Key)=Zs y.2)=decide (x.2=y.2)from decide_eq_decide.mpr ⟨λz=>Sum.inr.inj z,λz=>h! _ z⟩];exact qY (A:=A.in1) (s:=s) hk A'
  have h2:EqAt A.in1 s (.ref c) (.ref c') (decide ((Xn x.1:Sum (List Key) Key)=Xn y.1)):=by
   rw[show decide ((Xn x.1:Sum (List Key) Key)=Xn y.1)=decide (x.1=y.1)from decide_eq_decide.mpr ⟨λz=>YL z,λz=>h! _ z⟩];exact uO (A:=A.in1) hb AA (show A.units+1<YH from hu)
  have:=hX (A:=A) (ds:=bif fl then[Xn x.1,(Zs x.2:Sum (List Key) Key)]else[Zs x.2,Xn x.1]) (es:=bif fl then[Xn y.1,Zs y.2]else[Zs y.2,Xn y.1]) p1 p2 (by cases fl <;> rfl) (by cases fl <;> rfl) (by lia) λj d e v v' e1 e2 e3 e4=>by
   cases fl <;> (match j with
   |0=>cases e1;cases e2;cases e3;cases e4;first|exact h1|exact h2
   |1=>cases e1;cases e2;cases e3;cases e4;first|exact h1|exact h2
   |j+2=>cases e1)
  refine EqAt.of_refs Cc ?_
  have e:decide (x=y)=decide ((bif fl then[Xn x.1,(Zs x.2:Sum (List Key) Key)]else[Zs x.2,Xn x.1])=bif fl then[Xn y.1,Zs y.2]else[Zs y.2,Xn y.1]):=decide_eq_decide.mpr ⟨λz=>by rw[z],λz=>by
   cases fl <;> (injection z with z1 z2;injection z2 with z2 _;first|exact Prod.ext (YL z1) (Sum.inr.inj z2)|exact Prod.ext (YL z2) (Sum.inr.inj z1))⟩
  rw[e];exact this
def iE(fl:Bool)(P:W6)(w:Xo)(k:au):Int:=reduceHash (X9 (bif fl then[YX (ao P w) k.1,(ao P w).hash k.2]else[(ao P w).hash k.2,YX (ao P w) k.1]))
theorem qy{k:au}{Q:Int->WY->Prop}(hu:A.units+1<YH)(hk:IsNesm fl P w s.1 k a)(h:Q (iE fl P w k) {s with toks:=s.toks+(k.1.length+3)}) :
 W9 (Xv P w) A (pyHash (.ref a)) Q E s:=by
 cases fl with
 | false =>
   have hT:=hk.typeIs;obtain⟨o,n,c,u,ho,hc,hd,hb,hk⟩:=hk;unfold pyHash
   first|unfold pyHashByItsType|skip
   first|refine WN (wpAny_cRoomFor_or (.inr (by lia)) ?_)|skip
   refine WN (Yq hT Zv.lookup ?_);show W9 _ _ (if(A? (Value.builtin "tuple.__hash__") == A? Yp)=C? then _ else _) Q E s;rw[a! (by rw[beq_builtin_none];exact W5)];refine WN (Yq hT Zv.lookup ?_);show W9 _ _ (callSpecialIfBoundUnlessNone? (.ref a) "__hash__" _ >>= _) Q E s;refine WN (wpAny_callSpecialIfBoundUnlessNone?_slot hT Zv (X5 Zv hT F.entry_tuple_hash ?_ (F.args_tuple_hash_1 _)));show W9 _ _ (ZW (.ref a) >>= _) _ _ s;refine WN (wpAny_tupleItemsOf ho hd ?_);refine WN ?_;rw[<-Array.forIn_toList]
   refine wpAny_forIn_list _
    (λrest(b:Array Int)s'=>(rest=[u,.ref c]/\b=#[]/\s'=s)\/(rest=[.ref c]/\b=#[(ao P w).hash k.2]/\s'={s with toks:=s.toks+1})\/(rest=[]/\b=#[(ao P w).hash k.2,YX (ao P w) k.1]/\s'={s with toks:=s.toks+1+(k.1.length+1)}))
    _ ?_ ?_ _ _ (.inl ⟨rfl,rfl,rfl⟩)
   .rintro x rest b s' (⟨e1,rfl,rfl⟩|⟨e1,rfl,rfl⟩|⟨e1,_⟩)
    .cases e1;refine WN ((ao P w).pyHash hk ?_)
     first
      |exact WW (.inr (.inl ⟨rfl,rfl,rfl⟩))
      |exact WN (WW (WW (.inr (.inl ⟨rfl,rfl,rfl⟩))))
    .cases e1;refine WN (wpAny_pyHash_tuple (by show _<YH;first|exact hu|lia) hb ?_)
     first
      |exact WW (.inr (.inr ⟨rfl,rfl,rfl⟩))
      |exact WN (WW (WW (.inr (.inr ⟨rfl,rfl,rfl⟩))))
    .cases e1
   .rintro b s' (⟨e1,_⟩|⟨e1,_⟩|⟨_,rfl,rfl⟩)
    .cases e1
    .cases e1
    show W9 _ _ (retInt (X9 [(ao P w).hash k.2,YX (ao P w) k.1])) _ _ _;refine wpAny_ret_mkInt ?_;show W9 _ _ (if(decide (-(2:Int) ^ 63<=X9 [(ao P w).hash k.2,YX (ao P w) k.1]) && decide (X9 [(ao P w).hash k.2,YX (ao P w) k.1]<2 ^ 63))=C? then _ else _) Q E _;unfold iE reduceHash at h;simp only[cond_true,cond_false]at h;by_cases hr:(decide (-(2:Int) ^ 63<=X9 [(ao P w).hash k.2,YX (ao P w) k.1]) && decide (X9 [(ao P w).hash k.2,YX (ao P w) k.1]<2 ^ 63))=C?
    .rw[b! hr];rw[b! hr]at h;exact WW (by rw[show k.1.length+3=1+(k.1.length+2)by lia]at h;simpa[Z1]using h)
    .rw[a! hr];rw[a! hr]at h;exact WN (Zw (WW (by rw[show k.1.length+3=1+(k.1.length+2)by lia]at h;simpa[Z1]using h)))
 | true =>
   have hT:=hk.typeIs;obtain⟨o,n,c,u,ho,hc,hd,hb,hk⟩:=hk;unfold pyHash
   first|unfold pyHashByItsType|skip
   first|refine WN (wpAny_cRoomFor_or (.inr (by lia)) ?_)|skip
   refine WN (Yq hT Zv.lookup ?_);show W9 _ _ (if(A? (Value.builtin "tuple.__hash__") == A? Yp)=C? then _ else _) Q E s;rw[a! (by rw[beq_builtin_none];exact W5)];refine WN (Yq hT Zv.lookup ?_);show W9 _ _ (callSpecialIfBoundUnlessNone? (.ref a) "__hash__" _ >>= _) Q E s;refine WN (wpAny_callSpecialIfBoundUnlessNone?_slot hT Zv (X5 Zv hT F.entry_tuple_hash ?_ (F.args_tuple_hash_1 _)));show W9 _ _ (ZW (.ref a) >>= _) _ _ s;refine WN (wpAny_tupleItemsOf ho hd ?_);refine WN ?_;rw[<-Array.forIn_toList]
   refine wpAny_forIn_list _
    (λrest(b:Array Int)s'=>(rest=[.ref c,u]/\b=#[]/\s'=s)\/(rest=[u]/\b=#[YX (ao P w) k.1]/\s'={s with toks:=s.toks+(k.1.length+1)})\/(rest=[]/\b=#[YX (ao P w) k.1,(ao P w).hash k.2]/\s'={s with toks:=s.toks+(k.1.length+1)+1}))
    _ ?_ ?_ _ _ (.inl ⟨rfl,rfl,rfl⟩)
   .rintro x rest b s' (⟨e1,rfl,rfl⟩|⟨e1,rfl,rfl⟩|⟨e1,_⟩)
    .cases e1;refine WN (wpAny_pyHash_tuple (by show _<YH;first|exact hu|lia) hb ?_)
     first
      |exact WW (.inr (.inl ⟨rfl,rfl,rfl⟩))
      |exact WN (WW (WW (.inr (.inl ⟨rfl,rfl,rfl⟩))))
    .cases e1;refine WN ((ao P w).pyHash hk ?_)
     first
      |exact WW (.inr (.inr ⟨rfl,rfl,rfl⟩))
      |exact WN (WW (WW (.inr (.inr ⟨rfl,rfl,rfl⟩))))
    .cases e1
   .rintro b s' (⟨e1,_⟩|⟨e1,_⟩|⟨_,rfl,rfl⟩)
    .cases e1
    .cases e1
    show W9 _ _ (retInt (X9 [YX (ao P w) k.1,(ao P w).hash k.2])) _ _ _;refine wpAny_ret_mkInt ?_;show W9 _ _ (if(decide (-(2:Int) ^ 63<=X9 [YX (ao P w) k.1,(ao P w).hash k.2]) && decide (X9 [YX (ao P w) k.1,(ao P w).hash k.2]<2 ^ 63))=C? then _ else _) Q E _;unfold iE reduceHash at h;simp only[cond_true,cond_false]at h;by_cases hr:(decide (-(2:Int) ^ 63<=X9 [YX (ao P w) k.1,(ao P w).hash k.2]) && decide (X9 [YX (ao P w) k.1,(ao P w).hash k.2]<2 ^ 63))=C?
    .rw[b! hr];rw[b! hr]at h;exact WW (by simpa[Z1]using h)
    .rw[a! hr];rw[a! hr]at h;exact WN (Zw (WW (by simpa[Z1]using h)))
theorem rT{k:au}{Q:Bool->WY->Prop}(hk:IsNesm fl P w s.1 k a)(h:Q C? s):W9 (Xv P w) A (eqIsQuiet 8 (.ref a)) Q E s:=by
 have hT:=hk.typeIs;obtain⟨o,n,c,u,ho,hc,hd,hb,hk⟩:=hk;unfold eqIsQuiet;refine WN (Yq hT F.slot_tuple_eq.lookup ?_);show W9 _ _ (isInstance (.ref a) (.type "tuple") >>= _) _ _ s;refine WN (ZK hT isSubtype_tuple_tuple ?_);simp only[Bool.not_true,Yb,if_false];refine WN (Yy ho hd ?_);refine WN ?_;show W9 _ _ (forIn (bif fl then #[Xm c,u]else #[u,Xm c]) _ _) _ _ s;rw[<-Array.forIn_toList];refine wpAny_forIn_list _ (λrest r s'=>r.1=B?/\s'=s/\∀v∈rest,v=.ref c\/v=u) _ ?_ ?_ _ _ ⟨rfl,rfl,λv hv=>by cases fl <;> simpa[or_comm]using hv⟩
 .rintro v rest r s' ⟨hr,rfl,Ac⟩;have F9:∀z∈rest,z=.ref c\/z=u:=λz hz=>Ac z (W8 _ hz);rcases Ac v Xd with rfl|rfl
  .refine WN (sf hb ?_);simp only[Bool.not_true,Yb,if_false];exact WW ⟨rfl,rfl,F9⟩
  .rw[eqIsQuiet_byValue _ ((ao P w).byValue _ _ hk)];refine WN (WW ?_);simp only[Bool.not_true,Yb,if_false];exact WW ⟨rfl,rfl,F9⟩
 .rintro⟨r1,r2⟩ s' ⟨hr,rfl,_⟩;simp only at hr;subst hr;exact WW h
def bZ(fl:Bool)(P:W6)(w:Xo):HeapKind P w au where
 is:=IsNesm fl P w
 hash:=iE fl P w
 draws:=λk=>k.1.length+3
 room:=λA=>A.units+1<YH
 inj:=λhx hy=>hx.inj hy
 keeps:=λx ho hd hs=>x.keeps ho hd hs
 pyHash:=λhu hk h=>qy hu hk h
 eqBool:=λhu hx hy h=>uL hx hy hu _ _ _ _ h
 quiet:=λhk h=>rT hk h
def rc(fl:Bool)(P:W6)(w:Xo)(xs:List (au×WS×WU))(a:WS)(h:Yd):Prop:=∃o es ep,h.get? a=A? o/\o.ExactDict/\o.data=.dict es ep/\es.toList=xs.map (entryOfKey (bZ fl P w))/\(xs.map (·.1)).Nodup
def MKAt(fl:Bool)(H:Hp)(k:au)(b:WS):Prop:=∃c,H b=A? (.tup (bif fl then[.ref c,kV k.2]else[kV k.2,.ref c]))/\H c=A? (.tup (k.1.map kV))
abbrev KTm(fl:Bool)(H:Hp):List (au×V)->List (au×WS×WU)->Prop:=Xs λp q=>p.1=q.1/\MKAt fl H q.1 q.2.1/\RelV p.2 q.2.2
def DM(fl:Bool)(P:W6)(w:Xo)(H:Hp)(a:WS)(f':List (au×V)):Prop:=f'.length<=Xe/\(a == YO)=CU/\∃xs φ,H a=A? (.ext φ)/\(∀h,φ h->rc fl P w xs a h)/\KTm fl H f' xs
theorem MKAt.mono(k:BB.KT H H'){n:au}(h:MKAt fl H n b):MKAt fl H' n b:=by
 obtain⟨c,h1,h2⟩:=h;exact⟨c,k _ _ h1,k _ _ h2⟩
theorem KTm.mono(k:BB.KT H H'){xs:List (au×WS×WU)}(r:KTm fl H f' xs):KTm fl H' f' xs:=Xs.mapP r λ_ _ z=>⟨z.1,z.2.1.mono k,z.2.2⟩
theorem DM.mono(s:Same H H')(h:DM fl P w H a f'):DM fl P w H' a f':=by
 obtain⟨z,hd,xs,φ,e,f,r⟩:=h;exact⟨z,hd,xs,φ,s _ _ e,f,KTm.mono (j! s) r⟩
theorem eL{k:au}(ok:HOk P w H h)(e:MKAt fl H k b):IsNesm fl P w h k b:=by
 obtain⟨c,h1,h2⟩:=e;obtain⟨_,its,n,r,e1⟩:=(show ObjOk P w H h b (.tup (bif fl then[.ref c,kV k.2]else[kV k.2,.ref c]))from ok b _ h1);cases fl with
 | false =>
   cases r with
   |cons r1 r =>
   cases r with
   |cons r2 r =>
   cases r;cases r2;exact⟨_,n,c,_,e1,D?,D?,fB ok h2,jU (P:=P) (w:=w) r1⟩
 | true =>
   cases r with
   |cons r1 r =>
   cases r with
   |cons r2 r =>
   cases r;cases r1;exact⟨_,n,c,_,e1,D?,D?,fB ok h2,jU (P:=P) (w:=w) r2⟩
theorem i5(ok:HOk P w H h)(e:DM fl P w H a f'):f'.length<=Xe/\(a == YO)=CU/\∃xs φ,H a=A? (.ext φ)/\KTm fl H f' xs/\h.DictOfH (bZ fl P w) a xs:=by
 obtain⟨z,y,xs,φ,ea,f,r⟩:=e;obtain⟨o,es,ep,h1,h2,h3,h4,h5⟩:=f h (ok a _ ea).1;refine⟨z,y,xs,φ,ea,r,o,es,ep,h1,h2,h3,h4,λx hx=>?_,h5⟩
 have all:∀{l:List (au×V)}{m:List (au×WS×WU)},KTm fl H l m->∀x∈m,(bZ fl P w).is h x.1 x.2.1:=by
  intro l m q;induction q with
  |nil=>intro x hx;exact nomatch hx
  | @cons p q ps qs hq t ih =>
    intro x hx;rcases W7.mp hx with e|hx
    .subst e;exact eL ok hq.2.1
    .exact ih x hx
 exact all r x hx
theorem KTm.val{xs:List (au×WS×WU)}(r:KTm fl H f' xs)(k:au):RelO (aH f' k) ((atKey xs k).map (·.2)):=by
 induction r with
 |nil=>exact YW
 | @cons p q ps qs hq t ih =>
   by_cases e:p.1=k
   .rw[bD e];have:atKey (q::qs) k=A? q.2:=by simp[atKey,ZO,<-hq.1,e]
    rw[this];exact hq.2.2
   .rw[bE e];have:atKey (q::qs) k=atKey qs k:=by simp[atKey,ZO,<-hq.1,e]
    rw[this];exact ih
theorem KTm.put{xs:List (au×WS×WU)}(r:KTm fl H f' xs)(k:au)(hb:MKAt fl H k b)(ry:RelV y u):KTm fl H (putK f' k y) (storedH xs k b u):=by
 have hv:=KTm.val r k;cases e:aH f' k with
 | none =>
   rw[e]at hv
   have hn:atKey xs k=none:=by
    cases q:atKey xs k with
    |none=>rfl
    |some p=>rw[q]at hv;exact hv.elim
   rw[i6 y e,storedH_new hn];exact t! r (.cons ⟨rfl,hb,ry⟩ .nil)
 | some v0 =>
   rw[e]at hv
   obtain⟨p,hp⟩:∃p,atKey xs k=A? p:=by
    cases q:atKey xs k with
    |none=>rw[q]at hv;exact hv.elim
    |some p=>exact⟨p,D?⟩
   rw[storedH_old hp];unfold putK;rw[b! (by rw[eK,e];rfl)]
   have all:∀{l:List (au×V)}{m:List (au×WS×WU)},KTm fl H l m->KTm fl H (l.map λkv=>if kv.1=k then(kv.1,y)else kv) (m.map (putAt k u)):=by
    intro l m q;induction q with
    |nil=>exact .nil
    | @cons p q ps qs hq t ih =>
      refine .cons ?_ ih;unfold putAt;dsimp only;by_cases z:p.1=k
      .rw[b! z,b! (by rw[<-hq.1];exact z)];exact⟨hq.1,hq.2.1,ry⟩
      .rw[a! z,a! (by rw[<-hq.1];exact z)];exact hq
   exact all r
section
variable{X:Cx}{o i value:X6}{td ty tv:TE}
inductive w8(fl:Bool)(P:W6)(w:Xo)(x y:V)(H:Hp)(Q:VK):Prop
 |mk (a b:WS) (k:au) (f':List (au×V)) (v:V) (z0:x=.ref a) (z1:y=.ref b) (z2:DM fl P w H a f') (z3:MKAt fl H k b) (z4:aH f' k=A? v) (z5:Q v H):w8 fl P w x y H Q
def zM(fl:Bool)(P:W6)(w:Xo)(td ty:TE):TE:=λY H Q=>td Y H λx H1=>ty Y H1 λy H2=>w8 fl P w x y H2 Q
theorem wS(hu:X.A.units+2<YH)(ho:PE X o td)(hi:PE X i ty)(hs:yU i):PE X (.Subscript o i pos) (zM fl X.prog X.w td ty):=by
 intro Z s Y H Q I h;refine oh PySem.F.slot_dict_getitem.lookup hs (thn (ho Z s Y H _ I h) λu s1⟨x,H1,I1,rx,q1⟩=>thn (hi Z s1 Y H1 _ I1 q1) λiv s2⟨y,H2,I2,ry,q2⟩=>?_);obtain⟨a,b,k,f',v,rfl,rfl,hd,hk,hv,q⟩:=q2;obtain rfl:u=Xm a:=rx;obtain rfl:iv=Xm b:=ry;obtain⟨_,_,xs,φ,ea,rel,dd⟩:=i5 I2.hok hd;obtain⟨w',hw,Cm⟩:=RelO.some_of (v:=v) (o:=(atKey xs k).map (·.2)) (by rw[<-hv];exact KTm.val rel k);obtain⟨p,hp,BL⟩:=XD.mp hw;refine⟨dd.typeIs,wpAny_getItem_heap (knd:=bZ fl X.prog X.w) (show X.A.units+1+1<YH from hu) (eL I2.hok hk) dd hp ?_⟩;rw[BL];exact⟨v,H2,I2.tok _,Cm,q⟩
inductive v9(fl:Bool)(P:W6)(w:Xo)(x y v:V)(H:Hp)(R:Hp->Prop):Prop
 |mk (a b:WS) (k:au) (f':List (au×V)) (z0:x=.ref a) (z1:y=.ref b) (z2:DM fl P w H a f') (z3:MKAt fl H k b) (z4:f'.length<Xe) (z5:∀H',(∀c o,c≠a->H c=A? o->H' c=A? o)->DM fl P w H' a (putK f' k v)->R H'):v9 fl P w x y v H R
def zJ(fl:Bool)(P:W6)(w:Xo)(td ty tv:TE):TS:=λD Y H=>tv Y H λv H1=>td Y H1 λx H2=>ty Y H2 λy H3=>v9 fl P w x y v H3 λH4=>D.nx Y H4
theorem qt(hu:X.A.units+2<YH)(ho:PE X o td)(hi:PE X i ty)(hv:PE X value tv)(hs:swapsWith value (A? (.Subscript o i pos')) pos.line X.env=pure CU) :
 PS X (.Assign [.Subscript o i pos'] value pos) (zJ fl X.prog X.w td ty tv):=by
 intro Z s Y H D I h;refine wpAny_Assign_Subscript (thn (hv Z s Y H _ I h) λr s1⟨v,H1,I1,rv,q1⟩=>thn (ho Z s1 Y H1 _ I1 q1) λu s2⟨x,H2,I2,rx,q2⟩=>thn (hi Z s2 Y H2 _ I2 q2) λiv s3⟨y,H3,I3,ry,q3⟩=>?_) hs;obtain⟨a,b,k,f',rfl,rfl,hd,hk,hl,q⟩:=q3;obtain rfl:u=Xm a:=rx;obtain rfl:iv=Xm b:=ry;obtain⟨z,Bv,xs,φ,ea,rel,dd⟩:=i5 I3.hok hd;have hz:xs.length<=Xe:=by rw[<-W4 rel];exact z
 have Gy:(putK f' k v).length<=Xe:=by have:=bt f' k v;lia
 refine wpAny_setItem_heap (knd:=bZ fl X.prog X.w) (hsz:=hz) (show X.A.units+1+1<YH from hu) (eL I3.hok hk) dd λh' C7 hs=>?_;obtain⟨ob,es,ep,hq,h2,h3,h4,_,h5⟩:=C7;have ne:rc fl X.prog X.w (storedH xs k b r) a h':=⟨ob,es,ep,hq,h2,h3,h4,h5⟩
 have I4:=fN (ob:=.ext (rc fl X.prog X.w (storedH xs k b r) a)) (t':=s3.toks+(bZ fl X.prog X.w).draws k) I3 (by rw[ea];exact YW) hs ⟨ob,hq⟩ ⟨ne,⟨ob,hq⟩,λh1 h2 p kk=>by
  obtain⟨o1,JA,JB,g1,g2⟩:=p;exact⟨o1,JA,JB,kk _ g1,g2⟩⟩
 have kt:BB.KT H3 (upd H3 a (.ext (rc fl X.prog X.w (storedH xs k b r) a))):=λc ys ec=>by
  rw[ag (eJ ec ea (λz=>nomatch z))];exact ec
 exact⟨Y,_,I4,q _ (λc o hc e=>by rw[ag hc];exact e) ⟨Gy,Bv,_,_,ac,λ_ p=>p,KTm.mono kt (KTm.put rel k hk rv)⟩⟩
def zP(fl:Bool)(P:W6)(w:Xo):TE:=λ_ H Q=>∀p H',H p=B?->Same H H'->DM fl P w H' p []->Q (.ref p) H'
theorem l9:PE X (.Dict [] [] pos) (zP fl X.prog X.w):=λZ s Y H Q I h=>by
 have hn:H s.1.1.size=none:=I.hok.fresh (WX _);have ne:rc fl X.prog X.w [] s.1.1.size (s.1.push {cls:=.type "dict",data:=.dict #[]}):=⟨_,#[],0,W3 _ rfl,⟨rfl,rfl,rfl⟩,rfl,rfl,List.nodup_nil⟩;refine wpAny_Dict_empty ⟨.ref s.1.1.size,_,I.laid (a:=s.1.1.size) (o:=.ext (rc fl X.prog X.w [] s.1.1.size)) (t':=s.toks) (λ_ _ q=>WV _ q) (WX _) ⟨ne,⟨_,W3 _ rfl⟩,λh1 h2 p kk=>?_⟩,rfl,h _ _ hn (ae hn _) ⟨Xh _,beq_eq_false_iff_ne.mpr (YT (XA I.big)),[],_,ac,λ_ p=>p,.nil⟩⟩;obtain⟨o1,JA,JB,g1,g2⟩:=p;exact⟨o1,JA,JB,kk _ g1,g2⟩
end
section
variable{X:Cx}{o i f:X6}{apos Aq:Z4}{td ty tx:TE}
theorem ux{xs:List (au×WS×WU)}(rel:KTm fl H f' xs)(k:au):(aH f' k).isSome=(atKey xs k).isSome:=by
 have q:=(KTm.val rel k).isSome_eq;rw[Option.isSome_map]at q;exact q
inductive zk(fl:Bool)(f:Bool->Bool)(P:W6)(w:Xo)(y x:V)(H:Hp)(Q:VK):Prop
 |mk (a b:WS) (k:au) (f':List (au×V)) (z0:x=.ref a) (z1:y=.ref b) (z2:DM fl P w H a f') (z3:MKAt fl H k b) (z4:Q (.bl (f (aH f' k).isSome)) H):zk fl f P w y x H Q
def zd(fl:Bool)(f:Bool->Bool)(P:W6)(w:Xo)(ty td:TE):TE:=λY H Q=>ty Y H λy H1=>td Y H1 λx H2=>zk fl f P w y x H2 Q
theorem xY(hu:X.A.units+2<YH)(hi:PE X i ty)(ho:PE X o td):PC X .In i o (zd fl (λb=>b) X.prog X.w ty td):=by
 intro Z s Y H Q I h;refine thn (hi Z s Y H _ I h) λiv s1⟨y,H1,I1,ry,q1⟩=>thn (ho Z s1 Y H1 _ I1 q1) λu s2⟨x,H2,I2,rx,q2⟩=>?_;obtain⟨a,b,k,f',rfl,rfl,hd,hk,q⟩:=q2;obtain rfl:u=Xm a:=rx;obtain rfl:iv=Xm b:=ry;obtain⟨_,Bv,xs,φ,ea,rel,dd⟩:=i5 I2.hok hd;refine wpAny_in_heap (knd:=bZ fl X.prog X.w) (show X.A.units+1+1<YH from hu) (eL I2.hok hk) Bv dd ?_;rw[<-ux rel k];exact⟨.bl _,H2,I2.tok _,D?,q⟩
theorem sF(hu:X.A.units+2<YH)(hi:PE X i ty)(ho:PE X o td):PC X .NotIn i o (zd fl (λb=>!b) X.prog X.w ty td):=by
 intro Z s Y H Q I h;refine thn (hi Z s Y H _ I h) λiv s1⟨y,H1,I1,ry,q1⟩=>thn (ho Z s1 Y H1 _ I1 q1) λu s2⟨x,H2,I2,rx,q2⟩=>?_;obtain⟨a,b,k,f',rfl,rfl,hd,hk,q⟩:=q2;obtain rfl:u=Xm a:=rx;obtain rfl:iv=Xm b:=ry;obtain⟨_,Bv,xs,φ,ea,rel,dd⟩:=i5 I2.hok hd;refine wpAny_notIn_heap (knd:=bZ fl X.prog X.w) (show X.A.units+1+1<YH from hu) (eL I2.hok hk) Bv dd ?_;rw[<-ux rel k];exact⟨.bl _,H2,I2.tok _,D?,q⟩
inductive ui(fl:Bool)(P:W6)(w:Xo)(x y z:V)(H:Hp)(Q:VK):Prop
 |mk (a b:WS) (k:au) (f':List (au×V)) (z0:x=.ref a) (z1:y=.ref b) (z2:DM fl P w H a f') (z3:MKAt fl H k b) (z4:Q ((aH f' k).getD z) H):ui fl P w x y z H Q
def ym(fl:Bool)(P:W6)(w:Xo)(td ty tx:TE):TE:=λY H Q=>td Y H λx H1=>∃a f',x=.ref a/\DM fl P w H1 a f'/\ty Y H1 λy H2=>tx Y H2 λz H3=>ui fl P w x y z H3 Q
theorem xo(I:Inv X Z Y H s)(d:DM fl X.prog X.w H a f'):s.TypeIs (.ref a) "dict"/\(∀b,Xm a=.ref b->∃ob,s.1.get? b=A? ob/\ob.dict=B?):=by
 obtain⟨_,hd,xs,φ,_,_,dd⟩:=i5 I.hok d;refine⟨dd.typeIs,λb q=>?_⟩;cases q;obtain⟨ob,_,_,h1,h2,_⟩:=dd;exact⟨ob,h1,h2.2.1⟩
theorem uP(hu:X.A.units+2<YH)(ho:PE X o td)(he:PE X e ty)(hf:PE X f tx)(m:M2 X o "get" apos e f Aq):PE X (.Call (.Attribute o "get" apos) [e,f] [] Aq) (ym fl X.prog X.w td ty tx):=by
 intro Z s Y H Q I h;refine wpAny_Call_method m.base m.few m.line PySem.F.plainAttrs_dict PySem.F.slot_dict_get PySem.F.type_dict_get (thn (ho Z s Y H _ I h) λu s1⟨x,H1,I1,rx,a,T5,ex,d,q1⟩=>?_);subst ex;obtain rfl:u=Xm a:=rx;obtain⟨t1,t2⟩:=xo I1 d;refine⟨t1,t2,?_⟩;rw[m.trees]
 refine Calls.callWith_builtin rfl (Calls.evalArgs_plain (YK (thn (he Z s1 Y H1 _ I1 q1) λiv s2⟨y,H2,I2,ry,q2⟩ =>
  YK (thn (hf Z s2 Y H2 _ I2 q2) λfv s3⟨z,H3,I3,rz,q3⟩=>Zh ?_))))
 obtain⟨a',b,k,f',MI,rfl,hd,hk,q⟩:=q3;cases MI;obtain rfl:iv=Xm b:=ry;obtain⟨_,Bv,xs,φ,ea,rel,dd⟩:=i5 I3.hok hd;refine call_meetsIn PySem.F.slot_dict_get dd.typeIs PySem.F.entry_dict_get (PySem.F.args_dict_get_3 _ _ _) (meetsH_dict_get_default (bZ fl X.prog X.w) a b Bv fv) ⟨(show X.A.units+1+1<YH from hu),k,xs,eL I3.hok hk,dd,?_⟩;exact⟨_,H3,I3.tok _,(KTm.val rel k).getD rz,q⟩
inductive pT(fl:Bool)(P:W6)(w:Xo)(x:V)(vs:List V)(H:Hp)(Q:VK):Prop
 |mk (a b:WS) (v:V) (k:au) (f':List (au×V)) (z0:x=.ref a) (z1:vs=[.ref b,v]) (z2:DM fl P w H a f') (z3:MKAt fl H k b) (z4:f'.length<Xe)
  (z5:∀u,aH f' k=A? u->Q u H) (z6:aH f' k=B?->∀H',(∀c o,c≠a->H c=A? o->H' c=A? o)->DM fl P w H' a (putK f' k v)->Q v H'):pT fl P w x vs H Q
theorem gj(hu:X.A.units+2<YH):MtM X "dict.setdefault" (pT fl X.prog X.w):=by
 intro Z s Y H x vs v us Q I rx rv h;obtain⟨a,b,y,k,f',rfl,rfl,e,eb,l,q1,q2⟩:=h;cases rx;cases rv with
 |cons r1 rv =>
 cases rv with
 |cons r2 rv =>
 cases rv;cases r1;obtain⟨z,hd,xs,φ,ea,rel,dd⟩:=i5 I.hok e;have hz:xs.length<=Xe:=by rw[<-W4 rel];exact z
 have hl:(putK f' k y).length<=Xe:=by have:=bt f' k y;lia
 have hT:s.TypeIs (.ref a) "dict":=dd.typeIs;refine call_meetsIn Zn hT PySem.F.entry_dict_setdefault (PySem.F.args_dict_setdefault_3 _ _ _) (bb_meets_setdefault (bZ fl X.prog X.w) a b _ hd) ⟨(show X.A.units+1+1<YH from hu),k,xs,eL I.hok eb,dd,hz,λp hp=>?_,λhn h' C7 hs=>?_⟩
 .have hr:=KTm.val rel k;rw[hp]at hr;cases hv:aH f' k with
  |none=>rw[hv]at hr;exact hr.elim
  | some u =>
    rw[hv]at hr;exact⟨u,H,I.tok _,hr,q1 u hv⟩
 .have hr:=KTm.val rel k;rw[hn]at hr;cases hv:aH f' k with
  |some u=>rw[hv]at hr;exact hr.elim
  | none =>
    obtain⟨ob,es,ep,hq,h2,h3,h4,_,h5⟩:=C7;have ne:rc fl X.prog X.w (storedH xs k b _) a h':=⟨ob,es,ep,hq,h2,h3,h4,h5⟩
    have I4:=fN (t':=s.toks+(bZ fl X.prog X.w).draws k) I (by rw[ea];exact YW) hs ⟨ob,hq⟩ (ob:=.ext (rc fl X.prog X.w (storedH xs k b _) a)) ⟨ne,⟨ob,hq⟩,λh1 h2 p kk=>by
     obtain⟨o1,JA,JB,g1,g2⟩:=p;exact⟨o1,JA,JB,kk _ g1,g2⟩⟩
    have kt:∀ψ:Yd->Prop,BB.KT H (upd H a (.ext ψ)):=λψ c ys ec=>by
     rw[ag (eJ ec ea (λz=>nomatch z))];exact ec
    exact⟨y,_,I4,r2,q2 hv _ (λc o hc e=>by rw[ag hc];exact e) ⟨hl,hd,_,_,ac,λ_ p=>p,KTm.mono (kt _) (KTm.put rel k eb r2)⟩⟩
inductive wo(fl:Bool)(P:W6)(w:Xo)(xs:List V)(H:Hp)(Q:VK):Prop
 |mk (a:WS) (f':List (au×V)) (z0:xs=[.ref a]) (z1:DM fl P w H a f') (z2:∀(l:WS)(bs:List WS),H l=B?->Xs (λkv b=>MKAt fl H kv.1 b) f' bs->Q (.ref l) (upd H l (.lst (bs.map i!)))):wo fl P w xs H Q
theorem vP{ys:List (au×WS×WU)}(rel:KTm fl H f' ys):Xs (λkv b=>MKAt fl H kv.1 b) f' (ys.map λy=>y.2.1):=by
 induction rel with
 |nil=>exact .nil
 |cons h t ih=>exact .cons (by rw[h.1];exact h.2.1) ih
theorem rW(hc:X.calm=C?):fz X (.type "list") (wo fl X.prog X.w):=by
 intro Z s Y H xs us Q I r h;obtain⟨a,f',rfl,e,q⟩:=h;obtain⟨u,rfl,rx⟩:=vals1 r;cases rx;obtain⟨z,hd,ys,φ,ea,rel,dd⟩:=i5 I.hok e;have hT:=dd.typeIs;obtain⟨o,es,ep,ho,Tw,Ib,he,HZ,hn⟩:=dd;obtain⟨o',Bu,Br⟩:=hT;have eo:o'=o:=Xp (Bu.symm.trans ho);subst eo;have hl:f'.length=ys.length:=W4 rel
 have GS:es.toList.map (·.key)=ys.map λy=>Xm y.2.1:=by
  rw[he,YM];rfl
 have hsz:es.size<=Xe:=by
  have:=h! Zu GS;rw[WO,WO,XR]at this;lia
 have hh:X.A.in1.in1.handled=none:=I.ok.hd hc;refine bb_list_keys hh hd Bu Br Ib hsz λh' acc c hk hS An=>?_;have hp:Xs (λkv b=>MKAt fl H kv.1 b) f' (ys.map λy=>y.2.1):=vP rel;refine⟨.ref s.1.1.size,upd H s.1.1.size (.lst ((ys.map λy=>y.2.1).map i!)),?_,D?,q _ _ I.fresh hp⟩;refine I.laid (t':=s.toks) hk (WX _) ⟨by rw[WO,WO];lia,acc.toList,c,?_,hS⟩;rw[An,GS];clear hn HZ he GS An hS hl z rel hp q;induction ys with
 |nil=>exact .nil
 |cons y ys ih=>exact .cons rfl ih
def abo(fl:Bool)(P:W6)(w:Xo)(r:V->List V->Hp->VK->Prop)(to:TE)(t:TA):TE:=λY H Q=>to Y H λx H1=>(∃a f',x=.ref a/\DM fl P w H1 a f')/\t Y H1 λxs H2=>r x xs H2 Q
theorem wD{es:List X6}{to:TE}{t:TA}{name:Xk}{id:String}{r:V->List V->Hp->VK->Prop}(slot:Slot "dict" name id)(IP:typeOf (.builtin id)=pure (.type "method_descriptor"))(hm:MtR X id r)(ho:PE X o to)(ha:PA X (e::es) t)
 (BA:attributeBase o name X.env (Y4 o X.env)=Y4 o X.env:=by rfl)
 (GA:((Z2 Aq (XH (e::es) X.env)).all (λx=>!x.1) && (backToKw Aq (keywordEach [] X.env)).all (λx=>x.1.isSome)
  && decide ((e::es).length+([]:List Keyword).length+(if([]:List Keyword).isEmpty then 0 else 1)<30))=true:=by rfl)
 (Cn:(apos.endLine == Aq.line)=true:=by rfl) (hs:XH (e::es) X.env=(CU,Y4 e X.env)::XH es X.env:=by rfl) (BC:(Z2 Aq (XH es X.env)).any (·.1)=false:=by rfl) :
 PE X (.Call (.Attribute o name apos) (e::es) [] Aq) (abo fl X.prog X.w r to t):=by
 intro Z s Y H Q I h;refine wpAny_Call_method_late BA GA Cn rfl (thn (ho Z s Y H _ I h) λv s1⟨x,H1,I1,r1,⟨a,f',ex,hd⟩,q1⟩=>?_);subst ex;obtain rfl:v=Xm a:=r1;obtain⟨h1,h2⟩:=xo I1 hd;refine⟨"dict",id,PySem.F.plainAttrs_dict,slot,IP,h1,h2,?_⟩;have hA:=ha Aq Z s1 Y H1 _ I1 q1;rw[hs]at hA |-;refine Calls.callWith_builtin (by show(CU ||(Z2 Aq (XH es X.env)).any (·.1))=CU;rw[BC] <;> rfl) (Calls.evalArgs_plain ?_);exact thn hA λvs s2⟨xs,H2,I2,rv,q2⟩=>hm Z s2 Y H2 (.ref a) xs (.ref a) vs Q I2 rfl rv q2
end
end L2
namespace BB
open PySem L2
theorem nA:∀{ps:List (List Int×Th)}{as:List WS},PsAtK K H ps as->∃bs,Xs (λ(p:List Int×Th)b=>H b=A? (.tup (p.1.map q!))) ps bs/\bs.length=as.length/\∀(i:Nat)x b,(as.map i!)[i]?=A? x->bs[i]?=A? b->∃a ta,x=.ref a/\H a=A? (.tup [.ref b,.ref ta])
 |_,_,.nil=>⟨[],.nil,rfl,λi x b h=>by simp at h⟩
 | _,_,.cons r h=>by
   obtain⟨pa,ta,h1,h2,_⟩:=r;obtain⟨bs,g1,g2,g3⟩:=nA h;refine⟨pa::bs,.cons h2 g1,by rw[W2,W2,g2],λi x b hx hb=>?_⟩;cases i with
   | zero =>
     simp at hx hb;subst hx;subst hb;exact⟨_,ta,D?,h1⟩
   |succ i=>exact g3 i x b (by simpa using hx) (by simpa using hb)
theorem wQ{F:Hp->α->WS->Prop}{J:It}(zs:List α)(p:α->Bool)(hF:∀H1 H2 z p,KT H1 H2->F H1 z p->F H2 z p)(hz:zs.length=xs.length)(hn:xs.length<=1000000)
 (E7:∀i H2,k! H H2->i<xs.length->J.go i H2) (Bc:∀H2,k! H H2->J.stop xs.length H2) (B1:∀(i:Nat)H2 x H3,k! H H2->i<xs.length->J.yld i H2 x H3->H3=H2/\xs[i]?=A? x)
 (hb:∀(i:Nat)x z H2(R:VK)(W':Hp->Prop),xs[i]?=A? x->zs[i]?=A? z->k! H H2->(p z=C?->∀H3 q,k! H2 H3->F H3 z q->R (.ref q) H3)->(p z=CU->∀H3,k! H2 H3->W' H3)->g x (cσ js Y) H2 λAv H3=>tt Av H3 λb H4=>if b=C? then te Av H4 R else W' H4)
 (CA:∀D H' as,H D=B?->k! H H'->H' D=A? (.lst (as.map i!))->Xs (F H') (zs.filter p) as->fin D H') :
 ∀D,H D=B?->∃(n:Nat)(W:Nat->Hp->Prop),W 0 (upd H D (.lst []))/\gS js g tt te Y J D n W λH'=>fin D H':=by
 intro D hD;refine⟨xs.length,λi H'=>i<=xs.length/\k! H H'/\∃as:List WS,H' D=A? (.lst (as.map i!))/\Xs (F H') ((zs.take i).filter p) as,⟨Xh _,ae hD _,[],by rw[ac];rfl,.nil⟩,?_⟩;rintro i H' ⟨hi,s1,as,e1,hp⟩;by_cases Ah:i<xs.length
 .refine .inr ⟨Ah,E7 i H' s1 Ah,λv H1 hy=>?_⟩;obtain⟨e,hx⟩:=B1 i H' v H1 s1 Ah hy;subst e;obtain⟨z,Ca⟩:∃z,zs[i]?=A? z:=⟨_,WR (by lia)⟩;have hl:((zs.take i).filter p).length=as.length:=W4 hp;have Bf:=ZF p (zs.take i);rw[XS]at Bf;refine hb i v z _ _ _ hx Ca s1 (λIe H3 q s3 Nb=>⟨_,s3 _ _ e1,?_,Ah,am (s1.trans s3) hD,as++[q],?_,?_⟩) (λIe H3 s3=>⟨Ah,s1.trans s3,as,s3 _ _ e1,?_⟩)
  .rw[WO];have:Xe=16777216:=sizeLine_eq;lia
  .rw[ac,Xb];rfl
  .have kt:KT H3 (upd H3 D (.lst (as.map i!++[.ref q]))):=aG (s3 _ _ e1);rw[take_snoc Ca,ZC,X0,b! Ie,List.filter_nil];exact t! (y! (λx y e=>hF _ _ _ _ ((j! s3).trans kt) e) hp) (.cons (hF _ _ _ _ kt Nb) .nil)
  .rw[take_snoc Ca,ZC,X0,a! (by rw[Ie];exact W5),List.filter_nil,XC];exact y! (λx y e=>hF _ _ _ _ (j! s3) e) hp
 .have AY:i=xs.length:=by lia
  subst AY;refine .inl ⟨Bc _ s1,CA D H' as hD s1 e1 ?_⟩;rw[YG (by lia)]at hp;exact hp
def eI(ins:List (Xk×Int)):Th:=.knot (((ins.filter λk=>decide (k.2=0))[0]?.map (·.1)).getD (Xq "")) []
theorem jo{k:Xk×Int}(h:(ins.filter λk=>decide (k.2=0))[0]?=A? k):eI ins=.knot k.1 []:=by
 unfold eI;rw[h];rfl
theorem rN(g:cz ins):∃k,(ins.filter λk=>decide (k.2=0))[0]?=A? k/\k.2=0:=by
 obtain⟨k,hk,hz⟩:=g.zero;have hm:k∈ins.filter λk=>decide (k.2=0):=Y1.mpr ⟨hk,d! hz⟩;have hl:0<(ins.filter λk=>decide (k.2=0)).length:=List.length_pos_of_mem hm;refine⟨_,WR hl,?_⟩;exact e! (Y1.mp (List.getElem_mem hl)).2
def cY(ins:List (Xk×Int)):Nat:=ins.findIdx λk=>decide (k.2=0)
theorem jy:∀{ins:List (Xk×Int)}{k:Xk×Int},(ins.filter λk=>decide (k.2=0))[0]?=A? k->ins[cY ins]?=A? k
 | [],k,h=>by simp at h
 | x::xs,k,h=>by
   unfold cY;by_cases hx:x.2=0
   .rw[X0,b! (d! hx)]at h;rw[List.findIdx_cons,d! hx];simpa using h
   .rw[X0,a! (by simpa using hx)]at h;rw[List.findIdx_cons,c! hx];simpa[cY]using jy h
def MkAt(H:Hp)(ins:List (Xk×Int))(rows:List (List Th))(f':List (List Key×V)):Prop :=
 ∀(s k:Nat)(row:List Th)(p:Th),k<3->rows[s]?=A? row->row[cY ins]?=A? p->∃a,aH f' [Xn (s:Int),Xn (k:Int)]=A? (.ref a)/\At H p a
theorem MkAt.mono(kt:KT H H'){f':List (List Key×V)}(h:MkAt H ins rows f'):MkAt H' ins rows f':=λs k row p hk hr hp=>by
 obtain⟨a,h1,h2⟩:=h s k row p hk hr hp;exact⟨a,h1,h2.mono kt⟩
theorem rO:∀{ts:List Th}{i:Nat},(dvs ts)[i]?=(ts[i]?).map Th.dv
 | [],i=>by rw[dvs];simp
 |t::ts,0=>by rw[dvs];rfl
 |t::ts,i+1=>by rw[dvs,Z8,Z8];exact rO
theorem uw:∀ts:List Th,(dvs ts).length=ts.length
 | []=>by rw[dvs];rfl
 |t::ts=>by rw[dvs,W2,W2,uw ts]
theorem pA{f:α->Th}:∀{zs:List α}{as:List WS},Xs (λz a=>At H (f z) a) zs as->Ats H (zs.map f) as
 |_,_,.nil=>.nil
 |_,_,.cons r h=>.cons r (pA h)
theorem cQ{x:List Int×Th}:∀{ts:List Th}{i:Int},x∈pls pre i ts↔∃(j:Nat)(t:Th),ts[j]?=A? t/\x∈t.pl (pre++[i+(j:Int)])
 | [],i=>by rw[pls];simp
 | t::ts,i=>by
   rw[pls,Xz,cQ (ts:=ts) (i:=i+1)];constructor
   .rintro(h|⟨j,u,hu,h⟩)
    .exact⟨0,t,D?,by simpa using h⟩
    .refine⟨j+1,u,by simpa using hu,?_⟩;rw[show i+((j+1:Nat):Int)=i+1+(j:Int)by lia];exact h
   .rintro⟨j,u,hu,h⟩;cases j with
    | zero =>
      simp at hu;subst hu;exact .inl (by simpa using h)
    | succ j =>
      refine .inr ⟨j,u,by simpa using hu,?_⟩;rw[show i+1+(j:Int)=i+((j+1:Nat):Int)by lia];exact h
theorem gb{n:Xk}{ks:List Th}{t:Th}(h:ks[j]?=A? t){x:List Int×Th}(hx:x∈t.pl (pre++[(j:Int)])):x∈(n! n ks).pl pre:=by
 rw[C!];refine W8 _ (cQ.mpr ⟨j,t,h,?_⟩);rw[Ym];exact hx
theorem dh(t:Th)(pre:List Int):(pre,t)∈t.pl pre:=by rw[Th.pl_eq];exact Xd ..
theorem vz:∀(n:Nat)(l r:Th)(pre:List Int),l.size<=n->∀x∈(l.com r).pl pre,∃u,(x.1,u)∈l.pl pre
 |0,l,r,pre,hn=>by have:=l.size_pos;lia
 | n+1,.call a b,r,pre,hn=>λx hx=>by
   rw[ii,az]at hx
   .rw[a! W5,hole,C!,pls]at hx;rw[Xc.mp hx];exact⟨_,dh _ _⟩
   .intro _ _ _ _ h;cases h
 | n+1,.knot m ks,r,pre,hn=>λx hx=>by
   rw[ii]at hx;by_cases hs:az (.knot m ks) r=C?
   .rw[b! hs,C!]at hx;rcases W7.mp hx with rfl|hx
    .exact⟨_,dh _ _⟩
    .obtain⟨j,t,ht,hx⟩:=cQ.mp hx;rw[Ym]at hx;rw[WZ,XD]at ht;obtain⟨p,hp,rfl⟩:=ht;obtain⟨h1,h2⟩:=Zf.mp hp;rw[p!]at hn;have hz:p.1.size<=ak ks:=aU (WT h1);obtain⟨u,hu⟩:=vz n p.1 p.2 _ (by lia) x hx;exact⟨u,gb h1 hu⟩
   .rw[a! hs,hole,C!,pls]at hx;rw[Xc.mp hx];exact⟨_,dh _ _⟩
mutual
def Th.cut(D:List Int->Bool)(pre:List Int):Th->Th
 |.knot n ks=>if(n! n ks).isHole=C?\/D pre=C? then hole else .knot n (cf D pre 0 ks)
 |.call _ _=>hole
def cf(D:List Int->Bool)(pre:List Int)(i:Int):List Th->List Th
 | []=>[]
 |t::ts=>t.cut D (pre++[i])::cf D pre (i+1) ts
end
theorem gr{D:List Int->Bool}:∀{ts:List Th}{i:Int}{j:Nat},(cf D pre i ts)[j]?=(ts[j]?).map λt=>t.cut D (pre++[i+(j:Int)])
 | [],i,j=>by rw[cf];simp
 |t::ts,i,0=>by rw[cf];simp
 | t::ts,i,j+1=>by
   rw[cf,Z8,Z8,gr,show i+1+(j:Int)=i+((j+1:Nat):Int)by lia]
theorem cS{D:List Int->Bool}:∀{ts:List Th}{i:Int},(cf D pre i ts).length=ts.length
 | [],i=>by rw[cf]
 |t::ts,i=>by rw[cf,W2,W2,cS]
theorem eC:∀{as bs:List Th},(∀(i:Nat)(a b:Th),as[i]?=A? a->bs[i]?=A? b->a.lies b=C?)->aF as bs=C?
 | [],bs,_=>by rw[aF]
 |a::as,[],_=>by rw[aF]
 | a::as,b::bs,h=>by
   rw[aF,h 0 a b rfl rfl,eC λi x y hx hy=>h (i+1) x y (by simpa using hx) (by simpa using hy)];rfl
theorem dU:∀{as bs:List Th},aF as bs=C?->∀(i:Nat)(a b:Th),as[i]?=A? a->bs[i]?=A? b->a.lies b=C?
 | [],bs,_,i,a,b,ha,_=>by simp at ha
 |x::as,[],_,i,a,b,_,hb=>by simp at hb
 | x::as,y::bs,h,i,a,b,ha,hb=>by
   rw[aF,XT]at h;cases i with
   | zero =>
     simp at ha hb;subst ha;subst hb;exact h.1
   |succ i=>exact dU h.2 i a b (by simpa using ha) (by simpa using hb)
theorem qS{n:Xk}{ks:List Th}{r:Th}(h:az (.knot n ks) r=C?):∃us,r=.knot n us/\ks.length=us.length/\(n! n ks).isHole=false:=by
 cases r with
 |call a b=>rw[az]at h;exact g! h W5;intro _ _ _ _ _ h;cases h
 | knot m us =>
   rw[az,XT,XT]at h;obtain⟨⟨h1,h2⟩,h3⟩:=h;obtain rfl:=e! h2;exact⟨us,D?,e! h3,by simpa using h1⟩
theorem fG{n:Xk}{ks us:List Th}(h1:(n! n ks).isHole=CU)(h2:ks.length=us.length):az (.knot n ks) (.knot n us)=true:=by
 rw[az,h1,d! rfl,d! h2];rfl
theorem lies_of{n:Xk}{ks:List Th}{r:Th}(h:(n! n ks).lies r=C?)(hh:(n! n ks).isHole=CU):∃us,r=.knot n us/\ks.length=us.length/\aF ks us=true:=by
 rw[x!,hh,Bool.false_or,XT]at h;obtain⟨us,rfl,hl,_⟩:=qS h.1;exact⟨us,D?,hl,h.2⟩
theorem dX(r:Th):hole.lies r=true:=by
 rw[hole,x!];have:(n! star []).isHole=true:=bS;rw[this];rfl
theorem qa{n:Xk}{ks cs:List Th}(hl:cs.length=ks.length)(h:(n! n ks).isHole=CU):(n! n cs).isHole=false:=by
 rw[A!,decide_eq_false_iff_not]at h |-;rintro⟨h1,h2⟩;rw[h2]at hl;exact h ⟨h1,XZ.mp hl.symm⟩
theorem cg{c:List Int×Int×Int}{ps:List (List Int×Th)}:c∈callsOf ps↔(c.1,z! c.2.1 c.2.2)∈ps:=by
 unfold callsOf;rw[List.mem_filterMap];constructor
 .rintro⟨⟨pl,t⟩,hx,e⟩;cases t with
  |knot n ks=>rw[oj]at e;cases e
  |call a b=>rw[oj]at e;cases e;exact hx
 .intro h;exact⟨_,h,by rw[oj]⟩
theorem qV{n:Xk}{ks:List Th}{t:Th}(h:ks[j]?=A? t){c:List Int×Int×Int}(hc:c∈callsOf (t.pl (pre++[(j:Int)]))):c∈callsOf ((n! n ks).pl pre):=cg.mpr (gb h (cg.mp hc))
section
variable{D:Int->List Int->Bool}{mk f0:Int->Th}
theorem nn{s l:Int}{q:List Int}(Hl:∀(r:List Int)(u:Th),D l r=C?->(q++r,u)∈(f0 s).pl []->D s (q++r)=C?)(Hh:∀(r:List Int)(u:Th),(r,u)∈(f0 l).pl []->u.isHole=C?->D l r=C?) :
 ∀(n:Nat)(f g m:Th)(r:List Int),f.size<=n->(∀x∈f.pl (q++r),x∈(f0 s).pl [])->(∀x∈g.pl r,x∈(f0 l).pl [])->f.noCall->g.noCall->f.lies m=C?->g.lies m=C?->(f.cut (D s) (q++r)).lies (g.cut (D l) r)=C?
 |0,f,g,m,r,hn=>by have:=f.size_pos;lia
 |n+1,.call a b,g,m,r,_=>λ_ _ h=>by rw[w!]at h;exact h.elim
 |n+1,.knot nm ks,.call a b,m,r,_=>λ_ _ _ h=>by rw[w!]at h;exact h.elim
 | n+1,.knot nm ks,.knot gm vs,m,r,hn=>λhF hG nf ng hf hg=>by
   rw[Th.cut];by_cases hc:(n! nm ks).isHole=C?\/D s (q++r)=C?
   .rw[b! hc];exact dX _
   .rw[a! hc];have h1:(n! nm ks).isHole=false:=Yo.mpr λz=>hc (.inl z);have h2:¬D s (q++r)=true:=λz=>hc (.inr z);have h3:¬D l r=true:=λz=>h2 (Hl r _ z (hF _ (dh _ _)));have h4:(n! gm vs).isHole=false:=Yo.mpr λz=>h3 (Hh r _ (hG _ (dh _ _)) z);obtain⟨us,rfl,l1,b1⟩:=lies_of hf h1;obtain⟨NL,e,l2,b2⟩:=lies_of hg h4;cases e;rw[Th.cut,a! (by rintro(z|z);(rw[h4]at z;cases z);exact h3 z)];rw[x!,fG (qa cS h1) (by rw[cS,cS];lia)];rw[p!]at hn;rw[w!]at nf ng
    have:aF (cf (D s) (q++r) 0 ks) (cf (D l) r 0 vs)=true:=eC λi a b ha hb=>by
     rw[gr,XD]at ha hb;obtain⟨k,hk,rfl⟩:=ha;obtain⟨v,hv,rfl⟩:=hb;have CQ:=(glE hk);obtain⟨u,hu⟩:∃u,us[i]?=A? u:=⟨_,WR (by lia)⟩;have hz:=aU (WT hk);rw[Ym,XG];refine nn Hl Hh n k v u (r++[(i:Int)]) (by lia) (λx hx=>hF x (gb hk (by rw[XG];exact hx))) (λx hx=>hG x (gb hv hx)) (cK nf (WT hk)) (cK ng (WT hv)) (dU b1 i k u hk hu) (dU b2 i v u hv hu)
    show((n! nm (cf (D s) (q++r) 0 ks)).isHole ||(C? && aF (cf (D s) (q++r) 0 ks) (n! nm (cf (D l) r 0 vs)).kids))=C?;rw[show(n! nm (cf (D l) r 0 vs)).kids=cf (D l) r 0 vs from rfl,this,Bool.or_comm];rfl
theorem lE{s:Int}{pat:Th}(Hc:∀c∈callsOf (pat.pl []),(f0 c.2.1).lies (mk c.2.1)=C?/\(f0 c.2.1).noCall/\(∀(r:List Int)(u:Th),(r,u)∈(f0 c.2.1).pl []->u.isHole=C?->D c.2.1 r=C?)/\∀(r:List Int)(u:Th),D c.2.1 r=C?->(c.1++r,u)∈(f0 s).pl []->D s (c.1++r)=C?) :
 ∀(n:Nat)(f p:Th)(q:List Int),f.size<=n->(∀x∈f.pl q,x∈(f0 s).pl [])->(∀c∈callsOf (p.pl q),c∈callsOf (pat.pl []))->f.noCall->f.lies (p.fill λl _=>mk l)=C?->(f.cut (D s) q).lies (p.fill λl _=>(f0 l).cut (D l) [])=C?
 |0,f,p,q,hn=>by have:=f.size_pos;lia
 |n+1,.call a b,p,q,_=>λ_ _ h=>by rw[w!]at h;exact h.elim
 | n+1,.knot nm ks,.call l k,q,hn=>λhF hC nf hf=>by
   obtain⟨g1,g2,g3,g4⟩:=Hc (q,l,k) (hC _ (cg.mpr (dh _ _)));rw[v!]at hf |-;have:=nn (q:=q) g4 g3 (n+1) (.knot nm ks) (f0 l) (mk l) [] hn (by rw[XC];exact hF) (λx hx=>hx) nf g2 hf g1;rw[XC]at this;exact this
 | n+1,.knot nm ks,.knot pm ps,q,hn=>λhF hC nf hf=>by
   rw[Th.cut];by_cases hc:(n! nm ks).isHole=C?\/D s q=C?
   .rw[b! hc];exact dX _
   .rw[a! hc];have h1:(n! nm ks).isHole=false:=Yo.mpr λz=>hc (.inl z);rw[v!,cM]at hf |-;obtain⟨us,e,l1,b1⟩:=lies_of hf h1;cases e;rw[WO]at l1;rw[x!,fG (qa cS h1) (by rw[cS,WO];lia)];rw[p!]at hn;rw[w!]at nf
    have:aF (cf (D s) q 0 ks) (ps.map λt=>t.fill λl _=>(f0 l).cut (D l) [])=true:=eC λi a b ha hb=>by
     rw[gr,XD]at ha;rw[WZ,XD]at hb;obtain⟨k,hk,rfl⟩:=ha;obtain⟨v,hv,rfl⟩:=hb;have hz:=aU (WT hk);rw[Ym];refine lE Hc n k v (q++[(i:Int)]) (by lia) (λx hx=>hF x (gb hk hx)) (λc CV=>hC c (qV hv CV)) (cK nf (WT hk)) (dU b1 i k _ hk (gmE hv))
    show((n! nm (cf (D s) q 0 ks)).isHole ||(C? && aF (cf (D s) q 0 ks) (n! nm (ps.map λt=>t.fill λl _=>(f0 l).cut (D l) [])).kids))=C?;rw[show(n! nm (ps.map λt=>t.fill λl _=>(f0 l).cut (D l) [])).kids=ps.map λt=>t.fill λl _=>(f0 l).cut (D l) []from rfl,this,Bool.or_comm];rfl
end
theorem jA:∀(n:Nat)(t:Th),t.size<=n->t.noCall->t.lies t=C?
 |0,t,hn,_=>by have:=t.size_pos;lia
 |n+1,.call a b,_,h=>by rw[w!]at h;exact h.elim
 | n+1,.knot m ks,hn,h=>by
   by_cases hh:(n! m ks).isHole=C?
   .rw[x!,hh];rfl
   .have NM:(n! m ks).isHole=false:=Yo.mpr hh;rw[p!]at hn;rw[w!]at h;rw[x!,fG NM rfl]
    have:aF ks ks=true:=eC λi a b ha hb=>by
     rw[ha]at hb;cases hb;have:=aU (WT ha);exact jA n a (by lia) (cK h (WT ha))
    show((n! m ks).isHole ||(C? && aF ks (n! m ks).kids))=C?;rw[show(n! m ks).kids=ks from rfl,this,Bool.or_comm];rfl
def mkF(ins:List (Xk×Int))(rows:List (List Th))(l:Int):Th:=(rowOf rows l).getD (cY ins) hole
def frF(mk:Int->Th)(m:Th)(row:List Th):Th:=row.foldl (λf p=>f.com (p.fill λl _=>mk l)) m
theorem kY(mk:Int->Th)(m:Th)(row:List Th)(p:Th):frF mk m (row++[p])=(frF mk m row).com (p.fill λl _=>mk l):=by
 unfold frF;rw[List.foldl_append];rfl
theorem rJ{mk:Int->Th}{m:Th}(h:m.noCall):∀row:List Th,(frF mk m row).noCall:=λrow=>by
 cases hr:row.reverse with
 | nil =>
   have:row=[]:=by simpa using hr
   subst this;exact h
 | cons p ps =>
   have:row=ps.reverse++[p]:=by
    have:=h! List.reverse hr;simpa using this
   rw[this,kY];exact kR _ _
theorem iJ(mk:Int->Th)(m:Th)(row:List Th):(frF mk m row).size<=m.size/\(frF mk m row).tall<=m.tall:=by
 unfold frF;induction row generalizing m with
 |nil=>exact⟨WX _,WX _⟩
 | cons p row ih =>
   rw[List.foldl_cons];have h1:=ih (m.com (p.fill λl _=>mk l));have h2:=pX m (p.fill λl _=>mk l);lia
theorem vk(mk:Int->Th)(m:Th)(row:List Th):∀x∈(frF mk m row).pl [],∃u,(x.1,u)∈m.pl []:=by
 unfold frF;induction row generalizing m with
 |nil=>exactλx hx=>⟨x.2,hx⟩
 | cons p row ih =>
   rw[List.foldl_cons];intro x hx;obtain⟨u,hu⟩:=ih _ x hx;exact vz _ m _ [] (WX _) (x.1,u) hu
theorem qj{mk:Int->Th}(f:Th):∀(row:List Th)(m:Th),f.lies (frF mk m row)=C?->f.lies m=C?/\∀p∈row,f.lies (p.fill λl _=>mk l)=C?
 | [],m,h=>⟨h,λp hp=>by cases hp⟩
 | p::row,m,h=>by
   have h':f.lies (frF mk (m.com (p.fill λl _=>mk l)) row)=true:=h;obtain⟨h1,h2⟩:=qj f row _ h';rw[lu,XT]at h1;refine⟨h1.1,λx hx=>?_⟩;rcases W7.mp hx with rfl|hx
   .exact h1.2
   .exact h2 x hx
def nk(s:Int)(pl:List Int):au:=(pl.map Xn,Xn s)
theorem wv{s s':Int}{p p':List Int}(h:nk s p=nk s' p'):s=s'/\p=p':=by
 unfold nk at h;injection h with h1 h2;refine⟨YL h2,?_⟩;exact(List.map_inj_right (λ_ _ e=>YL e)).mp h1
theorem mR{s:Int}{pl:List Int}(h1:H b=A? (.tup [.int s,.ref c]))(h2:H c=A? (.tup (pl.map q!))):MKAt CU H (nk s pl) b:=by
 refine⟨c,h1,?_⟩;rw[h2];unfold nk;rw[YM];rfl
def But(p:WS)(H H':Hp):Prop:=∀c o,c≠p->H c=A? o->H' c=A? o
theorem But.refl(p:WS)(H:Hp):But p H H:=λ_ _ _ e=>e
theorem But.trans{p:WS}{JC:Hp}(a:But p H H')(b:But p H' JC):But p H JC:=λc o hc e=>b c o hc (a c o hc e)
theorem Same.but{p:WS}(a:k! H H'):But p H H':=λc o _ e=>a c o e
theorem But.kt{p:WS}{φ:Yd->Prop}(a:But p H H')(e:H p=A? (.ext φ)):KT H H':=λc ys ec=>a c _ (λz=>by rw[z,e]at ec;cases ec) ec
theorem cp(h:DM CU P w H a f'):∃φ,H a=A? (.ext φ):=by
 obtain⟨_,_,xs,φ,e,_⟩:=h;exact⟨φ,e⟩
theorem dR{k:au}(h:aH f' k=B?):k∉f'.map (·.1):=by
 intro hk;obtain⟨p,hp,rfl⟩:=Xl.mp hk;have:=eK p.1 f';rw[h]at this;have h2:(f'.any λkv=>decide (kv.1=p.1))=true:=List.any_eq_true.mpr ⟨p,hp,d! rfl⟩;rw[h2]at this;cases this
theorem fk{k:au}(h:aH f' k=A? v):(k,v)∈f':=by
 induction f' with
 |nil=>cases h
 | cons p f' ih =>
   by_cases e:p.1=k
   .rw[bD e]at h;cases h;rw[<-e];exact Xd ..
   .rw[bE e]at h;exact W8 _ (ih h)
mutual
theorem sV{u:Th}:∀(t:Th)(pre:List Int),u∈t.walk->∃pl,(pl,u)∈t.pl pre
 | .call a b,pre,h=>by
   rw[Th.walk]at h;rw[Xc.mp h];exact⟨pre,dh _ _⟩
 | .knot n ks,pre,h=>by
   rw[Th.walk]at h;rcases W7.mp h with rfl|h
   .exact⟨pre,dh _ _⟩
   .obtain⟨pl,hp⟩:=qu ks pre 0 h;exact⟨pl,by rw[C!];exact W8 _ hp⟩
theorem qu{u:Th}:∀(ts:List Th)(pre:List Int)(i:Int),u∈walks ts->∃pl,(pl,u)∈pls pre i ts
 | [],pre,i,h=>by rw[walks]at h;cases h
 | t::ts,pre,i,h=>by
   rw[walks]at h;rw[pls];rcases Xz.mp h with h|h
   .obtain⟨pl,hp⟩:=sV t (pre++[i]) h;exact⟨pl,XJ _ hp⟩
   .obtain⟨pl,hp⟩:=qu ts pre (i+1) h;exact⟨pl,XB _ hp⟩
end
theorem i9{ks:List (Xk×Int)}{t:Th}(h:t.FitS ks S C){s k:Int}(hm:z! s k∈t.walk):0<=s/\s<S/\0<=k/\k<C:=by
 obtain⟨pl,hp⟩:=sV t [] hm;exact gJ t [] h (pl,s,k) (cg.mpr hp)
theorem j1{ks:List (Xk×Int)}:∀(n:Nat)(t:Th),t.size<=n->t.FitS ks S 0->t.noCall
 |0,t,hn,_=>by have:=t.size_pos;lia
 |n+1,.call a b,_,h=>by rw[r!]at h;lia
 | n+1,.knot m us,hn,h=>by
   rw[r!]at h;rw[p!]at hn;rw[w!]
   have:∀(l:List Th),(∀t∈l,t.noCall)->aK l:=λl=>by
    induction l with
    |nil=>intro _;rw[aK];trivial
    |cons x l ih=>intro hl;rw[aK];exact⟨hl x (Xd ..),ih λt ht=>hl t (W8 _ ht)⟩
   refine this us λt ht=>?_;have hz:=aU ht;exact j1 n t (by lia) (FitSs.mem' h.2 t ht)
mutual
theorem xw:∀(t:Th)(a b:List Int),t.pl (a++b)=(t.pl b).map λx=>(a++x.1,x.2)
 |.call s k,a,b=>by rw[C!,C!];rfl
 |.knot n ks,a,b=>by rw[C!,C!,Xr,sL ks a b 0]
theorem sL:∀(ts:List Th)(a b:List Int)(i:Int),pls (a++b) i ts=(pls b i ts).map λx=>(a++x.1,x.2)
 | [],a,b,i=>by rw[pls,pls];rfl
 |t::ts,a,b,i=>by rw[pls,pls,Xb,XG,xw t a (b++[i]),sL ts a b (i+1)]
end
theorem dG{t:Th}{a:List Int}{x:List Int×Th}:x∈t.pl a↔∃r,x.1=a++r/\(r,x.2)∈t.pl []:=by
 have:=xw t a [];rw[XC]at this;rw[this,Xl];constructor
 .rintro⟨y,hy,rfl⟩;exact⟨y.1,D?,hy⟩
 .rintro⟨r,h1,h2⟩;exact⟨(r,x.2),h2,by rw[<-h1]⟩
theorem tP:∀(n:Nat){t u v:Th}{a r:List Int},t.size<=n->(a,u)∈t.pl []->(r,v)∈u.pl []->(a++r,v)∈t.pl []
 |0,t,_,_,_,_,hn=>by have:=t.size_pos;lia
 | n+1,.call s k,u,v,a,r,hn=>λh1 h2=>by
   rw[C!]at h1;cases Xc.mp h1;exact h2
 | n+1,.knot m ks,u,v,a,r,hn=>λh1 h2=>by
   rw[C!]at h1;rcases W7.mp h1 with h1|h1
   .cases h1;exact h2
   .obtain⟨j,t,ht,hx⟩:=cQ.mp h1;obtain⟨r',e,AL⟩:=dG.mp hx;dsimp only at e AL;rw[Ym,Y0]at e;rw[p!]at hn;have hz:=aU (WT ht);have:=tP n (by lia) AL h2;refine gb ht (dG.mpr ⟨r'++r,?_,this⟩);show a++r=[]++[(j:Int)]++(r'++r);rw[e,Y0,XG]
theorem p7:∀(n:Nat){t v:Th}{a r:List Int}{u:Th},t.size<=n->(a++r,v)∈t.pl []->(∃w,(a,w)∈t.pl []/\(r,v)∈w.pl [])
 |0,t,_,_,_,_,hn=>by have:=t.size_pos;lia
 |n+1,t,v,[],r,_,hn=>λh=>⟨t,dh _ _,h⟩
 | n+1,.call s k,v,x::a,r,_,hn=>λh=>by
   rw[C!]at h;have:=h! Prod.fst (Xc.mp h);cases this
 | n+1,.knot m ks,v,x::a,r,u,hn=>λh=>by
   rw[C!]at h;rcases W7.mp h with h|h
   .have:=h! Prod.fst h;cases this
   .obtain⟨j,t,ht,hx⟩:=cQ.mp h;obtain⟨r',e,AL⟩:=dG.mp hx;dsimp only at e AL;rw[Ym,Y0]at e;injection e with e1 e2;have e2:a++r=r':=e2;rw[p!]at hn;have hz:=aU (WT ht);rw[<-e2]at AL;obtain⟨w,h1,h2⟩:=p7 n (u:=u) (by lia) AL;refine⟨w,gb ht (dG.mpr ⟨a,?_,h1⟩),h2⟩;show x::a=[]++[(j:Int)]++a;rw[e1];rfl
abbrev VlT:=Nat->au->Th->Th->Prop
def PtV(H:Hp)(R:Th->Th->Prop)(v:V):Prop:=∃(pr ta tb:WS)(t1 t2:Th),v=.ref pr/\H pr=A? (.tup [.ref ta,.ref tb])/\At H t1 ta/\At H t2 tb/\R t1 t2
theorem PtV.mono(k:KT H H'){R:Th->Th->Prop}(h:PtV H R v):PtV H' R v:=by
 obtain⟨pr,ta,tb,t1,t2,e,h1,h2,h3,h4⟩:=h;exact⟨pr,ta,tb,t1,t2,e,k _ _ h1,h2.mono k,h3.mono k,h4⟩
structure Pt(P:W6)(w:Xo)(Vl:VlT)(H:Hp)(pt:WS)(f':List (au×V))(Al:List au):Prop where
 dm:DM CU P w H pt f'
 nd:(f'.map (·.1)).Nodup
 al:∀p∈f',p.1∈Al
 vl:∀(j:Nat)(p:au×V),f'[j]?=A? p->PtV H (Vl j p.1) p.2
theorem Pt.same{Vl:VlT}{pt:WS}(h:Pt P w Vl H pt f' Al)(s:k! H H'):Pt P w Vl H' pt f' Al:=⟨h.dm.mono s,h.nd,h.al,λj p hp=>(h.vl j p hp).mono (j! s)⟩
theorem Pt.len{Vl:VlT}{pt:WS}(h:Pt P w Vl H pt f' Al):f'.length<=Al.length:=by
 have:=nT (m:=Al) h.nd λk hk=>by
  obtain⟨p,hp,rfl⟩:=Xl.mp hk;exact h.al p hp
 rwa [WO]at this
theorem Pt.put{Vl:VlT}{pt:WS}(h:Pt P w Vl H pt f' Al){k:au}(hn:aH f' k=B?)(hb:But pt H H')(hd:DM CU P w H' pt (putK f' k v))(hv:PtV H (Vl f'.length k) v)(hk:k∈Al):Pt P w Vl H' pt (putK f' k v) Al/\(putK f' k v).map (·.1)=f'.map (·.1)++[k]:=by
 obtain⟨φ,e⟩:=cp h.dm;have kt:=hb.kt e;rw[i6 v hn]at hd |-;refine⟨⟨hd,?_,λp hp=>?_,λj p hp=>?_⟩,by rw[Xb];rfl⟩
 .rw[Xb];refine List.nodup_append.mpr ⟨h.nd,by simp,λa ha b AA=>?_⟩;simp at AA;subst AA;exactλz=>dR hn (z ▸ ha)
 .rcases Xz.mp hp with hp|hp
  .exact h.al p hp
  .rw[Xc.mp hp];exact hk
 .by_cases hj:j<f'.length
  .rw[Yi hj]at hp;exact(h.vl j p hp).mono kt
  .rw[YS (by lia)]at hp
   have LI:j - f'.length=0:=by
    have:=(glE hp);have h1:[(k,v)].length=1:=rfl;lia
   rw[LI]at hp;have F7:j=f'.length:=by lia
   cases hp;rw[F7];exact hv.mono kt
end BB
open BB.Same renaming but->G!
variable{Vl:BB.VlT}
namespace BB
open PySem L2
theorem se:∀(n:Nat){t u v:Th}{a:List Int},t.size<=n->(a,u)∈t.pl []->(a,v)∈t.pl []->u=v
 |0,t,_,_,_,hn=>by have:=t.size_pos;lia
 | n+1,.call s k,u,v,a,hn=>λh1 h2=>by
   rw[C!]at h1 h2;cases Xc.mp h1;cases Xc.mp h2;rfl
 | n+1,.knot m ks,u,v,a,hn=>λh1 h2=>by
   rw[C!]at h1 h2;rcases W7.mp h1 with h1|h1
   .cases h1;rcases W7.mp h2 with h2|h2
    .cases h2;rfl
    .obtain⟨j,t,ht,hx⟩:=cQ.mp h2;obtain⟨r',e,_⟩:=dG.mp hx;cases e
   .obtain⟨j,t,ht,hx⟩:=cQ.mp h1;obtain⟨r',e,AL⟩:=dG.mp hx;rcases W7.mp h2 with h2|h2
    .cases h2;cases e
    .obtain⟨j2,t2,Ig,BS⟩:=cQ.mp h2;obtain⟨r2,e2,G0⟩:=dG.mp BS;dsimp only at e e2 AL G0;rw[e]at e2;have e3:(0+(j:Int))::r'=(0+(j2:Int))::r2:=e2;injection e3 with e4 e5;have:j=j2:=by lia
     subst this;rw[ht]at Ig;cases Ig;subst e5;rw[p!]at hn;have hz:=aU (WT ht);exact se n (by lia) AL G0
abbrev LkT:=au->Int->List Int->Xk×Int->Int->Prop
def LE(H:Hp)(ins:List (Xk×Int))(Al:List au)(Lk:LkT)(k0:au)(a:WS):Prop:=∃(s kid:Int)(pl:List Int)(pa ka:WS)(kd:Xk×Int),H a=A? (.tup [.int s,.ref pa,.ref ka,.int kid])/\H pa=A? (.tup (pl.map q!))/\KAt H kd ka/\kd∈ins/\nk s pl∈Al/\Lk k0 s pl kd kid
theorem LE.mono(k:KT H H'){Lk:LkT}{k0:au}(h:LE H ins Al Lk k0 a):LE H' ins Al Lk k0 a:=by
 obtain⟨s,kid,pl,pa,ka,kd,h1,h2,h3,h4,h5⟩:=h;exact⟨s,kid,pl,pa,ka,kd,k _ _ h1,k _ _ h2,k _ _ h3,h4,h5⟩
abbrev LG:=List (au×WS×List WS)
def lkv(G:LG):List (au×V):=G.map λg=>(g.1,i! g.2.1)
structure LkI(P:W6)(w:Xo)(ins:List (Xk×Int))(Al:List au)(Lk:LkT)(H0 H:Hp)(la:WS)(G:LG)(N:Nat):Prop where
 sm:k! H0 H
 la0:H0 la=B?
 dm:DM CU P w H la (lkv G)
 kn:(G.map (·.1)).Nodup
 an:(G.map (·.2.1)).Nodup
 ls:∀g∈G,H0 g.2.1=B?/\H g.2.1=A? (.lst (g.2.2.map i!))/\g.2.2.length<=N/\∀a∈g.2.2,LE H ins Al Lk g.1 a
 le:G.length<=N
def gM(H:Hp)(G:LG)(k:au)(s:Int)(pl:List Int):Prop:=∃g∈G,g.1=k/\∃a∈g.2.2,∃(pa ka:WS)(kid:Int),H a=A? (.tup [.int s,.ref pa,.ref ka,.int kid])/\H pa=A? (.tup (pl.map q!))
def LSub(H H':Hp)(G G':LG):Prop:=∀k s pl,gM H G k s pl->gM H' G' k s pl
theorem LSub.refl(H:Hp)(G:LG):LSub H H G G:=λ_ _ _ h=>h
theorem LSub.trans{JC:Hp}{G G' QJ:LG}(a:LSub H H' G G')(b:LSub H' JC G' QJ):LSub H JC G QJ:=λk s pl h=>b k s pl (a k s pl h)
theorem LSub.kt(k:KT H H')(G:LG):LSub H H' G G:=λ_ _ _⟨g,hg,e,a,ha,pa,ka,kid,h1,h2⟩=>⟨g,hg,e,a,ha,pa,ka,kid,k _ _ h1,k _ _ h2⟩
theorem sO(h:DM CU P w H a f')(k:KT H H')(e:∀o,H a=A? o->H' a=A? o):DM CU P w H' a f':=by
 obtain⟨z,hd,xs,φ,e1,f,r⟩:=h;exact⟨z,hd,xs,φ,e _ e1,f,KTm.mono k r⟩
section
variable{Lk:LkT}{H0:Hp}{G:LG}{N:Nat}
theorem LkI.ne(h:LkI P w ins Al Lk H0 H la G N){g:au×WS×List WS}(hg:g∈G):g.2.1≠la:=λz=>by
 obtain⟨φ,e⟩:=cp h.dm;have:=(h.ls g hg).2.1;rw[z,e]at this;cases this
theorem LkI.same(h:LkI P w ins Al Lk H0 H la G N)(s:k! H H'):LkI P w ins Al Lk H0 H' la G N:=by
 refine⟨h.sm.trans s,h.la0,h.dm.mono s,h.kn,h.an,λg hg=>?_,h.le⟩;obtain⟨a,b,c,d⟩:=h.ls g hg;exact⟨a,s _ _ b,c,λx hx=>(d x hx).mono (j! s)⟩
theorem LkI.up(h:LkI P w ins Al Lk H0 H la G N){M:Nat}(hm:N<=M):LkI P w ins Al Lk H0 H la G M:=by
 refine⟨h.sm,h.la0,h.dm,h.kn,h.an,λg hg=>?_,Xw h.le hm⟩;obtain⟨a,b,c,d⟩:=h.ls g hg;exact⟨a,b,Xw c hm,d⟩
theorem LkI.new(h:LkI P w ins Al Lk H0 H la G N){k:au}{l:WS}(hn:aH (lkv G) k=B?)(hb:But la H H')(hd:DM CU P w H' la (putK (lkv G) k (.ref l)))(EJ:H0 l=B?)(hl:H l=A? (.lst []))(hf:∀g∈G,g.2.1≠l):LkI P w ins Al Lk H0 H' la (G++[(k,l,[])]) (N+1)/\LSub H H' G (G++[(k,l,[])]):=by
 obtain⟨φ,e⟩:=cp h.dm;have kt:=hb.kt e;have NN:l≠la:=λz=>by rw[z,e]at hl;cases hl
 refine⟨⟨λc o ec=>hb c o (λz=>by rw[z,h.la0]at ec;cases ec) (h.sm _ _ ec),h.la0,?_,?_,?_,λg hg=>?_,by rw[Xg];have:=h.le;show G.length+1<=N+1;lia⟩,λk' s pl h'=>?_⟩
 .rw[i6 _ hn]at hd;unfold lkv at hd |-;rw[Xb];exact hd
 .rw[Xb];refine List.nodup_append.mpr ⟨h.kn,by simp,λa ha b AA=>?_⟩;simp at AA;subst AA;intro z;subst z;refine dR hn ?_;unfold lkv;rw[YM];exact ha
 .rw[Xb];refine List.nodup_append.mpr ⟨h.an,by simp,λa ha b AA=>?_⟩;simp at AA;subst AA;obtain⟨g,hg,rfl⟩:=Xl.mp ha;exact hf g hg
 .rcases Xz.mp hg with hg|hg
  .obtain⟨a,b,c,d⟩:=h.ls g hg;exact⟨a,hb _ _ (h.ne hg) b,by lia,λx hx=>(d x hx).mono kt⟩
  .rw[Xc.mp hg];exact⟨EJ,hb _ _ NN hl,Xh _,λx hx=>by cases hx⟩
 .obtain⟨g,hg,r⟩:=LSub.kt kt G k' s pl h';exact⟨g,XJ _ hg,r⟩
def fP(l en:WS)(g:au×WS×List WS):au×WS×List WS:=if g.2.1=l then(g.1,g.2.1,g.2.2++[en])else g
theorem eG(l en:WS)(g:au×WS×List WS):(fP l en g).1=g.1/\(fP l en g).2.1=g.2.1:=by
 unfold fP;split <;> exact⟨D?,D?⟩
theorem LkI.app(h:LkI P w ins Al Lk H0 H la G N){g:au×WS×List WS}(hg:g∈G){en:WS}(he:LE H ins Al Lk g.1 en):LkI P w ins Al Lk H0 (upd H g.2.1 (.lst (g.2.2.map i!++[.ref en]))) la (G.map (fP g.2.1 en)) (N+1)/\KT H (upd H g.2.1 (.lst (g.2.2.map i!++[.ref en])))/\LSub H (upd H g.2.1 (.lst (g.2.2.map i!++[.ref en]))) G (G.map (fP g.2.1 en))/\(∀(s:Int)(pl:List Int)(pa ka:WS)(kid:Int),H en=A? (.tup [.int s,.ref pa,.ref ka,.int kid])->H pa=A? (.tup (pl.map q!))->gM (upd H g.2.1 (.lst (g.2.2.map i!++[.ref en]))) (G.map (fP g.2.1 en)) g.1 s pl):=by
 obtain⟨gl,ge,gn,T6⟩:=h.ls g hg;have kt:KT H (upd H g.2.1 (.lst (g.2.2.map i!++[.ref en]))):=aG ge;have E8:=h.ne hg;have k1:(G.map (fP g.2.1 en)).map (·.1)=G.map (·.1):=by rw[YM];exact Zd λx _=>(eG _ _ x).1
 have k2:(G.map (fP g.2.1 en)).map (·.2.1)=G.map (·.2.1):=by rw[YM];exact Zd λx _=>(eG _ _ x).2
 have k3:lkv (G.map (fP g.2.1 en))=lkv G:=by
  unfold lkv;rw[YM];refine Zd λx _=>?_;show((fP g.2.1 en x).1,i! (fP g.2.1 en x).2.1)=_;rw[(eG _ _ x).1,(eG _ _ x).2]
 refine⟨⟨am h.sm gl,h.la0,?_,by rw[k1];exact h.kn,by rw[k2];exact h.an,λx hx=>?_,by rw[WO];have:=h.le;lia⟩,kt,λk s pl hh=>?_,λs pl pa ka kid h1 h2=>?_⟩
 .rw[k3];exact sO h.dm kt λo eo=>by rw[ag E8.symm];exact eo
 .obtain⟨y,hy,rfl⟩:=Xl.mp hx;obtain⟨a,b,c,d⟩:=h.ls y hy;by_cases hc:y.2.1=g.2.1
  .have T7:y=g:=by
    obtain⟨i,hi⟩:=Xi.mp hy;obtain⟨j,hj⟩:=Xi.mp hg
    have F':i=j:=by
     have h1:(G.map (·.2.1))[i]?=A? y.2.1:=by rw[WZ,hi];rfl
     have h2:(G.map (·.2.1))[j]?=A? y.2.1:=by rw[WZ,hj,hc];rfl
     exact(List.getElem?_inj (by have:=(glE h1);exact this) h.an).mp (h1.trans h2.symm)
    subst F';rw[hi]at hj;exact Xp hj
   subst T7;unfold fP;rw[b! rfl];refine⟨a,?_,?_,λx hx=>?_⟩
   .show(upd H y.2.1 _) y.2.1=_;rw[ac];show A? (HO.lst (y.2.2.map i!++[.ref en]))=A? (.lst ((y.2.2++[en]).map i!));rw[Xb];rfl
   .show(y.2.2++[en]).length<=N+1;rw[Xg];show y.2.2.length+1<=N+1;lia
   .rcases Xz.mp hx with hx|hx
    .exact(d x hx).mono kt
    .rw[Xc.mp hx];exact he.mono kt
  .unfold fP;rw[a! hc];exact⟨a,by rw[ag hc];exact b,by lia,λx hx=>(d x hx).mono kt⟩
 .obtain⟨x,hx,e,a,ha,pa,ka,kid,h1,h2⟩:=hh;refine⟨fP g.2.1 en x,Xl.mpr ⟨x,hx,D?⟩,by rw[(eG _ _ x).1];exact e,a,?_,pa,ka,kid,kt _ _ h1,kt _ _ h2⟩;unfold fP;split
  .exact XJ _ ha
  .exact ha
 .refine⟨fP g.2.1 en g,Xl.mpr ⟨g,hg,D?⟩,(eG _ _ g).1,en,?_,pa,ka,kid,kt _ _ h1,kt _ _ h2⟩;unfold fP;rw[b! rfl];exact XB _ (Xd ..)
end
theorem xy:∀{ps:List (List Int×Th)}{as:List WS},PsAtK K H ps as->∃prs:List (List Key×V),Xs (PrA H) prs as/\(∀p∈prs,∃x∈ps,p.1=x.1.map Xn/\∃a,p.2=.ref a/\AtK .i K H x.2 a)/\∀x∈ps,∃p∈prs,p.1=x.1.map Xn
 |_,_,.nil=>⟨[],.nil,(λp hp=>by cases hp),(λp hp=>by cases hp)⟩
 | _,_,.cons (a:=x) r h=>by
   obtain⟨pa,ta,h1,h2,h3⟩:=r;obtain⟨prs,g1,g2,g3⟩:=xy h;refine⟨(x.1.map Xn,.ref ta)::prs,.cons ⟨pa,h1,by rw[h2,YM];rfl⟩ g1,λp hp=>?_,λy hy=>?_⟩
   .rcases W7.mp hp with rfl|hp
    .exact⟨x,Xd ..,D?,ta,D?,h3⟩
    .obtain⟨y,hy,r⟩:=g2 p hp;exact⟨y,W8 _ hy,r⟩
   .rcases W7.mp hy with rfl|hy
    .exact⟨_,Xd ..,D?⟩
    .obtain⟨p,hp,e⟩:=g3 y hy;exact⟨p,W8 _ hp,e⟩
structure LQ(P:W6)(w:Xo)(ins:List (Xk×Int))(Al:List au)(Lk:LkT)(H0:Hp)(la:WS)(Hb:Hp)(Gb:LG)(Hc:Hp)(Gc:LG)(n:Nat):Prop where
 lk:LkI P w ins Al Lk H0 Hc la Gc n
 sub:LSub Hb Hc Gb Gc
 fr:∀c o,Hb c=A? o->c≠la->(∀g∈Gb,g.2.1≠c)->Hc c=A? o
 dom:∀c o,Hb c=A? o->∃o',Hc c=A? o'
 ext:∀g∈Gc,(∃g0∈Gb,g0.2.1=g.2.1)\/Hb g.2.1=B?
section
variable{Lk:LkT}{H0 Hb Hc Hd:Hp}{Gb Gc Gd:LG}
theorem LQ.refl(h:LkI P w ins Al Lk H0 Hb la Gb n):LQ P w ins Al Lk H0 la Hb Gb Hb Gb n:=⟨h,LSub.refl _ _,λ_ _ e _ _=>e,λc o e=>⟨o,e⟩,λg hg=>.inl ⟨g,hg,rfl⟩⟩
theorem LQ.same(h:LQ P w ins Al Lk H0 la Hb Gb Hc Gc n)(s:k! Hc Hd):LQ P w ins Al Lk H0 la Hb Gb Hd Gc n :=
 ⟨h.lk.same s,h.sub.trans (LSub.kt (j! s) _),λc o e h1 h2=>s _ _ (h.fr c o e h1 h2),λc o e=>by obtain⟨o',e'⟩:=h.dom c o e;exact⟨o',s _ _ e'⟩,h.ext⟩
theorem LQ.up(h:LQ P w ins Al Lk H0 la Hb Gb Hc Gc n)(hm:n<=m):LQ P w ins Al Lk H0 la Hb Gb Hc Gc m:=⟨h.lk.up hm,h.sub,h.fr,h.dom,h.ext⟩
theorem LQ.trans(a:LQ P w ins Al Lk H0 la Hb Gb Hc Gc n)(b:LQ P w ins Al Lk H0 la Hc Gc Hd Gd m):LQ P w ins Al Lk H0 la Hb Gb Hd Gd m:=by
 refine⟨b.lk,a.sub.trans b.sub,λc o e h1 h2=>b.fr c o (a.fr c o e h1 h2) h1 λg hg=>?_,λc o e=>?_,λg hg=>?_⟩
 .rcases a.ext g hg with⟨g0,h3,h4⟩|h3
  .rw[<-h4];exact h2 g0 h3
  .intro z;rw[z,e]at h3;cases h3
 .obtain⟨o',e'⟩:=a.dom c o e;exact b.dom c o' e'
 .rcases b.ext g hg with⟨g0,h3,h4⟩|h3
  .rw[<-h4];exact a.ext g0 h3
  .refine .inr ?_;cases hh:Hb g.2.1 with
   |none=>rfl
   | some o =>
     obtain⟨o',e'⟩:=a.dom _ o hh;rw[h3]at e';cases e'
theorem LQ.kt(h:LQ P w ins Al Lk H0 la Hb Gb Hc Gc n)(L:LkI P w ins Al Lk H0 Hb la Gb m):KT Hb Hc:=λc ys e=>by
 obtain⟨φ,el⟩:=cp L.dm;refine h.fr c _ e (λz=>by rw[z,el]at e;cases e) λg hg z=>?_;have:=(L.ls g hg).2.1;rw[z,e]at this;cases this
theorem LQ.newG(a:LQ P w ins Al Lk H0 la Hb Gb Hc Gc n){k:au}{l:WS}{He:Hp}(hl:Hc l=B?)(hn:aH (lkv Gc) k=B?)(hb:But la (upd Hc l (.lst [])) He)(hd:DM CU P w He la (putK (lkv Gc) k (.ref l))):LQ P w ins Al Lk H0 la Hb Gb He (Gc++[(k,l,[])]) (n+1):=by
 have s1:k! Hc (upd Hc l (.lst [])):=ae hl _;have L1:=a.lk.same s1
 obtain⟨h1,h2⟩:=L1.new hn hb hd (a.lk.sm.free hl) ac λg hg z=>by
  have:=(a.lk.ls g hg).2.1;rw[z,hl]at this;cases this
 refine a.trans ⟨h1,(LSub.kt (j! s1) _).trans h2,λc o e hc _=>hb c o hc (s1 _ _ e),λc o e=>?_,λg hg=>?_⟩
 .by_cases hc:c=la
  .obtain⟨φ,e'⟩:=cp hd;exact⟨_,by rw[hc];exact e'⟩
  .exact⟨o,hb c o hc (s1 _ _ e)⟩
 .rcases Xz.mp hg with hg|hg
  .exact .inl ⟨g,hg,rfl⟩
  .rw[Xc.mp hg];exact .inr hl
theorem LQ.appG(a:LQ P w ins Al Lk H0 la Hb Gb Hc Gc n){g:au×WS×List WS}(hg:g∈Gc){en:WS}(he:LE Hc ins Al Lk g.1 en):LQ P w ins Al Lk H0 la Hb Gb (upd Hc g.2.1 (.lst (g.2.2.map i!++[.ref en]))) (Gc.map (fP g.2.1 en)) (n+1)/\∀(s:Int)(pl:List Int)(pa ka:WS)(kid:Int),Hc en=A? (.tup [.int s,.ref pa,.ref ka,.int kid])->Hc pa=A? (.tup (pl.map q!))->gM (upd Hc g.2.1 (.lst (g.2.2.map i!++[.ref en]))) (Gc.map (fP g.2.1 en)) g.1 s pl:=by
 obtain⟨h1,h2,h3,h4⟩:=a.lk.app hg he;refine⟨⟨h1,a.sub.trans h3,λc o e hc hf=>?_,λc o e=>?_,λx hx=>?_⟩,h4⟩
 .rw[ag]
  .exact a.fr c o e hc hf
  .intro z;rcases a.ext g hg with⟨g0,h5,h6⟩|h5
   .exact hf g0 h5 (h6.trans z.symm)
   .rw[<-z,e]at h5;cases h5
 .by_cases hc:c=g.2.1
  .exact⟨_,by rw[hc];exact ac⟩
  .rw[ag hc];exact a.dom c o e
 .obtain⟨y,hy,rfl⟩:=Xl.mp hx;rw[(eG _ _ y).2];exact a.ext y hy
theorem t9{G:LG}{k:au}{u:V}(h:aH (lkv G) k=A? u):∃g∈G,g.1=k/\u=.ref g.2.1:=by
 have:=fk h;unfold lkv at this;obtain⟨g,hg,e⟩:=Xl.mp this;cases e;exact⟨g,hg,D?,D?⟩
end
theorem y8:∀(n:Nat)(t:Th)(pre:List Int),t.size<=n->∀x∈t.pl pre,x.2.size<=t.size/\x.2.tall<=t.tall
 |0,t,_,hn=>by have:=t.size_pos;lia
 | n+1,.call a b,pre,hn=>λx hx=>by
   rw[C!]at hx;rw[Xc.mp hx];exact⟨WX _,WX _⟩
 | n+1,.knot m ks,pre,hn=>λx hx=>by
   rw[C!]at hx;rcases W7.mp hx with rfl|hx
   .exact⟨WX _,WX _⟩
   .obtain⟨j,t,ht,hx⟩:=cQ.mp hx;rw[p!]at hn;have hz:=aU (WT ht);have Ig:=cA (WT ht);obtain⟨h1,h2⟩:=y8 n t _ (by lia) x hx;rw[p!,u!];lia
theorem fy(h:n<=16000000):n<Xe:=by
 have:Xe=16777216:=sizeLine_eq;lia
theorem wZ:∀(n:Nat)(t:Th)(pre:List Int),t.size<=n->∀x∈t.pl pre,x.1.length<=pre.length+t.tall
 |0,t,_,hn=>by have:=t.size_pos;lia
 | n+1,.call a b,pre,hn=>λx hx=>by
   rw[C!]at hx;rw[Xc.mp hx];exact Y5 _ _
 | n+1,.knot m ks,pre,hn=>λx hx=>by
   rw[C!]at hx;rcases W7.mp hx with rfl|hx
   .exact Y5 _ _
   .obtain⟨j,t,ht,hx⟩:=cQ.mp hx;rw[p!]at hn;have hz:=aU (WT ht);have Ig:=cA (WT ht);have h1:=wZ n t _ (by lia) x hx;rw[Xg]at h1;rw[u!];have h2:[(0:Int)+(j:Int)].length=1:=rfl;lia
structure LkR(P:W6)(w:Xo)(ins:List (Xk×Int))(Al:List au)(Lk:LkT)(H:Hp)(la:WS)(G:LG):Prop where
 dm:DM CU P w H la (lkv G)
 ls:∀g∈G,H g.2.1=A? (.lst (g.2.2.map i!))/\∀a∈g.2.2,LE H ins Al Lk g.1 a
 kn:(G.map (·.1)).Nodup
theorem LkI.r{Lk:LkT}{H0:Hp}{G:LG}{N:Nat}(h:LkI P w ins Al Lk H0 H la G N):LkR P w ins Al Lk H la G:=⟨h.dm,λg hg=>⟨(h.ls g hg).2.1,(h.ls g hg).2.2.2⟩,h.kn⟩
theorem LkR.but{Lk:LkT}{pt:WS}{G:LG}{φ:Yd->Prop}(h:LkR P w ins Al Lk H la G)(hb:But pt H H')(e:H pt=A? (.ext φ))(hn:pt≠la):LkR P w ins Al Lk H' la G:=by
 have kt:=hb.kt e;refine⟨sO h.dm kt λo eo=>hb _ _ hn.symm eo,λg hg=>?_,h.kn⟩;obtain⟨h1,h2⟩:=h.ls g hg;exact⟨hb _ _ (λz=>by rw[z,e]at h1;cases h1) h1,λa ha=>(h2 a ha).mono kt⟩
theorem LkR.at{Lk:LkT}{G:LG}(h:LkR P w ins Al Lk H la G){g:au×WS×List WS}(hg:g∈G){s:Int}{pl:List Int}(hh:gM H G g.1 s pl):∃a∈g.2.2,∃(pa ka:WS)(kid:Int),H a=A? (.tup [.int s,.ref pa,.ref ka,.int kid])/\H pa=A? (.tup (pl.map q!)):=by
 obtain⟨g',MT,e,r⟩:=hh
 have:g'=g:=by
  obtain⟨i,hi⟩:=Xi.mp MT;obtain⟨j,hj⟩:=Xi.mp hg;have h1:(G.map (·.1))[i]?=A? g.1:=by rw[WZ,hi,<-e];rfl
  have h2:(G.map (·.1))[j]?=A? g.1:=by rw[WZ,hj];rfl
  have F':i=j:=(List.getElem?_inj (by have:=(glE h1);exact this) h.kn).mp (h1.trans h2.symm);subst F';rw[hi]at hj;exact Xp hj
 subst this;exact r
theorem vS{G:LG}{k:au}(h:aH (lkv G) k=B?){s:Int}{pl:List Int}:¬gM H G k s pl:=λ⟨g,hg,e,_⟩=>by
 refine dR h ?_;unfold lkv;rw[YM];exact Xl.mpr ⟨g,hg,e⟩
theorem qA{a b:List Int}(h:a.map q!=b.map q!):a=b:=(List.map_inj_right (λ_ _ e=>V.int.inj e)).mp h
theorem LkR.back{Lk:LkT}{G:LG}(R:LkR P w ins Al Lk H la G)(kt:KT H H'){k:au}{s:Int}{pl:List Int}(hh:gM H' G k s pl):gM H G k s pl:=by
 obtain⟨g,hg,e,a,ha,pa,ka,kid,h1,h2⟩:=hh;obtain⟨s',B4,BU,EO,Eh,Wl,g1,g2,_⟩:=(R.ls g hg).2 a ha;have e1:=kt _ _ g1;rw[h1]at e1;cases e1;have e2:=kt _ _ g2;rw[h2]at e2;have:pl=BU:=qA (by injection e2 with e3;injection e3);subst this;exact⟨g,hg,e,a,ha,pa,ka,kid,g1,g2⟩
def Dk(f':List (au×V))(s:Int)(pl:List Int):Bool:=(aH f' (nk s pl)).isSome
theorem lX{s:Int}{pl:List Int}:Dk f' s pl=C?↔nk s pl∈f'.map (·.1):=by
 unfold Dk;constructor
 .intro h;obtain⟨v,hv⟩:=Z0.mp h;exact Xl.mpr ⟨_,fk hv,rfl⟩
 .intro h;cases hv:aH f' (nk s pl)with
  |none=>exact g! h (dR hv)
  |some v=>rfl
def iu(D:List Int->Bool)(As:List (List Int×Th)):List Th:=As.flatMap λx=>(x.2.cut D x.1).walk
theorem pB(D:List Int->Bool)(a b:List (List Int×Th)):iu D (a++b)=iu D a++iu D b:=by unfold iu;rw[List.flatMap_append]
theorem m4(D:List Int->Bool)(pre:List Int):∀(i:Int)(ks:List Th),iu D (cU pre i ks)=walks (cf D pre i ks)
 |i,[]=>by rw[cU,cf,walks];rfl
 | i,k::ks=>by
   rw[cU,cf,walks,<-m4 D pre (i+1) ks];rfl
theorem qL(D:List Int->Bool):∀(n:Nat)(t:Th)(pre:List Int),t.size<=n->(t.cut D pre).size<=t.size
 |0,t,_,hn=>by have:=t.size_pos;lia
 |n+1,.call a b,pre,hn=>by rw[Th.cut,dP,p!];exact WX _
 | n+1,.knot m ks,pre,hn=>by
   rw[Th.cut];split
   .rw[dP,p!];lia
   .rw[p!]at hn;rw[p!,p!]
    have:∀(us:List Th)(i:Int),ak us<=n->ak (cf D pre i us)<=ak us:=λus=>by
     induction us with
     |nil=>intro i _;rw[cf];exact WX _
     | cons u us ih =>
       intro i h;rw[ak]at h;rw[cf,ak,ak];have h1:=ih (i+1) (by lia);have h2:=qL D n u (pre++[i]) (by lia);lia
    have:=this ks 0 (by lia);lia
inductive In:Th->List Int->Th->Prop
 |here {t:Th}:In t [] t
 |kid {n:Xk} {ks:List Th} {j:Nat} {u v:Th} {r:List Int} (h:ks[j]?=A? u) (i:In u r v):In (.knot n ks) ((j:Int)::r) v
theorem In.of:∀(n:Nat){t v:Th}{pl:List Int},t.size<=n->(pl,v)∈t.pl []->In t pl v
 |0,t,_,_,hn,_=>by have:=t.size_pos;lia
 | n+1,.call s k,v,pl,hn,h=>by
   rw[C!]at h;cases Xc.mp h;exact .here
 | n+1,.knot m ks,v,pl,hn,h=>by
   rw[C!]at h;rcases W7.mp h with h|h
   .cases h;exact .here
   .obtain⟨j,t,ht,hx⟩:=cQ.mp h;obtain⟨r,e,hr⟩:=dG.mp hx;dsimp only at e hr;rw[Ym,Y0]at e;rw[p!]at hn;have hz:=aU (WT ht);have e2:pl=(j:Int)::r:=e;rw[e2];exact .kid ht (In.of n (by lia) hr)
theorem In.to{t v:Th}{pl:List Int}(h:In t pl v):(pl,v)∈t.pl []:=by
 induction h with
 |here=>exact dh _ _
 | kid h i ih =>
   refine gb h (dG.mpr ⟨_,?_,ih⟩);rfl
theorem In.iff{t v:Th}{pl:List Int}:(pl,v)∈t.pl []↔In t pl v:=⟨In.of _ (WX _),In.to⟩
structure FrK(ins outs:List (Xk×Int))(rows:List (List Th)):Prop where
 gi:cz ins
 fit:yy ins outs (rows.length:Nat) rows
 le:rows.length<=20
 sz:∀row∈rows,∀p∈row,p.size<=200/\p.tall<=100
theorem FrK.mkd(F:FrK ins outs rows){l:Int}(h0:0<=l)(h1:l<(rows.length:Nat)):∃row p,rows[l.toNat]?=A? row/\row[cY ins]?=A? p/\mkF ins rows l=p/\p.size<=200/\p.tall<=100/\p.FitS outs (rows.length:Nat) 0:=by
 obtain⟨k0,Cd,Ji⟩:=rN F.gi;have hI:=jy Cd;obtain⟨row,hr,er,hl,_⟩:=m8 F.fit h0 h1;have T8:=(glE hI);obtain⟨p,hp⟩:∃p,row[cY ins]?=A? p:=⟨_,WR (by lia)⟩;have hm:=WT hr;obtain⟨z1,z2⟩:=F.sz row hm p (WT hp);have hf:=(F.fit.row row hm).2 _ p k0 hp hI;rw[Ji]at hf;exact⟨row,p,hr,hp,by unfold mkF;rw[er,List.getD,hp];rfl,z1,z2,hf⟩
def frS(ins:List (Xk×Int))(rows:List (List Th))(s:Nat):Th:=frF (mkF ins rows) (mkF ins rows (s:Nat)) ((rows[s]?).getD [])
inductive Met(ins:List (Xk×Int))(rows:List (List Th)):Nat->List Int->Prop
 |hol {s i:Nat} {row:List Th} {x:List Int×Th} (hr:rows[s]?=A? row) (hi:i<=row.length) (hx:x∈(frF (mkF ins rows) (mkF ins rows (s:Nat)) (row.take i)).pl []) (hh:x.2.isHole=C?):Met ins rows s x.1
 |lnk {s:Nat} {row:List Th} {p u:Th} {c:List Int×Int×Int} {x:List Int×Th} (hr:rows[s]?=A? row) (hp:p∈row) (hc:c∈callsOf (p.pl [])) (hu:(c.1,u)∈(frS ins rows s).pl []) (hx:x∈u.pl []) (m:Met ins rows c.2.1.toNat x.1):Met ins rows s (c.1++x.1)
def Lk0(ins:List (Xk×Int))(rows:List (List Th)):LkT:=λk s pl kd kid=>∃(sn:Nat)(row:List Th)(i:Nat)(p:Th)(q x:List Int)(l:Int),s=(sn:Nat)/\rows[sn]?=A? row/\row[i]?=A? p/\ins[i]?=A? kd/\In p q (.call l kid)/\k=nk l x/\pl=q++x/\(∃u y,(q,u)∈(frS ins rows sn).pl []/\(x,y)∈u.pl [])
theorem xA{ks:List (Xk×Int)}{n:Xk}{us:List Th}(h:(n! n us).FitS ks S C){u:Th}(hu:us[j]?=A? u):u.FitS ks S C:=by
 rw[r!]at h;exact FitSs.mem' h.2 u (WT hu)
theorem In.fit{ks:List (Xk×Int)}{v:Th}{q:List Int}(h:In p q v):p.FitS ks S C->v.FitS ks S C:=by
 induction h with
 |here=>exactλh=>h
 |kid h i ih=>exactλhf=>ih (xA hf h)
def ga(ins:List (Xk×Int))(n:Nat)(kid:Int)(t:Th):List Th:=(XF n).map λ(i:Nat)=>if(i:Int)=kid then t else eI ins
theorem lD(ins:List (Xk×Int))(n:Nat)(kid:Int)(t:Th):(ga ins n kid t).length=n:=by unfold ga;rw[WO,Xj]
def VlM(ins:List (Xk×Int))(rows:List (List Th)):VlT:=λ_ k _ _=>∃(s:Nat)(pl:List Int),k=nk (s:Nat) pl/\Met ins rows s pl
theorem vL{s:Nat}{row:List Th}(Af:rows[s]?=A? row)(i:Nat)(p:Th)(kd:Xk×Int)(pl:List Int)(u:Th)(j:Nat)(hp:row[i]?=A? p)(hk:ins[i]?=A? kd)(hu:(pl,u)∈(frF (mkF ins rows) (mkF ins rows (s:Nat)) (row.take (i+1))).pl [])(hh:u.isHole=C?)(hv:∀v,(pl,v)∈(frF (mkF ins rows) (mkF ins rows (s:Nat)) (row.take i)).pl []->v.isHole=CU):VlM ins rows j (nk (s:Nat) pl) (eI ins) (.knot kd.1 (XN kd.2.toNat (eI ins))) :=
 ⟨s,pl,rfl,.hol (x:=(pl,u)) (i:=i+1) Af (by have:=(glE hp);lia) hu hh⟩
theorem yp(F:FrK ins outs rows)(i j:Nat)(k:au)(t1 t2:Th)(s:Int)(pl:List Int)(kd:Xk×Int)(kid:Int)(F':i<j)(hv:VlM ins rows i k t1 t2)(hk:kd∈ins)(hL:Lk0 ins rows k s pl kd kid)(t3 t4:Th):VlM ins rows j (nk s pl) t3 t4:=by
 obtain⟨s',BU,e,NO⟩:=hv;obtain⟨sn,row,i',p,q,x,l,rfl,hr,hp,hi,B0,e2,rfl,u0,y0,NP,Em⟩:=hL;have e3:=e.symm.trans e2;obtain⟨rfl,rfl⟩:=wv e3;exact⟨sn,q++BU,D?,.lnk (c:=(q,((s':Nat):Int),kid)) (x:=(BU,y0)) hr (WT hp) (cg.mpr (In.to B0)) NP Em (by rw[Xu];exact NO)⟩
theorem yb(hn:(f'.map (·.1)).Nodup){p:au×V}(h:f'[j]?=A? p)(hv:aH f' p.1=A? v):v=p.2:=by
 obtain⟨i,hi⟩:=Xi.mp (fk hv);have h1:(f'.map (·.1))[i]?=A? p.1:=by rw[WZ,hi];rfl
 have h2:(f'.map (·.1))[j]?=A? p.1:=by rw[WZ,h];rfl
 have F':i=j:=(List.getElem?_inj (by have:=(glE h1);exact this) hn).mp (h1.trans h2.symm);subst F';rw[h]at hi;have e:=Xp hi;rw[e]
theorem rV{s:Nat}{row:List Th}(h:rows[s]?=A? row):frS ins rows s=frF (mkF ins rows) (mkF ins rows (s:Nat)) row:=by
 unfold frS;rw[h];rfl
structure FrD(ins:List (Xk×Int))(rows:List (List Th))(ks:List au):Prop where
 hl:∀(s i:Nat)(row:List Th),rows[s]?=A? row->i<=row.length->∀x∈(frF (mkF ins rows) (mkF ins rows (s:Nat)) (row.take i)).pl [],x.2.isHole=C?->nk (s:Nat) x.1∈ks
 cl:∀(s:Nat)(row:List Th),rows[s]?=A? row->∀p∈row,∀c∈callsOf (p.pl []),∀u,(c.1,u)∈(frS ins rows s).pl []->∀x∈u.pl [],nk c.2.1 x.1∈ks->nk (s:Nat) (c.1++x.1)∈ks
theorem FrD.hol{ks:List au}(h:FrD ins rows ks)(s:Nat)(hs:s<rows.length):∀x∈(frS ins rows s).pl [],x.2.isHole=C?->nk (s:Nat) x.1∈ks:=λx hx hh=>by
 obtain⟨row,hr⟩:∃row,rows[s]?=A? row:=⟨_,WR hs⟩;rw[rV hr]at hx;exact h.hl s row.length row hr (WX _) x (by rw[YB];exact hx) hh
theorem FrD.met(F:FrK ins outs rows){ks:List au}(h:FrD ins rows ks){s:Nat}{pl:List Int}(m:Met ins rows s pl):nk (s:Nat) pl∈ks:=by
 induction m with
 |hol hr hi hx hh=>exact h.hl _ _ _ hr hi _ hx hh
 | lnk hr hp hc hu hx m ih =>
   rename_i s row p u c x
   refine h.cl _ _ hr _ hp _ hc _ hu _ hx ?_;obtain⟨j,hj⟩:=Xi.mp hp;have CC:=(F.fit.row row (WT hr)).1;obtain⟨k0,Cd⟩:∃k0,ins[j]?=A? k0:=⟨_,WR (by have:=(glE hj);lia)⟩;have:=gJ p [] ((F.fit.row row (WT hr)).2 j p k0 hj Cd) c hc;rw[Yc this.1]at ih;exact ih
def qN(ins:List (Xk×Int))(rows:List (List Th))(f':List (au×V)):Prop:=∀(s:Nat)(pl:List Int),Dk f' (s:Nat) pl=C?↔Met ins rows s pl
theorem ya(F:FrK ins outs rows)(h:FrD ins rows (f'.map (·.1)))(hv:∀p∈f',∃j t1 t2,VlM ins rows j p.1 t1 t2):qN ins rows f':=λs pl=>by
 constructor
 .intro hd;obtain⟨p,hp,e⟩:=Xl.mp (lX.mp hd);obtain⟨j,t1,t2,s',BU,e2,hm⟩:=hv p hp;have e3:=e2.symm.trans e;obtain⟨e4,rfl⟩:=wv e3;have:s'=s:=by lia
  subst this;exact hm
 .exactλm=>lX.mpr (h.met F m)
end BB
namespace L2
open PySem PySem.Spec PyProof.Rows
def xD(K:WQ)(a:WS):It:=⟨λi H=>∃xs x,SqL K H a xs/\xs[i]?=A? x,λi H x H'=>∃p y,H p=B?/\x=.ref p/\H'=upd H p (.tup [.int (i:Nat),y])/\∀xs,SqL K H a xs->xs[i]?=A? y,λi H=>∃xs,SqL K H a xs/\xs.length=i⟩
theorem rA{k1}(a e it:WS):Turn P w K (.Tuple elts k1 pos) (xD K a) [e,it] e (λi h=>(∃old,IsEnum h e it ((i:Nat):Int) old)/\h.IsListIter it a i) where
 mem:=by simp
 obj:=λi h st b hb=>by
  obtain⟨⟨old,he⟩,o,e1,e2,e3⟩:=st;rcases W7.mp hb with rfl|hb
  .exact⟨_,he,λv z=>by cases z⟩
  .have:b=it:=by simpa using hb
   subst this;exact⟨o,e1,λv z=>by rw[e3]at z;cases z⟩
 keep:=λi h h' st k=>by
  obtain⟨⟨old,he⟩,o,e1,e2⟩:=st;exact⟨⟨old,k e (by simp) _ he⟩,o,k it (by simp) _ e1,e2⟩
 item:=by
  intro X hP hw hK hc i Z s Y H E I hf st hg;subst hP hw hK;obtain⟨xs,x,hq,hx⟩:=hg;obtain⟨its,rv,p,hz⟩:=I.list hq;obtain⟨u,hu,ru⟩:=rv.get hx;obtain⟨⟨old,he⟩,hi⟩:=st
  have GG:e≠it:=by
   rintro rfl;obtain⟨o,e1,e2,_⟩:=hi;rw[he]at e1;cases e1;exact g! (YU e2) (by decide)
  have GH:a≠it:=by
   rintro rfl;obtain⟨o,e1,e2,_⟩:=hi;obtain⟨o',C5,B9,_⟩:=p.isList;rw[C5]at e1;cases e1;rw[B9]at e2;exact g! (YU e2) (by decide)
  have MW:a≠e:=by
   rintro rfl;obtain⟨o',C5,B9,_⟩:=p.isList;rw[he]at C5;cases C5;exact g! (YU B9) (by decide)
  have Ah:i<its.toArray.size:=by
   have:=(glE hu);simpa using this
  have MX:e<s.1.1.size:=Xa he;have C6:it<s.1.1.size:=by obtain⟨o,e1,_⟩:=hi;exact Xa e1
  refine wpAny_pyNext_enum_itemD (Draws.list (A:=X.A.in1) (show X.A.in1.handled=B? from I.ok.hd hc) it a GH its.toArray) he ⟨hi,p.isList⟩ Ah GG (by simp[GG,MW.symm]) λy h1 tk hy ho MY hT hsz hk=>?_
  have MZ:y=u:=by
   have:its[i]?=A? y:=by simpa using hy
   rw[hu]at this;exact(Xp this).symm
  subst MZ;refine⟨_,D?,wpAny_letOwnedTupleGo_enum ho λh2 M0 DC=>?_⟩;replace DC:YD e h1 h2:=DC
  have Ap:∀b∈[e,it],b<s.1.1.size:=λb hb=>by
   rcases W7.mp hb with rfl|hb
   .exact MX
   .have:b=it:=by simpa using hb
    subst this;exact C6
  have IZ:H s.1.1.size=none:=I.hok.fresh (WX _)
  have IA:Inv X Z Y (upd H s.1.1.size (.tup [.int (i:Nat),x])) {s with heap:=s.1.push {cls:=.type "tuple",data:=.seq #[.int (i:Nat) tk,y]},toks:=tk} :=
   I.laid (o:=.tup [.int (i:Nat),x]) (λb ob q=>WV _ q) (WX _) ⟨by show 2<=Xe;decide,[.int (i:Nat) tk,y],0,.cons ⟨tk,rfl⟩ (.cons ru .nil),W3 _ rfl⟩
  refine⟨.ref s.1.1.size,upd H s.1.1.size (.tup [.int (i:Nat),x]),?_,D?,⟨_,x,IZ,D?,D?,λys IV=>by rw[I.list_inj IV hq];exact hx⟩,⟨⟨y,by simpa using M0⟩,?_⟩,λb hb=>?_⟩
  .have IB:Inv X Z Y (upd H s.1.1.size (.tup [.int (i:Nat),x])) {s with heap:=h2,toks:=tk+1}:=by
    refine Inv.turnedL (s:={s with heap:=s.1.push {cls:=.type "tuple",data:=.seq #[.int (i:Nat) tk,y]},toks:=tk}) (h':=h2) (fp:=[e,it]) (t':=tk+1) IA (λb o hb q=>?_) λb hb=>?_
    .have Dz:b≠e:=λz=>hb (by simp[z]);have M1:b≠it:=λz=>hb (by simp[z]);rw[DC.2 b Dz];by_cases hb2:b=s.1.1.size
     .subst hb2;rw[hT];have q':(s.1.push {cls:=.type "tuple",data:=.seq #[.int (i:Nat) tk,y]}).get? s.1.1.size=A? o:=q;rw[W3 _ rfl]at q';exact q'
     .have Bg:b<(s.1.push {cls:=.type "tuple",data:=.seq #[.int (i:Nat) tk,y]}).objs.size:=Xa q;rw[X4]at Bg;refine hk b o Dz M1 ?_;have q':(s.1.push {cls:=.type "tuple",data:=.seq #[.int (i:Nat) tk,y]}).get? b=A? o:=q;rw[Heap.get?_push_ne _ _ _ hb2]at q';exact q'
    .obtain⟨f0,f1⟩:=hf b hb;exact⟨by rw[ag (XA (Ap b hb))];exact f0,f1⟩
   exact IB
  .obtain⟨o,e1,r⟩:=MY.1;exact⟨o,(DC.2 it (YT GG)).trans e1,r⟩
  .rw[ag (XA (Ap b hb))];exact(hf b hb).1
 done:=by
  intro X hP hw hK hc i Z s Y H E I hf st hg;subst hP hw hK;obtain⟨xs,hq,hx⟩:=hg;obtain⟨its,rv,p,hz⟩:=I.list hq;obtain⟨⟨old,he⟩,hi⟩:=st
  have GH:a≠it:=by
   rintro rfl;obtain⟨o,e1,e2,_⟩:=hi;obtain⟨o',C5,B9,_⟩:=p.isList;rw[C5]at e1;cases e1;rw[B9]at e2;exact g! (YU e2) (by decide)
  have hn:its.toArray.size=i:=by
   have:=rv.length;rw[W0];lia
  refine wpAny_pyNext_enum_endD (Draws.list (A:=X.A.in1) (show X.A.in1.handled=B? from I.ok.hd hc) it a GH its.toArray) he (by rw[hn];exact⟨hi,p.isList⟩) λh' eb=>⟨rfl,?_⟩;exact I.turnedL (fp:=[e,it]) (t':=s.toks) (λb o hb q=>eb b o (λz=>hb (by simp[z])) q) hf
 self:=λ_ _ _ _ _ st h=>by
  obtain⟨⟨old,he⟩,_⟩:=st;exact wpAny_pyIter_enum he h
section
variable{X:Cx}{p2 Ax:Z4}
def zF(K:WQ)(tl:TE):TI:=λY H R=>tl Y H λx H1=>∃a,x=.ref a/\(∃xs,SqL K H1 a xs)/\R (xD K a) H1
theorem lb{k1}(g2:Gl X "enumerate")(m2:X.mg "enumerate"=B?)(he:PE X e te)(h2:XH [e] X.env=[(CU,Y4 e X.env)]:=by rfl):PI X (.Tuple elts k1 pos) (.Call (.Name "enumerate" p2) [e] [] Ax) (zF X.K te):=by
 intro Z s Y H R I h;refine Yk (db I g2 m2 boot_enumerate (X1 ?_ h2 rfl));rw[h2];show W9 _ _ (spliced ((CU,Y4 e X.env)::[])) _ _ s;refine YK (thn (he Z s Y H _ I h) λu s1⟨x,H1,I1,r1,a,ex,⟨xs,hq⟩,q⟩=>Zh ?_);subst ex;cases r1;obtain⟨its,rv,p,hz⟩:=I1.list hq;refine call_enumerate_list (show s1.1.IsList a its.toArray from p.isList) λh' g1 g2 g3 g4=>?_;refine wpAny_pyIter_enum (s:={s1 with heap:=h'}) g1 ?_;refine⟨s1.1.1.size+1,[s1.1.1.size+1,s1.1.1.size],_,_,H1,D?,I1.kept (t':=s1.toks) g4,rA a _ _,⟨⟨_,g1⟩,g2⟩,λb hb=>?_,q⟩
 have AA:s1.1.1.size<=b:=by
  rcases W7.mp hb with rfl|hb
  .lia
  .have:b=s1.1.1.size:=by simpa using hb
   exact Nat.le_of_eq this.symm
 exact I1.fpOk AA (I1.hok.fresh AA)
end
theorem mQ(Pv:Nat->St->Hp->Prop)(h0:Pv 0 Y H)(hl:∀i Y H,i<=xs.length->Pv i Y H->SqL K H a xs)
 (hs:∀i x p Y H,xs[i]?=A? x->H p=B?->Pv i Y H->g (.ref p) Y (upd H p (.tup [.int (i:Nat),x])) λAv H2=>tb {D with nx:=Pv (i+1),ct:=Pv (i+1),bk:=D.nx} Av H2) (hd:∀Y H,Pv xs.length Y H->D.nx Y H) :
 ∃W:Nat->Nat->St->Hp->Prop,(∃m,W 0 m Y H)/\∀i m Y H,W i m Y H ->
   ((xD K a).stop i H/\D.nx Y H)\/((xD K a).go i H/\∃N:St->Hp->Prop,(∀Aa H',N Aa H'->∃m',m'<m/\W (i+1) m' Aa H')/\∀x H',(xD K a).yld i H x H'->g x Y H' λAv H2=>tb {D with nx:=N,ct:=N,bk:=D.nx} Av H2):=by
 refine⟨λi m Y H=>m=xs.length - i/\i<=xs.length/\Pv i Y H,⟨xs.length,by simp,Xh _,h0⟩,?_⟩;rintro i m Y H ⟨rfl,hi,p⟩;have q:=hl i Y H hi p;by_cases Ah:i<xs.length
 .refine .inr ⟨⟨xs,xs[i],q,by simp[Ah]⟩,Pv (i+1),λAa H' p'=>⟨xs.length - (i+1),by lia,rfl,Ah,p'⟩,λx H' y=>?_⟩;obtain⟨pa,y,hp,rfl,rfl,hy⟩:=y;exact hs i y pa Y H (hy xs q) hp p
 .have e:i=xs.length:=by lia
  subst e;exact .inl ⟨⟨xs,q,rfl⟩,hd Y H p⟩
section
variable{X:Cx}{o i:X6}{td ty:TE}
def zU(P:W6)(w:Xo)(H:Hp)(a:WS)(y v:V):Prop:=DGet H a y (A? v)\/∃(fl:Bool)(b:WS)(k:au)(f':List (au×V)),y=.ref b/\DM fl P w H a f'/\MKAt fl H k b/\aH f' k=A? v
def aas(P:W6)(w:Xo)(td ty:TE):TE:=λY H Q=>td Y H λx H1=>ty Y H1 λy H2=>∃a v,x=.ref a/\zU P w H2 a y v/\Q v H2
theorem wB(hu:X.A.units+2<YH)(ho:PE X o td)(hi:PE X i ty)(hs:yU i):PE X (.Subscript o i pos) (aas X.prog X.w td ty):=by
 intro Z s Y H Q I h;refine oh PySem.F.slot_dict_getitem.lookup hs (thn (ho Z s Y H _ I h) λu s1⟨x,H1,I1,rx,q1⟩=>thn (hi Z s1 Y H1 _ I1 q1) λiv s2⟨y,H2,I2,ry,a,v,ex,g,q⟩=>?_);subst ex;obtain rfl:u=Xm a:=rx;rcases g with g|⟨fl,b,k,f',rfl,hd,hk,hv⟩
 .exact⟨j7 I2 g,nB (Nat.lt_of_succ_lt hu) I2 g ry λw' s3 I3 Cm=>⟨v,H2,I3,Cm,q⟩⟩
 obtain rfl:iv=Xm b:=ry;obtain⟨_,_,xs,φ,ea,rel,dd⟩:=i5 I2.hok hd;obtain⟨w',hw,Cm⟩:=RelO.some_of (v:=v) (o:=(atKey xs k).map (·.2)) (by rw[<-hv];exact KTm.val rel k);obtain⟨p,hp,BL⟩:=XD.mp hw;refine⟨dd.typeIs,wpAny_getItem_heap (knd:=bZ fl X.prog X.w) (show X.A.units+1+1<YH from hu) (eL I2.hok hk) dd hp ?_⟩;rw[BL];exact⟨v,H2,I2.tok _,Cm,q⟩
end
open BB
open PySem.Calls
abbrev cL(z:List (Int×Nat×Z4)×Z4):X6:=.List (z.1.map cI) z.2
def xB(zs:List Int):TA:=λ_ H Q=>Q (zs.map q!) H
theorem ue{X:Cx}:∀(zs:List (Int×Nat×Z4)),PA X (zs.map cI) (xB (zs.map (·.1)))
 | []=>ab
 | z::zs=>by
   have h:PA X (cI z::zs.map cI) (aJ (tC (.int z.1)) (xB (zs.map (·.1)))):=aa (X:=X) ai (ue zs) rfl;exact h
def uG:List (List Int)->TA
 | []=>cN
 |z::zs=>aJ (xp (xB z)) (uG zs)
theorem wO{X:Cx}:∀(zs:List (List (Int×Nat×Z4)×Z4)),PA X (zs.map cL) (uG (zs.map λz=>z.1.map (·.1)))
 | []=>ab
 |z::zs=>aa (X:=X) (bw (ue z.1)) (wO zs) rfl
theorem aan{X:Cx}(zs:List (List (Int×Nat×Z4)×Z4)):PE X (.List (zs.map cL) pos) (xp (uG (zs.map λz=>z.1.map (·.1)))):=bw (wO zs)
theorem nK{X:Cx}{i:Nat}{x:Xk}{p0 p1 p2 p3:Z4}{e:X6}{te:TE}(zs:List (List (Int×Nat×Z4)×Z4))(hN:X.N.Nodup)(hi:X.N[i]?=A? x)(hx:Loc X.env.scope x)(hf:X.fn x=C?\/X.env.scope.names.lookup x=A? .local)(he:PE X e te)(hs:um e) :
 PS X (.Assign [.Name x p0] (.Subscript (.List (zs.map cL) p1) e p2) p3) (xh (tOp (xl X.K) (xp (uG (zs.map λz=>z.1.map (·.1)))) te) (av i)):=wx hN hi hx (aY bv (aan zs) he hs) rfl hf
theorem pD:∀(zs:List (List Int))(Y:St)(H:Hp)(Q:List V->Hp->Prop),(∀z∈zs,z.length<=1000)->(∀(as:List WS)(H':Hp),k! H H'->Xs (λz a=>H' a=A? (.lst (z.map q!))) zs as->Q (as.map i!) H')->uG zs Y H Q
 | [],Y,H,Q,_,q=>q [] H (.refl _) .nil
 | z::zs,Y,H,Q,hz,q=>by
   have hl:=hz z (Xd ..);refine⟨de (by rw[WO];lia),λp hp=>?_⟩;refine gU hp λH1 s1 e1=>?_;refine pD zs Y H1 _ (λy hy=>hz y (W8 _ hy)) λas H' s2 h2=>?_;exact q (p::as) H' (s1.trans s2) (.cons (s2 _ _ e1) h2)
theorem jQ{zs:List (List Int)}{Q:VK}(hz:∀z∈zs,z.length<=1000)(hl:zs.length<=1000)(q:∀(D:WS)(as:List WS)(H1:Hp),k! H H1->H1 D=A? (.lst (as.map i!))->Xs (λz a=>H1 a=A? (.lst (z.map q!))) zs as->te Y H1 λy H2=>xl K (.ref D) y H2 Q):tOp (xl K) (xp (uG zs)) te Y H Q:=by
 refine pD zs Y H _ hz λas H1 s1 h1=>⟨de (by rw[WO,<-W4 h1];lia),λp hp=>?_⟩;exact q p as _ (s1.trans (ae hp _)) ac (y! (λ_ _ e=>(ae hp _) _ _ e) h1)
end L2
namespace BB
open PySem L2
mutual
def Th.nh:Th->Nat
 |.knot n ks=>if(n! n ks).isHole=C? then 1 else nhs ks
 |.call _ _=>0
def nhs:List Th->Nat
 | []=>0
 |t::ts=>t.nh+nhs ts
end
mutual
def Th.hg(g:Nat->Th):Th->Nat->Th
 |.knot n ks,i=>if(n! n ks).isHole=C? then g i else .knot n (hgs g ks i)
 |.call s k,_=>.call s k
def hgs(g:Nat->Th):List Th->Nat->List Th
 | [],_=>[]
 |t::ts,i=>t.hg g i::hgs g ts (i+t.nh)
end
theorem iS(g:Nat->Th):∀(ts:List Th)(i:Nat),(hgs g ts i).length=ts.length
 | [],i=>by rw[hgs]
 |t::ts,i=>by rw[hgs,W2,W2,iS g ts]
theorem gK{n:Xk}{ks us:List Th}(hl:ks.length=us.length)(hh:(n! n ks).isHole=CU)(h:aF ks us=C?):(n! n ks).lies (.knot n us)=true:=by
 rw[x!,fG hh hl,show(n! n us).kids=us from rfl,h,Bool.or_comm];rfl
theorem ck{t:Th}(h:f.isHole=C?):f.lies t=true:=by rw[kG h];exact dX _
mutual
theorem fQ(g:Nat->Th):∀(f:Th)(i:Nat),f.noCall->f.lies (f.hg g i)=C?
 | .knot n ks,i,h=>by
   cases hh:(n! n ks).isHole with
   |true=>exact ck hh
   | false =>
     rw[Th.hg,a! (by rw[hh];exact W5)];exact gK (iS ..).symm hh (pG g ks i h)
 |.call s k,i,h=>by rw[w!]at h;exact h.elim
theorem pG(g:Nat->Th):∀(fs:List Th)(i:Nat),aK fs->aF fs (hgs g fs i)=C?
 | [],i,h=>by rw[aF]
 | f::fs,i,h=>by
   rw[aK]at h;rw[hgs,aF,fQ g f i h.1,pG g fs _ h.2];rfl
end
mutual
theorem lh:∀(pre:List Int)(f t:Th),f.lies t=C?->(f.hw pre t).length=f.nh
 | pre,.knot n ks,t,h=>by
   rcases ba h with hh|⟨n',EK,us,e1,rfl,e3,hh,_,hl⟩
   .rw[dF hh,Th.nh,b! hh];rfl
   .cases e1;rw[Th.hw,Th.nh,a! (by rw[hh];exact W5),a! (by rw[hh];exact W5)];exact wP pre 0 ks us e3 hl
 |pre,.call s k,t,h=>by rw[x!]at h;cases h
theorem wP:∀(pre:List Int)(i:Int)(ks us:List Th),ks.length=us.length->aF ks us=C?->(hws pre i ks us).length=nhs ks
 |pre,i,[],us,_,_=>by rw[hws,nhs];rfl
 |pre,i,k::ks,[],e,_=>by simp at e
 | pre,i,k::ks,u::us,e,h=>by
   rw[aR,XT]at h;rw[hws,Xg,nhs,lh _ k u h.1,wP pre (i+1) ks us (by simpa using e) h.2]
end
mutual
theorem wF(g:Nat->Th):∀(pre:List Int)(f:Th)(i:Nat),f.noCall->(f.hw pre (f.hg g i)).map (·.2)=(List.range' i f.nh).map g
 | pre,.knot n ks,i,h=>by
   cases hh:(n! n ks).isHole with
   | true =>
     rw[dF hh,Th.hg,Th.nh,b! hh,b! hh];rfl
   | false =>
     rw[Th.hg,Th.nh,a! (by rw[hh];exact W5),a! (by rw[hh];exact W5),Th.hw,a! (by rw[hh];exact W5)];exact wN g pre 0 ks i h
 |pre,.call s k,i,h=>by rw[w!]at h;exact h.elim
theorem wN(g:Nat->Th):∀(pre:List Int)(c:Int)(fs:List Th)(i:Nat),aK fs->(hws pre c fs (hgs g fs i)).map (·.2)=(List.range' i (nhs fs)).map g
 |pre,c,[],i,h=>by rw[hws,nhs];rfl
 | pre,c,f::fs,i,h=>by
   rw[aK]at h;rw[hgs,hws,nhs,Xb,wF g _ f i h.1,wN g pre (c+1) fs (i+f.nh) h.2,<-Xb,List.range'_append_1]
end
mutual
theorem ut(H:Int->Int->Th):∀(pre:List Int)(f t:Th),f.lies t=C?->f.hw pre (t.fill H)=(f.hw pre t).map λx=>(x.1,x.2.fill H)
 | pre,.knot n ks,t,h=>by
   rcases ba h with hh|⟨n',EK,us,e1,rfl,e3,hh,_,hl⟩
   .rw[dF hh,dF hh];rfl
   .cases e1;rw[v!,Th.hw,Th.hw,a! (by rw[hh];exact W5),a! (by rw[hh];exact W5)];exact pE H pre 0 ks us e3 hl
 |pre,.call s k,t,h=>by rw[x!]at h;cases h
theorem pE(H:Int->Int->Th):∀(pre:List Int)(i:Int)(ks us:List Th),ks.length=us.length->aF ks us=C?->hws pre i ks (fills H us)=(hws pre i ks us).map λx=>(x.1,x.2.fill H)
 |pre,i,[],us,_,_=>by rw[hws,hws];rfl
 |pre,i,k::ks,[],e,_=>by simp at e
 | pre,i,k::ks,u::us,e,h=>by
   rw[aR,XT]at h;rw[fills,hws,hws,Xb,ut H _ k u h.1,pE H pre (i+1) ks us (by simpa using e) h.2]
end
mutual
theorem jw(H:Int->Int->Th):∀(f t:Th),f.lies t=C?->f.lies (t.fill H)=C?
 | .knot n ks,t,h=>by
   rcases ba h with hh|⟨n',EK,us,e1,rfl,e3,hh,_,hl⟩
   .exact ck hh
   .cases e1;rw[v!];exact gK (by rw[cM,WO];exact e3) hh (kM H ks us hl)
 |.call s k,t,h=>by rw[x!]at h;cases h
theorem kM(H:Int->Int->Th):∀(ks us:List Th),aF ks us=C?->aF ks (fills H us)=C?
 | [],us,_=>by rw[aF]
 |k::ks,[],_=>by rw[fills,aF]
 | k::ks,u::us,h=>by
   rw[aR,XT]at h;rw[fills,aR,jw H k u h.1,kM H ks us h.2];rfl
end
mutual
theorem kU:∀(f a b:Th),f.lies a=C?->a.lies b=C?->f.lies b=C?
 | .knot n ks,a,b,h,g=>by
   rcases ba h with hh|⟨n',EK,us,e1,rfl,e3,hh,_,hl⟩
   .exact ck hh
   .cases e1;rcases ba g with gh|⟨n',NL,vs,e1,rfl,e4,gh,_,gl⟩
    .rw[A!,decide_eq_true_iff]at gh;rw[A!,decide_eq_false_iff_not]at hh;exact g! ⟨gh.1,XZ.mp (by rw[e3,gh.2];rfl)⟩ hh
    .cases e1;exact gK (e3.trans e4) hh (jL ks us vs e3 e4 hl gl)
 |.call s k,a,b,h,g=>by rw[x!]at h;cases h
theorem jL:∀(fs as bs:List Th),fs.length=as.length->as.length=bs.length->aF fs as=C?->aF as bs=C?->aF fs bs=C?
 | [],as,bs,_,_,_,_=>by rw[aF]
 |f::fs,[],bs,e,_,_,_=>by simp at e
 |f::fs,a::as,[],_,e,_,_=>by simp at e
 | f::fs,a::as,b::bs,e1,e2,h,g=>by
   rw[aR,XT]at h g;rw[aR,kU f a b h.1 g.1,jL fs as bs (by simpa using e1) (by simpa using e2) h.2 g.2];rfl
end
mutual
theorem jb{A B:Int->Int->Th}(JE:∀s k,0<=s->s<S->0<=k->k<C->(A s k).lies (B s k)=C?):∀(p f:Th),p.FitS Dd S C->f.lies (p.fill A)=C?->f.lies (p.fill B)=C?
 | .call s k,f,hp,h=>by
   rw[r!]at hp;rw[v!]at h |-;exact kU _ _ _ h (JE s k hp.1 hp.2.1 hp.2.2.1 hp.2.2.2)
 | .knot m ps,f,hp,h=>by
   rw[r!]at hp;rw[v!]at h |-;rcases ba h with hh|⟨n',ks,us,rfl,e2,e3,hh,_,hl⟩
   .exact ck hh
   .cases e2;exact gK (by rw[e3,cM,cM,WO,WO]) hh (lT JE ps ks hp.2 hl)
theorem lT{A B:Int->Int->Th}(JE:∀s k,0<=s->s<S->0<=k->k<C->(A s k).lies (B s k)=C?):∀(ps fs:List Th),FitSs Dd S C ps->aF fs (fills A ps)=C?->aF fs (fills B ps)=C?
 | [],fs,hp,h=>by rw[fills]at h |-;exact h
 |p::ps,[],hp,h=>by rw[aF]
 | p::ps,f::fs,hp,h=>by
   rw[FitSs]at hp;rw[fills,aR,XT]at h;rw[fills,aR,jb JE p f hp.1 h.1,lT JE ps fs hp.2 h.2];rfl
end
mutual
theorem xu:∀(pre:List Int)(f t:Th),∀x∈f.hw pre t,∃r,x.1=pre++r/\t.sub r=A? x.2
 | pre,.knot n ks,t,x,hx=>by
   rw[Th.hw]at hx;by_cases hh:(n! n ks).isHole=C?
   .rw[b! hh]at hx;rw[Xc.mp hx];exact⟨[],(XC _).symm,eN t⟩
   .rw[a! hh]at hx;obtain⟨j,u,r,h1,h2,h3⟩:=sZ pre 0 ks t.kids x hx;rw[Ym]at h2;exact⟨_,h2,by rw[qh (Int.natCast_nonneg j) (by rw[Xu];exact h1)];exact h3⟩
 |pre,.call s k,t,x,hx=>by rw[Th.hw]at hx;cases hx
theorem sZ:∀(pre:List Int)(i:Int)(ks us:List Th),∀x∈hws pre i ks us,∃(j:Nat)(u:Th)(r:List Int),us[j]?=A? u/\x.1=pre++((i+(j:Int))::r)/\u.sub r=A? x.2
 |pre,i,[],us,x,hx=>by rw[hws]at hx;cases hx
 |pre,i,k::ks,[],x,hx=>by rw[hws]at hx;cases hx
 | pre,i,k::ks,u::us,x,hx=>by
   rw[hws]at hx;rcases Xz.mp hx with hx|hx
   .obtain⟨r,h1,h2⟩:=xu (pre++[i]) k u x hx;exact⟨0,u,r,D?,by rw[h1,XG];simp,h2⟩
   .obtain⟨j,v,r,h1,h2,h3⟩:=sZ pre (i+1) ks us x hx;exact⟨j+1,v,r,by simpa using h1,by rw[h2,show i+((j+1:Nat):Int)=i+1+(j:Int)by lia],h3⟩
end
theorem tw:∀{ts:List Th}{t:Th},t∈ts->t.kn<=kns ts/\cnT t<=bY ts
 | u::ts,t,h=>by
   rw[kns,bY];rcases W7.mp h with rfl|h
   .lia
   .have:=tw h;lia
theorem nb:∀{r:List Int}{t u:Th},t.sub r=A? u->Small t->Small u
 | [],t,u,h,hs=>by
   rw[eN]at h;cases h;exact hs
 | i::r,t,u,h,hs=>by
   obtain⟨h0,w,hw,h⟩:=oX h;have hm:=WT hw;have h1:=tw hm;have h2:=y9 t;have h3:=za t;have h4:=t.tall_eq;have h5:=cA hm;obtain⟨a,b,c⟩:=hs;exact nb h ⟨by lia,by lia,by lia⟩
def hgF(F:Nat->Th)(l k:Int):Th:=(F l.toNat).hg (λj=>.call (enc l (j:Nat)) k) 0
mutual
theorem sQ{g:Nat->Th}(hg:∀j,(g j).size<=1/\(g j).tall<=1):∀(f:Th)(i:Nat),(f.hg g i).size<=f.size/\(f.hg g i).tall<=f.tall
 | .knot n ks,i=>by
   rw[Th.hg];by_cases hh:(n! n ks).isHole=C?
   .rw[b! hh];have:=hg i;have:=(n! n ks).size_pos;rw[u!];lia
   .rw[a! hh,p!,p!,u!,u!];have:=rb hg ks i;lia
 |.call s k,i=>⟨WX _,WX _⟩
theorem rb{g:Nat->Th}(hg:∀j,(g j).size<=1/\(g j).tall<=1):∀(fs:List Th)(i:Nat),ak (hgs g fs i)<=ak fs/\aI (hgs g fs i)<=aI fs
 | [],i=>⟨WX _,WX _⟩
 | f::fs,i=>by
   rw[hgs,ak,ak,aI,aI];have h1:=sQ hg f i;have h2:=rb hg fs (i+f.nh);lia
end
theorem iL(F:Nat->Th)(l k:Int):(hgF F l k).size<=(F l.toNat).size/\(hgF F l k).tall<=(F l.toNat).tall:=sQ (λj=>by rw[p!,u!];decide) _ _
mutual
theorem oz(f:Int->Int->Th):∀t:Th,t.size<=(t.fill f).size
 | .call s k=>by
   have:=(f s k).size_pos;rw[v!,p!];lia
 | .knot n ks=>by
   have:=pP f ks;rw[v!,p!,p!];lia
theorem pP(f:Int->Int->Th):∀ts:List Th,ak ts<=ak (fills f ts)
 | []=>by rw[fills];exact WX _
 | t::ts=>by
   have h1:=oz f t;have h2:=pP f ts;rw[fills,ak,ak];lia
end
def eaP(F:Nat->Th)(p:Th):Th:=p.fill (hgF F)
def eaU(F:Nat->Th)(x:Int)(p:Th):Th:=(((F (x / 1000).toNat).hw [] (eaP F p))[(x%1000).toNat]?.map (·.2)).getD hole
def eaR(F:Nat->Th)(rows:List (List Th))(x:Int):List Th:=(rowOf rows (x / 1000)).map (eaU F x)
structure EaOk(ins outs:List (Xk×Int))(F:Nat->Th)(head:Th)(rows:List (List Th)):Prop where
 gi:cz ins
 fit:yy ins outs (rows.length:Nat) rows
 hd:head.FitS outs (rows.length:Nat) 1
 fr:∀s,s<rows.length->(F s).noCall/\(F s).size<=200/\(F s).tall<=100
 clo:∀(s:Nat)(row:List Th)(p:Th),rows[s]?=A? row->p∈row->(F s).lies (p.fill λl _=>F l.toNat)=C?
 smH:Small (eaP F head)
 smR:∀row∈rows,∀p∈row,Small (eaP F p)
 many:((XF rows.length).map λs=>(F s).nh).sum<=20
def mH(F:Nat->Th)(N:Nat)(x:Int):Prop:=0<=x / 1000/\(x / 1000).toNat<N/\(x%1000).toNat<(F (x / 1000).toNat).nh
section
variable{F:Nat->Th}
theorem xj:∀{l:List Nat}{s:Nat}(f:Nat->Nat),s∈l->f s<=(l.map f).sum
 | x::l,s,f,h=>by
   rw[Xr,List.sum_cons];rcases W7.mp h with rfl|h
   .lia
   .have:=xj f h;lia
theorem EaOk.nh(J:EaOk ins outs F head rows){s:Nat}(hs:s<rows.length):(F s).nh<=20:=Xw (xj (λs=>(F s).nh) (YR.mpr hs)) J.many
theorem kD{l:Int}(hj:j<1000):enc l (j:Nat) / 1000=l/\(enc l (j:Nat)%1000).toNat=j:=by
 unfold enc;lia
mutual
theorem zo{g:Nat->Th}{q:Int->Prop}:∀(f:Th)(i:Nat),f.noCall->(∀j,i<=j->j<i+f.nh->∀x∈stT (g j),q x)->∀x∈stT (f.hg g i),q x
 | .knot n ks,i,h,hq,x,hx=>by
   rw[Th.hg]at hx;rw[Th.nh]at hq;by_cases hh:(n! n ks).isHole=C?
   .rw[b! hh]at hx hq;exact hq i (WX _) (by lia) x hx
   .rw[a! hh]at hx hq;rw[dw]at hx;exact wE ks i h hq x hx
 |.call s k,i,h,_,x,hx=>by rw[w!]at h;exact h.elim
theorem wE{g:Nat->Th}{q:Int->Prop}:∀(fs:List Th)(i:Nat),aK fs->(∀j,i<=j->j<i+nhs fs->∀x∈stT (g j),q x)->∀x∈bC (hgs g fs i),q x
 | [],i,h,_,x,hx=>by rw[hgs]at hx;cases hx
 | f::fs,i,h,hq,x,hx=>by
   rw[aK]at h;rw[nhs]at hq;rw[hgs]at hx;have AV:x∈stT (f.hg g i)++bC (hgs g fs (i+f.nh)):=hx;rcases Xz.mp AV with hx|hx
   .exact zo f i h.1 (λj h1 h2=>hq j h1 (by lia)) x hx
   .exact wE fs _ h.2 (λj h1 h2=>hq j (by lia) (by lia)) x hx
end
theorem EaOk.st(J:EaOk ins outs F head rows)(hp:p.FitS outs (rows.length:Nat) C):∀x∈stT (eaP F p),mH F rows.length x:=by
 refine tS (hgF F) (λs c h0 h1 _ _ x hx=>?_) p hp;have hs:s.toNat<rows.length:=by lia
 have hn:=J.nh hs;refine zo (F s.toNat) 0 (J.fr _ hs).1 (λj _ hj y hy=>?_) x hx;rw[fc,Xc]at hy;obtain⟨e1,e2⟩:=kD (l:=s) (j:=j) (by lia);rw[hy];exact⟨by rw[e1];exact h0,by rw[e1];exact hs,by rw[e1,e2];lia⟩
theorem EaOk.row(J:EaOk ins outs F head rows){x:Int}(hx:mH F rows.length x):∃row,rows[(x / 1000).toNat]?=A? row/\rowOf rows (x / 1000)=row/\row.length=ins.length/\∀p∈row,∃C,p.FitS outs (rows.length:Nat) C/\C<=3:=by
 obtain⟨row,h1,h2,h3,_⟩:=m8 J.fit hx.1 (by have:=hx.2.1;lia);refine⟨row,h1,h2,h3,λp hp=>?_⟩;obtain⟨j,hj⟩:=Xi.mp hp;obtain⟨k,hk⟩:∃k,ins[j]?=A? k:=⟨_,WR (by have:=(glE hj);lia)⟩;exact⟨k.2,(J.fit.row row (WT h1)).2 j p k hj hk,(J.gi.num k (WT hk)).2⟩
theorem EaOk.lies(J:EaOk ins outs F head rows){s:Nat}{row:List Th}(hr:rows[s]?=A? row)(hp:p∈row)(hf:p.FitS outs (rows.length:Nat) C):(F s).lies (eaP F p)=true:=by
 refine jb (λl k h0 h1 _ _=>?_) p (F s) hf (J.clo s row p hr hp);exact fQ _ _ _ (J.fr _ (by lia)).1
theorem EaOk.at(J:EaOk ins outs F head rows){x:Int}(hx:mH F rows.length x){row:List Th}(hr:rows[(x / 1000).toNat]?=A? row)(hp:p∈row):∃pl,(F (x / 1000).toNat).hw [] (eaP F p)≠[]/\((F (x / 1000).toNat).hw [] (eaP F p))[(x%1000).toNat]?=A? (pl,eaU F x p)/\(eaP F p).sub pl=A? (eaU F x p)/\Small (eaU F x p):=by
 obtain⟨AJ,AL,_,_,hf⟩:=J.row hx;rw[hr]at AL;cases AL;obtain⟨C,hC,_⟩:=hf p hp;have hl:=J.lies hr hp hC;have hn:=lh [] _ _ hl;have Ah:(x%1000).toNat<((F (x / 1000).toNat).hw [] (eaP F p)).length:=by rw[hn];exact hx.2.2
 obtain⟨y,hy⟩:∃y,((F (x / 1000).toNat).hw [] (eaP F p))[(x%1000).toNat]?=A? y:=⟨_,WR Ah⟩
 have e:eaU F x p=y.2:=by
  unfold eaU;rw[hy];rfl
 obtain⟨r,h1,h2⟩:=xu [] _ _ y (WT hy);rw[Y0]at h1;rw[<-h1]at h2;refine⟨y.1,List.ne_nil_of_length_pos (by lia),by rw[hy,e],by rw[e];exact h2,?_⟩;rw[e];exact nb h2 (J.smR row (WT hr) p hp)
theorem wq:∀{r:List Int}{t u:Th},t.sub r=A? u->∀x∈stT u,x∈stT t
 | [],t,u,h,x,hx=>by
   rw[eN]at h;cases h;exact hx
 | i::r,t,u,h,x,hx=>by
   obtain⟨h0,w,hw,h⟩:=oX h;have:=wq h x hx;cases t with
   |call s k=>cases hw
   |knot n ks=>rw[dw];exact rf (WT hw) this
theorem EaOk.stR(J:EaOk ins outs F head rows){x:Int}(hx:mH F rows.length x):∀y∈bC (eaR F rows x),mH F rows.length y:=λy hy=>by
 obtain⟨t,ht,hy⟩:=List.mem_flatMap.mp hy;obtain⟨p,hp,rfl⟩:=Xl.mp ht;obtain⟨row,hr,e,_,hf⟩:=J.row hx;rw[e]at hp;obtain⟨pl,_,_,h3,_⟩:=J.at hx hr hp;obtain⟨C,hC,_⟩:=hf p hp;exact J.st hC y (wq h3 y hy)
theorem EaOk.met(J:EaOk ins outs F head rows):∀x∈aV (eaR F rows) (eaP F head),mH F rows.length x :=
 vm _ (mH F rows.length) (λs hs x hx=>J.stR hs x hx) _ _ _ λx hx=>(cr.mp hx).elim (λz=>by cases z) (J.st J.hd x)
def eaA(F:Nat->Th)(N:Nat):List Int:=(XF N).flatMap λs=>(XF (F s).nh).map λj=>enc (s:Nat) (j:Nat)
theorem xq[DecidableEq α]:∀{l m:List α},l.Nodup->(∀x∈l,x∈m)->l.length<=m.length
 | [],m,_,_=>Xh _
 | a::l,m,h,hs=>by
   have ha:=hs a (Xd ..);have h1:=xq (l:=l) (m:=m.erase a) (ZN.mp h).2 λx hx=>(List.mem_erase_of_ne (λz=>(ZN.mp h).1 (by rw[<-z];exact hx))).mpr (hs x (W8 _ hx));rw[List.length_erase_of_mem ha]at h1;have:=List.length_pos_of_mem ha;rw[W2];lia
theorem EaOk.len(J:EaOk ins outs F head rows):(aV (eaR F rows) (eaP F head)).length<=20:=by
 have h:=xq (m:=eaA F rows.length) (oO _ _) λx hx=>by
  obtain⟨h0,h1,h2⟩:=J.met x hx;refine List.mem_flatMap.mpr ⟨(x / 1000).toNat,YR.mpr h1,Xl.mpr ⟨(x%1000).toNat,YR.mpr h2,?_⟩⟩;unfold enc;lia
 refine Xw h (Xw (Nat.le_of_eq ?_) J.many);unfold eaA;rw[List.length_flatMap];congr 1;exact Zd λs _=>by rw[WO,Xj]
theorem EaOk.small(J:EaOk ins outs F head rows){x:Int}(hx:mH F rows.length x):(eaR F rows x).length<=8/\∀t∈eaR F rows x,Small t:=by
 obtain⟨row,hr,e,hl,_⟩:=J.row hx;unfold eaR;rw[e];refine⟨by rw[WO,hl];exact J.gi.le,λt ht=>?_⟩;obtain⟨p,hp,rfl⟩:=Xl.mp ht;obtain⟨_,_,_,_,h⟩:=J.at hx hr hp;exact h
end
end BB
namespace L2
open PySem
theorem abw{X:Cx}{y z u:Xk}{e:WS}(h1:X.env.cells.lookup y=A? c)(h2:X.fn y=C?)(h3:X.env.kindOf y=A? .cell)(g1:X.env.cells.lookup z=A? d)(g2:X.fn z=C?)(g3:X.env.kindOf z=A? .cell)(k1:X.env.cells.lookup u=A? e)(k2:X.fn u=C?)(k3:X.env.kindOf u=A? .cell):iR X [(y,c),(z,d),(u,e)]:=by
 have h:=abJ h1 h2 h3 g1 g2 g3;have k:=abm k1 k2 k3;have hm:∀{p:Xk×WS},p∈[(y,c),(z,d),(u,e)]->p∈[(y,c),(z,d)]\/p∈[(u,e)]:=λhp=>Xz.mp (by exact hp);exact⟨λa b hp=>(hm hp).elim (h.1 a b) (k.1 a b),λa b hp=>(hm hp).elim (h.2 a b) (k.2 a b),λa b hp=>(hm hp).elim (h.3 a b) (k.3 a b)⟩
theorem aag(nd:(cl.map (·.2)).Nodup){y:Xk}(h1:cl.lookup x=A? c)(h2:cl.lookup y=A? c):x=y:=by
 obtain⟨i,hi⟩:=Xi.mp (Yj h1);obtain⟨j,hj⟩:=Xi.mp (Yj h2);have e:(cl.map (·.2))[i]?=(cl.map (·.2))[j]?:=by rw[WZ,WZ,hi,hj];rfl
 have:=(List.getElem?_inj (by rw[WO];exact(glE hi)) nd).mp e;subst this;rw[hi]at hj;cases hj;rfl
theorem pw{S:List WS}(hx:Exts S H)(e:H b=A? o)(hn:∀φ,o≠.ext φ):fgt S H b=A? o:=by
 rw[bN λz=>?_]
 .exact e
 .obtain⟨φ,h⟩:=hx b z;rw[h]at e;cases e;exact hn φ rfl
end L2
namespace BB
open PySem L2
mutual
def Th.lf:Th->Nat
 |.knot _ ks=>max 1 (lfs ks)
 |.call _ _=>1
def lfs:List Th->Nat
 | []=>0
 |t::ts=>t.lf+lfs ts
end
def szB(W:Nat):Nat->Nat
 |0=>1
 |n+1=>1+W * szB W n
theorem tL(W n:Nat):1<=szB W n:=by cases n <;> unfold szB <;> lia
structure PB(outs:List (Xk×Int))(S k:Int)(W d:Nat)(t:Th):Prop where
 fit:t.FitS outs S k
 tall:t.tall<=d+1
 lf:t.lf<=W ^ d
 sz:t.size<=szB W d
theorem tR:∀{ts:List Th},(∀t∈ts,t.lf<=B)->lfs ts<=ts.length * B
 | [],_=>Xh _
 | t::ts,h=>by
   have h1:=h t (Xd ..);have h2:=tR (ts:=ts) λu hu=>h u (W8 _ hu);rw[lfs,W2,Nat.succ_mul];lia
theorem mN:∀{ts:List Th},(∀t∈ts,t.size<=B)->ak ts<=ts.length * B
 | [],_=>Xh _
 | t::ts,h=>by
   have h1:=h t (Xd ..);have h2:=mN (ts:=ts) λu hu=>h u (W8 _ hu);rw[ak,W2,Nat.succ_mul];lia
theorem PB.call{k s c:Int}{d:Nat}(hW:1<=W)(h:(z! s c).FitS outs S k):PB outs S k W d (.call s c) :=
 ⟨h,by rw[u!];lia,by rw[Th.lf];exact Nat.pow_pos hW,by rw[p!];exact tL _ _⟩
theorem PB.over{k:Int}{d:Nat}(hW:1<=W){n:Xk}(hm:(n,(ts.length:Int))∈outs)(hl:ts.length<=W)(h:∀t∈ts,PB outs S k W d t):PB outs S k W (d+1) (.knot n ts):=by
 have hp:1<=W ^ d:=Nat.pow_pos hW;have h1:=tR λt ht=>(h t ht).lf;have h2:=mN λt ht=>(h t ht).sz;have h3:ts.length * W ^ d<=W * W ^ d:=YQ _ hl;have h4:ts.length * szB W d<=W * szB W d:=YQ _ hl;have h5:1 * 1<=W * W ^ d:=Nat.mul_le_mul hW hp;have h6:=mS λt ht=>(h t ht).tall;refine⟨by rw[r!];exact⟨hm,FitSs.of λt ht=>(h t ht).fit⟩,by rw[u!];lia,?_,?_⟩
 .rw[Th.lf,Nat.pow_succ,Nat.mul_comm];lia
 .rw[p!,szB];lia
theorem PB.leaf{k:Int}(d:Nat)(hW:1<=W){n:Xk}(hm:(n,(0:Int))∈outs):PB outs S k W d (.knot n []) :=
 ⟨by rw[r!];exact⟨hm,by rw[FitSs];trivial⟩,by rw[u!,aI];lia,by rw[Th.lf,lfs];exact Nat.pow_pos hW,by rw[p!,ak];exact tL _ _⟩
theorem aah(hW:1<=W)(n:Nat):szB W n<=szB W (n+1):=by
 rw[show szB W (n+1)=1+W * szB W n from rfl];have:1 * szB W n<=W * szB W n:=YQ _ hW;lia
mutual
theorem oH{ks:List (Xk×Int)}(hS:S<=S')(hC:C<=C'):∀t:Th,t.FitS ks S C->t.FitS ks S' C'
 |.call s k,h=>by rw[r!]at h |-;lia
 |.knot n ts,h=>by rw[r!]at h |-;exact⟨h.1,qR hS hC ts h.2⟩
theorem qR{ks:List (Xk×Int)}(hS:S<=S')(hC:C<=C'):∀ts:List Th,FitSs ks S C ts->FitSs ks S' C' ts
 | [],_=>by rw[FitSs];trivial
 |t::ts,h=>by rw[FitSs]at h |-;exact⟨oH hS hC t h.1,qR hS hC ts h.2⟩
end
theorem PB.up{k k':Int}{d:Nat}{t:Th}(hW:1<=W)(hS:S<=S')(hk:k<=k')(h:PB outs S k W d t):PB outs S' k' W (d+1) t :=
 ⟨oH hS hk t h.fit,Nat.le_succ_of_le h.tall,Xw h.lf (Nat.pow_le_pow_right hW (Nat.le_succ _)),Xw h.sz (aah hW _)⟩
theorem PB.wide{k k':Int}{d:Nat}{t:Th}(hS:S<=S')(hk:k<=k')(h:PB outs S k W d t):PB outs S' k' W d t :=
 ⟨oH hS hk t h.fit,h.tall,h.lf,h.sz⟩
structure Drw(ins outs:List (Xk×Int))(W D:Nat)(head:Th)(rows:List (List Th)):Prop where
 gi:cz ins
 go:cz outs
 w1:1<=W
 hd:PB outs (rows.length:Nat) 1 W D head
 row:∀row∈rows,row.length=ins.length/\∀(j:Nat)(p:Th)(k:Xk×Int),row[j]?=A? p->ins[j]?=A? k->PB outs (rows.length:Nat) k.2 W D p
 le:rows.length<=5
 lim:D<=3/\W ^ D<=9/\szB W D<=15/\rows.length * W ^ D<=20
section
variable{D:Nat}
theorem Drw.fit(h:Drw ins outs W D head rows):yy ins outs (rows.length:Nat) rows:=⟨rfl,λrow hr=>⟨(h.row row hr).1,λj p k hp hk=>((h.row row hr).2 j p k hp hk).fit⟩⟩
theorem Drw.pat(h:Drw ins outs W D head rows){row:List Th}(hr:row∈rows)(hp:p∈row):∃C,C<=3/\PB outs (rows.length:Nat) C W D p:=by
 obtain⟨j,hj⟩:=Xi.mp hp;obtain⟨hl,hf⟩:=h.row row hr;obtain⟨k,hk⟩:∃k,ins[j]?=A? k:=⟨_,WR (by have:=(glE hj);lia)⟩;exact⟨k.2,(h.gi.num k (WT hk)).2,hf j p k hj hk⟩
mutual
theorem xg:∀(n:Nat)(l r:Th),l.size<=n->(l.com r).lf<=l.lf
 |0,l,r,h=>by have:=l.size_pos;lia
 | n+1,l,r,h=>by
   rw[ii];have hl:1<=l.lf:=by cases l <;> rw[Th.lf] <;> lia
   by_cases hs:az l r=C?
   .rw[b! hs];obtain⟨m,ks,us,rfl,rfl,e,_⟩:=bp hs;rw[p!]at h;have:=sS n ks us (by lia);show(n! m ((ks.zip us).map λp=>p.1.com p.2)).lf<=_;rw[Th.lf,Th.lf];lia
   .rw[a! hs,hole,Th.lf,lfs];lia
theorem sS:∀(n:Nat)(ks us:List Th),ak ks<=n->lfs ((ks.zip us).map λp=>p.1.com p.2)<=lfs ks
 |n,[],us,h=>by rw[List.zip_nil_left];exact WX _
 |n,k::ks,[],h=>by rw[List.zip_nil_right];exact Xh _
 | n,k::ks,u::us,h=>by
   rw[ak]at h;have h1:=xg n k u (by lia);have h2:=sS n ks us (by lia);rw[Zz,Xr,lfs,lfs];show(k.com u).lf+_<=_;lia
end
theorem wA(mk:Int->Th):∀(row:List Th)(m:Th),(frF mk m row).lf<=m.lf
 | [],m=>WX _
 |p::row,m=>Xw (wA mk row _) (xg _ m _ (WX _))
mutual
theorem xn(D:List Int->Bool):∀(t:Th)(pre:List Int),(t.cut D pre).lf<=t.lf/\(t.cut D pre).tall<=t.tall/\(t.cut D pre).noCall
 | .call a b,pre=>by
   rw[Th.cut,Th.lf,u!,hole,Th.lf,u!,w!,lfs,aI,aK];exact⟨WX _,WX _,trivial⟩
 | .knot n ks,pre=>by
   rw[Th.cut];obtain⟨h1,h2,h3⟩:=uy D ks pre 0;split
   .rw[hole,Th.lf,u!,Th.lf,u!,w!,lfs,aI,aK];exact⟨by lia,by lia,trivial⟩
   .rw[Th.lf,u!,Th.lf,u!,w!];exact⟨by lia,by lia,h3⟩
theorem uy(D:List Int->Bool):∀(ts:List Th)(pre:List Int)(i:Int),lfs (cf D pre i ts)<=lfs ts/\aI (cf D pre i ts)<=aI ts/\aK (cf D pre i ts)
 | [],pre,i=>by rw[cf,aK];exact⟨WX _,WX _,trivial⟩
 | t::ts,pre,i=>by
   obtain⟨h1,h2,h3⟩:=xn D t (pre++[i]);obtain⟨g1,g2,g3⟩:=uy D ts pre (i+1);rw[cf,lfs,lfs,aI,aI,aK];exact⟨by lia,by lia,h3,g3⟩
end
mutual
theorem vQ:∀t:Th,t.nh<=t.lf
 |.call a b=>Xh _
 | .knot n ks=>by
   rw[Th.nh,Th.lf];have:=vR ks;split <;> lia
theorem vR:∀ts:List Th,nhs ts<=lfs ts
 | []=>WX _
 | t::ts=>by
   have h1:=vQ t;have h2:=vR ts;rw[nhs,lfs];lia
end
mutual
theorem v6:∀t:Th,cnT t<=t.lf
 |.call a b=>WX _
 | .knot n ks=>by
   rw[cnT,Th.lf];have:=wu ks;lia
theorem wu:∀ts:List Th,bY ts<=lfs ts
 | []=>WX _
 | t::ts=>by
   have h1:=v6 t;have h2:=wu ts;rw[bY,lfs];lia
end
mutual
theorem tW(f:Int->Int->Th)(hf:∀s k,0<=s->s<S->0<=k->k<C->cnT (f s k)<=m):∀t:Th,t.FitS Dd S C->cnT (t.fill f)<=cnT t * m
 | .call s k,h=>by
   rw[r!]at h;rw[v!,cnT,Nat.one_mul];exact hf s k h.1 h.2.1 h.2.2.1 h.2.2.2
 | .knot n ts,h=>by
   rw[r!]at h;rw[v!,cnT,cnT];exact pi f hf ts h.2
theorem pi(f:Int->Int->Th)(hf:∀s k,0<=s->s<S->0<=k->k<C->cnT (f s k)<=m):∀ts:List Th,FitSs Dd S C ts->bY (fills f ts)<=bY ts * m
 | [],_=>Xh _
 | t::ts,h=>by
   rw[FitSs]at h;have h1:=tW f hf t h.1;have h2:=pi f hf ts h.2;rw[fills,bY,bY,Nat.add_mul];lia
end
mutual
theorem tJ(f:Int->Int->Th){l:Nat}(hm:1<=m)(hf:∀s k,0<=s->s<S->0<=k->k<C->(f s k).size<=m/\(f s k).tall<=l+1):∀t:Th,t.FitS Dd S C->(t.fill f).size<=t.size * m/\(t.fill f).tall<=t.tall+l
 | .call s k,h=>by
   rw[r!]at h;have:=hf s k h.1 h.2.1 h.2.2.1 h.2.2.2;rw[v!,p!,u!];lia
 | .knot n ts,h=>by
   rw[r!]at h;have:=qC f hm hf ts h.2;rw[v!,p!,u!,p!,u!,Nat.add_mul];lia
theorem qC(f:Int->Int->Th){l:Nat}(hm:1<=m)(hf:∀s k,0<=s->s<S->0<=k->k<C->(f s k).size<=m/\(f s k).tall<=l+1):∀ts:List Th,FitSs Dd S C ts->ak (fills f ts)<=ak ts * m/\aI (fills f ts)<=aI ts+l
 | [],_=>⟨Xh _,Xh _⟩
 | t::ts,h=>by
   rw[FitSs]at h;have h1:=tJ f hm hf t h.1;have h2:=qC f hm hf ts h.2;rw[fills,ak,ak,aI,aI,Nat.add_mul];lia
end
mutual
theorem zi{g:Nat->Th}(hg:∀j,cnT (g j)<=1):∀(f:Th)(i:Nat),f.noCall->cnT (f.hg g i)<=f.nh
 | .knot n ks,i,h=>by
   rw[Th.hg,Th.nh];split
   .exact hg i
   .rw[cnT];exact xz hg ks i h
 |.call s k,i,h=>by rw[w!]at h;exact h.elim
theorem xz{g:Nat->Th}(hg:∀j,cnT (g j)<=1):∀(fs:List Th)(i:Nat),aK fs->bY (hgs g fs i)<=nhs fs
 | [],i,_=>Xh _
 | f::fs,i,h=>by
   rw[aK]at h;have h1:=zi hg f i h.1;have h2:=xz hg fs (i+f.nh) h.2;rw[hgs,bY,nhs];lia
end
theorem Drw.small(h:Drw ins outs W D head rows){F:Nat->Th}(hF:∀s,s<rows.length->(F s).noCall/\(F s).lf<=W ^ D/\(F s).size<=15/\(F s).tall<=4)(hp:PB outs (rows.length:Nat) C W D p):Small (eaP F p):=by
 obtain⟨l1,l2,l3,_⟩:=h.lim;have hc:=tW (hgF F) (m:=9) (λs k h0 h1 _ _=>?_) p hp.fit
 .have hz:=tJ (hgF F) (m:=15) (l:=3) (by decide) (λs k h0 h1 _ _=>?_) p hp.fit
  .have z1:=ol (p.fill (hgF F));have z2:p.size * 15<=15 * 15:=YQ _ (Xw hp.sz l3);have z3:=hp.tall;have z4:cnT p * 9<=9 * 9:=YQ _ (Xw (v6 p) (Xw hp.lf l2));exact⟨by show(p.fill (hgF F)).tall<=20;lia,by show(p.fill (hgF F)).kn<=400;lia,by show cnT (p.fill (hgF F))<=200;lia⟩
  .have hs:=hF s.toNat (by lia);have:=iL F s k;lia
 .have hs:=hF s.toNat (by lia);have:=zi (g:=λj=>z! (enc s (j:Nat)) k) (λj=>WX _) (F s.toNat) 0 hs.1;have:=vQ (F s.toNat);show cnT ((F s.toNat).hg _ 0)<=9;lia
theorem Drw.many(h:Drw ins outs W D head rows){F:Nat->Th}(hF:∀s,s<rows.length->(F s).lf<=W ^ D):((XF rows.length).map λs=>(F s).nh).sum<=20:=by
 refine Xw ?_ h.lim.2.2.2
 have:∀(l:List Nat),(∀s∈l,(F s).nh<=W ^ D)->(l.map λs=>(F s).nh).sum<=l.length * W ^ D:=λl=>by
  induction l with
  |nil=>intro _;exact Xh _
  | cons x l ih =>
    intro hl;have h1:=hl x (Xd ..);have h2:=ih λs hs=>hl s (W8 _ hs);rw[Xr,List.sum_cons,W2,Nat.succ_mul];lia
 have h2:=this (XF rows.length) λs hs=>Xw (vQ _) (hF s (YR.mp hs));rw[Xj]at h2;exact h2
end
theorem jR{kr:WS}{BN:List WS}{ks:List (Xk×Int)}(p:Xk×Int->Bool)(e:H kr=A? (.tup (BN.map i!)))(CS:KsAt H ks BN)(hl:ks.length<=1000)
 (IX:∀(z:Xk×Int)(ka:WS)(H2:Hp)(R:Bool->Hp->Prop),k! H H2->KAt H2 z ka->R (p z) H2->tt ((cσ js Y).set 0 (A? (.ref ka))) H2 R)
 (IY:∀(ka:WS)(H2:Hp)(R:VK),R (.ref ka) H2->te ((cσ js Y).set 0 (A? (.ref ka))) H2 R)
 (q:∀(D:WS)(bs:List ((Xk×Int)×WS))(H':Hp),H D=B?->H'=upd H D (.lst (bs.map λz=>i! z.2))->((∃k∈ks,p k=C?)->1<=bs.length)->bs.length<=ks.length->(∀z∈bs,z.1∈ks/\p z.1=C?/\KAt H z.1 z.2)->fin D H') :
 ∀D,H D=B?->∃(n:Nat)(W:Nat->Hp->Prop),W 0 (upd H D (.lst []))/\gS js (av 0) tt te Y (Itt K kr) D n W λH'=>fin D H':=by
 have CQ:ks.length=BN.length:=W4 CS;have QM:(ks.zip BN).length=ks.length:=by rw[List.length_zip];lia
 have HY:∀(i:Nat)(x:V)(z:(Xk×Int)×WS),(BN.map i!)[i]?=A? x->(ks.zip BN)[i]?=A? z->x=.ref z.2:=λi x z hx hz=>by
  obtain⟨ka,rfl,De⟩:=aO hx;obtain⟨h1,h2⟩:=Zf.mp hz;rw[De]at h2;cases h2;rfl
 refine qK (ks.zip BN) (λz=>p z.1) (λz=>.ref z.2) (o! e) (by rw[QM,WO];exact CQ) (by rw[WO];lia) (λi x z H2 R hx hz sm r=>?_) (λi x z H2 R hx hz _ sm r=>?_) (λD hD=>?_)
 .rw[HY i x z hx hz];have:=(mj CS z (WT hz)).2;exact IX z.1 z.2 H2 R sm (sm _ _ this) r
 .rw[HY i x z hx hz];exact IY z.2 H2 R r
 .refine q D _ _ hD rfl ?_ ?_ ?_
  .rintro⟨k,hk,Ua⟩;obtain⟨i,hi,rfl⟩:=List.getElem_of_mem hk;have hz:(ks.zip BN)[i]'(by lia)∈(ks.zip BN).filter λz=>p z.1:=Y1.mpr ⟨List.getElem_mem _,by rw[List.getElem_zip];exact Ua⟩;exact List.length_pos_of_mem hz
  .exact Xw (ZF _ _) (by lia)
  .intro z hz;obtain⟨h1,h2⟩:=Y1.mp hz;obtain⟨h3,h4⟩:=mj CS z h1;exact⟨h3,h2,h4⟩
section
variable{F:Nat->Th}
def eaB(F:Nat->Th)(rows:List (List Th))(M:List Int):List (List Th):=M.map λx=>(eaR F rows x).map (ren (idx M))
section
variable(J:EaOk ins outs F head rows)(hM:M=aV (eaR F rows) (eaP F head))
include J hM
theorem wm:∀x∈stT (eaP F head),x∈M:=λx hx=>by
 rw[hM];exact(fE _ _ _ _).subset (cr.mpr (.inr hx))
theorem tE:∀x∈M,∀y∈bC (eaR F rows x),y∈M:=by
 rw[hM];exact vW J.len
theorem oV:∀x∈M,mH F rows.length x:=by
 rw[hM];exact J.met
theorem ko:(eaB F rows M).length=M.length:=by unfold eaB;rw[WO]
end
end
end BB
namespace L2
open PySem PySem.Spec PyProof.Rows
section
variable{X:Cx}{t:TA}{p p2 Ax:Z4}
end
end L2
namespace BB
open PySem L2
def HoA(t:Th)(pl:List Int):Prop:=∃(a r:List Int)(h:Th),pl=a++r/\In t a h/\h.isHole=C?
theorem qP{t:Th}{pl:List Int}(h:t.isHole=C?):HoA t pl:=⟨[],pl,t,rfl,.here,h⟩
theorem oI{t:Th}(h:f.lies t=C?)(ht:t.isHole=C?):f.isHole=true:=by
 rcases ba h with hh|⟨n,ks,us,rfl,rfl,e3,hh,_,_⟩
 .exact hh
 .rw[A!,decide_eq_true_iff]at ht |-;exact⟨ht.1,XZ.mp (by rw[e3,ht.2];rfl)⟩
theorem pR{t u:Th}{pl:List Int}(i:In t pl u):u.isHole=C?->∀f:Th,f.lies t=C?->HoA f pl:=by
 induction i with
 |here=>exactλhu f h=>qP (oI h hu)
 | @kid n us j u v r h i ih =>
   intro hu f hf;rcases ba hf with hh|⟨n',ks,NL,rfl,e2,e3,hh,_,hl⟩
   .exact qP hh
   .cases e2;obtain⟨k,hk⟩:∃k,ks[j]?=A? k:=⟨_,WR (by have:=(glE h);lia)⟩;obtain⟨a,r,w,e,ha,hw⟩:=ih hu k (dU hl _ _ _ hk h);exact⟨_,r,w,by rw[e];rfl,.kid hk ha,hw⟩
theorem yu{n:Xk}{ks:List Th}{k:Th}{r:List Int}(h:HoA (.knot n ks) ((j:Int)::r))(hh:(n! n ks).isHole=CU)(hk:ks[j]?=A? k):HoA k r:=by
 obtain⟨a,b,w,e,ha,hw⟩:=h;cases ha with
 |here=>rw[hh]at hw;cases hw
 | kid h2 i =>
   rename_i j2 u r2
   injection e with e1 e2;have e3:j2=j:=by lia
   subst e3;rw[hk]at h2;cases h2;exact⟨_,b,w,e2,i,hw⟩
theorem px(D:List Int->Bool):∀(n:Nat)(f t:Th)(pre:List Int),t.size<=n->f.lies t=C?->(∀pl,D (pre++pl)=C?->(∃u,In t pl u)->HoA f pl)->f.lies (t.cut D pre)=C?
 |0,f,t,_,hn,_,_=>by have:=t.size_pos;lia
 | n+1,f,.call s k,pre,hn,h,_=>by
   rcases ba h with hh|⟨_,_,_,_,e2,_⟩
   .exact ck hh
   .cases e2
 | n+1,f,.knot m us,pre,hn,h,hD=>by
   rw[Th.cut];by_cases hc:(n! m us).isHole=C?\/D pre=C?
   .rw[b! hc];refine ck ?_;rcases hc with hc|hc
    .exact oI h hc
    .obtain⟨a,r,w,e,ha,hw⟩:=hD [] (by rw[XC];exact hc) ⟨_,.here⟩;have e1:a=[]:=(List.append_eq_nil_iff.mp e.symm).1;subst e1;cases ha;exact hw
   .rw[a! hc];rcases ba h with hh|⟨m',ks,NL,rfl,e2,e3,hh,_,hl⟩
    .exact ck hh
    .cases e2;rw[p!]at hn;refine gK (by rw[cS];exact e3) hh (eC λj k v hk hv=>?_);rw[gr,XD]at hv;obtain⟨u,hu,rfl⟩:=hv;have hz:=aU (WT hu);refine px D n k u _ (by lia) (dU hl _ _ _ hk hu) λpl hp hi=>?_;refine yu (hD ((j:Int)::pl) (by rw[XG]at hp;rw[Ym]at hp;exact hp) ?_) hh hk;obtain⟨w,hw⟩:=hi;exact⟨w,.kid hu hw⟩
mutual
theorem pK(g:Nat->Th):∀(pre:List Int)(f t:Th)(i:Nat),f.lies t=C?->(∀(j:Nat)x,(f.hw pre t)[j]?=A? x->(g (i+j)).lies x.2=C?)->(f.hg g i).lies t=C?
 | pre,.knot n ks,t,i,h,hx=>by
   rcases ba h with hh|⟨n',EK,us,e1,rfl,e3,hh,_,hl⟩
   .rw[Th.hg,b! hh];exact hx 0 (pre,t) (by rw[dF hh];rfl)
   .cases e1;have hn:¬(n! n ks).isHole=true:=by rw[hh];exact W5
    rw[Th.hg,a! hn];by_cases h2:(n! n (hgs g ks i)).isHole=C?
    .exact ck h2
    .exact gK (by rw[iS];exact e3) (Yo.mpr h2) (nO g pre 0 ks us i e3 hl λj x hj=>hx j x (by rw[Th.hw,a! hn];exact hj))
 |pre,.call s k,t,i,h,_=>by rw[x!]at h;cases h
theorem nO(g:Nat->Th):∀(pre:List Int)(c:Int)(ks us:List Th)(i:Nat),ks.length=us.length->aF ks us=C?->(∀(j:Nat)x,(hws pre c ks us)[j]?=A? x->(g (i+j)).lies x.2=C?)->aF (hgs g ks i) us=C?
 |pre,c,[],us,i,_,_,_=>by rw[hgs,aF]
 |pre,c,k::ks,[],i,e,_,_=>by simp at e
 | pre,c,k::ks,u::us,i,e,h,hx=>by
   rw[aR,XT]at h;have hn:=lh (pre++[c]) k u h.1;rw[hgs,aR,pK g (pre++[c]) k u i h.1 λj x hj=>hx j x ?_,nO g pre (c+1) ks us (i+k.nh) (by simpa using e) h.2 λj x hj=>?_]
   .rfl
   .rw[Z1];refine hx (k.nh+j) x ?_;rw[hws,YS (by lia),hn,Nat.add_sub_cancel_left];exact hj
   .rw[hws,Yi (glE hj)];exact hj
end
mutual
theorem pQ(g:Nat->Th):∀(f:Th)(i:Nat),(f.hg g i).lies f=C?->∀j,j<f.nh->(g (i+j)).isHole=C?
 | .knot n ks,i,h,j,hj=>by
   rw[Th.nh]at hj;rw[Th.hg]at h;by_cases hh:(n! n ks).isHole=C?
   .rw[b! hh]at hj h;rw[show i+j=i by lia];exact oI h hh
   .rw[a! hh]at hj h;rcases ba h with h2|⟨n',EK,us,e1,e2,e3,_,_,hl⟩
    .refine g! ?_ hh;rw[A!,decide_eq_true_iff]at h2 |-;exact⟨h2.1,XZ.mp (by rw[<-iS g ks i,h2.2];rfl)⟩
    .cases e1;cases e2;exact nV g ks i hl j hj
 |.call s k,i,_,j,hj=>by rw[Th.nh]at hj;exact g! hj (YZ _)
theorem nV(g:Nat->Th):∀(ks:List Th)(i:Nat),aF (hgs g ks i) ks=C?->∀j,j<nhs ks->(g (i+j)).isHole=C?
 | [],i,_,j,hj=>by rw[nhs]at hj;exact g! hj (YZ _)
 | k::ks,i,h,j,hj=>by
   rw[hgs,aR,XT]at h;rw[nhs]at hj;by_cases Ah:j<k.nh
   .exact pQ g k i h.1 j Ah
   .have:=nV g ks (i+k.nh) h.2 (j - k.nh) (by lia);rw[show i+k.nh+(j - k.nh)=i+j by lia]at this;exact this
end
mutual
theorem qE(g:Nat->Th)(H:Int->Int->Th):∀(f:Th)(i:Nat),f.noCall->(f.hg g i).fill H=f.hg (λj=>(g j).fill H) i
 | .knot n ks,i,h=>by
   rw[Th.hg,Th.hg];by_cases hh:(n! n ks).isHole=C?
   .rw[b! hh,b! hh]
   .rw[w!]at h;rw[a! hh,a! hh,v!,mM g H ks i h]
 |.call s k,i,h=>by rw[w!]at h;exact h.elim
theorem mM(g:Nat->Th)(H:Int->Int->Th):∀(fs:List Th)(i:Nat),aK fs->fills H (hgs g fs i)=hgs (λj=>(g j).fill H) fs i
 | [],i,_=>by rw[hgs,hgs,fills]
 | f::fs,i,h=>by
   rw[aK]at h;rw[hgs,hgs,fills,qE g H f i h.1,mM g H fs _ h.2]
end
theorem In.fil{H:Int->Int->Th}{q:List Int}{s k:Int}(i:In p q (.call s k)){a:List Int}{v:Th}(hv:In (H s k) a v):In (p.fill H) (q++a) v:=by
 generalize hc:z! s k=c at i;induction i with
 |here=>subst hc;rw[v!];exact hv
 | kid h i ih =>
   rw[v!,cM];exact .kid (gmE h) (ih hc)
mutual
theorem mP{ks:List (Xk×Int)}{f:Int->Int->Th}:∀{p:Th},p.FitS ks S 0->p.fill f=p
 |.call s k,h=>by rw[r!]at h;lia
 | .knot n ps,h=>by
   rw[r!]at h;rw[v!,lr h.2]
theorem lr{ks:List (Xk×Int)}{f:Int->Int->Th}:∀{ps:List Th},FitSs ks S 0 ps->fills f ps=ps
 | [],_=>by rw[fills]
 | p::ps,h=>by
   rw[FitSs]at h;rw[fills,mP h.1,lr h.2]
end
structure Fam(outs:List (Xk×Int))(rows:List (List Th))(G:Nat->Th):Prop where
 clo:∀(s:Nat)(row:List Th)(p:Th),rows[s]?=A? row->p∈row->(G s).lies (p.fill λl _=>G l.toNat)=C?
theorem Fam.fst{G:Nat->Th}(f:Fam outs rows G)(F:FrK ins outs rows){s:Nat}{row:List Th}(hr:rows[s]?=A? row):∀i,i<=row.length->(G s).lies (frF (mkF ins rows) (mkF ins rows (s:Nat)) (row.take i))=true:=by
 have ER:∀l:Nat,l<rows.length->(G l).lies (mkF ins rows (l:Nat))=true:=λl hl=>by
  obtain⟨AJ,p,h1,h2,e,_,_,hf⟩:=F.mkd (l:=(l:Nat)) (by lia) (by lia);rw[Xu]at h1;have:=f.clo l AJ p h1 (WT h2);rw[e];have e2:p.fill (λl _=>G l.toNat)=p:=mP hf;rw[e2]at this;exact this
 have hs:=(glE hr);intro i;induction i with
 |zero=>intro _;rw[ZA];exact ER s hs
 | succ i ih =>
   intro hi;obtain⟨p,hp⟩:∃p,row[i]?=A? p:=⟨_,WR hi⟩;rw[take_snoc hp,kY,lu,XT];refine⟨ih (by lia),?_⟩;obtain⟨CC,AU⟩:=F.fit.row row (WT hr);obtain⟨k,hk⟩:∃k,ins[i]?=A? k:=⟨_,WR (by lia)⟩;refine jb (λs' k' h0 h1 _ _=>?_) p (G s) (AU i p k hp hk) (f.clo s row p hr (WT hp));have:=ER s'.toNat (by lia);rw[Yc h0]at this;exact this
theorem Fam.met{G:Nat->Th}(f:Fam outs rows G)(F:FrK ins outs rows){s:Nat}{pl:List Int}(m:Met ins rows s pl):HoA (G s) pl:=by
 induction m with
 |hol hr hi hx hh=>exact pR (In.iff.mp hx) hh _ (f.fst F hr _ hi)
 | lnk hr hp hc hu hx m ih =>
   obtain⟨a,r,h,e,ha,hh⟩:=ih;obtain⟨a',r',h',e',C1,NM⟩:=pR (In.fil (H:=λl _=>G l.toNat) (In.iff.mp (cg.mp hc)) ha) hh _ (f.clo _ _ _ hr hp);exact⟨a',r'++r,h',by rw[e,<-XG,e',XG],C1,NM⟩
theorem Fam.great{G:Nat->Th}(f:Fam outs rows G)(F:FrK ins outs rows)(hK:qN ins rows f'){s:Nat}(hs:s<rows.length):(G s).lies ((frS ins rows s).cut (Dk f' (s:Nat)) [])=true:=by
 obtain⟨row,hr⟩:∃row,rows[s]?=A? row:=⟨_,WR hs⟩;refine px (Dk f' (s:Nat)) _ (G s) (frS ins rows s) [] (WX _) ?_ λpl hp _=>f.met F ((hK s pl).mp hp);rw[rV hr];have:=f.fst F hr row.length (WX _);rw[YB]at this;exact this
section
variable{F:Nat->Th}{G':Nat->Th}
def gxF(M:List Int)(G':Nat->Th)(y:Int):Th:=if y∈M then G' (idx M y).toNat else hole
def zX(F:Nat->Th)(M:List Int)(G':Nat->Th)(s:Nat):Th:=(F s).hg (λj=>gxF M G' (enc (s:Nat) (j:Nat))) 0
theorem wY(J:EaOk ins outs F head rows)(hM:M=aV (eaR F rows) (eaP F head))(f:Fam outs (eaB F rows M) G'):Fam outs rows (zX F M G'):=⟨λs row p hr hp=>by
 have hs:=(glE hr);obtain⟨j0,LI⟩:=Xi.mp hp;obtain⟨CC,AU⟩:=J.fit.row row (WT hr);obtain⟨kd,Dc⟩:∃kd,ins[j0]?=A? kd:=⟨_,WR (by have:=(glE LI);lia)⟩;have hf:=AU j0 p kd LI Dc;have hl:=J.lies hr hp hf
 have e:p.fill (λl _=>zX F M G' l.toNat)=(eaP F p).fill (λy _=>gxF M G' y):=by
  unfold eaP;rw[jk];refine gd p hf λl k h0 h1 _ _=>?_;unfold hgF zX;rw[qE _ _ _ _ (J.fr l.toNat (by lia)).1];congr 1;funext j;rw[v!,Yc h0]
 rw[e];refine pK _ [] (F s) _ 0 (jw _ _ _ hl) λj x hx=>?_
 have hj:j<(F s).nh:=by
  have h1:=(glE hx);rw[lh [] _ _ (jw _ _ _ hl)]at h1;exact h1
 rw[ut _ _ _ _ hl,WZ,XD]at hx;obtain⟨y,hy,rfl⟩:=hx;rw[Nat.zero_add];unfold gxF;by_cases hm:enc (s:Nat) (j:Nat)∈M
 .rw[b! hm];have hn:=J.nh hs;obtain⟨ES,BS⟩:=kD (l:=(s:Nat)) (j:=j) (by lia)
  have ey:eaU F (enc (s:Nat) (j:Nat)) p=y.2:=by
   unfold eaU;rw[ES,BS,Xu,hy];rfl
  have er:eaR F rows (enc (s:Nat) (j:Nat))=row.map (eaU F (enc (s:Nat) (j:Nat))):=by
   unfold eaR rowOf;rw[ES,Xu,List.getD_eq_getElem?_getD,hr];rfl
  have Ah:=Zt hm
  have AL:(eaB F rows M)[(idx M (enc (s:Nat) (j:Nat))).toNat]?=A? ((eaR F rows (enc (s:Nat) (j:Nat))).map (ren (idx M))):=by
   unfold eaB idx;rw[Xu,WZ,WR Ah,List.getElem_idxOf Ah];rfl
  have QN:y.2∈eaR F rows (enc (s:Nat) (j:Nat)):=by
   rw[er,<-ey];exact Xl.mpr ⟨p,hp,rfl⟩
  have:=f.clo _ _ _ AL (Xl.mpr ⟨y.2,QN,rfl⟩)
  have e2:(ren (idx M) y.2).fill (λl _=>G' l.toNat)=y.2.fill (λy _=>if y∈M then G' (idx M y).toNat else hole):=by
   unfold ren;rw[jk];refine lv y.2 λz hz k=>?_;rw[v!,b! (tE J hM _ hm z (List.mem_flatMap.mpr ⟨_,QN,hz⟩))]
  rw[e2]at this;exact this
 .rw[a! hm];exact dX _⟩
theorem vx(J:EaOk ins outs F head rows)(hM:M=aV (eaR F rows) (eaP F head))(Fk:FrK ins outs rows)(hK:qN ins rows f')(hF:∀s,F s=(frS ins rows s).cut (Dk f' (s:Nat)) [])(f:Fam outs (eaB F rows M) G')(hi:i<M.length):G' i=hole:=by
 obtain⟨x,hx⟩:∃x,M[i]?=A? x:=⟨_,WR hi⟩;have G2:=WT hx;obtain⟨h0,h1,h2⟩:=oV J hM x G2;have hg:=(wY J hM f).great Fk hK h1;rw[<-hF]at hg;have:=pQ _ (F (x / 1000).toNat) 0 hg (x%1000).toNat h2;rw[Nat.zero_add,show enc (((x / 1000).toNat:Nat):Int) (((x%1000).toNat:Nat):Int)=x by unfold enc;lia]at this;unfold gxF at this;rw[b! G2,yt (by rw[hM];exact oO _ _) hx,Xu]at this;exact kG this
theorem xW(g:Nat->Th)(i:Nat):hole.hg g i=g i:=by
 show(n! star []).hg g i=_;rw[Th.hg,b! (show(n! star []).isHole=C? from bS)]
theorem iC(hG:∀i,i<n->G' i=hole)(hp:p.FitS outs (n:Nat) C):eaP G' p=ren (λl=>enc l 0) p:=by
 unfold eaP ren;refine gd p hp λl k h0 h1 _ _=>?_;unfold hgF;rw[hG l.toNat (by lia),xW];rfl
theorem wd(hG:∀i,i<n->G' i=hole)(hi:i<n)(p:Th):eaU G' (enc (i:Nat) 0) p=eaP G' p:=by
 obtain⟨h1,h2⟩:=kD (l:=(i:Nat)) (j:=0) (by decide);unfold eaU;have h3:enc (i:Nat) ((0:Nat):Int)=enc (i:Nat) 0:=rfl;rw[h3]at h1 h2;rw[h1,h2,Xu,hG i hi,dF bS];rfl
theorem wy(J:EaOk ins outs F head rows)(hM:M=aV (eaR F rows) (eaP F head))(hG:∀i,i<M.length->G' i=hole){hd:Th}(Jz:hd=ren (idx M) (eaP F head))(FQ:hd.FitS outs (M.length:Nat) 1)(Ub:∀row∈eaB F rows M,∀p∈row,∃C,p.FitS outs (M.length:Nat) C)(hl:(aV (eaR G' (eaB F rows M)) (eaP G' hd)).length<=20) :
 ren (idx (aV (eaR G' (eaB F rows M)) (eaP G' hd))) (eaP G' hd)=hd/\eaB G' (eaB F rows M) (aV (eaR G' (eaB F rows M)) (eaP G' hd))=eaB F rows M:=by
 have nd:M.Nodup:=by rw[hM];exact oO _ _
 have h:=yA (R:=eaR F rows) (R':=eaR G' (eaB F rows M)) (h:=eaP F head) (h':=eaP G' hd) (g:=λx=>enc (idx M x) 0) hl (λx hx y hy e=>?_) (λs hs=>?_) ?_
 .unfold yR yo at h;rw[<-hM]at h;exact⟨h.1.trans Jz.symm,h.2⟩
 .rw[<-hM]at hx hy;have h1:=(oF e (by decide) (by decide) (by decide) (by decide)).1;unfold idx at h1;have l1:=Zt hx;have l2:=Zt hy;have e1:=List.getElem_idxOf l1;have e2:=List.getElem_idxOf l2;have e3:M.idxOf x=M.idxOf y:=by lia
  rw[<-e1,<-e2];simp only[e3]
 .rw[<-hM]at hs;have Ah:=Zt hs
  have AL:(eaB F rows M)[M.idxOf s]?=A? ((eaR F rows s).map (ren (idx M))):=by
   unfold eaB;rw[WZ,WR Ah,List.getElem_idxOf Ah];rfl
  obtain⟨h1,h2⟩:=kD (l:=idx M s) (j:=0) (by decide)
  have er:rowOf (eaB F rows M) (enc (idx M s) 0 / 1000)=(eaR F rows s).map (ren (idx M)):=by
   have h3:enc (idx M s) ((0:Nat):Int)=enc (idx M s) 0:=rfl;rw[h3]at h1;rw[h1];unfold rowOf idx;rw[Xu,List.getD_eq_getElem?_getD,AL];rfl
  show(rowOf (eaB F rows M) (enc (idx M s) 0 / 1000)).map (eaU G' (enc (idx M s) 0))=_;rw[er,YM];refine Zd λt ht=>?_;obtain⟨C,hC⟩:=Ub _ (WT AL) _ (Xl.mpr ⟨t,ht,rfl⟩);show eaU G' (enc (idx M s) 0) (ren (idx M) t)=_;unfold idx at*;rw[wd hG Ah,iC hG hC,kC]
 .rw[Jz]at FQ |-;rw[iC hG FQ,kC]
end
mutual
theorem tD(f:Int->Int->Th)(hf:∀s k,0<=s->s<S->0<=k->k<C->(f s k).size<=m+1):∀t:Th,t.FitS Dd S C->(t.fill f).size<=t.size+cnT t * m
 | .call s k,h=>by
   rw[r!]at h;have:=hf s k h.1 h.2.1 h.2.2.1 h.2.2.2;rw[v!,p!,cnT];lia
 | .knot n ts,h=>by
   rw[r!]at h;have:=qb f hf ts h.2;rw[v!,p!,p!,cnT];lia
theorem qb(f:Int->Int->Th)(hf:∀s k,0<=s->s<S->0<=k->k<C->(f s k).size<=m+1):∀ts:List Th,FitSs Dd S C ts->ak (fills f ts)<=ak ts+bY ts * m
 | [],_=>by rw[fills];exact Y5 _ _
 | t::ts,h=>by
   rw[FitSs]at h;have h1:=tD f hf t h.1;have h2:=qb f hf ts h.2;rw[fills,ak,ak,bY,Nat.add_mul];lia
end
theorem Drw.size{D:Nat}(h:Drw ins outs W D head rows){F:Nat->Th}(hF:∀s,s<rows.length->(F s).size<=15)(hp:PB outs (rows.length:Nat) C W D p):(eaP F p).size<=150:=by
 obtain⟨l1,l2,l3,_⟩:=h.lim;have hz:=tD (hgF F) (m:=14) (λs k h0 h1 _ _=>Xw (iL F s k).1 (hF s.toNat (by lia))) p hp.fit;have z2:=hp.sz;have z4:cnT p * 14<=9 * 14:=YQ _ (Xw (v6 p) (Xw hp.lf l2));show(p.fill (hgF F)).size<=150;lia
mutual
theorem AtK.un(go:cz outs):∀{t:Th}{a:WS}{Sy Cy:Int},AtK .i K H t a->t.FitS outs Sy Cy->At H t a
 | .knot n ks,a,Sy,Cy,h,hf=>by
   rw[AtK]at h;rw[r!]at hf;rw[At];obtain⟨h0,as,h1|⟨h1,_⟩,h2⟩:=h
   .exact⟨h0,as,h1,AtsK.un go h2 λt ht=>⟨Sy,Cy,i7 hf.2 t ht⟩⟩
   .injection h1 with h1 _;exact g! (V.str.inj h1) (l6 (go.low _ hf.1).1)
 | .call s k,a,_,_,h,_=>by
   rw[AtK]at h;rw[At];obtain⟨v,h1|⟨h1,_⟩,h2⟩:=h
   .obtain rfl:v=q! s:=h2;exact h1
   .injection h1 with _ h1;cases h1
theorem AtsK.un(go:cz outs):∀{ts:List Th}{as:List WS},AtsK .i K H ts as->(∀t∈ts,∃Sy Cy,t.FitS outs Sy Cy)->Ats H ts as
 | [],as,h,_=>by rw[AtsK]at h;rw[h];exact .nil
 | t::ts,as,h,hf=>by
   rw[AtsK]at h;obtain⟨a,r,rfl,h1,h2⟩:=h;obtain⟨Sy,Cy,h3⟩:=hf t (Xd ..);exact .cons (AtK.un go h1 h3) (AtsK.un go h2 λu hu=>hf u (W8 _ hu))
end
mutual
theorem vB(g:Int->Int):∀t:Th,(ren g t).kn=t.kn/\cnT (ren g t)=cnT t
 |.call s k=>⟨rfl,rfl⟩
 | .knot n ks=>by
   obtain⟨h1,h2⟩:=tM g ks;rw[cO,Th.kn,Th.kn,cnT,cnT,h1,h2];exact⟨D?,D?⟩
theorem tM(g:Int->Int):∀ts:List Th,kns (ts.map (ren g))=kns ts/\bY (ts.map (ren g))=bY ts
 | []=>⟨rfl,rfl⟩
 | t::ts=>by
   obtain⟨h1,h2⟩:=vB g t;obtain⟨h3,h4⟩:=tM g ts;rw[Xr,kns,kns,bY,bY,h1,h2,h3,h4];exact⟨D?,D?⟩
end
theorem Small.ren{t:Th}(h:Small t)(g:Int->Int):Small (ren g t):=by
 obtain⟨h1,h2⟩:=vB g t;exact⟨by rw[(gq g t).2];exact h.tall,by rw[h1];exact h.kn,by rw[h2];exact h.cn⟩
end BB
namespace L2
open PySem PySem.Spec PySem.SeqAt PyProof.Rows BB
open Classical in
theorem uH{X:Cx}(I:Inv X Z Y H s){ws:List V}(r1:Vals vs its)(r2:Vals ws Ag)(Cb:DAtsK X.K H ds vs)(hws:DAtsK X.K H es ws)(hu:A.units+bA ds+2<YH) :
 ∀j(h1:j<its.toArray.size)(h2:j<Ag.toArray.size),EqAt A.in1 s its.toArray[j] Ag.toArray[j] (decide (ds[j]?=es[j]?)):=by
 intro j h1 h2;have l1:its.length=ds.length:=by rw[<-r1.length,Cb.length]
 have l2:Ag.length=es.length:=by rw[<-r2.length,hws.length]
 have DD:j<ds.length:=by rw[<-l1];simpa using h1
 have C8:j<es.length:=by rw[<-l2];simpa using h2
 have e1:ds[j]?=A? ds[j]:=WR DD;have e2:es[j]?=A? es[j]:=WR C8;obtain⟨x',AV,dx⟩:=Cb.at e1;obtain⟨y',D6,dy⟩:=hws.at e2;obtain⟨u',BF,Fb⟩:=r1.get AV;obtain⟨v',Bh,Eg⟩:=r2.get D6;have e3:decide (ds[j]?=es[j]?)=decide (ds[j]=es[j]):=by rw[e1,e2];simp
 have e4:its.toArray[j]=u':=by
  rw[WR (by rw[l1];exact DD)]at BF;simpa using BF
 have e5:Ag.toArray[j]=v':=by
  rw[WR (by rw[l2];exact C8)]at Bh;simpa using Bh
 rw[e3,e4,e5];have q2:=ff e1;refine i0 I _ ds[j] es[j] (WX _) x' y' u' v' A.in1 dx dy Fb Eg ?_;show A.units+1+_<YH;lia
def abg(K:WQ)(B:Nat):R2:=λx y H Q=>∃a b vs ws ds es,x=.ref a/\y=.ref b/\SqL K H a vs/\SqL K H b ws/\DAtsK K H ds vs/\DAtsK K H es ws/\bA ds<=B/\∀b:Bool,(b=C?↔ds≠es)->Q (.bl b) H
open Classical in
theorem ye{X:Cx}(hu:X.A.units+B+2<YH):OpR X (compareOp .NotEq) (abg X.K B):=by
 intro Z s Y H x y v u Q I rx ry h;obtain⟨a,b,vs,ws,ds,es,rfl,rfl,ha,hb,Cb,hws,hB,q⟩:=h;cases rx;cases ry;obtain⟨its,r1,p1,_⟩:=I.list ha;obtain⟨Ag,r2,p2,_⟩:=I.list hb;have l1:its.length=ds.length:=by rw[<-r1.length,Cb.length]
 have l2:Ag.length=es.length:=by rw[<-r2.length,hws.length]
 by_cases hl:ds.length=es.length
 .have hsz:its.toArray.size=Ag.toArray.size:=by rw[W0,W0];lia
  refine RcNeAt.lists p1.isList p2.isList hsz (by lia) (uH I r1 r2 Cb hws (by lia)) X.prog X.w X.xe _ ?_
  have e:(XF its.toArray.size).all (λj=>decide (ds[j]?=es[j]?))=decide (ds=es):=by
   rw[W0,l1];exact kK hl
  refine⟨.bl (!decide (ds=es)),H,I,by rw[e];rfl,q _ ?_⟩;simp
 .refine RcNeAt.lists_lengths p1.isList p2.isList (by rw[W0,W0,l1,l2];simpa using hl) (by lia) X.prog X.w X.xe _ ⟨.bl C?,H,I,rfl,q _ ?_⟩;exact⟨λ_ z=>hl (by rw[z]),λ_=>rfl⟩
end L2
namespace LAW
open PySem L2 BB
def top(i:Nat):Stmt:=PySem.Challenge.pw_boughbook_k66_nothing_sure_is_left.main.body.getD i (.Pass ⟨0,0,0,0⟩)
theorem scm{P:List Xk}(a:sc.kind=.function:=by rfl)(b:sc.isCoroutine=false:=by rfl)(c:sc.isGenerator=false:=by rfl)(d:N.Nodup:=by decide +kernel)(e:N.take P.length=P:=by rfl)(f:∀x∈P,sc.names.lookup x=A? .local\/sc.names.lookup x=A? .cell:=by decide +kernel)(g:∀y∈sc.names,y.2≠.free:=by decide +kernel):dM N P sc:=⟨a,b,c,d,e,f,g⟩
abbrev ND(l:List Xk):Prop:=l.Nodup
abbrev sC(N:List Xk)(k i:Nat):Prop:=dM N (N.take k) (aE (top i))
theorem oi:sC ["thing"] 1 8:=scm
theorem p9:sC ["number","bound"] 2 9:=scm
theorem rC:sC ["thing"] 1 10:=scm
theorem gG:sC ["thing","met","ahead","part"] 1 11:=scm
theorem dQ:sC ["thing","met","ahead","place","part","kids"] 1 12:=scm
theorem iG:sC ["tops","done","top","many"] 1 13:=scm
theorem uC:sC ["tree"] 1 14:=scm
theorem nX:sC ["thing","number","kids"] 2 15:=scm
theorem fS:sC ["tree","place","part","number"] 2 16:=scm
theorem sy:sC ["thing"] 1 19:=scm
theorem rF:sC ["thing"] 1 20:=scm
theorem r8:sC ["thing"] 1 21:=scm
theorem o9:sC ["call"] 1 22:=scm
theorem pY:sC ["pattern"] 1 23:=scm
theorem oC:sC ["pattern"] 1 24:=scm
theorem qi:sC ["front"] 1 25:=scm
theorem mZ:sC ["part","many"] 1 26:=scm
theorem je:sC ["pattern","table","tops","part"] 2 27:=scm
theorem eT:sC ["pattern","names","table","state","kid"] 2 28:=scm
theorem iN:sC ["front","parts","tops","used","part"] 2 29:=scm
theorem qc:sC ["one","two"] 2 30:=scm
theorem bX:sC ["one","two","met","ahead","left","right"] 2 31:=scm
theorem gI:sC ["one","two","tops","left","right"] 2 32:=scm
theorem kc:dM ["self"] ["self"] (aE (inClass (top 38) 0)):=scm
theorem jB:dM ["self","part","row"] ["self","part","row"] (aE (inClass (top 38) 1)):=scm
theorem dz:sC ["pattern","measure","ahead","part","row"] 1 39:=scm
theorem uN:sC ["book"] 1 40:=scm
theorem r6:sC ["book"] 1 41:=scm
theorem rR:sC ["book"] 1 42:=scm
theorem qv:sC ["book"] 1 43:=scm
theorem n8:sC ["book"] 1 44:=scm
theorem mI:sC ["ins"] 1 46:=scm
theorem fb:sC ["ins","kind","kids","name","many"] 3 47:=scm
theorem bj:sC ["book","names","at","made","state","patterns","kid"] 1 48:=scm
theorem bF:sC ["book","state","made","partings","ins","front","kind","pattern","place"] 4 49:=scm
theorem bJ:sC ["book","state","front","links","parts","kind","pattern","place","lower","kid","inner"] 4 50:=scm
theorem b9:sC ["ins","links","partings","holes","at","one","two","state","place","kind","kid"] 3 51:=scm
theorem cx:sC ["front","state","partings","tops","ahead","place","part","kids"] 3 52:=scm
theorem bu:sC ["book","made","partings","firsts","links","state","front"] 1 53:=scm
theorem fJ:sC ["book","fronts","partings"] 1 54:=scm
theorem ik:sC ["pattern","numbers","thing","kid"] 2 56:=scm
theorem du:sC ["ins","outs","head","patterns_of","numbers","fresh_head","rules","thing"] 4 57:=scm
theorem bQ:sC ["fronts","table","state","front","kid","calls"] 1 59:=scm
theorem rM:sC ["pattern"] 1 60:=scm
abbrev ip:Stmt:=top 61
theorem eO:sC ["book","fronts","table","patterns_of"] 1 61:=scm
theorem ki:sC ["script","k"] 2 63:=scm
theorem gQ:sC ["cell","k","stir"] 2 64:=scm
theorem iO:sC ["base","n","tail"] 2 65:=scm
theorem mG:sC ["base","menu"] 2 66:=scm
theorem cE:sC ["cell","deep","outs","states","kids","some","kind","parts"] 5 67:=scm
theorem cq:sC ["seed","cell","deep","outs","states","kids","some","kind","parts","j"] 6 68:=scm
theorem dj:sC ["script","many","cells","k","more"] 2 69:=scm
theorem aD:sC ["script","first","menu","ins","outs","states","deep","cells","rules","s","seed","row","j"] 1 70:=scm
theorem vo:sC ["script","found"] 1 71:=scm
structure FX(K:WQ)(mg:Xk->Option WU)(n:Xk)(i:Nat)(ps:List Xk) where
 f:WS
 d:ZV
 F:Fun K n n (top i) f d
 b:Binds K d ps []
 m:mg n=A? (.ref f)
structure CTX(K:WQ)(mg:Xk->Option WU)(n:Xk)(xs:List V) where
 a:WS
 c:mg n=A? (.ref a)
 q:∀H:Hp,SqT K H a xs
structure FT(K:WQ)(mg:Xk->Option WU)(n:Xk)(i:Nat)(ps:List Xk) extends FX K mg n i ps where
 tc:WS
 tp:WS
 th:d.code=.ref tc
 t:PySem.W.tabIn K n=A? (tc,tp)
 u:K.lookup tp=B?
structure FM(K:WQ)(e:WS)(n q:Xk)(s:Stmt)(ps:List Xk) where
 f:WS
 d:ZV
 F:Fun K n q s f d
 b:Binds K d ps []
 me:Meth K e n f
section
open PySem.W
variable{K:Frag}{n q:Xk}{st:Stmt}{f e:WS}{kV dc pm cd ct:WU}{an:Option WS}{sl:Array (Option WU)}{tk:Tok}
abbrev HB(n q:Xk)(st:Stmt)(ps:List Xk):Prop:=∀(kV dc pm:WU)(an:Option WS)(cd ct:WU)(us:List WU),us.length=ps.length->bindArgs (fnOf n q (bT st) (bG st) (aE st) .none kV dc pm an cd ct) ⟨us,[]⟩=pure (ps.zip us)
theorem hb1{p0:Xk}(h:∀(kV dc pm:WU)(an:Option WS)(cd ct u0:WU),bindArgs (fnOf n q (bT st) (bG st) (aE st) .none kV dc pm an cd ct) ⟨[u0],[]⟩=pure [(p0,u0)]):HB n q st [p0]:=λa b c d e f us hl=>by obtain⟨u0,rfl⟩:=us1 hl;exact h a b c d e f u0
theorem hb2{p0:Xk}(h:∀(kV dc pm:WU)(an:Option WS)(cd ct u0 u1:WU),bindArgs (fnOf n q (bT st) (bG st) (aE st) .none kV dc pm an cd ct) ⟨[u0,u1],[]⟩=pure [(p0,u0),(p1,u1)]):HB n q st [p0,p1]:=λa b c d e f us hl=>by obtain⟨u0,u1,rfl⟩:=us2 hl;exact h a b c d e f u0 u1
theorem hb3{p0:Xk}(h:∀(kV dc pm:WU)(an:Option WS)(cd ct u0 u1 u2:WU),bindArgs (fnOf n q (bT st) (bG st) (aE st) .none kV dc pm an cd ct) ⟨[u0,u1,u2],[]⟩=pure [(p0,u0),(p1,u1),(p2,u2)]):HB n q st [p0,p1,p2]:=λa b c d e f us hl=>by obtain⟨u0,u1,u2,rfl⟩:=us3 hl;exact h a b c d e f u0 u1 u2
theorem hb4{p0:Xk}(h:∀(kV dc pm:WU)(an:Option WS)(cd ct u0 u1 u2 u3:WU),bindArgs (fnOf n q (bT st) (bG st) (aE st) .none kV dc pm an cd ct) ⟨[u0,u1,u2,u3],[]⟩=pure [(p0,u0),(p1,u1),(p2,u2),(p3,u3)]):HB n q st [p0,p1,p2,p3]:=λa b c d e f us hl=>by obtain⟨u0,u1,u2,u3,rfl⟩:=us4 hl;exact h a b c d e f u0 u1 u2 u3
theorem hb5{p0 p4:Xk}(h:∀(kV dc pm:WU)(an:Option WS)(cd ct u0 u1 u2 u3 u4:WU),bindArgs (fnOf n q (bT st) (bG st) (aE st) .none kV dc pm an cd ct) ⟨[u0,u1,u2,u3,u4],[]⟩=pure [(p0,u0),(p1,u1),(p2,u2),(p3,u3),(p4,u4)]):HB n q st [p0,p1,p2,p3,p4]:=λa b c d e f us hl=>by obtain⟨u0,u1,u2,u3,u4,rfl⟩:=us5 hl;exact h a b c d e f u0 u1 u2 u3 u4
theorem hb6{p0 p4 p5:Xk}(h:∀(kV dc pm:WU)(an:Option WS)(cd ct u0 u1 u2 u3 u4 u5:WU),bindArgs (fnOf n q (bT st) (bG st) (aE st) .none kV dc pm an cd ct) ⟨[u0,u1,u2,u3,u4,u5],[]⟩=pure [(p0,u0),(p1,u1),(p2,u2),(p3,u3),(p4,u4),(p5,u5)]):HB n q st [p0,p1,p2,p3,p4,p5]:=λa b c d e f us hl=>match us,hl with| [u0,u1,u2,u3,u4,u5],_=>h a b c d e f u0 u1 u2 u3 u4 u5
noncomputable def fm(a:findIn K (.ref e) n=A? (A? (.ref f)):=by k_is)(i:isFn K (.ref f)=true:=by k_is)(l:K.lookup f=A? ⟨oc,od,.func (fnOf n q (bT st) (bG st) (aE st) .none kV dc pm an cd ct),sl⟩:=by k_is)(c:codeIn K cd q=true:=by k_is)(k:keepIn K (.ref f)=true:=by k_is)(hb:HB n q (st) ps:=by first|exact LAW.hb1 λ_ _ _ _ _ _ _=>rfl|exact LAW.hb2 λ_ _ _ _ _ _ _ _=>rfl|exact LAW.hb3 λ_ _ _ _ _ _ _ _ _=>rfl|exact LAW.hb4 λ_ _ _ _ _ _ _ _ _ _=>rfl|exact LAW.hb5 λ_ _ _ _ _ _ _ _ _ _ _=>rfl|exact LAW.hb6 λ_ _ _ _ _ _ _ _ _ _ _ _=>rfl):FM K e n q st ps:=⟨f,_,lG l c k,(lG l c k).binds hb,⟨a,i,k⟩⟩
theorem na(a:findIn K (.ref e) n=A? none:=by k_is):NoAttr K e n:=a
variable(X:K.In h)(G:h.Ns Yl mg)
noncomputable def fx{i:Nat}(a:nsIn K Yl n=A? (A? (.ref f)):=by k_is)(l:K.lookup f=A? ⟨oc,od,.func (fnOf n n (bT (top i)) (bG (top i)) (aE (top i)) .none kV dc pm an cd ct),sl⟩:=by k_is)(c:codeIn K cd n=true:=by k_is)(k:keepIn K (.ref f)=true:=by k_is)(hb:HB n n (top i) ps:=by first|exact LAW.hb1 λ_ _ _ _ _ _ _=>rfl|exact LAW.hb2 λ_ _ _ _ _ _ _ _=>rfl|exact LAW.hb3 λ_ _ _ _ _ _ _ _ _=>rfl|exact LAW.hb4 λ_ _ _ _ _ _ _ _ _ _=>rfl|exact LAW.hb5 λ_ _ _ _ _ _ _ _ _ _ _=>rfl|exact LAW.hb6 λ_ _ _ _ _ _ _ _ _ _ _ _=>rfl):FX K mg n i ps:=⟨f,_,lG l c k,(lG l c k).binds hb,mg_of X G a⟩
noncomputable def ft{i:Nat}{tc tp:WS}{to:Zc}(a:nsIn K Yl n=A? (A? (.ref f)):=by k_is)(l:K.lookup f=A? ⟨oc,od,.func (fnOf n n (bT (top i)) (bG (top i)) (aE (top i)) .none kV dc pm an cd ct),sl⟩:=by k_is)(c:codeIn K cd n=true:=by k_is)(k:keepIn K (.ref f)=true:=by k_is)(hb:HB n n (top i) ps:=by first|exact LAW.hb1 λ_ _ _ _ _ _ _=>rfl|exact LAW.hb2 λ_ _ _ _ _ _ _ _=>rfl|exact LAW.hb3 λ_ _ _ _ _ _ _ _ _=>rfl|exact LAW.hb4 λ_ _ _ _ _ _ _ _ _ _=>rfl|exact LAW.hb5 λ_ _ _ _ _ _ _ _ _ _ _=>rfl|exact LAW.hb6 λ_ _ _ _ _ _ _ _ _ _ _ _=>rfl)(e:cd=.ref tc:=by rfl)(v:K.lookup tc=A? to:=by k_is)(x:tabAt to=A? tp:=by rfl)(u:K.lookup tp=none:=by kernel_rfl):FT K mg n i ps:=have t:=aaw a l e v x;⟨fx X G a l c k hb,tc,tp,yX (lG l c k) a t,t,u⟩
include X G
theorem bn(a:nsIn K Yl n=A? none:=by k_is):mg n=none:=mg_none_of X G a
theorem gn(a:nsIn K Yl n=A? (A? (.ref f)):=by k_is):mg n=A? (.ref f):=mg_of X G a
theorem cs(a:nsIn K Yl n=A? (A? (.str x tk)):=by k_is):∃tk,mg n=A? (.str x tk):=⟨tk,mg_of X G a⟩
theorem ci{x:Int}(a:nsIn K Yl n=A? (A? (.int x tk)):=by k_is):∃tk,mg n=A? (.int x tk):=⟨tk,mg_of X G a⟩
noncomputable def ck1{oc:Option WS}{m:Nat}{sc:Array (Option WU)}{x0:Xk}{t0:Tok}(a:nsIn K Yl n=A? (A? (.ref f)):=by k_is)(w:K.lookup f=A? ⟨.type "tuple",oc,.seq #[.str x0 t0] m,sc⟩:=by k_is):CTX K mg n [.str x0]:=⟨f,mg_of X G a,λH=>.inr ⟨_,_,_,w,rfl,rfl,(by show 1<=Xe;decide),.cons ⟨_,rfl⟩ (.nil)⟩⟩
end
theorem pcF{X:Cx}{kk k:Nat}{n:Xk}{st:Nat}{es:List X6}{t:TA}{p:Z4}(g:FX X.K X.mg n st ps)(F:aX X.prog X.w X.K X.mg X.base CX0 k g.f g.d ps sp)(hr:Room kk X.A)(ha:PA X (e::es) t)(hle:k<=kk:=by first|decide|lia)(hg:Gl X n:=by rfl)(DA:(n == ("__debug__":Xk))=false:=by decide)(he:XH (e::es) X.env=(CU,Y4 e X.env)::XH es X.env:=by rfl)(AR:(Z2 pos (XH es X.env)).any (·.1)=false:=by rfl):PE X (.Call (.Name n p) (e::es) [] pos) (dr sp [] E0 t) :=
 fM F (hr.mono hle) hg g.m g.F.kp g.b .nil gN ha DA he AR
structure TX(K:WQ)(mg:Xk->Option WU) where
 c_CALL_SIGN:∃tk,mg "CALL_SIGN"=A? (.str (Xq "?") tk)
 c_MOST_KIDS:∃tk,mg "MOST_KIDS"=A? (.int (3) tk)
 k_HOLE:CTX K mg "HOLE" [.str (Xq "*")]
 c_MOST_STATES:∃tk,mg "MOST_STATES"=A? (.int (20) tk)
 c_MOST_ROWS:∃tk,mg "MOST_ROWS"=A? (.int (20) tk)
 c_MOST_KNOTS:∃tk,mg "MOST_KNOTS"=A? (.int (400) tk)
 c_MOST_CALLS:∃tk,mg "MOST_CALLS"=A? (.int (200) tk)
 g_0:FX K mg "is_number" 8 ["thing"]
 g_1:FX K mg "is_below" 9 ["number","bound"]
 g_2:FX K mg "kids_of" 10 ["thing"]
 g_3:FX K mg "walked" 11 ["thing"]
 g_4:FX K mg "placed" 12 ["thing"]
 g_5:FX K mg "built" 13 ["tops"]
 g_6:FX K mg "places" 14 ["tree"]
 g_7:FX K mg "kid_at" 15 ["thing","number"]
 g_8:FX K mg "knot_at" 16 ["tree","place"]
 g_9:FX K mg "is_call" 19 ["thing"]
 g_10:FX K mg "is_hole" 20 ["thing"]
 g_11:FX K mg "is_knot" 21 ["thing"]
 g_12:FX K mg "called_by" 22 ["call"]
 g_13:FX K mg "calls_in" 23 ["pattern"]
 g_14:FX K mg "called_in" 24 ["pattern"]
 g_15:FX K mg "holes_in" 25 ["front"]
 g_16:FX K mg "top_of" 26 ["part"]
 g_17:FX K mg "filled" 27 ["pattern","table"]
 g_18:FX K mg "restated" 28 ["pattern","names"]
 g_19:FX K mg "hung" 29 ["front","parts"]
 g_20:FX K mg "same_top" 30 ["one","two"]
 g_21:FX K mg "side_by_side" 31 ["one","two"]
 g_22:FX K mg "common" 32 ["one","two"]
 g_25:FX K mg "is_small" 39 ["pattern"]
 g_26:FX K mg "ins_of" 40 ["book"]
 g_27:FX K mg "outs_of" 41 ["book"]
 g_28:FX K mg "head_of" 42 ["book"]
 g_29:FX K mg "rules_of" 43 ["book"]
 g_30:FX K mg "states_of" 44 ["book"]
 g_31:FX K mg "small_tree" 46 ["ins"]
 g_32:FX K mg "knot_above" 47 ["ins","kind","kids"]
 g_33:FX K mg "first_makings" 48 ["book"]
 g_34:FX K mg "first_front" 49 ["book","state","made","partings"]
 g_35:FX K mg "put_links" 50 ["book","state","front","links"]
 g_36:FX K mg "spread" 51 ["ins","links","partings"]
 g_37:FX K mg "cut_front" 52 ["front","state","partings"]
 g_38:FX K mg "found_fronts" 53 ["book"]
 g_39:FX K mg "fronts_of" 54 ["book"]
 g_40:FX K mg "renamed" 56 ["pattern","numbers"]
 g_41:FX K mg "numbered" 57 ["ins","outs","head","patterns_of"]
 g_42:FX K mg "early_table" 59 ["fronts"]
 g_43:FX K mg "checked" 60 ["pattern"]
 g_44:FT K mg "earliest" 61 ["book"]
 g_45:FX K mg "_law_cell_at" 63 ["script","k"]
 g_46:FX K mg "_law_mixed" 64 ["cell","k"]
 g_47:FX K mg "_law_name" 65 ["base","n"]
 g_48:FX K mg "_law_kinds" 66 ["base","menu"]
 g_49:FX K mg "_law_pattern" 67 ["cell","deep","outs","states","kids"]
 g_50:FX K mg "_law_capped" 68 ["seed","cell","deep","outs","states","kids"]
 g_51:FX K mg "_law_cells" 69 ["script","many"]
 g_52:FX K mg "_law_book" 70 ["script"]
 g_53:FX K mg "law" 71 ["script"]
 e_Measure:WS
 x_Measure:mg "Measure"=A? (.ref e_Measure)
 cl_Measure:Cls K e_Measure
 g_23:FM K e_Measure "__init__" "Measure.__init__" (inClass (top 38) 0) ["self"]
 g_24:FM K e_Measure "takes" "Measure.takes" (inClass (top 38) 1) ["self","part","row"]
 mi_Measure:PySem.W.makesIn K e_Measure=C?/\PySem.W.keepIn K (.ref e_Measure)=C?
 na_Measure_met_knots:NoAttr K e_Measure "met_knots"
 na_Measure_met_calls:NoAttr K e_Measure "met_calls"
 n_0:mg "bool"=B?
 n_1:mg "dict"=B?
 n_2:mg "enumerate"=B?
 n_3:mg "int"=B?
 n_4:mg "isinstance"=B?
 n_5:mg "len"=B?
 n_6:mg "list"=B?
 n_7:mg "max"=B?
 n_8:mg "min"=B?
 n_9:mg "range"=B?
 n_10:mg "reversed"=B?
 n_11:mg "tuple"=B?
 n_12:mg "zip"=B?
theorem x8:ND ["number","kid","place"]:=by decide +kernel
theorem abh:ND ["number","done"]:=by decide +kernel
theorem aa0:ND ["place","knot"]:=by decide +kernel
theorem yK:ND ["place","part"]:=by decide +kernel
theorem xP:ND ["name","many"]:=by decide +kernel
theorem abG:ND ["kid","kids","ins"]:=by decide +kernel
theorem abv:ND ["state","book","made","partings"]:=by decide +kernel
theorem aaR:ND ["state","front","partings"]:=by decide +kernel
theorem abP:ND ["kid","row"]:=by decide +kernel
theorem abn:ND ["part"]:=by decide +kernel
theorem aa1:ND ["pattern","numbers"]:=by decide +kernel
theorem abf:ND ["hole","kid","state"]:=by decide +kernel
theorem aaE:ND ["pattern","place","table"]:=by decide +kernel
theorem aaH:ND ["n","base","menu"]:=by decide +kernel
theorem aaX:ND ["kind","deep"]:=by decide +kernel
theorem aaU:ND ["j","outs","states","kids","cell","deep"]:=by decide +kernel
theorem aa4:ND ["kind","seed"]:=by decide +kernel
theorem abb:ND ["k"]:=by decide +kernel
section
variable(T:TX K mg)
inductive lB(K:WQ)(vs:List V)(H:Hp)(Q:VK)(_E:XK):Prop
 |mk {rq:Rep} (a:WS) (t:Th):vs=[.ref a]->AtK rq K H t a->(∀(r:WS)(as:List WS)(H':Hp),k! H H'->H' r=A? (.tup (as.map i!))->AtsK rq K H' t.kids as->Q (.ref r) H')->lB K vs H Q _E
theorem eF:aX P w K mg base CX0 1 T.g_2.f T.g_2.d ["thing"] (lB K):=by
 refine T.g_2.F.okA rC λAi A outer s H vs Q E hr h=>?_;obtain@⟨rq,a,t,rfl,hA,k⟩:=h
 refine⟨_,(ad (cC (bz f6 (aY bx (pv 0) ai (λ_ _=>rfl)) (cy (v:=.str (Xq "?")) rfl T.c_CALL_SIGN.choose_spec ⟨_,D?⟩) (bc _)) (af (ax (aB ab))) bU)
  (af (ax (fe kQ (pv 0) (fH ai) gF)))),?_⟩
 try dsimp only[Aw,Ae]
 cases t with
 | knot n ks =>
   rw[AtK]at hA;refine hid λZZ kZ=>?_;obtain⟨hn,as,h1,h2⟩:=hA;refine kZ ?_;refine⟨_,D?,a,_,0,.str n,D?,D?,h1.sq,at0,D?,_,D?,?_⟩;refine cX (λc=>g! (e! c) (λz=>hn (V.str.inj z))) (λ_=>?_);refine⟨_,D?,1,D?,a,_,D?,h1.sq,?_,λr hr=>?_⟩
   .intro z;have:=z.1;simp[H!]at this
   .rw[iw];exact k r as _ (ae hr _) ac (h2.mono (dC hr))
 | call sn kn =>
   rw[AtK]at hA;obtain⟨v,hA,_⟩:=hA;refine⟨_,D?,a,_,0,.str q,D?,D?,hA.sq,at0,D?,_,D?,?_⟩;refine cX (λ_=>?_) (λc=>g! (d! rfl) c);refine⟨by show 0<=Xe;decide,λr hr=>?_⟩;exact k r [] _ (ae hr _) ac .nil
inductive mT(K:WQ)(vs:List V)(H:Hp)(Q:VK)(_E:XK):Prop
 |mk {rq:Rep} (a:WS) (t:Th):vs=[.ref a]->AtK rq K H t a->t.size<=100000->(∀(r:WS)(as:List WS)(H':Hp),k! H H'->H r=B?->H' r=A? (.lst (as.map i!))->AtsK rq K H' t.walk as->Q (.ref r) H')->mT K vs H Q _E
theorem jl:aX P w K mg base CX0 2 T.g_3.f T.g_3.d ["thing"] (mT K):=by
 refine T.g_3.F.okA gG λAi A outer s H vs Q E hr h=>?_;obtain@⟨rq,a,t,rfl,hA,hsz,k⟩:=h
 refine⟨_,(ad (aq 1 gG.nd (bw ab))
  (ad (aq 2 gG.nd (bw (aa (pv 0) ab)))
  (ad (d4 XE (bq (pv 2) (λ_=>rfl)) (ad (aq 3 gG.nd (jm Xf ZE ZD jC (pv 2)))
  (ad (aQ (bR Xf Xy Xx aN (pv 1) (aa (pv 3) ab)))
  (af (aQ (bR Xf ZY ZX sG (pv 2) (aa (uB aar (pcF T.g_2 (eF T) hr (aa (pv 3) ab))) ab)))))))
  (af (ax (pv 1)))))),?_⟩
 try dsimp only[Aw,Ae]
 refine⟨by show 0<=Xe;decide,λmt Ce=>?_⟩;refine⟨_,D?,by show 1<=Xe;decide,λah Bx=>?_⟩;have BV:H ah=none:=(ae Ce _).free Bx;have Ap:ah≠mt:=λz=>by rw[z,ac]at Bx;cases Bx
 refine⟨λm Y H2=>Ex5 λ(ms as:List WS)(Ms As:List Th)(p:Option V)=>An8 (Y=[A? (.ref a),A? (.ref mt),A? (.ref ah),p]) (k! H H2) (H2 mt=A? (.lst (ms.map i!))) (H2 ah=A? (.lst (as.map i!))) (AtsK rq K H2 Ms ms) (AtsK rq K H2 As as) (Ms++walks As.reverse=t.walk) (m=ak As),⟨_,[],[a],[],[t],B?,D?,?_,?_,?_,.nil,.cons (hA.mono ?_) .nil,?_,D?⟩,?_⟩
 .exact am (ae Ce _) BV
 .rw[ag Ap.symm,ac];rfl
 .rw[ac];rfl
 .exact j! (am (ae Ce _) BV)
 .simp[walks]
 rintro m Y H2 ⟨ms,as,Ms,As,p,rfl,sm,e1,e2,a1,a2,hw,rfl⟩
 have hlen:ms.length+ak As<=100000:=by
  have h1:=h! Zu hw;rw[Xg,jq,J!,<-a1.length]at h1;have h2:=n5 As;lia
 refine⟨_,D?,_,.inl ⟨_,l! e2,D?⟩,?_⟩;refine cX (λc=>?_) (λc=>?_)
 ·-- a part is taken off
  refine⟨λAa H'=>∃m',m'<ak As/\Ex5 λ(ms as:List WS)(Ms As:List Th)(p:Option V)=>An8 (Aa=[A? (.ref a),A? (.ref mt),A? (.ref ah),p]) (k! H H') (H' mt=A? (.lst (ms.map i!))) (H' ah=A? (.lst (as.map i!))) (AtsK rq K H' Ms ms) (AtsK rq K H' As as) (Ms++walks As.reverse=t.walk) (m'=ak As),λAa H' h=>h,?_⟩;have Be:as≠[]:=by intro z;subst z;simp at c
  obtain⟨Ar,b,rfl⟩:∃Ar b,as=Ar++[b]:=⟨as.dropLast,as.getLast Be,(Y3 Be).symm⟩;obtain⟨Us,x,rfl,a3,a4⟩:=a2.snoc_inv;have hs:ak (Us++[x])=ak Us+x.size:=by rw[bK,ak,ak];lia
  have Fg:=x.size_eq;rw[hs]at hlen;refine⟨_,D?,.inl ⟨D?,_,l! e2⟩,ah,_,.ref b,D?,D?,e2,by simp,?_⟩;have d1:((Ar++[b]).map i!).dropLast=Ar.map i!:=by simp
  rw[d1];refine⟨_,D?,.inl ⟨D?,_,l! (by rw[ag Ap.symm];exact e1)⟩,_,D?,mt,_,.ref b,D?,D?,by rw[ag Ap.symm];exact e1,lbE (by lia),?_⟩;have k1:KT H2 (upd (upd H2 ah (.lst (Ar.map i!))) mt (.lst (ms.map i!++[.ref b]))):=(aG e2).trans (aG (xs:=ms.map i!) (by rw[ag Ap.symm];exact e1));refine⟨_,D?,.inl ⟨D?,_,l! (by rw[ag Ap,ac])⟩,_,D?,b,x,D?,a4.mono k1,λr ks H3 s3 e3 a5=>?_⟩;refine⟨r,_,D?,o! e3,λl hl=>?_⟩;have l1:l≠ah:=λz=>by rw[z,s3 ah _ (by rw[ag Ap,ac])]at hl;cases hl
  have l2:l≠mt:=λz=>by rw[z,s3 mt _ ac]at hl;cases hl
  refine⟨ah,l,_,_,D?,D?,by rw[ag l1.symm];exact s3 ah _ (by rw[ag Ap,ac]),o! ac,ZT (bO ?_),?_⟩
  .have q1:=a3.length;have q2:=a5.length;have q3:=cJ Us;have q4:=cJ x.kids;rw[WO,Ys,WO];lia
  .have k2:KT H2 (upd (upd H3 l (.tup (ks.map i!).reverse)) ah (.lst (Ar.map i!++(ks.map i!).reverse))) :=
    k1.trans ((j! s3).trans ((dC hl).trans (aG (xs:=Ar.map i!) (by rw[ag l1.symm];exact s3 ah _ (by rw[ag Ap,ac])))))
   have k3:KT H3 (upd (upd H3 l (.tup (ks.map i!).reverse)) ah (.lst (Ar.map i!++(ks.map i!).reverse))) :=
    (dC hl).trans (aG (xs:=Ar.map i!) (by rw[ag l1.symm];exact s3 ah _ (by rw[ag Ap,ac])))
   refine⟨ak (Us++x.kids.reverse),?_,ms++[b],Ar++ks.reverse,Ms++[x],Us++x.kids.reverse,A? (.ref b),D?,?_,?_,?_,?_,?_,?_,D?⟩
   .rw[bK,n5,hs];lia
   .have s4:k! H (upd (upd H2 ah (.lst (Ar.map i!))) mt (.lst (ms.map i!++[.ref b]))):=am (am sm BV) Ce;have nl:H l=none:=s4.free (s3.free hl);exact am (am (s4.trans s3) nl) BV
   .rw[ag Ap.symm,ag l2.symm,s3 mt _ ac,Xb];rfl
   .rw[ac,Xb,List.map_reverse]
   .exact(a1.mono k2).append (.cons (a4.mono k2) .nil)
   .exact(a3.mono k2).append (a5.mono k3).reverse
   .rw[<-hw,XG,Yz,Yz,Y6,iD];show Ms++([x]++(walks x.kids++walks Us.reverse))=Ms++walks (x::Us.reverse);rw[walks,x.walk_eq];rfl
 .have hz:as=[]:=by
   cases as with
   |nil=>rfl
   |cons y ys=>simp at c
  subst hz;have En:As=[]:=XZ.mp a2.length.symm;subst En;refine⟨_,D?,k mt ms H2 sm Ce e1 ?_⟩;have EM:Ms=t.walk:=by simpa[walks]using hw
  rw[<-EM];exact a1
inductive nI(K:WQ)(vs:List V)(H:Hp)(Q:VK)(_E:XK):Prop
 |mk (a:WS) (t:Th):vs=[.ref a]->AtK .i K H t a->t.size<=100000->t.tall<=100000->(∀(r:WS)(as:List WS)(H':Hp),k! H H'->H r=B?->H' r=A? (.lst (as.map i!))->PsAtK K H' (t.pl []) as->Q (.ref r) H')->nI K vs H Q _E
theorem gE:aX P w K mg base CX0 2 T.g_4.f T.g_4.d ["thing"] (nI K):=by
 refine T.g_4.F.okA dQ λAi A outer s H vs Q E hr h=>?_;obtain⟨a,t,rfl,hA,hsz,AD,k⟩:=h
 refine⟨_,(ad (aq 1 dQ.nd (bw ab))
  (ad (aq 2 dQ.nd (bw (aa (aB (aa (aB ab) (aa (pv 0) ab))) ab)))
  (ad (d4 XE (bq (pv 2) (λ_=>rfl)) (ad (eU (jm Xf ZE ZD jC (pv 2)) (bi rfl (aj (pgN 3 dQ.nd) (aj (pgN 4 dQ.nd) aP))))
  (ad (aQ (bR Xf Xy Xx aN (pv 1) (aa (aB (aa (pv 3) (aa (pv 4) ab))) ab)))
  (ad (dN (i:=5) (N:=["number","kid","place"]) (js:=[B?,B?,A? 3]) (g:=(mE K 2 (cV (av 0) (cV (av 1) mF)))) (tt:=bL) (te:=(kg (aJ (tOp (qU K) (bh 2) (kg (aJ (bh 0) cN))) (aJ (bh 1) cN)))) dQ.nd rfl (Or.inl rfl) rfl (cB rfl (by decide +kernel) (by decide +kernel) rfl rfl rfl) (ou rfl T.n_2 (pcF T.g_2 (eF T) hr (aa (pv 4) ab))) (λ_ _ _ _ _ _=>(bi rfl (aj (pgN 0 x8) (aj (pgN 1 x8) aP)))) (f8 (bM aW (aL rfl) (bM aW (aL rfl) gu))) (λ_ _ _ _ _ _=>bV) (λ_ _ _ _ _ _=>(aB (aa (aA fD (pv 2) (aB (aa (pv 0) ab))) (aa (pv 1) ab)))))
  (af (aQ (bR Xf ZY ZX gH (pv 2) (aa (uB yx (pv 5)) ab))))))))
  (af (ax (pv 1)))))),?_⟩
 try dsimp only[Aw,Ae]
 refine⟨lnE rfl,λmt Ce=>?_⟩;have s1:k! H (upd H mt (.lst [])):=ae Ce _;have G4:(upd H mt (.lst [])) mt=A? (.lst []):=ac;generalize upd H mt (.lst [])=H1 at s1 G4 |-;refine⟨lnE rfl,λp0 Fh=>?_⟩;refine⟨_,D?,lnE rfl,λp1 DW=>?_⟩;refine⟨lnE rfl,λah Bx=>?_⟩;have s2:k! H1 (upd (upd H1 p0 (.tup [])) p1 (.tup [.ref p0,.ref a])):=(ae Fh _).trans (ae DW _);have e1:(upd (upd H1 p0 (.tup [])) p1 (.tup [.ref p0,.ref a])) p1=A? (.tup [.ref p0,.ref a]):=ac;have e0:(upd (upd H1 p0 (.tup [])) p1 (.tup [.ref p0,.ref a])) p0=A? (.tup []):=ae DW _ _ _ ac;generalize(upd (upd H1 p0 (.tup [])) p1 (.tup [.ref p0,.ref a]))=H2 at s2 e1 e0 Bx |-;have Df:H1 ah=none:=s2.free Bx;have BV:H ah=none:=s1.free Df;have Ap:ah≠mt:=λz=>by rw[z,G4]at Df;cases Df
 refine⟨λm Y H3=>Ex7 λ(ms as:List WS)(Ms As:List (List Int×Th))(c3 c4 c5:Option V)=>An9 (Y=[A? (.ref a),A? (.ref mt),A? (.ref ah),c3,c4,c5]) (k! H H3) (H3 mt=A? (.lst (ms.map i!))) (H3 ah=A? (.lst (as.map i!))) (PsAtK K H3 Ms ms) (PsAtK K H3 As as) (Ms++plP As.reverse=t.pl []) ((∀p∈As,p.1.length+p.2.tall<=100000)) (m=szP As),⟨_,[],[p1],[],[([],t)],B?,B?,B?,D?,?_,?_,?_,.nil,.cons ⟨p0,a,?_,?_,?_⟩ .nil,?_,?_,D?⟩,?_⟩
 .exact am (s1.trans s2) BV
 .rw[ag Ap.symm];exact s2 _ _ G4
 .rw[ac];rfl
 .exact ae Bx _ _ _ e1
 .exact ae Bx _ _ _ e0
 .exact hA.mono (j! (am (s1.trans s2) BV))
 .simp[plP]
 .intro p hp;rw[Xc]at hp;subst hp;simpa using AD
 rintro m Y H3 ⟨ms,as,Ms,As,c3,c4,c5,rfl,sm,em,ea,a1,a2,hw,hb,rfl⟩
 have hlen:ms.length+szP As<=100000:=by
  have h1:=h! Zu hw;rw[Xg,tF,D!,kI]at h1;have h2:=W4 a1;lia
 refine⟨_,D?,_,.inl ⟨_,l! ea,D?⟩,?_⟩;refine cX (λc=>?_) (λc=>?_)
 .refine⟨λAa H'=>∃m',m'<szP As/\Ex7 λ(ms as:List WS)(Ms As:List (List Int×Th))(c3 c4 c5:Option V)=>An9 (Aa=[A? (.ref a),A? (.ref mt),A? (.ref ah),c3,c4,c5]) (k! H H') (H' mt=A? (.lst (ms.map i!))) (H' ah=A? (.lst (as.map i!))) (PsAtK K H' Ms ms) (PsAtK K H' As as) (Ms++plP As.reverse=t.pl []) ((∀p∈As,p.1.length+p.2.tall<=100000)) (m'=szP As),λAa H' h=>h,?_⟩;have Be:as≠[]:=by intro z;subst z;simp at c
  refine hid λZZ kZ=>?_;obtain⟨Ar,b,rfl⟩:∃Ar b,as=Ar++[b]:=⟨as.dropLast,as.getLast Be,(Y3 Be).symm⟩;obtain⟨Us,⟨pre,x⟩,rfl,a3,pa,ta,eb,BM,Ds⟩:=P2.snoc_inv a2;refine kZ ?_;have JF:szP (Us++[(pre,x)])=szP Us+x.size:=by rw[cH,szP,szP];rfl
  have Fg:=x.size_eq;rw[JF]at hlen;have LJ:=hb (pre,x) (by simp);simp only at LJ BM Ds;refine⟨_,D?,.inl ⟨D?,_,l! ea⟩,ah,_,.ref b,D?,D?,ea,by simp,?_⟩;have d1:((Ar++[b]).map i!).dropLast=Ar.map i!:=by simp
  rw[d1];have k1:KT H3 (upd H3 ah (.lst (Ar.map i!))):=aG ea;have Ga:k! H (upd H3 ah (.lst (Ar.map i!))):=am sm BV;have Dt:(upd H3 ah (.lst (Ar.map i!))) mt=A? (.lst (ms.map i!)):=by rw[ag Ap.symm];exact em
  have G5:(upd H3 ah (.lst (Ar.map i!))) ah=A? (.lst (Ar.map i!)):=ac;generalize(upd H3 ah (.lst (Ar.map i!)))=H4 at k1 Ga Dt G5 |-;refine⟨b,_,D?,o! (k1 _ _ eb),D?,_,_,D?,_,_,D?,D?,?_⟩
  refine⟨_,D?,.inl ⟨D?,_,l! Dt⟩,_,D?,_,D?,lnE rfl,λpr Bi=>?_⟩;have NQ:mt≠pr:=aw Dt Bi;refine⟨mt,_,_,D?,D?,ae Bi _ _ _ Dt,lbE (by lia),?_⟩;have NR:(upd H4 pr (.tup [.ref pa,.ref ta])) mt=A? (.lst (ms.map i!)):=ae Bi _ _ _ Dt;have k2:KT H4 (upd (upd H4 pr (.tup [.ref pa,.ref ta])) mt (.lst (ms.map i!++[.ref pr]))):=(dC Bi).trans (aG NR);have NS:k! H (upd (upd H4 pr (.tup [.ref pa,.ref ta])) mt (.lst (ms.map i!++[.ref pr]))):=am (am Ga (Ga.free Bi)) Ce;have QO:(upd (upd H4 pr (.tup [.ref pa,.ref ta])) mt (.lst (ms.map i!++[.ref pr]))) mt=A? (.lst ((ms++[pr]).map i!)):=uAE;have QP:(upd (upd H4 pr (.tup [.ref pa,.ref ta])) mt (.lst (ms.map i!++[.ref pr]))) ah=A? (.lst (Ar.map i!)):=by rw[ag Ap,ag (aw G5 Bi)];exact G5
  have Ih:(upd (upd H4 pr (.tup [.ref pa,.ref ta])) mt (.lst (ms.map i!++[.ref pr]))) pr=A? (.tup [.ref pa,.ref ta]):=by rw[ag NQ.symm,ac]
  generalize(upd (upd H4 pr (.tup [.ref pa,.ref ta])) mt (.lst (ms.map i!++[.ref pr])))=H5 at k2 NS QO QP Ih |-;have Ii:KT H3 H5:=k1.trans k2;have NT:=Ii _ _ BM
  refine⟨_,D?,ta,x,D?,Ds.mono Ii,λr ks H6 s6 er CS=>⟨r,D?,⟨_,o! er⟩,?_⟩⟩;have CQ:ks.length=x.kids.length:=CS.length;have NU:=cJ x.kids;intro D hD;have NV:=s6 _ _ NT;refine⟨ks.length,λj H7=>An3 (j<=ks.length) (k! H6 H7) (Ex1 λ(bs:List WS)=>An2 (H7 D=A? (.lst (bs.map i!))) (PsAtK K H7 ((cU pre 0 x.kids).take j) bs)),⟨Xh _,ae hD _,[],ac,.nil⟩,?_⟩;rintro j H7 ⟨hj,s7,bs,eD,Ao⟩;by_cases Cf:j=ks.length
  .left;refine⟨⟨_,o! (s7 _ _ er),by rw[WO];exact Cf.symm⟩,?_⟩;have Ac:(cU pre 0 x.kids).take j=cU pre 0 x.kids:=by rw[Cf,CQ,<-f9 pre 0 x.kids,YB]
   rw[Ac]at Ao;have NW:=s7 _ _ (s6 _ _ QP);have JG:=s7 _ _ (s6 _ _ QO)
   have Bg:bs.length=x.kids.length:=by
    have:=W4 Ao;rw[f9]at this;exact this.symm
   refine⟨_,D?,.inl ⟨D?,_,l! NW⟩,_,D?,D,_,D?,l! eD,λl hl=>?_⟩;have E8:ah≠l:=aw NW hl;have Fi:mt≠l:=aw JG hl;have JH:(upd H7 l (.lst (bs.map i!).reverse)) ah=A? (.lst (Ar.map i!)):=by rw[ag E8];exact NW
   have q3:Ar.length=Us.length:=(W4 a3).symm;have q4:=oB Us;refine⟨ah,l,_,_,D?,D?,JH,ac,de ?_,?_⟩
   .rw[WO,Ys,WO];lia
   have k8:KT H7 (upd (upd H7 l (.lst (bs.map i!).reverse)) ah (.lst (Ar.map i!++(bs.map i!).reverse))):=(dC hl).trans (aG JH);have Ge:KT H3 (upd (upd H7 l (.lst (bs.map i!).reverse)) ah (.lst (Ar.map i!++(bs.map i!).reverse))):=Ii.trans ((j! (s6.trans s7)).trans k8);refine⟨szP (Us++(cU pre 0 x.kids).reverse),?_,ms++[pr],Ar++bs.reverse,Ms++[(pre,x)],Us++(cU pre 0 x.kids).reverse,_,_,_,D?,?_,?_,?_,?_,?_,?_,?_,D?⟩
   .rw[cH,kI,iY,JF];lia
   .exact am (am ((NS.trans s6).trans s7) ((NS.trans s6).trans s7 |>.free hl)) BV
   .rw[ag Ap.symm,ag Fi];exact JG
   .rw[ac,Xb,List.map_reverse]
   .exact t! (a1.mono Ge) (.cons ⟨pa,ta,k8 _ _ (s7 _ _ (s6 _ _ Ih)),Ge _ _ BM,Ds.mono Ge⟩ .nil)
   .exact t! (I! Ge a3) (P2.reverse (I! k8 Ao))
   .rw[<-hw,XG,Yz,Yz,Y6,lw,qe];show Ms++([(pre,x)]++(pls pre 0 x.kids++plP Us.reverse))=Ms++plP ((pre,x)::Us.reverse);rw[plP,x.pl_eq pre];rfl
   .intro p hp;rcases Xz.mp hp with hp|hp
    .exact hb p (XJ _ hp)
    .obtain⟨g1,g2⟩:=l4 pre 0 x.kids p (List.mem_reverse.mp hp);have:=oW g2;lia
  .right;have Au:j<ks.length:=by lia
   refine⟨Au,⟨_,.ref ks[j],o! (s7 _ _ er),by rw[WZ,WR Au];rfl⟩,?_⟩;rintro y H8 ⟨p,v,hp,rfl,rfl,hv⟩;have Bh:=hv _ (o! (s7 _ _ er));obtain⟨kd,rfl,Dc⟩:=aO Bh;obtain⟨tk,AO,NX⟩:=CS.get Dc;have s8:k! H7 (upd H7 p (.tup [.int (j:Nat),.ref kd])):=ae hp _;refine⟨p,_,D?,o! ac,D?,_,_,D?,_,_,D?,D?,?_⟩;generalize(upd H7 p (.tup [.int (j:Nat),.ref kd]))=H8 at s8 |-;refine⟨_,D?,_,D?,lnE rfl,λn1 Gf=>?_⟩;refine gU Gf λH9 s9 e9=>?_;refine rP (s9 _ _ (s8 _ _ (s7 _ _ NV))) e9 (by rw[WO];show pre.length+1<=1000000;lia) λn2 BD AX JI=>?_;refine⟨_,D?,lnE rfl,λn3 Gg=>?_⟩;have BR:k! H7 (upd BD n3 (.tup [.ref n2,.ref kd])):=(s8.trans (s9.trans AX)).trans (ae Gg _);have JJ:=BR _ _ eD;refine⟨_,JJ,bO ?_,Au,?_,bs++[n3],?_,?_⟩
   .have:=W4 Ao;rw[XS]at this;rw[WO];lia
   .exact am (s7.trans BR) hD
   .rw[ac,Xb];rfl
   .have LK:KT (upd BD n3 (.tup [.ref n2,.ref kd])) (upd (upd BD n3 (.tup [.ref n2,.ref kd])) D (.lst (bs.map i!++[.ref n3]))):=aG JJ;rw[Yh,lU pre 0 x.kids j tk AO];refine t! (I! ((j! BR).trans LK) Ao) (.cons ⟨n2,kd,LK _ _ ac,LK _ _ (ae Gg _ _ _ ?_),?_⟩ .nil)
    .rw[JI,Xb,Ym];rfl
    .exact NX.mono ((j! (s7.trans BR)).trans LK)
 .have hz:as=[]:=by
   cases as with
   |nil=>rfl
   |cons y ys=>simp at c
  subst hz;have En:As=[]:=XZ.mp (W4 a2);subst En;refine⟨_,D?,k mt ms H3 sm Ce em ?_⟩;have EM:Ms=t.pl []:=by simpa[plP]using hw
  rw[<-EM];exact a1
inductive qm(K:WQ)(vs:List V)(H:Hp)(Q:VK)(_E:XK):Prop
 |mk {rq:Rep} (l:WS) (as:List WS) (tops:List Top) (u:Th):vs=[.ref l]->H l=A? (.lst (as.map i!))->Xs (TopAtK rq K H) tops as->tops.length<=100000->TopsOk tops->(∀t,Top.th t∈tops->t.size<=100000)->bl tops=[u]->(∀(r:WS)(H':Hp),k! H H'->AtK rq K H' u r->Q (.ref r) H')->qm K vs H Q _E
theorem iy:aX P w K mg base CX0 1 T.g_5.f T.g_5.d ["tops"] (qm K):=by
 refine T.g_5.F.okA iG λAi A outer s H vs Q E hr h=>?_;obtain@⟨rq,l,as,tops,u,rfl,el,hT,hlen,hok,NY,hu,k⟩:=h
 refine⟨_,(ad (aq 1 iG.nd (bw ab))
  (ad (bH XE rfl (zz rfl T.n_10 (pv 0)) (bi rfl (aj (pgN 2 iG.nd) (aj (pgN 3 iG.nd) aP))) (af (cC (bz pf (pv 3) ai (bc _)) (af (aQ (bR Xf Xy Xx aN (pv 1) (aa (aA fD (pv 2) (bB bo rfl T.n_11 YA (aa (cD (N:=["number","done"]) (js:=[B?,A? 1]) (g:=(av 0)) (tt:=bL) (te:=(aaK K "list" (abe) (bh 1))) rfl (cB rfl (by decide +kernel) (by decide +kernel) rfl rfl rfl) (bI rfl T.n_9 (aa (pv 3) ab)) (λ_ _ _ _ _ _=>(pgN 0 abh)) (aL rfl) (λ_ _ _ _ _ _=>bV) (λ_ _ _ _ _ _=>(jm Xf ZE ZD jC (pv 1)))) ab))) ab)))) (af (aQ (bR Xf Xy Xx aN (pv 1) (aa (pv 2) ab)))))))
  (af (ax (aY bv (pv 1) ai (λ_ _=>rfl)))))),?_⟩
 try dsimp only[Aw,Ae]
 have Bd:tops.length=as.length:=W4 hT;refine⟨lnE rfl,λdn LL=>?_⟩;refine⟨_,D?,l,_,D?,l! (ae LL _ _ _ el),?_⟩
 refine yI (K:=K) (a:=l) (xs:=as.map i!) (λi Y H2=>Ex3 λc2 c3 ds=>An4 (Y=[A? (.ref l),A? (.ref dn),c2,c3]) (k! H H2) (H2 dn=A? (.lst (ds.map i!))) (AtsK rq K H2 (bl (tops.drop (tops.length - i))).reverse ds))
  ⟨B?,B?,[],rfl,ae LL _,ac,by rw[Nat.sub_zero,List.drop_length];exact .nil⟩ (λi Y H2 _⟨_,_,_,_,s2,_,_⟩=>l! (s2 _ _ el)) ?_ ?_
 .rintro i y Y H2 hi hy ⟨c2,c3,ds,rfl,s2,Fj,Bz⟩;rw[WO,<-Bd]at hi hy;obtain⟨pr,rfl,Bi⟩:=aO hy;obtain⟨x,hx,NZ⟩:=B! hT Bi;have JK:=NZ.mono (j! s2);have hn:tops.length - 1 - i<tops.length:=by lia
  have LM:tops.drop (tops.length - 1 - i)=x::tops.drop (tops.length - i):=by
   rw[List.drop_eq_getElem_cons hn,show tops.length - 1 - i+1=tops.length - i by lia];congr 1;rw[WR hn]at hx;exact Xp hx
  have Fl:=hok.drop (tops.length - 1 - i);rw[LM]at Fl;have Gh:tops.length - (i+1)=tops.length - 1 - i:=by lia
  have M8:(bl (tops.drop (tops.length - i))).length<=100000:=by
   have:=sw (tops.drop (tops.length - i));rw[List.length_drop]at this;lia
  generalize tops.drop (tops.length - i)=S at LM Bz Fl M8;refine hid λZZ kZ=>?_
  obtain⟨ta,m,xs,Ih,eta,hm,Wn,CA⟩:∃(ta:WS)(m:Nat)(xs:List V),H2 pr=A? (.tup [.ref ta,.int (m:Nat)])/\TK K H2 ta xs/\m<=(bl S).length/\xs.length<=200000/\∀(H':Hp)(p:WS)(ks:List WS),KT H2 H'->AtsK rq K H' ((bl S).take m) ks->TK K H' p (xs++ks.map i!)->∃u',bl (x::S)=u'::(bl S).drop m/\AtK rq K H' u' p:=by
   cases x with
   | nm n m =>
     rw[TopsOk]at Fl;obtain⟨ta,h1,h2,h3⟩:=JK;refine⟨ta,m,_,h1,h3,Fl.1,(by show 1<=200000;decide),λH' p ks kt hk hp=>⟨_,by rw[bl],?_⟩⟩;rw[AtK];exact⟨h2,ks,hp,hk⟩
   | th t =>
     obtain⟨ta,h1,h2⟩:=JK;obtain⟨xs,h3,hw,h4⟩:=h2.whole;have AA:=NY t (WT hx);refine⟨ta,0,_,h1,h3,Xh _,by lia,λH' p ks kt hk hp=>⟨t,by rw[bl,Z9],?_⟩⟩;rw[ZA,AtsK]at hk;subst hk;rw[Y2,XC]at hp;exact h4 _ _ kt hp
  refine kZ ?_;refine⟨pr,_,D?,o! Ih,D?,_,_,D?,_,_,D?,D?,?_⟩;have N0:=Bz.length;rw[Ys]at N0;refine cj (λb H'=>An2 (H'=H2) (b=decide ((0:Int)<(m:Int)))) (λkk AM=>?_) (λH' hb=>?_) (λH' hb=>?_)
  .exact⟨_,D?,_,_,D?,D?,_,D?,AM _ _ ⟨D?,D?⟩⟩
  rotate_left
  .obtain⟨rfl,hb⟩:=hb
   have Uc:m=0:=by
    have:=of_decide_eq_false hb.symm;lia
   subst Uc;obtain⟨u',BF,Cg⟩:=CA H' ta [] (j! (.refl _)) (by rw[ZA];exact .nil) (by rw[Y2,XC];exact eta);refine⟨_,D?,.inl ⟨D?,_,l! Fj⟩,_,D?,dn,_,_,D?,D?,Fj,lbE (by lia),?_⟩;have k6:KT H' (upd H' dn (.lst (ds.map i!++[.ref ta]))):=aG Fj;refine⟨_,_,ds++[ta],D?,?_,uAE,?_⟩
   .intro b o e;rw[ag (aw e LL)];exact s2 b o e
   .rw[Gh,LM,BF,X7];rw[Z9];exact(Bz.mono k6).append (.cons (Cg.mono k6) .nil)
  obtain⟨rfl,hb⟩:=hb;refine⟨_,D?,.inl ⟨D?,_,l! Fj⟩,_,D?,?_⟩;refine⟨_,D?,(m:Int),D?,by lia,by lia,λD hD=>?_⟩;have N1:D≠dn:=λz=>by rw[z,Fj]at hD;cases hD
  have Ce:((m:Nat):Int).toNat=m:=Xu m
  refine⟨m,λj H3=>An3 (j<=m) ((∀b o,H' b=A? o->b≠dn->H3 b=A? o)) (Ex2 λ(Fm ks:List WS)=>An4 (H3 dn=A? (.lst (Fm.map i!))) (H3 D=A? (.lst (ks.map i!))) (AtsK rq K H3 ((bl S).drop j).reverse Fm) (AtsK rq K H3 ((bl S).take j) ks)),
   ⟨Xh _,λb o e hb=>?_,ds,[],?_,?_,?_,?_⟩,?_⟩
  .rw[ag (aw e hD)];exact e
  .rw[ag N1.symm];exact Fj
  .rw[ac];rfl
  .rw[Z9];exact Bz.mono (dC hD)
  .rw[ZA];exact .nil
  rintro j H3 ⟨hj,kp,Fm,ks,ed,eD,JL,hd2⟩;by_cases QQ:j=m
  .left;refine⟨(by show((m:Nat):Int).toNat<=j;rw[Ce,QQ];exact WX _),?_⟩;subst QQ;have JM:KT H' H3:=λb Wo e=>kp b _ e (eJ e Fj (by intro z;cases z));refine⟨D,_,D?,.inl ⟨l! eD,λtp CD=>?_⟩⟩;refine gU CD λH4 s4 e4=>?_;have CQ:=hd2.length;refine abS ((eta.mono JM).mono (j! s4)) (.of e4) (by rw[WO,CQ,XS];lia) λp H5 s5 e5=>?_;have DF:=s4.trans s5;have QR:=DF _ _ ed;have Fn:=JM.trans (j! DF);obtain⟨u',BF,Cg⟩:=CA H5 p ks Fn (hd2.mono (j! DF)) e5;have Fd:=JL.length;rw[Ys,List.length_drop]at Fd;refine⟨dn,_,_,D?,D?,QR,lbE (by lia),?_⟩;have k6:KT H5 (upd H5 dn (.lst (Fm.map i!++[.ref p]))):=aG QR;refine⟨_,_,Fm++[p],D?,?_,uAE,?_⟩
   .intro b o e;have hb:b≠dn:=aw e LL;rw[ag hb];exact DF _ _ (kp b o (s2 b o e) hb)
   .rw[Gh,LM,BF,X7];exact(JL.mono ((j! DF).trans k6)).append (.cons (Cg.mono k6) .nil)
  .right;have Au:j<m:=by lia
   refine⟨Au,(by show j<((m:Nat):Int).toNat;rw[Ce];exact Au),?_⟩;rintro x' H4 ⟨e1,e2⟩;have B9:H4=H3:=e1;subst B9;have QS:j<(bl S).length:=by lia
   have Ud:(bl S).drop j=(bl S)[j]::(bl S).drop (j+1):=List.drop_eq_getElem_cons QS;rw[Ud,X7]at JL
   have Ap:Fm≠[]:=by
    intro z;subst z;have:=JL.length;rw[Xg]at this;simp at this
   refine hid λZZ kZ=>?_;obtain⟨G7,b,rfl⟩:∃G7 b,Fm=G7++[b]:=⟨Fm.dropLast,Fm.getLast Ap,(Y3 Ap).symm⟩;obtain⟨Us,x2,e3,hU,hb2⟩:=JL.snoc_inv;have e4:=List.append_inj' e3 rfl;obtain⟨e5,e6⟩:=e4;refine kZ ?_;cases e6;subst e5;refine⟨_,D?,.inl ⟨D?,_,l! ed⟩,dn,_,.ref b,D?,D?,ed,by simp,?_⟩;have d1:((G7++[b]).map i!).dropLast=G7.map i!:=by simp
   rw[d1];have Ij:(upd H4 dn (.lst (G7.map i!))) D=A? (.lst (ks.map i!)):=by rw[ag N1];exact eD
   have k5:KT H4 (upd (upd H4 dn (.lst (G7.map i!))) D (.lst (ks.map i!++[.ref b]))):=(aG ed).trans (aG Ij);refine⟨_,Ij,bO (by rw[WO,hd2.length,XS];lia),Au,λb' o e AA=>?_,G7,ks++[b],?_,?_,hU.mono k5,?_⟩
   .rw[ag (aw e hD),ag AA];exact kp b' o e AA
   .rw[ag N1.symm,ac]
   .rw[ac,Xb];rfl
   .rw[Yh,WR QS];exact(hd2.mono k5).append (.cons (hb2.mono k5) .nil)
 .rintro Y H2 ⟨c2,c3,ds,rfl,s2,Fj,Bz⟩;rw[WO,<-Bd,Nat.sub_self,Z9,hu]at Bz;have JN:AtsK rq K H2 [u] ds:=Bz;rw[AtsK]at JN;obtain⟨b,r,rfl,hb,G0⟩:=JN;exact⟨_,D?,dn,_,0,.ref b,D?,D?,l! Fj,at0,k b H2 s2 hb⟩
inductive nL(K:WQ)(vs:List V)(H:Hp)(Q:VK)(_E:XK):Prop
 |mk (a:WS) (t:Th):vs=[.ref a]->AtK .i K H t a->t.size<=100000->t.tall<=100000->(∀(r:WS)(ps:List WS)(H':Hp),k! H H'->H r=B?->H' r=A? (.lst (ps.map i!))->Xs (λ(p:List Int×Th)b=>H' b=A? (.tup (p.1.map q!))) (t.pl []) ps->Q (.ref r) H')->nL K vs H Q _E
theorem uI:aX P w K mg base CX0 3 T.g_6.f T.g_6.d ["tree"] (nL K):=by
 refine T.g_6.F.okA uC λAi A outer s H vs Q E hr h=>?_;obtain⟨a,t,rfl,hA,hsz,AD,k⟩:=h;refine⟨_,(af (ax (cD (N:=["place","knot"]) (js:=[B?,B?]) (g:=(mE K 2 (cV (av 0) (cV (av 1) mF)))) (tt:=bL) (te:=(bh 0)) rfl (cB rfl (by decide +kernel) (by decide +kernel) rfl rfl rfl) (cw (pcF T.g_4 (gE T) hr (aa (pv 0) ab))) (λ_ _ _ _ _ _=>(bi rfl (aj (pgN 0 aa0) (aj (pgN 1 aa0) aP)))) (f8 (bM aW (aL rfl) (bM aW (aL rfl) gu))) (λ_ _ _ _ _ _=>bV) (λ_ _ _ _ _ _=>(pv 0))))),?_⟩
 try dsimp only[Aw,Ae]
 refine⟨_,D?,a,t,D?,hA,hsz,AD,λr as H1 s1 nr er Bo=>⟨r,D?,⟨_,l! er⟩,?_⟩⟩;have Bd:(t.pl []).length=as.length:=W4 Bo;rw[D!]at Bd;refine hid λZZ kZ=>?_;obtain⟨bs,hb1,hb2,hb3⟩:=nA Bo;refine kZ ?_;refine gX bs (λ_=>C?) i! (l! er) (by rw[WO];exact hb2) (by rw[WO];lia) (λi x z H2 R R0 hx hz sm g1 g2=>?_) (λD hD=>?_)
 .obtain⟨a',ta,rfl,ea⟩:=hb3 i x z hx hz;refine⟨a',_,D?,o! (sm _ _ ea),D?,_,_,D?,_,_,D?,D?,?_⟩;refine uT (B:=R0 H2) ?_;exact⟨_,D?,g1 rfl⟩
 .rw[filter_tt];exact k D bs _ (s1.trans (ae hD _)) (s1.free hD) ac (y! (λ_ _ e=>ae hD _ _ _ e) hb1)
inductive fO(K:WQ)(vs:List V)(H:Hp)(Q:VK)(_E:XK):Prop
 |mk {rq:Rep} (a:WS) (t:Th):vs=[.ref a]->AtK rq K H t a->Q (.bl t.isCall) H->fO K vs H Q _E
theorem dZ:aX P w K mg base CX0 1 T.g_9.f T.g_9.d ["thing"] (fO K):=by
 refine T.g_9.F.okA sy λAi A outer s H vs Q E hr h=>?_;obtain@⟨rq,a,t,rfl,hA,k⟩:=h;refine⟨_,(af (ax (dg f6 (aY bx (pv 0) ai (λ_ _=>rfl)) (cy (v:=.str (Xq "?")) rfl T.c_CALL_SIGN.choose_spec ⟨_,D?⟩) (bc _)))),?_⟩
 try dsimp only[Aw,Ae]
 cases t with
 | knot n ks =>
   rw[AtK]at hA;refine hid λZZ kZ=>?_;obtain⟨hn,as,h1,h2⟩:=hA;refine kZ ?_;refine⟨_,D?,a,_,0,.str n,D?,D?,h1.sq,at0,D?,?_⟩;have e:decide (L! n=L! (Xq "?"))=false:=c! (λz=>hn (V.str.inj z));rw[e];exact k
 | call sn kn =>
   rw[AtK]at hA;obtain⟨v,hA,_⟩:=hA;refine⟨_,D?,a,_,0,.str q,D?,D?,hA.sq,at0,D?,?_⟩;have e:decide (L! q=L! (Xq "?"))=true:=d! rfl;rw[e];exact k
inductive g9(K:WQ)(vs:List V)(H:Hp)(Q:VK)(_E:XK):Prop
 |mk (a:WS) (t:Th):vs=[.ref a]->AtK .i K H t a->t.tall<=150->Q (.bl t.isHole) H->g9 K vs H Q _E
theorem fI:aX P w K mg base CX0 1 T.g_10.f T.g_10.d ["thing"] (g9 K):=by
 refine T.g_10.F.okA rF λAi A outer s H vs Q E hr h=>?_;obtain⟨a,t,rfl,hA,AD,k⟩:=h;refine⟨_,(af (ax (dg (tm (B:=150) (gg hr)) (pv 0) (cy (v:=.ref T.k_HOLE.a) rfl T.k_HOLE.c rfl) (bc _)))),?_⟩
 try dsimp only[Aw,Ae]
 refine⟨_,D?,?_⟩;exact yD hA (TK.const T.k_HOLE.q) AD k
inductive lK(K:WQ)(vs:List V)(H:Hp)(Q:VK)(_E:XK):Prop
 |mk (a:WS) (t:Th):vs=[.ref a]->AtK .i K H t a->t.tall<=150->Q (.bl t.isKnot) H->lK K vs H Q _E
theorem rH:aX P w K mg base CX0 2 T.g_11.f T.g_11.d ["thing"] (lK K):=by
 refine T.g_11.F.okA r8 λAi A outer s H vs Q E hr h=>?_;obtain⟨a,t,rfl,hA,AD,k⟩:=h;refine⟨_,(af (ax (gA (sk (pcF T.g_9 (dZ T) hr (aa (pv 0) ab))) (jr (sk (pcF T.g_10 (fI T) hr (aa (pv 0) ab))))))),?_⟩
 try dsimp only[Aw,Ae]
 refine⟨_,D?,a,t,D?,hA,_,D?,_,D?,?_⟩;refine cX (λc=>?_) (λc=>?_)
 .refine⟨_,D?,a,t,D?,hA,AD,_,D?,?_⟩;have e:t.isKnot=!t.isHole:=by unfold Th.isKnot;rw[c];rfl
  rw[e]at k;exact k
 .have e:t.isKnot=false:=by unfold Th.isKnot;rw[Yo.mpr c];rfl
  rw[e]at k;exact k
inductive dH(K:WQ)(vs:List V)(H:Hp)(Q:VK)(_E:XK):Prop
 |mk {rq:Rep} (a:WS) (sn kn:Int):vs=[.ref a]->AtK rq K H (.call sn kn) a->(∀p v,StV rq H sn v->H p=B?->Q (.ref p) (upd H p (.tup [v,.int kn])))->dH K vs H Q _E
theorem fC:aX P w K mg base CX0 1 T.g_12.f T.g_12.d ["call"] (dH K):=by
 refine T.g_12.F.okA o9 λAi A outer s H vs Q E hr h=>?_;obtain@⟨rq,a,sn,kn,rfl,hA,k⟩:=h;refine⟨_,(af (ax (aB (aa (aY bx (pv 0) ai (λ_ _=>rfl)) (aa (aY bx (pv 0) ai (λ_ _=>rfl)) ab))))),?_⟩
 try dsimp only[Aw,Ae]
 rw[AtK]at hA;obtain⟨v,hA,hv⟩:=hA;exact⟨_,D?,a,_,1,_,D?,D?,hA.sq,at1,_,D?,a,_,2,_,D?,D?,hA.sq,at2,lnE rfl,λp hp=>k p v hv hp⟩
inductive jK(K:WQ)(vs:List V)(H:Hp)(Q:VK)(_E:XK):Prop
 |mk (a:WS) (t:Th):vs=[.ref a]->AtK .i K H t a->t.size<=100000->t.tall<=100000->(∀(r:WS)(as:List WS)(H':Hp),k! H H'->H r=B?->H' r=A? (.lst (as.map i!))->CsAt H' (callsOf (t.pl [])) as->Q (.ref r) H')->jK K vs H Q _E
theorem qw:aX P w K mg base CX0 3 T.g_13.f T.g_13.d ["pattern"] (jK K):=by
 refine T.g_13.F.okA pY λAi A outer s H vs Q E hr h=>?_;obtain⟨a,t,rfl,hA,hsz,AD,k⟩:=h;refine⟨_,(af (ax (cD (N:=["place","part"]) (js:=[B?,B?]) (g:=(mE K 2 (cV (av 0) (cV (av 1) mF)))) (tt:=(λY H Q=>(dr (fO K) [] E0 (aJ (bh 1) cN)) Y H λx H1=>∃k,vD K x H1 k/\Q k H1)) (te:=(kg (aJ (bh 0) (aJ (dr (dH K) [] E0 (aJ (bh 1) cN)) cN)))) rfl (cB rfl (by decide +kernel) (by decide +kernel) rfl rfl rfl) (cw (pcF T.g_4 (gE T) hr (aa (pv 0) ab))) (λ_ _ _ _ _ _=>(bi rfl (aj (pgN 0 yK) (aj (pgN 1 yK) aP)))) (f8 (bM aW (aL rfl) (bM aW (aL rfl) gu))) (λ_ _ _ _ _ _=>gD (bq (pcF T.g_9 (dZ T) hr (aa (pv 1) ab)) (λ_=>rfl))) (λ_ _ _ _ _ _=>(aB (aa (pv 0) (aa (pcF T.g_12 (fC T) hr (aa (pv 1) ab)) ab))))))),?_⟩
 try dsimp only[Aw,Ae]
 refine⟨_,D?,a,t,D?,hA,hsz,AD,λr as H1 s1 nr er Bo=>⟨r,D?,⟨_,l! er⟩,?_⟩⟩;have Bd:(t.pl []).length=as.length:=W4 Bo;have AR:=D! [] t;intro D hD;refine⟨as.length,λj H2=>An3 (j<=as.length) (k! H1 H2) (Ex1 λ(bs:List WS)=>An2 (H2 D=A? (.lst (bs.map i!))) (CsAt H2 (callsOf ((t.pl []).take j)) bs)),⟨Xh _,ae hD _,[],ac,.nil⟩,?_⟩;rintro j H2 ⟨hj,s2,bs,eD,Ao⟩;by_cases Cf:j=as.length
 .left;refine⟨⟨_,l! (s2 _ _ er),by rw[WO,Cf];exact WX _⟩,?_⟩;have Ac:(t.pl []).take j=t.pl []:=by rw[Cf,<-Bd,YB]
  rw[Ac]at Ao;exact k D bs H2 (s1.trans s2) (s1.free hD) eD Ao
 .right;have Au:j<as.length:=by lia
  refine⟨Au,⟨_,.ref as[j],l! (s2 _ _ er),by rw[WZ,WR Au];rfl⟩,?_⟩;rintro y H3 ⟨rfl,hv⟩;have Bh:=hv _ (l! (s2 _ _ er));refine hid λZZ kZ=>?_;obtain⟨pr,rfl,Bi⟩:=aO Bh;obtain⟨⟨p,u⟩,N2,pa,ta,e1,e2,e3⟩:=B! (Bo.mono (j! s2)) Bi;refine kZ ?_;simp only at e2 e3;have AO:(t.pl []).take (j+1)=(t.pl []).take j++[(p,u)]:=by rw[Yh,N2];rfl
  have Bg:bs.length<=j:=by
   have g1:=W4 Ao;have g2:=jE ((t.pl []).take j);rw[XS]at g2;lia
  refine⟨pr,_,D?,o! e1,D?,_,_,D?,_,_,D?,D?,?_⟩;refine⟨_,D?,ta,u,D?,e3,_,D?,?_⟩;cases u with
  | knot n ks =>
    refine yO ⟨Au,s2,bs,eD,?_⟩;rw[AO,eh];show CsAt H3 (callsOf ((t.pl []).take j)++[]) bs;rw[XC];exact Ao
  | call sn kn =>
    refine uT ?_;refine⟨_,D?,_,D?,ta,sn,kn,D?,e3,λca v hv Du=>⟨lnE rfl,λn3 Gg=>?_⟩⟩;cases(show v=.int sn from hv);have s4:k! H3 (upd (upd H3 ca (.tup [.int sn,.int kn])) n3 (.tup [.ref pa,.ref ca])):=(ae Du _).trans (ae Gg _);have Eo:=s4 _ _ eD;refine⟨_,Eo,lbE (by lia),Au,am (s2.trans s4) hD,bs++[n3],?_,?_⟩
    .rw[ac,Xb];rfl
    .have k5:KT (upd (upd H3 ca (.tup [.int sn,.int kn])) n3 (.tup [.ref pa,.ref ca])) (upd (upd (upd H3 ca (.tup [.int sn,.int kn])) n3 (.tup [.ref pa,.ref ca])) D (.lst (bs.map i!++[.ref n3]))):=aG Eo;rw[AO,eh];exact t! (CsAt.mono ((j! s4).trans k5) Ao) (.cons ⟨pa,ca,k5 _ _ ac,k5 _ _ (s4 _ _ e2),k5 _ _ (ae Gg _ _ _ ac)⟩ .nil)
inductive jM(K:WQ)(vs:List V)(H:Hp)(Q:VK)(_E:XK):Prop
 |mk (a:WS) (t:Th):vs=[.ref a]->AtK .i K H t a->t.size<=100000->t.tall<=150->(∀(r:WS)(ps:List WS)(H':Hp),k! H H'->H' r=A? (.lst (ps.map i!))->Xs (λ(p:List Int)b=>H' b=A? (.tup (p.map q!))) (((t.pl []).filter λp=>p.2.isHole).map (·.1)) ps->Q (.ref r) H')->jM K vs H Q _E
theorem gv:aX P w K mg base CX0 3 T.g_15.f T.g_15.d ["front"] (jM K):=by
 refine T.g_15.F.okA qi λAi A outer s H vs Q E hr h=>?_;obtain⟨a,t,rfl,hA,hsz,AD,k⟩:=h;refine⟨_,(af (ax (cD (N:=["place","part"]) (js:=[B?,B?]) (g:=(mE K 2 (cV (av 0) (cV (av 1) mF)))) (tt:=(λY H Q=>(dr (g9 K) [] E0 (aJ (bh 1) cN)) Y H λx H1=>∃k,vD K x H1 k/\Q k H1)) (te:=(bh 0)) rfl (cB rfl (by decide +kernel) (by decide +kernel) rfl rfl rfl) (cw (pcF T.g_4 (gE T) hr (aa (pv 0) ab))) (λ_ _ _ _ _ _=>(bi rfl (aj (pgN 0 yK) (aj (pgN 1 yK) aP)))) (f8 (bM aW (aL rfl) (bM aW (aL rfl) gu))) (λ_ _ _ _ _ _=>gD (bq (pcF T.g_10 (fI T) hr (aa (pv 1) ab)) (λ_=>rfl))) (λ_ _ _ _ _ _=>(pv 0))))),?_⟩
 try dsimp only[Aw,Ae]
 refine⟨_,D?,a,t,D?,hA,hsz,by lia,λr as H1 s1 nr er Bo=>⟨r,D?,⟨_,l! er⟩,?_⟩⟩;have Bd:(t.pl []).length=as.length:=W4 Bo;have AR:=D! [] t;obtain⟨bs,hb1,hb2⟩:=pick (G:=λ(p:List Int×Th)a b=>∃ta,H1 a=A? (.tup [.ref b,.ref ta])/\H1 b=A? (.tup (p.1.map q!))/\AtK .i K H1 p.2 ta) (λp a⟨pa,ta,h1,h2,h3⟩=>⟨pa,ta,h1,h2,h3⟩) Bo;refine gX ((t.pl []).zip bs) (λz=>z.1.2.isHole) (λz=>i! z.2) (l! er) (by rw[WO,List.length_zip];lia) (by rw[WO];lia) (λi x z H2 R R0 hx hz sm g1 g2=>?_) (λD hD=>?_)
 .rw[Zf]at hz;refine hid λZZ kZ=>?_;obtain⟨a',rfl,C1⟩:=aO hx;obtain⟨ta,f1,f2,f3⟩:=hb2 i _ _ _ hz.1 C1 hz.2;obtain⟨_,_,_,Wq,_⟩:=vE t [] z.1.1 z.1.2 (WT hz.1);refine kZ ?_;refine⟨a',_,D?,o! (sm _ _ f1),D?,_,_,D?,_,_,D?,D?,?_⟩;refine⟨_,D?,ta,z.1.2,D?,f3.mono (j! sm),by lia,_,D?,?_⟩;refine cX (λc=>?_) (λc=>?_)
  .exact⟨_,D?,g1 c⟩
  .exact g2 (Yo.mpr c)
 .refine k D ((((t.pl []).zip bs).filter λz=>z.1.2.isHole).map (·.2)) _ (s1.trans (ae hD _)) (by rw[ac,YM];rfl) ?_;refine P2.mapl (·.1) (sK (xs:=t.pl []) (cs:=bs) (λp:List Int×Th=>p.2.isHole) (by lia) λi x c e1 e2=>?_);refine hid λZZ kZ=>?_;obtain⟨a',C1⟩:∃a',as[i]?=A? a':=⟨_,WR (by have:=(glE e2);lia)⟩;obtain⟨ta,f1,f2,f3⟩:=hb2 i _ _ _ e1 C1 e2;refine kZ ?_;exact ae hD _ _ _ f2
inductive nW(K:WQ)(vs:List V)(H:Hp)(Q:VK)(_E:XK):Prop
 |mk {rq:Rep} (a:WS) (n:Xk) (ks:List Th):vs=[.ref a]->AtK rq K H (.knot n ks) a->(∀(r:WS)(H':Hp),k! H H'->TopAtK rq K H' (.nm n ks.length) r->Q (.ref r) H')->nW K vs H Q _E
theorem jt:aX P w K mg base CX0 2 T.g_16.f T.g_16.d ["part"] (nW K):=by
 refine T.g_16.F.okA mZ λAi A outer s H vs Q E hr h=>?_;obtain@⟨rq,a,n,ks,rfl,hA,k⟩:=h
 refine⟨_,(ad (aq 1 mZ.nd (aC ay rfl T.n_5 XU (aa (pcF T.g_2 (eF T) hr (aa (pv 0) ab)) ab)))
  (af (ax (aB (aa (fe ub (pv 0) gF (fH (aA sI (aC ay rfl T.n_5 XU (aa (pv 0) ab)) (pv 1)))) (aa (pv 1) ab)))))),?_⟩
 try dsimp only[Aw,Ae]
 refine⟨_,D?,a,.knot n ks,D?,hA,λr as H1 s1 er CS=>⟨r,_,D?,.inr (o! er),?_⟩⟩;rw[AtK]at hA;refine hid λZZ kZ=>?_;obtain⟨hn,ka,ea,De⟩:=hA;refine kZ ?_;have CQ:ka.length=ks.length:=De.length;have Bd:as.length=ks.length:=CS.length;refine⟨_,D?,_,D?,a,_,D?,.inr ((ea.mono (j! s1)).sq),_,D?,_,_,D?,D?,_,D?,a,_,D?,ea.mono (j! s1),λp H2 s2 e2=>?_⟩
 have e1:((L! n::ka.map i!).length:Int) - ((as.map i!).length:Int)=1:=by
  rw[W2,WO,WO,CQ,Bd];lia
 have e3:TK K H2 p [.str n]:=by
  have B9:TK K H2 p (jn (L! n::ka.map i!) B? (A? (((L! n::ka.map i!).length:Int) - ((as.map i!).length:Int)))):=e2;rw[e1,sW]at B9;exact B9
 refine⟨_,D?,lnE rfl,λl hl=>?_⟩;refine k l _ (s1.trans (s2.trans (ae hl _))) ⟨p,?_,hn,e3.mono (dC hl)⟩;rw[ac,WO,Bd]
inductive jj(P:W6)(w:Xo)(K:WQ)(vs:List V)(H:Hp)(Q:VK)(_E:XK):Prop
 |mk {rq:Rep} (rs:Rep) (a ta:WS) (t:Th) (f:Int->Int->Th):vs=[.ref a,.ref ta]->AtK rq K H t a->t.size<=100000->(∀s k,z! s k∈t.walk->∃v,AtK rs K H (f s k) v/\(f s k).size<=100000/\∀(H2:Hp)(ca:WS)(sv:V),k! H H2->StV rq H2 s sv->H2 ca=A? (.tup [sv,.int k])->zU P w H2 ta (.ref ca) (.ref v))->(∀(r:WS)(H':Hp),k! H H'->AtK rs K H' (t.fill f) r->Q (.ref r) H')->jj P w K vs H Q _E
theorem gC:aX P w K mg base CX0 3 T.g_17.f T.g_17.d ["pattern","table"] (jj P w K):=by
 refine T.g_17.F.okA je λAi A outer s H vs Q E hr h=>?_;obtain@⟨rq,rs,a,ta,t,f,rfl,hA,hsz,Fp,k⟩:=h
 refine⟨_,(ad (aq 2 je.nd (bw ab))
  (ad (bH XE rfl (cw (pcF T.g_3 (jl T) hr (aa (pv 0) ab))) (pgN 3 je.nd) (af (cC (bq (pcF T.g_9 (dZ T) hr (aa (pv 3) ab)) (λ_=>rfl)) (af (aQ (bR Xf Xy Xx aN (pv 2) (aa (aB (aa (wB (fL hr) (pv 1) (pcF T.g_12 (fC T) hr (aa (pv 3) ab)) (λ_ _=>rfl)) (aa ai ab))) ab)))) (af (aQ (bR Xf Xy Xx aN (pv 2) (aa (pcF T.g_16 (jt T) hr (aa (pv 3) ab)) ab)))))))
  (af (ax (pcF T.g_5 (iy T) hr (aa (pv 2) ab)))))),?_⟩
 try dsimp only[Aw,Ae]
 refine⟨lnE rfl,λtl AD=>?_⟩;refine⟨_,D?,a,t,D?,hA.mono (dC AD),hsz,λwl as H1 s1 JO JP hw=>?_⟩;have D7:as.length=t.walk.length:=hw.length;have Ue:=J! t;have JQ:k! H H1:=(ae AD _).trans s1;have N3:wl≠tl:=λz=>by rw[z,ac]at JO;cases JO
 refine⟨wl,D?,⟨_,l! JP⟩,?_⟩
 refine cR (K:=K) (a:=wl) (xs:=as.map i!) (λi Y H2=>Ex2 λc bs=>An6 (Y=[A? (.ref a),A? (.ref ta),A? (.ref tl),c]) (k! H H2) (H2 wl=A? (.lst (as.map i!))) (AtsK rq K H2 t.walk as) (H2 tl=A? (.lst (bs.map i!))) (Xs (TopAtK rs K H2) ((t.walk.take i).map (eQ f)) bs))
  ⟨B?,[],rfl,JQ,JP,hw,s1 _ _ ac,.nil⟩ (λi Y H2 _⟨_,_,_,_,e,_,_,_⟩=>l! e) ?_ ?_
 .rintro i x Y H2 hx ⟨c,bs,rfl,s2,Ep,G9,BH,Ao⟩;obtain⟨xa,rfl,N4⟩:=aO hx;obtain⟨tx,JR,Ik⟩:=G9.get N4;have G2:tx∈t.walk:=WT JR;have AO:t.walk.take (i+1)=t.walk.take i++[tx]:=by rw[Yh,JR];rfl
  have Bg:bs.length<=100000:=by
   have:=W4 Ao;rw[WO,XS]at this;lia
  refine⟨_,D?,xa,tx,D?,Ik,_,D?,?_⟩
  have push:∀(H3:Hp)(p:WS),k! H2 H3->TopAtK rs K H3 (eQ f tx) p->Ex2 λc Fq=>An6 (([A? (.ref a),A? (.ref ta),A? (.ref tl),A? (.ref xa)]:St)=[A? (.ref a),A? (.ref ta),A? (.ref tl),c]) (k! H (upd H3 tl (.lst (bs.map i!++[.ref p])))) ((upd H3 tl (.lst (bs.map i!++[.ref p]))) wl=A? (.lst (as.map i!))) (AtsK rq K (upd H3 tl (.lst (bs.map i!++[.ref p]))) t.walk as) ((upd H3 tl (.lst (bs.map i!++[.ref p]))) tl=A? (.lst (Fq.map i!))) (Xs (TopAtK rs K (upd H3 tl (.lst (bs.map i!++[.ref p])))) ((t.walk.take (i+1)).map (eQ f)) Fq):=by
   intro H3 p s3 hp;have k3:KT H3 (upd H3 tl (.lst (bs.map i!++[.ref p]))):=aG (s3 _ _ BH);refine⟨_,bs++[p],D?,am (s2.trans s3) AD,by rw[ag N3];exact s3 _ _ Ep,G9.mono ((j! s3).trans k3),uAE,?_⟩;rw[AO,Xb];exact t! (cW ((j! s3).trans k3) Ao) (.cons (hp.mono k3) .nil)
  cases tx with
  | call sn kn =>
    refine uT ?_;refine hid λZZ kZ=>?_;obtain⟨v,Ug,_,N5⟩:=Fp sn kn G2;refine kZ ?_;refine⟨_,D?,.inl ⟨D?,_,l! BH⟩,_,D?,_,D?,xa,sn,kn,D?,Ik,λcb sv N6 Uh=>?_⟩;have s3:k! H2 (upd H2 cb (.tup [sv,.int kn])):=ae Uh _;refine⟨ta,.ref v,D?,N5 _ cb sv (s2.trans s3) (N6.mono (j! s3)) ac,lnE rfl,λp hp=>?_⟩;have s4:=s3.trans (ae hp (.tup [.ref v,.int 0]));refine⟨tl,_,_,D?,D?,s4 _ _ BH,lbE (by lia),?_⟩;exact push _ p s4 ⟨v,ac,Ug.mono (j! (s2.trans s4))⟩
  | knot nm us =>
    refine yO ?_;refine⟨_,D?,.inl ⟨D?,_,l! BH⟩,_,D?,xa,nm,us,D?,Ik,λp H3 s3 hp=>?_⟩;refine⟨tl,_,_,D?,D?,s3 _ _ BH,lbE (by lia),?_⟩;exact push _ p s3 hp
 .rintro Y H2 ⟨c,bs,rfl,s2,Ep,G9,BH,Ao⟩;rw[WO,D7,YB]at Ao;obtain⟨b1,b2⟩:=tU f t;refine⟨_,D?,tl,bs,_,t.fill f,D?,BH,Ao,by rw[WO];lia,b2,?_,b1,λr H3 s3 Ha=>k r H3 (s2.trans s3) Ha⟩;intro u hu;obtain⟨x,hx,e⟩:=Xl.mp hu;cases x with
  |knot nm us=>cases e
  | call sn kn =>
    cases e;refine hid λZZ kZ=>?_;obtain⟨v,_,hz,_⟩:=Fp sn kn hx;refine kZ ?_;exact hz
theorem we{ta ca:WS}{f':List (List Key×V)}{s k:Int}{sv:V}(e:H ta=A? (.dT f'))(hv:aH f' [Xn s,Xn k]=A? v)(s2:k! H H2)(hs:StV .i H2 s sv)(hc:H2 ca=A? (.tup [sv,.int k])):zU P w H2 ta (.ref ca) v:=by
 cases(show sv=.int s from hs);exact .inl (.inr ⟨f',[Xn s,Xn k],ca,.inl (s2 _ _ e),rfl,hc,hv.symm⟩)
inductive j6(K:WQ)(vs:List V)(H:Hp)(Q:VK)(_E:XK):Prop
 |mk (x y:WS) (l r:Th):vs=[.ref x,.ref y]->AtK .i K H l x->AtK .i K H r y->l.tall<=150->Q (.bl (az l r)) H->j6 K vs H Q _E
theorem jJ:aX P w K mg base CX0 3 T.g_20.f T.g_20.d ["one","two"] (j6 K):=by
 refine T.g_20.F.okA qc λAi A outer s H vs Q E hr h=>?_;obtain⟨x,y,l,r,rfl,hx,hy,AD,k⟩:=h;refine⟨_,(af (ax (gA (pcF T.g_11 (rH T) hr (aa (pv 0) ab)) (gA (dg f6 (aY bx (pv 0) ai (λ_ _=>rfl)) (aY bx (pv 1) ai (λ_ _=>rfl)) (bc _)) (jr (dg f6 (aC ay rfl T.n_5 XU (aa (pv 0) ab)) (aC ay rfl T.n_5 XU (aa (pv 1) ab)) (bc _))))))),?_⟩
 try dsimp only[Aw,Ae]
 rw[qg hx r]at k;refine hid λZZ kZ=>?_;obtain⟨xr,ex,lx⟩:=hx.row;obtain⟨yr,ey,ly⟩:=hy.row;refine kZ ?_;refine⟨_,D?,x,l,D?,hx,AD,_,D?,?_⟩;refine cX (λc=>?_) (λc=>?_)
 .rw[c]at k;refine⟨_,D?,x,_,0,.str l.name,D?,D?,ex.sq,at0,_,D?,y,_,0,.str r.name,D?,D?,ey.sq,at0,D?,_,D?,?_⟩;refine cX (λc2=>?_) (λc2=>?_)
  .have e2:l.name=r.name:=V.str.inj (e! c2);refine⟨_,D?,x,_,D?,.inr (ex.sq),_,D?,y,_,D?,.inr (ey.sq),D?,?_⟩
   have e3:decide (q! ((L! l.name::xr).length:Nat)=q! ((L! r.name::yr).length:Nat))=decide (l.wid=r.wid):=by
    rw[W2,W2,lx,ly];by_cases e:l.wid=r.wid
    .rw[e];simp
    .rw[c! e,c!];intro z;exact e (by have:=V.int.inj z;lia)
   rw[e3];rw[d! e2]at k;exact k
  .have e2:l.name≠r.name:=λe=>c2 (d! (by rw[e]));rw[c! e2]at k;exact k
 .rw[Yo.mpr c]at k;exact k
inductive fW(K:WQ)(vs:List V)(H:Hp)(Q:VK)(_E:XK):Prop
 |mk (x y:WS) (l r:Th):vs=[.ref x,.ref y]->AtK .i K H l x->AtK .i K H r y->l.tall<=150->l.size<=100000->(∀(m:WS)(as:List WS)(H':Hp),k! H H'->H m=B?->H' m=A? (.lst (as.map i!))->Xs (PPK K H') (l.sbs r) as->Q (.ref m) H')->fW K vs H Q _E
theorem kb:aX P w K mg base CX0 4 T.g_21.f T.g_21.d ["one","two"] (fW K):=by
 refine T.g_21.F.okA bX λAi A outer s H vs Q E hr h=>?_;obtain⟨x,y,l,r,rfl,hx,hy,AD,hsz,k⟩:=h
 refine⟨_,(ad (aq 2 bX.nd (bw ab))
  (ad (aq 3 bX.nd (bw (aa (aB (aa (pv 0) (aa (pv 1) ab))) ab)))
  (ad (d4 XE (bq (pv 3) (λ_=>rfl)) (ad (eU (jm Xf ZE ZD jC (pv 3)) (bi rfl (aj (pgN 4 bX.nd) (aj (pgN 5 bX.nd) aP))))
  (ad (aQ (bR Xf Xy Xx aN (pv 2) (aa (aB (aa (pv 4) (aa (pv 5) ab))) ab)))
  (af (cC (bq (pcF T.g_20 (jJ T) hr (aa (pv 4) (aa (pv 5) ab))) (λ_=>rfl)) (af (aQ (bR Xf ZY ZX gH (pv 3) (aa (mw rfl rfl T.n_6 rfl T.n_10 (rB rfl rfl T.n_6 rfl T.n_12 (aa (fe kQ (pv 4) (fH ai) gF) (aa (fe kQ (pv 5) (fH ai) gF) ab)))) ab)))) bU)))))
  (af (ax (pv 2)))))),?_⟩
 try dsimp only[Aw,Ae]
 refine⟨by show 0<=Xe;decide,λmt Ce=>?_⟩;refine⟨_,D?,_,D?,by show 2<=Xe;decide,λt0 QT=>⟨by show 1<=Xe;decide,λah Bx=>?_⟩⟩;have s0:k! H (upd (upd H mt (.lst [])) t0 (.tup [.ref x,.ref y])):=(ae Ce _).trans (ae QT _);have e0:(upd (upd H mt (.lst [])) t0 (.tup [.ref x,.ref y])) mt=A? (.lst []):=ae QT _ _ _ ac;have e1:(upd (upd H mt (.lst [])) t0 (.tup [.ref x,.ref y])) t0=A? (.tup [.ref x,.ref y]):=ac;generalize(upd (upd H mt (.lst [])) t0 (.tup [.ref x,.ref y]))=H1 at s0 e0 e1 Bx |-;have BV:H ah=none:=s0.free Bx;have Ap:ah≠mt:=λz=>by rw[z,e0]at Bx;cases Bx
 refine⟨λm Y H2=>Ex6 λ(ms as:List WS)(Ms As:List (Th×Th))(p p':Option V)=>wT (Y=[A? (.ref x),A? (.ref y),A? (.ref mt),A? (.ref ah),p,p']) (k! H H2) (H2 mt=A? (.lst (ms.map i!))) (H2 ah=A? (.lst (as.map i!))) (Xs (PPK K H2) Ms ms) (Xs (PPK K H2) As as) (Ms++wks As.reverse=l.sbs r) ((∀p∈As,p.1.tall<=150)) (Ms.length+szL As<=100000) (m=szL As),⟨_,[],[t0],[],[(l,r)],B?,B?,D?,?_,?_,?_,.nil,.cons ⟨x,y,?_,hx.mono ?_,hy.mono ?_⟩ .nil,?_,?_,?_,D?⟩,?_⟩
 .exact am s0 BV
 .rw[ag Ap.symm];exact e0
 .rw[ac];rfl
 .rw[ag (aw e1 Bx)];exact e1
 .exact j! (am s0 BV)
 .exact j! (am s0 BV)
 .show wks [(l,r)]=_;rw[wks,wks,XC]
 .intro p hp;rw[Xc]at hp;subst hp;exact AD
 .show 0+(l.size+0)<=100000;lia
 rintro m Y H2 ⟨ms,as,Ms,As,p,p',rfl,sm,e1,e2,a1,a2,hw,Ds,hlen,rfl⟩;have Ui:Ms.length=ms.length:=W4 a1;refine⟨_,D?,_,.inl ⟨_,l! e2,D?⟩,?_⟩;refine cX (λc=>?_) (λc=>?_)
 .refine⟨λAa H'=>∃m',m'<szL As/\Ex6 λ(ms as:List WS)(Ms As:List (Th×Th))(p p':Option V)=>wT (Aa=[A? (.ref x),A? (.ref y),A? (.ref mt),A? (.ref ah),p,p']) (k! H H') (H' mt=A? (.lst (ms.map i!))) (H' ah=A? (.lst (as.map i!))) (Xs (PPK K H') Ms ms) (Xs (PPK K H') As as) (Ms++wks As.reverse=l.sbs r) ((∀p∈As,p.1.tall<=150)) (Ms.length+szL As<=100000) (m'=szL As),λAa H' h=>h,?_⟩;have Be:as≠[]:=by intro z;subst z;simp at c
  refine hid λZZ kZ=>?_;obtain⟨Ar,b,rfl⟩:∃Ar b,as=Ar++[b]:=⟨as.dropLast,as.getLast Be,(Y3 Be).symm⟩;obtain⟨Us,u,rfl,a3,u1,u2,a4,a5,a6⟩:=P2.snoc_inv a2;obtain⟨ul,ur⟩:=u;refine kZ ?_;simp only at a5 a6;have hs:szL (Us++[(ul,ur)])=szL Us+ul.size:=by rw[eB,szL,szL];rfl
  have Fg:=ul.size_eq;rw[hs]at hlen;have QU:ul.tall<=150:=Ds (ul,ur) (by simp);have QV:∀p∈Us,p.1.tall<=150:=λp hp=>Ds p (by simp[hp]);refine⟨_,D?,.inl ⟨D?,_,l! e2⟩,ah,_,.ref b,D?,D?,e2,by simp,?_⟩;have d1:((Ar++[b]).map i!).dropLast=Ar.map i!:=by simp
  rw[d1];have k0:KT H2 (upd H2 ah (.lst (Ar.map i!))):=aG e2;have f1:(upd H2 ah (.lst (Ar.map i!))) mt=A? (.lst (ms.map i!)):=by rw[ag Ap.symm];exact e1
  have f2:(upd H2 ah (.lst (Ar.map i!))) ah=A? (.lst (Ar.map i!)):=ac;have s3:k! H (upd H2 ah (.lst (Ar.map i!))):=am sm BV;generalize(upd H2 ah (.lst (Ar.map i!)))=H3 at k0 f1 f2 s3 |-;refine⟨b,_,D?,o! (k0 _ _ a4),D?,_,_,D?,_,_,D?,D?,?_⟩;refine⟨_,D?,.inl ⟨D?,_,l! f1⟩,_,D?,_,D?,by show 2<=Xe;decide,λt1 Uj=>?_⟩;refine gU Uj λH4 s4 e4=>?_;refine⟨mt,_,_,D?,D?,s4 _ _ f1,lbE (by lia),?_⟩;have k5:KT H4 (upd H4 mt (.lst (ms.map i!++[.ref t1]))):=aG (s4 _ _ f1);have g1:(upd H4 mt (.lst (ms.map i!++[.ref t1]))) mt=A? (.lst ((ms++[t1]).map i!)):=uAE;have g2:(upd H4 mt (.lst (ms.map i!++[.ref t1]))) ah=A? (.lst (Ar.map i!)):=by rw[ag Ap];exact s4 _ _ f2
  have s5:k! H (upd H4 mt (.lst (ms.map i!++[.ref t1]))):=am (s3.trans s4) Ce;generalize(upd H4 mt (.lst (ms.map i!++[.ref t1])))=H5 at k5 g1 g2 s5 |-;have Fs:KT H2 H5:=(k0.trans (j! s4)).trans k5;have aM:Xs (PPK K H5) (Ms++[(ul,ur)]) (ms++[t1]):=t! (dO Fs a1) (.cons ⟨u1,u2,k5 _ _ e4,a5.mono Fs,a6.mono Fs⟩ .nil);refine⟨_,D?,_,D?,u1,u2,ul,ur,D?,a5.mono Fs,a6.mono Fs,QU,_,D?,?_⟩
  have JS:Ms++((ul,ur)::((if az ul ur=C? then wks (ul.kids.zip ur.kids)else[])++wks Us.reverse))=l.sbs r:=by
   rw[<-hw,Yz];show _=Ms++wks ((ul,ur)::Us.reverse);rw[wW]
  refine cX (λct=>?_) (λct=>?_)
  .refine hid λZZ kZ=>?_;obtain⟨n,ks,us,rfl,rfl,Wr,Ws⟩:=bp ct;have QW:=a5.mono Fs;have QX:=a6.mono Fs;rw[AtK]at QW QX;obtain⟨Gf,ka,ek,De⟩:=QW;obtain⟨II,ua,eu,Ft⟩:=QX;refine kZ ?_;rw[b! ct]at JS;have hz:=iM ks us;refine⟨_,D?,.inl ⟨D?,_,l! g2⟩,_,D?,1,D?,u1,_,D?,ek.sq,?_,λc1 QY=>?_⟩
   .intro z;have:=z.1;simp[H!]at this
   rw[iw];refine gU QY λH6 s6 e6=>?_;refine⟨_,D?,1,D?,u2,_,D?,(eu.mono (j! s6)).sq,?_,λc2 BQ=>?_⟩
   .intro z;have:=z.1;simp[H!]at this
   rw[iw];refine gU BQ λH7 s7 e7=>?_;refine⟨c1,c2,_,_,D?,o! (s7 _ _ e6),o! e7,λzl zs H8 s8 Wt Uk Jn=>?_⟩;have Dw:k! H5 H8:=s6.trans (s7.trans s8);have QZ:Xs (PPK K H8) (ks.zip us) zs:=qk (De.mono (j! Dw)) (Ft.mono (j! Dw)) Jn;have QM:(ks.zip us).length=zs.length:=W4 QZ;have Wu:(ks.zip us).length<=szL (ks.zip us):=oT _;refine⟨C?,zl,_,D?,SqB.l (l! Uk),λrl CC=>?_⟩;have s9:k! H8 (upd H8 rl (.lst (zs.map i!).reverse)):=ae CC _;have e9:(upd H8 rl (.lst (zs.map i!).reverse)) rl=A? (.lst (zs.map i!).reverse):=ac;have Wv:H5 rl=none:=Dw.free CC;generalize(upd H8 rl (.lst (zs.map i!).reverse))=H9 at s9 e9 |-;have DX:=Dw.trans s9;have Q0:Us.length=Ar.length:=W4 a3;have Q1:=oT Us;refine⟨ah,rl,_,_,D?,D?,DX _ _ g2,e9,ZT (bO ?_),?_⟩
   .rw[WO,Ys,WO];simp only[K!]at Fg;lia
   have Q2:KT H9 (upd H9 ah (.lst (Ar.map i!++(zs.map i!).reverse))):=aG (DX _ _ g2);have Q3:KT H5 (upd H9 ah (.lst (Ar.map i!++(zs.map i!).reverse))):=(j! DX).trans Q2;simp only[K!]at Fg JS;refine⟨szL (Us++(ks.zip us).reverse),?_,ms++[t1],Ar++zs.reverse,Ms++[(.knot n ks,.knot n us)],Us++(ks.zip us).reverse,_,_,D?,?_,?_,?_,dO Q3 aM,?_,?_,?_,?_,D?⟩
   .rw[eB,tj,hs];lia
   .exact am (s5.trans DX) BV
   .rw[ag Ap.symm];exact DX _ _ g1
   .rw[ac,Xb,List.map_reverse]
   .exact t! (dO (Fs.trans Q3) a3) (P2.reverse (dO ((j! s9).trans Q2) QZ))
   .rw[Yz,Y6,mq,<-JS,XG];rfl
   .intro p hp;rcases Xz.mp hp with hp|hp
    .exact QV p hp
    .have AZ:=(ZM (List.mem_reverse.mp hp)).1;have:=cA AZ;rw[u!]at QU;lia
   .rw[eB,tj,Xg];show Ms.length+1+_<=_;lia
  .rw[a! ct]at JS;refine⟨szL Us,?_,ms++[t1],Ar,Ms++[(ul,ur)],Us,_,_,D?,s5,g1,g2,aM,dO Fs a3,?_,QV,?_,D?⟩
   .rw[hs];lia
   .rw[<-JS,XG];rfl
   .rw[Xg];show Ms.length+1+_<=_;lia
 .have hz:as=[]:=by
   cases as with
   |nil=>rfl
   |cons y ys=>simp at c
  subst hz;have En:As=[]:=XZ.mp (W4 a2);subst En;refine⟨_,D?,k mt ms H2 sm Ce e1 ?_⟩
  have EM:Ms=l.sbs r:=by
   rw[<-hw,List.reverse_nil,wks,XC]
  rw[<-EM];exact a1
inductive nU(K:WQ)(vs:List V)(H:Hp)(Q:VK)(_E:XK):Prop
 |mk (x y:WS) (l r:Th):vs=[.ref x,.ref y]->AtK .i K H l x->AtK .i K H r y->l.tall<=150->l.size<=100000->(∀(m:WS)(H':Hp),k! H H'->AtK .i K H' (l.com r) m->Q (.ref m) H')->nU K vs H Q _E
theorem uS:aX P w K mg base CX0 5 T.g_22.f T.g_22.d ["one","two"] (nU K):=by
 refine T.g_22.F.okA gI λAi A outer s H vs Q E hr h=>?_;obtain⟨x,y,l,r,rfl,hx,hy,AD,hsz,k⟩:=h
 refine⟨_,(ad (aq 2 gI.nd (bw ab))
  (ad (bH XE rfl (cw (pcF T.g_21 (kb T) hr (aa (pv 0) (aa (pv 1) ab)))) (bi rfl (aj (pgN 3 gI.nd) (aj (pgN 4 gI.nd) aP))) (af (cC (bq (pcF T.g_20 (jJ T) hr (aa (pv 3) (aa (pv 4) ab))) (λ_=>rfl)) (af (aQ (bR Xf Xy Xx aN (pv 2) (aa (pcF T.g_16 (jt T) hr (aa (pv 3) ab)) ab)))) (af (aQ (bR Xf Xy Xx aN (pv 2) (aa (aB (aa (cy (v:=.ref T.k_HOLE.a) rfl T.k_HOLE.c rfl) (aa ai ab))) ab)))))))
  (af (ax (pcF T.g_5 (iy T) hr (aa (pv 2) ab)))))),?_⟩
 try dsimp only[Aw,Ae]
 refine⟨lnE rfl,λtl BI=>?_⟩;refine⟨_,D?,_,D?,x,y,l,r,D?,hx.mono (dC BI),hy.mono (dC BI),AD,hsz,λm as H1 s1 nm em hp=>⟨m,D?,⟨_,l! em⟩,?_⟩⟩;have AR:(l.sbs r).length=as.length:=W4 hp;have N7:=x9 l r;have JQ:k! H H1:=(ae BI _).trans s1;have Ce:m≠tl:=λz=>by rw[z,ac]at nm;cases nm
 refine cR (K:=K) (a:=m) (xs:=as.map i!) (λi Y H2=>Ex3 λc c' bs=>An6 (Y=[A? (.ref x),A? (.ref y),A? (.ref tl),c,c']) (k! H H2) (H2 m=A? (.lst (as.map i!))) (Xs (PPK K H2) (l.sbs r) as) (H2 tl=A? (.lst (bs.map i!))) (Xs (TopAtK .i K H2) (((l.sbs r).take i).map topC) bs)) ⟨B?,B?,[],rfl,JQ,em,hp,s1 _ _ ac,.nil⟩ (λi Y H2 _⟨_,_,_,_,_,e,_,_,_⟩=>l! e) ?_ ?_
 .rintro i v Y H2 hv ⟨c,c',bs,rfl,s2,Dt,BL,BH,Ao⟩;refine hid λZZ kZ=>?_;obtain⟨b,rfl,hb⟩:=aO hv;obtain⟨⟨ul,ur⟩,hu,u1,u2,e1,e2,e3⟩:=B! BL hb;refine kZ ?_;simp only at e2 e3;have hm:=ug (WT hu);simp only at hm;have AO:((l.sbs r).take (i+1)).map topC=((l.sbs r).take i).map topC++[topC (ul,ur)]:=by rw[Yh,hu,Xb];rfl
  have Bg:bs.length<=100000:=by
   have:=W4 Ao;rw[WO,XS]at this;lia
  refine⟨b,_,D?,o! e1,D?,_,_,D?,_,_,D?,D?,?_⟩
  have push:∀(H3:Hp)(p:WS),k! H2 H3->TopAtK .i K H3 (topC (ul,ur)) p->Ex3 λc c' Fq=>An6 (([A? (.ref x),A? (.ref y),A? (.ref tl),A? (.ref u1),A? (.ref u2)]:St)=[A? (.ref x),A? (.ref y),A? (.ref tl),c,c']) (k! H (upd H3 tl (.lst (bs.map i!++[.ref p])))) ((upd H3 tl (.lst (bs.map i!++[.ref p]))) m=A? (.lst (as.map i!))) (Xs (PPK K (upd H3 tl (.lst (bs.map i!++[.ref p])))) (l.sbs r) as) ((upd H3 tl (.lst (bs.map i!++[.ref p]))) tl=A? (.lst (Fq.map i!))) (Xs (TopAtK .i K (upd H3 tl (.lst (bs.map i!++[.ref p])))) (((l.sbs r).take (i+1)).map topC) Fq):=by
   intro H3 p s3 JT;have k3:KT H3 (upd H3 tl (.lst (bs.map i!++[.ref p]))):=aG (s3 _ _ BH);refine⟨_,_,bs++[p],D?,am (s2.trans s3) BI,by rw[ag Ce];exact s3 _ _ Dt,dO ((j! s3).trans k3) BL,uAE,?_⟩;rw[AO];exact t! (cW ((j! s3).trans k3) Ao) (.cons (JT.mono k3) .nil)
  refine⟨_,D?,_,D?,u1,u2,ul,ur,D?,e2,e3,by lia,_,D?,?_⟩;refine cX (λct=>?_) (λct=>?_)
  .have ht:topC (ul,ur)=.nm ul.name ul.kids.length:=by unfold topC;rw[b! ct]
   obtain⟨n,ks,us,rfl,rfl,_,_⟩:=bp ct;refine⟨_,D?,.inl ⟨D?,_,l! BH⟩,_,D?,u1,n,ks,D?,e2,λp H3 s3 JT=>?_⟩;refine⟨tl,_,_,D?,D?,s3 _ _ BH,lbE (by lia),?_⟩;exact push _ p s3 (by rw[ht];exact JT)
  .have ht:topC (ul,ur)=.th hole:=by unfold topC;rw[a! ct]
   refine⟨_,D?,.inl ⟨D?,_,l! BH⟩,lnE rfl,λp Ul=>?_⟩;have s3:k! H2 (upd H2 p (.tup [.ref T.k_HOLE.a,.int 0])):=ae Ul _;refine⟨tl,_,_,D?,D?,s3 _ _ BH,lbE (by lia),?_⟩;exact push _ p s3 (by rw[ht];exact⟨T.k_HOLE.a,ac,xE (TK.const T.k_HOLE.q)⟩)
 .rintro Y H2 ⟨c,c',bs,rfl,s2,Dt,BL,BH,Ao⟩;rw[WO,<-AR,YB]at Ao;obtain⟨b1,b2⟩:=z9 l r;refine⟨_,D?,tl,bs,_,l.com r,D?,BH,Ao,by rw[WO];lia,b2,?_,b1,λrr H3 s3 Ha=>k rr H3 (s2.trans s3) Ha⟩;intro u hu;obtain⟨p,AZ,e⟩:=Xl.mp hu;unfold topC at e;split at e
  .cases e
  .cases e;rw[dP];lia
inductive m9(vs:List V)(H:Hp)(Q:VK)(_E:XK):Prop
 |mk (b:WS) (v1 v2 v3 v4:V):vs=[.ref b]->H b=A? (.tup [v1,v2,v3,v4])->Q v1 H->m9  vs H Q _E
inductive jX(vs:List V)(H:Hp)(Q:VK)(_E:XK):Prop
 |mk (b:WS) (v1 v2 v3 v4:V):vs=[.ref b]->H b=A? (.tup [v1,v2,v3,v4])->Q v4 H->jX  vs H Q _E
theorem dS:aX P w K mg base CX0 1 T.g_26.f T.g_26.d ["book"] m9:=by
 refine T.g_26.F.okA uN λAi A outer s H vs Q E hr h=>?_;obtain⟨b,v1,v2,v3,v4,rfl,e,q⟩:=h;refine⟨_,(af (ax (aY bx (pv 0) ai (λ_ _=>rfl)))),?_⟩
 try dsimp only[Aw,Ae]
 exact⟨_,D?,b,_,0,v1,D?,D?,o! e,at0,q⟩
theorem dA:aX P w K mg base CX0 1 T.g_29.f T.g_29.d ["book"] jX:=by
 refine T.g_29.F.okA qv λAi A outer s H vs Q E hr h=>?_;obtain⟨b,v1,v2,v3,v4,rfl,e,q⟩:=h;refine⟨_,(af (ax (aY bx (pv 0) ai (λ_ _=>rfl)))),?_⟩
 try dsimp only[Aw,Ae]
 exact⟨_,D?,b,_,3,v4,D?,D?,o! e,cF (j:=3) rfl,q⟩
inductive iz(vs:List V)(H:Hp)(Q:VK)(_E:XK):Prop
 |mk (b:WS) (v1 v2 v3:V) (ra:WS) (xs:List V):vs=[.ref b]->H b=A? (.tup [v1,v2,v3,.ref ra])->H ra=A? (.tup xs)->Q (.int xs.length) H->iz  vs H Q _E
theorem ow:aX P w K mg base CX0 2 T.g_30.f T.g_30.d ["book"] iz:=by
 refine T.g_30.F.okA n8 λAi A outer s H vs Q E hr h=>?_;obtain⟨b,v1,v2,v3,ra,xs,rfl,e,e2,q⟩:=h;refine⟨_,(af (ax (aC ay rfl T.n_5 XU (aa (pcF T.g_29 (dA T) hr (aa (pv 0) ab)) ab)))),?_⟩
 try dsimp only[Aw,Ae]
 exact⟨_,D?,b,_,_,_,_,D?,e,ra,_,D?,.inr (o! e2),q⟩
inductive eZ(vs:List V)(H:Hp)(Q:VK)(_E:XK):Prop
 |mk (ia:WS) (Ak:List WS) (ins:List (Xk×Int)):vs=[.ref ia]->H ia=A? (.tup (Ak.map i!))->KsAt H ins Ak->cz ins->(∀(r:WS)(H':Hp),k! H H'->At H' (eI ins) r->Q (.ref r) H')->eZ  vs H Q _E
theorem eV:aX P w K mg base CX0 1 T.g_31.f T.g_31.d ["ins"] eZ:=by
 refine T.g_31.F.okA mI λAi A outer s H vs Q E hr h=>?_;obtain⟨ia,Ak,ins,rfl,ei,ET,g,q⟩:=h;refine⟨_,(af (ax (aY bv (cD (N:=["name","many"]) (js:=[B?,B?]) (g:=(mE K 2 (cV (av 0) (cV (av 1) mF)))) (tt:=(np (tOp (rEq) (bh 1) (tC (.int 0))))) (te:=(kg (aJ (bh 0) cN))) rfl (cB rfl (by decide +kernel) (by decide +kernel) rfl rfl rfl) (ij (pv 0)) (λ_ _ _ _ _ _=>(bi rfl (aj (pgN 0 xP) (aj (pgN 1 xP) aP)))) (f8 (bM aW (aL rfl) (bM aW (aL rfl) gu))) (λ_ _ _ _ _ _=>gD (bz f6 (pv 1) ai (bc _))) (λ_ _ _ _ _ _=>(aB (aa (pv 0) ab)))) ai (λ_ _=>rfl)))),?_⟩
 try dsimp only[Aw,Ae]
 have C6:ins.length=Ak.length:=W4 ET;have N8:=g.le;refine⟨_,D?,ia,D?,⟨_,o! ei⟩,wQ (F:=λH(k:Xk×Int)a=>At H (.knot k.1 []) a) (xs:=Ak.map i!) ins (λk=>decide (k.2=0)) (λH1 H2 z p kt h=>h.mono kt) (by rw[WO];exact C6) (by rw[WO];lia) (λi Hx sx hi=>⟨_,_,o! (sx _ _ ei),WR hi⟩) (λHx sx=>⟨_,o! (sx _ _ ei),WX _⟩) (λi Hx x Hy sx hi hy=>⟨hy.1,hy.2 _ (o! (sx _ _ ei))⟩) (λi x z Hx R W' hx BW sx hR hW=>?_) (λD H1 as hD s1 eD DG=>?_)⟩
 .obtain⟨ka,rfl,De⟩:=aO hx;obtain⟨z',Ca,ez⟩:=B! ET De;rw[BW]at Ca;cases Ca;have N9:Hx ka=A? (.tup [.str z.1,.int z.2]):=sx _ _ ez;refine⟨ka,_,D?,o! N9,D?,_,_,D?,_,_,D?,D?,_,D?,D?,_,D?,?_⟩;have hm:=WT BW;by_cases hc:z.2=0
  .rw[b! (d! (by rw[hc]))];refine⟨_,D?,lnE rfl,λp hp=>hR (d! hc) _ p (ae hp _) ?_⟩;rw[At];exact⟨pk (g.low z hm).1,[],ac,.nil⟩
  .rw[a! (λz2=>hc (V.int.inj (e! z2)))];exact hW (c! hc) _ (.refl _)
 .refine hid λZZ kZ=>?_;obtain⟨k0,Cd,Ji⟩:=rN g;obtain⟨r,N',hA⟩:=F! DG (i:=0) Cd;refine kZ ?_;exact⟨D,_,0,.ref r,D?,D?,l! eD,at_nonneg (Int.le_refl _) (by rw[WZ];show Option.map i! as[0]?=_;rw[N'];rfl),q r H1 s1 (by rw[jo Cd];exact hA)⟩
def zg(H:Hp)(ins:List (Xk×Int))(f':List (Key×V))(us:List Th):Prop:=∀(i:Nat)(u:Th),us[i]?=A? u->(∃a,aH f' (Xn (i:Int))=A? (.ref a)/\At H u a)\/(aH f' (Xn (i:Int))=B?/\u=eI ins)
inductive gP(vs:List V)(H:Hp)(Q:VK)(_E:XK):Prop
 |mk (ia ka da:WS) (Ak:List WS) (ins:List (Xk×Int)) (kd:Xk×Int) (f':List (Key×V)) (us:List Th):vs=[.ref ia,.ref ka,.ref da]->H ia=A? (.tup (Ak.map i!))->KsAt H ins Ak->cz ins->KAt H kd ka->kd∈ins->H da=A? (.dK f')->us.length=kd.2.toNat->zg H ins f' us->(∀(r:WS)(H':Hp),k! H H'->At H' (.knot kd.1 us) r->Q (.ref r) H')->gP  vs H Q _E
theorem eW:aX P w K mg base CX0 2 T.g_32.f T.g_32.d ["ins","kind","kids"] gP:=by
 refine T.g_32.F.okA fb λAi A outer s H vs Q E hr h=>?_;obtain⟨ia,ka,da,Ak,ins,kd,f',us,rfl,ei,ET,g,ek,hm,ed,Q4,E4,q⟩:=h
 refine⟨_,(ad (eU (pv 1) (bi rfl (aj (pgN 3 fb.nd) (aj (pgN 4 fb.nd) aP))))
  (af (ax (aA fD (aB (aa (pv 3) ab)) (bB bo rfl T.n_11 YA (aa (cD (N:=["kid","kids","ins"]) (js:=[B?,A? 2,A? 0]) (g:=(av 0)) (tt:=bL) (te:=(wa (bh 1) (bh 0) (dr eZ [] E0 (aJ (bh 2) cN)))) rfl (cB rfl (by decide +kernel) (by decide +kernel) rfl rfl rfl) (bI rfl T.n_9 (aa (pv 4) ab)) (λ_ _ _ _ _ _=>(pgN 0 abG)) (aL rfl) (λ_ _ _ _ _ _=>bV) (λ_ _ _ _ _ _=>(xx (jI hr) (pv 1) (pv 0) (pcF T.g_31 (eV T) hr (aa (pv 2) ab)) ⟨D?,D?,D?,D?⟩))) ab)))))),?_⟩
 try dsimp only[Aw,Ae]
 have B5:=g.num kd hm;have Um:H ka=A? (.tup [.str kd.1,.int kd.2]):=ek;refine⟨_,D?,ka,_,D?,o! Um,D?,_,_,D?,_,_,D?,D?,?_⟩;refine⟨_,D?,lnE rfl,λp1 DW=>?_⟩;dsimp only;refine gU DW λH1 s1 e1=>?_;have hlen:us.length=((XF kd.2.toNat).map λi=>q! (i:Nat)).length:=by rw[Q4,WO,Xj]
 refine⟨_,D?,kd.2,D?,by lia,by lia,gL (F:=At) (xs:=(XF kd.2.toNat).map λi=>q! (i:Nat)) us (λH1 H2 z p kt h=>h.mono kt) hlen (by rw[WO,Xj];lia) (λi Hx sx hi=>by rw[WO,Xj]at hi;exact hi) (λHx sx=>by rw[WO,Xj];exact WX _) (λi Hx x Hy sx hi hy=>⟨hy.1,?_⟩) (λi y z Hx R W' hy BW sx hR=>?_) (λD H2 as hD s2 eD DG=>?_)⟩
 .rw[WO,Xj]at hi;rw[WZ,XY hi,hy.2];show A? (q! ((i:Nat):Int))=A? (q! (0+((i:Nat):Int)));rw[Ym]
 .have hi:i<kd.2.toNat:=by have:=(glE BW);rwa [Q4]at this
  rw[WZ,XY hi]at hy;cases hy;have LN:=s1.trans sx;have Q5:Hx da=A? (.dK f'):=LN _ _ ed;refine⟨_,D?,da,D?,.inl ⟨f',.inl Q5⟩,_,D?,_,D?,ia,Ak,ins,D?,LN _ _ ei,ET.mono (j! LN),g,λr H3 s3 Ha=>?_⟩;refine⟨_,DGet.k (k:=Xn ((i:Nat):Int)) (s3 _ _ Q5),?_⟩;rcases E4 i z BW with⟨a,hv,ha⟩|⟨hv,rfl⟩
  .rw[hv];exact hR H3 a s3 (ha.mono (j! (LN.trans s3)))
  .rw[hv];exact hR H3 r s3 Ha
 have Bd:=W4 DG;refine⟨D,_,D?,.inl ⟨l! eD,λtp CD=>?_⟩⟩;refine gU CD λH3 s3 e3=>?_;refine rP ((s2.trans s3) _ _ e1) e3 (by rw[WO];show 1+as.length<=1000000;lia) λp H4 s4 e4=>?_;refine q p H4 (s1.trans (s2.trans (s3.trans s4))) ?_;rw[At];exact⟨pk (g.low kd hm).1,as,e4,(kT DG).mono (j! (s3.trans s4))⟩
theorem xK{k:Nat}(hr:L2.Room k A):A.units+148+4<YH:=by
 have:=gg hr;lia
inductive fu(vs:List V)(H:Hp)(Q:VK)(_E:XK):Prop
 |mk (b:WS) (ins outs:List (Xk×Int)) (head:Th) (rows:List (List Th)):vs=[.ref b]->Bk H ins outs head rows b->cz ins->rows.length<=100->(∀row∈rows,row.length=ins.length)->(∀(r:WS)(f':List (List Key×V))(H':Hp),k! H H'->H r=B?->H' r=A? (.dT f')->MkAt H' ins rows f'->Q (.ref r) H')->fu  vs H Q _E
def aaO(H:Hp)(ins:List (Xk×Int))(rows:List (List Th))(f':List (List Key×V))(i j:Nat):Prop :=
 ∀(s k:Nat)(row:List Th)(p:Th),k<3->(s<i\/(s=i/\k<j))->rows[s]?=A? row->row[cY ins]?=A? p->∃a,aH f' [Xn (s:Int),Xn (k:Int)]=A? (.ref a)/\At H p a
theorem jh:aX P w K mg base CX0 2 T.g_33.f T.g_33.d ["book"] fu:=by
 refine T.g_33.F.okA bj λAi A outer s H vs Q E hr h=>?_;obtain⟨b,ins,outs,head,rows,rfl,hB,g,CC,CF,q⟩:=h;refine hid λZZ kZ=>?_;obtain⟨ia,oa,ha,ra,Ak,Ay,AS,hB⟩:=hB;refine kZ ?_
 refine⟨_,(ad (dN (i:=1) (N:=["name","many"]) (js:=[B?,B?]) (g:=(mE K 2 (cV (av 0) (cV (av 1) mF)))) (tt:=bL) (te:=(kg (aJ (bh 0) cN))) bj.nd rfl (Or.inl rfl) rfl (cB rfl (by decide +kernel) (by decide +kernel) rfl rfl rfl) (ij (pcF T.g_26 (dS T) hr (aa (pv 0) ab))) (λ_ _ _ _ _ _=>(bi rfl (aj (pgN 0 xP) (aj (pgN 1 xP) aP)))) (f8 (bM aW (aL rfl) (bM aW (aL rfl) gu))) (λ_ _ _ _ _ _=>bV) (λ_ _ _ _ _ _=>(aB (aa (pv 0) ab))))
  (ad (aq 2 bj.nd (bR Xf PySem.F.slot_list_index PySem.F.type_list_index (va (B:=148) (xK hr)) (pv 1) (aa (pcF T.g_31 (eV T) hr (aa (pcF T.g_26 (dS T) hr (aa (pv 0) ab)) ab)) ab)))
  (ad (aq 3 bj.nd kN)
  (ad (bH XE rfl (ou rfl T.n_2 (pcF T.g_29 (dA T) hr (aa (pv 0) ab))) (bi rfl (aj (pgN 4 bj.nd) (aj (pgN 5 bj.nd) aP))) (af (bH XE rfl (bI rfl T.n_9 (aa (cy (v:=.int (3)) rfl T.c_MOST_KIDS.choose_spec ⟨_,D?⟩) ab)) (pgN 6 bj.nd) (af (tV (jI hr) (pv 3) (aB (aa (pv 4) (aa (pv 6) ab))) (aY bx (pv 5) (pv 2) (λ_ _=>rfl)) rfl)))))
  (af (ax (pv 3))))))),?_⟩
 try dsimp only[Aw,Ae]
 have C6:ins.length=Ak.length:=W4 hB.inK;have Hf:rows.length=AS.length:=W4 hB.rw;have N8:=g.le;refine⟨_,D?,b,_,_,_,_,D?,hB.bk,ia,D?,⟨_,o! hB.inE⟩,gL (F:=λH(k:Xk×Int)a=>At H (.knot k.1 []) a) (xs:=Ak.map i!) ins (λH1 H2 z p kt h=>h.mono kt) (by rw[WO];exact C6) (by rw[WO];lia) (λi Hx sx hi=>⟨_,_,o! (sx _ _ hB.inE),WR hi⟩) (λHx sx=>⟨_,o! (sx _ _ hB.inE),WX _⟩) (λi Hx x Hy sx hi hy=>⟨hy.1,hy.2 _ (o! (sx _ _ hB.inE))⟩) (λi x z Hx R W' hx BW sx hR=>?_) (λD H1 as hD s1 eD DG=>?_)⟩
 .obtain⟨ka,rfl,De⟩:=aO hx;obtain⟨z',Ca,ez⟩:=B! hB.inK De;rw[BW]at Ca;cases Ca;have N9:Hx ka=A? (.tup [.str z.1,.int z.2]):=sx _ _ ez;refine⟨ka,_,D?,o! N9,D?,_,_,D?,_,_,D?,D?,?_⟩;refine⟨_,D?,lnE rfl,λp hp=>hR _ p (ae hp _) ?_⟩;rw[At];exact⟨pk (g.low z (WT BW)).1,[],ac,.nil⟩
 obtain⟨k0,Cd,Ji⟩:=rN g;have hI:=jy Cd;refine⟨_,D?,.inl ⟨D?,_,l! eD⟩,_,D?,b,_,_,_,_,D?,s1 _ _ hB.bk,ia,Ak,ins,D?,s1 _ _ hB.inE,hB.inK.mono (j! s1),g,λst H2 s2 AW=>?_⟩;have DH:=s1.trans s2;have Er:Ats H2 (ins.map λk=>n! k.1 []) as:=(pA DG).mono (j! s2);refine⟨D,.ref st,_,(eI ins).dv,dvs (ins.map λk=>n! k.1 []),cY ins,D?,D?,l! (s2 _ _ eD),AW.dv,Er.dvs,?_,?_,λi hi hz=>?_,?_,?_⟩
 .have h1:=iT (ins.map λk=>n! k.1 [])
  have h2:aI (ins.map λk=>n! k.1 [])<=1:=mS λu hu=>by
   obtain⟨k,_,rfl⟩:=Xl.mp hu;rw[u!,aI];exact WX _
  lia
 .rw[rO,WZ,hI,jo Cd];rfl
 .rw[rO,WZ]at hz;cases LO:ins[i]? with
  |none=>rw[LO]at hz;cases hz
  | some k =>
    rw[LO,jo Cd]at hz;have Q6:(n! k.1 []).dv=(n! k0.1 []).dv:=Xp hz;rw[Th.dv,Th.dv]at Q6;have Uo:=Dv.tup.inj Q6;injection Uo with Up _;injection Up with Uq;have:=g.nd i (cY ins) k k0 LO hI Uq;lia
 .rw[uw,WO];lia
 intro td Hi;dsimp only[av];have s3:k! H2 (upd H2 td (.dT [])):=ae Hi _;have e3:(upd H2 td (.dT [])) td=A? (.dT []):=ac;have JU:H td=none:=DH.free Hi;generalize(upd H2 td (.dT []))=H3 at s3 e3 |-;have DY:=DH.trans s3;refine⟨_,D?,b,_,_,_,_,D?,DY _ _ hB.bk,ra,D?,⟨_,o! (DY _ _ hB.rl)⟩,?_⟩
 refine wz (K:=K) (a:=ra) (xs:=AS.map i!) (λi Y H4=>Ex4 λ(c4 c5 c6:Option V)(tk:List (List Key×V))=>An5 (Y=[A? (.ref b),A? (.ref D),A? (.int (cY ins:Nat)),A? (.ref td),c4,c5,c6]) (k! H H4) (H4 td=A? (.dT tk)) (tk.length<=3 * i) (aaO H4 ins rows tk i 0))
  ⟨B?,B?,B?,[],rfl,DY,e3,Xh _,λs k row p _ h=>by rcases h with h|⟨_,h⟩ <;> cases h⟩ (λi Y H4 _⟨_,_,_,_,_,s4,_,_,_⟩=>o! (s4 _ _ hB.rl)) ?_ ?_
 .rintro i x pr Y H4 hx Bi ⟨c4,c5,c6,tk,rfl,s4,Hj,hlen,Ac⟩;refine hid λZZ kZ=>?_;obtain⟨rwa,rfl,Oa⟩:=aO hx;obtain⟨row,Af,JV,Hk,Gi⟩:=B! hB.rw Oa;refine kZ ?_;have Ur:i<100:=by have:=(glE Af);lia
  have Ut:=CF row (WT Af);have Fu:=Gi.length;have T8:=(glE hI);refine gU Bi λH5 s5 e5=>?_;have Il:=s4.trans s5;refine⟨pr,_,D?,o! e5,D?,_,_,D?,_,_,D?,D?,?_⟩;dsimp only[av];refine⟨3,D?,by decide,by decide,?_⟩
  refine dW (n:=3) (λj Y H6=>Ex2 λ(c6:Option V)(tk:List (List Key×V))=>An5 (Y=[A? (.ref b),A? (.ref D),A? (.int (cY ins:Nat)),A? (.ref td),A? (.int ((i:Nat):Int)),A? (.ref rwa),c6]) (k! H H6) (H6 td=A? (.dT tk)) (tk.length<=3 * i+j) (aaO H6 ins rows tk i j))
   ⟨_,tk,rfl,Il,s5 _ _ Hj,hlen,λs k row p hk h h1 h2=>by
    obtain⟨a,a1,a2⟩:=Ac s k row p hk h h1 h2;exact⟨a,a1,a2.mono (j! s5)⟩⟩ ?_ ?_
  .rintro j Y H6 hj ⟨c6,tk,rfl,s6,JW,hlen,Ac⟩;refine hid λZZ kZ=>?_;obtain⟨pa,EL⟩:∃a,JV[cY ins]?=A? a:=⟨_,WR (by lia)⟩;obtain⟨p0,Fh,Es⟩:=Gi.get EL;refine kZ ?_;refine⟨_,D?,_,D?,rwa,_,_,.ref pa,D?,D?,o! (s6 _ _ Hk),cF (gmE EL),_,D?,_,D?,_,D?,lnE rfl,λkp CG=>?_⟩;refine gU CG λH7 s7 e7=>?_;have e7:H7 kp=A? (.tup ([Xn ((i:Nat):Int),Xn (0+((j:Nat):Int))].map kV)):=e7;have Q7:=s7 _ _ JW;refine⟨td,_,D?,DPut.t Q7 e7 (bO (by lia)),?_⟩
   have EU:KT H7 (upd H7 td (.dT (putK tk [Xn ((i:Nat):Int),Xn (0+((j:Nat):Int))] (.ref pa)))):=λc ys ec=>by
    rw[ag (eJ ec Q7 (λz=>nomatch z))];exact ec
   refine⟨_,_,D?,am (s6.trans s7) JU,ac,?_,λs k AJ p' hk h h1 h2=>?_⟩
   .have:=bt tk [Xn ((i:Nat):Int),Xn (0+((j:Nat):Int))] (i! pa);lia
   .rw[fq];by_cases AM:([Xn ((s:Nat):Int),Xn ((k:Nat):Int)]:List Key)=[Xn ((i:Nat):Int),Xn (0+((j:Nat):Int))]
    .rw[b! AM];injection AM with e1 e2;have C5:((s:Nat):Int)=(i:Nat):=YL e1;have:s=i:=by lia
     subst this;rw[Af]at h1;cases h1;rw[Fh]at h2;cases h2;exact⟨pa,D?,Es.mono ((j! (s6.trans s7)).trans EU)⟩
    .rw[a! AM]
     have LP:s<i\/(s=i/\k<j):=by
      rcases h with h|⟨rfl,h⟩
      .exact .inl h
      .refine .inr ⟨rfl,?_⟩;by_cases Uu:k=j
       .exact g! (by rw[Uu,Ym]) AM
       .lia
     obtain⟨a,a1,a2⟩:=Ac s k AJ p' hk LP h1 h2;exact⟨a,a1,a2.mono ((j! s7).trans EU)⟩
  .rintro Y H6 ⟨c6,tk,rfl,s6,JW,hlen,Ac⟩;exact⟨_,_,_,tk,D?,s6,JW,by lia,λs k row p hk h h1 h2=>Ac s k row p hk (by rcases h with h|⟨_,h⟩;(· by_cases hs:s=i;exact .inr ⟨hs,hk⟩;exact .inl (by lia));exact g! h (YZ _)) h1 h2⟩
 .rintro Y H4 ⟨c4,c5,c6,tk,rfl,s4,Hj,hlen,Ac⟩;refine⟨_,D?,q td tk H4 s4 JU Hj λs k row p hk h1 h2=>Ac s k row p hk (.inl ?_) h1 h2⟩;rw[WO,<-Hf];exact(glE h1)
abbrev FrB:=@FrK
inductive dY(P:W6)(w:Xo)(K:WQ)(vs:List V)(H:Hp)(Q:VK)(_E:XK):Prop
 |mk (b md pt:WS) (s:Nat) (ins outs:List (Xk×Int)) (head:Th) (rows:List (List Th)) (row:List Th) (Dg:List (List Key×V)) (f':List (au×V)) (Al:List au) (Vl:VlT):vs=[.ref b,.int (s:Nat),.ref md,.ref pt]->Bk H ins outs head rows b->FrK ins outs rows->rows[s]?=A? row->H md=A? (.dT Dg)->MkAt H ins rows Dg->Pt P w Vl H pt f' Al->Al.length<=1000000->(∀x∈(mkF ins rows (s:Nat)).pl [],nk (s:Nat) x.1∈Al)->(∀x∈(mkF ins rows (s:Nat)).pl [],x.2.isHole=CU)->(∀(i:Nat)(p:Th)(kd:Xk×Int)(pl:List Int)(u:Th)(j:Nat),row[i]?=A? p->ins[i]?=A? kd->(pl,u)∈(frF (mkF ins rows) (mkF ins rows (s:Nat)) (row.take (i+1))).pl []->u.isHole=C?->(∀v,(pl,v)∈(frF (mkF ins rows) (mkF ins rows (s:Nat)) (row.take i)).pl []->v.isHole=CU)->Vl j (nk (s:Nat) pl) (eI ins) (.knot kd.1 (XN kd.2.toNat (eI ins))))->(∀(r:WS)(A9:List (au×V))(H':Hp),But pt H H'->AtK .i K H' (frF (mkF ins rows) (mkF ins rows (s:Nat)) row) r->Pt P w Vl H' pt A9 Al->(∀k∈f'.map (·.1),k∈A9.map (·.1))->(∀i,i<=row.length->∀x∈(frF (mkF ins rows) (mkF ins rows (s:Nat)) (row.take i)).pl [],x.2.isHole=C?->nk (s:Nat) x.1∈A9.map (·.1))->Q (.ref r) H')->dY P w K vs H Q _E
theorem lV:aX P w K mg base CX0 6 T.g_34.f T.g_34.d ["book","state","made","partings"] (dY P w K):=by
 refine T.g_34.F.okA bF λAi A outer s0 H vs Q E hr h=>?_;obtain⟨b,md,pt,s,ins,outs,head,rows,row,Dg,f',Al,Vl,rfl,hB,F,Af,Im,ER,Fv,LR,B0,C0,hV,q⟩:=h;refine hid λZZ kZ=>?_;obtain⟨ia,oa,ha,ra,Ak,Ay,AS,hB⟩:=hB;refine kZ ?_
 refine⟨_,(ad (aq 4 bF.nd (pcF T.g_26 (dS T) hr (aa (pv 0) ab)))
  (ad (aq 5 bF.nd (oU (jI hr) (pv 2) (aB (aa (pv 1) (aa ai ab))) (λ_ _=>rfl)))
  (ad (bH XE rfl (vq rfl T.n_12 (aa (pv 4) (aa (aY bx (pcF T.g_29 (dA T) hr (aa (pv 0) ab)) (pv 1) (λ_ _=>rfl)) ab))) (bi rfl (aj (pgN 6 bF.nd) (aj (pgN 7 bF.nd) aP))) (ad (aq 5 bF.nd (pcF T.g_22 (uS T) hr (aa (pv 5) (aa (pcF T.g_17 (gC T) hr (aa (pv 7) (aa (pv 2) ab))) ab))))
  (af (bH XE rfl (cw (pcF T.g_15 (gv T) hr (aa (pv 5) ab))) (pgN 8 bF.nd) (af (aQ (wD (fl:=CU) Zn PySem.F.type_dict_setdefault (gj (fl:=CU) (fL hr)) (pv 3) (aa (aB (aa (pv 1) (aa (pv 8) ab))) (aa (aB (aa (pcF T.g_31 (eV T) hr (aa (pv 4) ab)) (aa (pcF T.g_32 (eW T) hr (aa (pv 4) (aa (pv 6) (aa xG ab)))) ab))) ab)))))))))
  (af (ax (pv 5)))))),?_⟩
 try dsimp only[Aw,Ae]
 have g:=F.gi;have C6:ins.length=Ak.length:=W4 hB.inK;have Hf:rows.length=AS.length:=W4 hB.rw;have N8:=g.le;have N7:=(glE Af);obtain⟨φ,Fw⟩:=cp Fv.dm;have JX:md≠pt:=λz=>by rw[z,Fw]at Im;cases Im
 refine⟨_,D?,b,_,_,_,_,D?,hB.bk,?_⟩;refine hid λZZ kZ=>?_;obtain⟨AJ,p0,Q8,Fh,Hm,z1,z2,f0⟩:=F.mkd (l:=(s:Nat)) (by lia) (by lia);rw[Xu,Af]at Q8;cases Q8;obtain⟨fa,Uv,En⟩:=ER s 0 row p0 (by decide) Af Fh;refine kZ ?_;refine⟨_,D?,_,D?,lnE rfl,λkp CG=>?_⟩;refine gU CG λH1 s1 e1=>?_;have e1:H1 kp=A? (.tup (([Xn ((s:Nat):Int),Xn 0]:List Key).map kV)):=e1;refine⟨md,.ref fa,D?,.inr ⟨Dg,_,kp,.inl (s1 _ _ Im),D?,e1,Uv.symm⟩,?_⟩
 refine hid λZZ kZ=>?_;obtain⟨BO,CH,JV,Hk,Et⟩:=F! hB.rw Af;refine kZ ?_;have AR:=Et.length;have Ob:=(F.fit.row row (WT Af)).1;refine⟨_,D?,_,D?,b,_,_,_,_,D?,s1 _ _ hB.bk,_,D?,ra,_,_,.ref BO,D?,D?,o! (s1 _ _ hB.rl),cF (gmE CH),ia,BO,D?,⟨_,o! (s1 _ _ hB.inE)⟩,⟨_,o! (s1 _ _ Hk)⟩,?_⟩
 have JY:∀(i:Nat)(p:Th),row[i]?=A? p->∀l k,z! l k∈p.walk->∃v,aH Dg [Xn l,Xn k]=A? (.ref v)/\At H (mkF ins rows l) v/\(mkF ins rows l).size<=200:=λi p hp l k hc=>by
  have Ah:=(glE hp);obtain⟨kd,Dc⟩:∃kd,ins[i]?=A? kd:=⟨_,WR (by lia)⟩;have hf:=(F.fit.row row (WT Af)).2 i p kd hp Dc;have B5:=g.num kd (WT Dc);obtain⟨a1,a2,a3,a4⟩:=i9 hf hc;obtain⟨Uw,p1,b1,b2,b3,b4,_⟩:=F.mkd a1 a2;obtain⟨v,v1,v2⟩:=ER l.toNat k.toNat Uw p1 (by lia) b1 b2;rw[Yc a1,Yc a3]at v1;exact⟨v,v1,by rw[b3];exact v2,by rw[b3];exact b4⟩
 have Ux:∀i',i'<=0->∀x∈(frF (mkF ins rows) (mkF ins rows (s:Nat)) (row.take i')).pl [],x.2.isHole=C?->nk (s:Nat) x.1∈f'.map (·.1):=λi' AY x hx hh=>by
  rw[Nat.le_zero.mp AY,ZA]at hx;have:=C0 x hx;rw[hh]at this;cases this
 refine tZ (K:=K) (a:=ia) (b:=BO) (xs:=Ak.map i!) (ys:=JV.map i!) (by rw[WO,WO];lia) (λi Y H2=>Ex5 λ(fa:WS)(c6 c7 c8:Option V)(AQ:List (au×V))=>An6 (Y=[A? (.ref b),A? (.int ((s:Nat):Int)),A? (.ref md),A? (.ref pt),A? (.ref ia),A? (.ref fa),c6,c7,c8]) (But pt H H2) (AtK .i K H2 (frF (mkF ins rows) (mkF ins rows (s:Nat)) (row.take i)) fa) (Pt P w Vl H2 pt AQ Al) ((∀k∈f'.map (·.1),k∈AQ.map (·.1))) ((∀i',i'<=i->∀x∈(frF (mkF ins rows) (mkF ins rows (s:Nat)) (row.take i')).pl [],x.2.isHole=C?->nk (s:Nat) x.1∈AQ.map (·.1))))
  ⟨fa,B?,B?,B?,f',rfl,G! s1,by rw[ZA,Hm];exact(En.mono (j! s1)).k,Fv.same s1,λ_ h=>h,Ux⟩ (λi Y H2 _⟨_,_,_,_,_,_,b2,_,_,_,_⟩=>?_) ?_ ?_
 .have kt:=b2.kt Fw;exact⟨o! (kt _ _ hB.inE),o! (kt _ _ Hk)⟩
 .rintro i x y p2 Y H2 hx hy BL ⟨fa,c6,c7,c8,AQ,rfl,b2,B6,BJ,Cu,Q9⟩;refine hid λZZ kZ=>?_;obtain⟨ka,rfl,De⟩:=aO hx;obtain⟨pa,rfl,EL⟩:=aO hy;obtain⟨kd,hk,ek⟩:=B! hB.inK De;obtain⟨p,hp,Es⟩:=Et.get EL;refine kZ ?_;have Oc:=b2.kt Fw;refine gU BL λH3 s3 e3=>?_;have Ra:=Oc.trans (j! s3);have b3:=b2.trans (G! s3);refine⟨p2,_,D?,o! e3,D?,_,_,D?,_,_,D?,D?,?_⟩;dsimp only[av]
  have Ie:=F.sz row (WT Af) p (WT hp);refine⟨_,D?,_,D?,_,D?,.i,pa,md,p,(λl _=>mkF ins rows l),D?,(Es.mono Ra).k,by lia,λl k hc=>?_,λfl H4 s4 JZ=>?_⟩
  .refine hid λZZ kZ=>?_;obtain⟨v,v1,v2,v3⟩:=JY i p hp l k hc;refine kZ ?_;exact⟨v,(v2.mono Ra).k,by lia,λH2 ca sv s2 hs BQ=>we (b3 _ _ JX Im) v1 s2 hs BQ⟩
  have hsz:=iJ (mkF ins rows) (mkF ins rows (s:Nat)) (row.take i);rw[Hm]at hsz;have J0:=B6.mono (j! (s3.trans s4));rw[Hm]at J0;refine⟨fa,fl,_,_,D?,J0,JZ,by lia,by lia,λcm H5 s5 Od=>?_⟩;have AO:row.take (i+1)=row.take i++[p]:=by rw[Yh,hp];rfl
  have J1:AtK .i K H5 (frF (mkF ins rows) (mkF ins rows (s:Nat)) (row.take (i+1))) cm:=by
   rw[AO,kY,Hm];exact Od
  have b5:=b3.trans (G! (s4.trans s5));have Oe:=BJ.same (s3.trans (s4.trans s5));have Ww:=b5.kt Fw;have Of:=iJ (mkF ins rows) (mkF ins rows (s:Nat)) (row.take (i+1));rw[Hm]at Of;have J3:=J1;rw[Hm]at J3
  refine⟨_,D?,cm,_,D?,J3,by lia,by lia,λhl bs H6 s6 Gj Ao=>?_⟩;rw[<-Hm]at Ao;have b6:=b5.trans (G! s6);have J4:=Oe.same s6;have EV:=b6.kt Fw;obtain⟨Uy,DI⟩:=cp J4.dm;have Og:=J1.mono (j! s6);have EW:hl≠pt:=λz=>by rw[z,DI]at Gj;cases Gj
  have CQ:=W4 Ao;have Uz:=ZF (λp:List Int×Th=>p.2.isHole) ((frF (mkF ins rows) (mkF ins rows (s:Nat)) (row.take (i+1))).pl []);rw[D!]at Uz;have B5:=g.num kd (WT hk);refine⟨hl,D?,⟨_,l! Gj⟩,?_⟩
  refine cR (K:=K) (a:=hl) (xs:=bs.map i!) (λj Y H7=>Ex2 λ(c8:Option V)(Eu:List (au×V))=>An5 (Y=[A? (.ref b),A? (.int ((s:Nat):Int)),A? (.ref md),A? (.ref pt),A? (.ref ia),A? (.ref cm),A? (.ref ka),A? (.ref pa),c8]) (But pt H6 H7) (Pt P w Vl H7 pt Eu Al) ((∀k∈AQ.map (·.1),k∈Eu.map (·.1))) (∀(j':Nat)(pl:List Int),j'<j->((((frF (mkF ins rows) (mkF ins rows (s:Nat)) (row.take (i+1))).pl []).filter λp=>p.2.isHole).map (·.1))[j']?=A? pl->nk (s:Nat) pl∈Eu.map (·.1)))
   ⟨_,AQ,rfl,But.refl _ _,J4,λ_ h=>h,λ_ _ h=>g! h (YZ _)⟩ (λj Y H7 _⟨_,_,_,b7,_,_,_⟩=>l! (b7 _ _ EW Gj)) ?_ ?_
  .rintro j x Y H7 hx ⟨c8,Eu,rfl,b7,Ew,Bp,Ac⟩;refine hid λZZ kZ=>?_;obtain⟨pb,rfl,UA⟩:=aO hx;obtain⟨pl,Fx,Oh⟩:=B! Ao UA;have EU:=b7.kt DI;have Oi:=EV.trans EU;have Oj:=EU _ _ Oh
   obtain⟨NP,EN,UB⟩:∃u,(pl,u)∈(frF (mkF ins rows) (mkF ins rows (s:Nat)) (row.take (i+1))).pl []/\u.isHole=true:=by
    obtain⟨x,ES,rfl⟩:=Xl.mp (WT Fx);exact⟨x.2,(Y1.mp ES).1,(Y1.mp ES).2⟩
   refine kZ ?_
   have Ol:nk (s:Nat) pl∈Al:=by
    obtain⟨x,ES,rfl⟩:=Xl.mp (WT Fx);obtain⟨u,hu⟩:=vk (mkF ins rows) (mkF ins rows (s:Nat)) (row.take (i+1)) x (Y1.mp ES).1;exact B0 (x.1,u) hu
   have Wx:=Ew.len;refine⟨_,D?,⟨pt,Eu,D?,Ew.dm⟩,_,D?,_,D?,lnE rfl,λM' Om=>?_⟩;refine gU Om λH8 s8 e8=>?_;have DJ:=Oi.trans (j! s8);refine⟨_,D?,ia,Ak,ins,D?,DJ _ _ hB.inE,hB.inK.mono DJ,g,λst H9 s9 AW=>?_⟩;have Oo:=DJ.trans (j! s9);refine⟨_,D?,_,D?,λdd LS=>?_⟩;refine gU LS λBD AX JI=>?_;have Hn:=Oo.trans (j! AX);refine⟨ia,ka,dd,Ak,ins,kd,[],XN kd.2.toNat (eI ins),D?,Hn _ _ hB.inE,hB.inK.mono Hn,g,Hn _ _ ek,WT hk,JI,by rw[List.length_replicate],λi' u hu=>.inr ⟨D?,List.eq_of_mem_replicate (WT hu)⟩,λr2 GD BR G0=>?_⟩;refine⟨lnE rfl,λpr Bi=>?_⟩;refine gU Bi λHo CI Fy=>?_;have Hq:=AX.trans (BR.trans CI);have Fz:=s8.trans (s9.trans Hq);have Ex:=Ew.same Fz;refine⟨pt,M',.ref pr,nk (s:Nat) pl,Eu,D?,D?,Ex.dm,mR ((s9.trans Hq) _ _ e8) (Fz _ _ Oj),bO (by lia),λu hu=>?_,λhn FA Rb Oq=>?_⟩
   .refine⟨_,Eu,D?,b7.trans (G! Fz),Ex,Bp,λj' BU Au AZ=>?_⟩;by_cases Ey:j'=j
    .subst Ey;rw[Fx]at AZ;cases AZ;exact Xl.mpr ⟨_,fk hu,rfl⟩
    .exact Ac j' BU (by lia) AZ
   .have UC:∀v,(pl,v)∈(frF (mkF ins rows) (mkF ins rows (s:Nat)) (row.take i)).pl []->v.isHole=false:=λv hv=>by
     cases UD:v.isHole with
     |false=>rfl
     | true =>
       exfalso;exact dR hn (Bp _ (Q9 i (WX _) (pl,v) hv UD))
    obtain⟨Io,J5⟩:=Ex.put hn Rb Oq ⟨pr,st,r2,_,_,rfl,Fy,AW.mono (j! Hq),G0.mono (j! CI),hV i p kd pl NP _ hp hk EN UB UC⟩ Ol;refine⟨_,_,D?,(b7.trans (G! Fz)).trans Rb,Io,λk AM=>by rw[J5];exact XJ _ (Bp k AM),λj' BU Au AZ=>?_⟩;rw[J5];by_cases Ey:j'=j
    .subst Ey;rw[Fx]at AZ;cases AZ;exact XB _ (Xd ..)
    .exact XJ _ (Ac j' BU (by lia) AZ)
  .rintro Y H7 ⟨c8,Eu,rfl,b7,Ew,Bp,Ac⟩;refine⟨cm,_,_,_,Eu,D?,b6.trans b7,Og.mono (b7.kt DI),Ew,λk AM=>Bp k (Cu k AM),λi' AY x hx hh=>?_⟩;by_cases UE:i'<=i
   .exact Bp _ (Q9 i' UE x hx hh)
   obtain rfl:i'=i+1:=by lia
   have hm:x.1∈(((frF (mkF ins rows) (mkF ins rows (s:Nat)) (row.take (i+1))).pl []).filter λp=>p.2.isHole).map (·.1):=Xl.mpr ⟨x,Y1.mpr ⟨hx,hh⟩,rfl⟩;obtain⟨j',Au⟩:=Xi.mp hm;exact Ac j' x.1 (by have:=(YF.mp Au).1;rw[WO];lia) Au
 .rintro Y H2 ⟨fa,c6,c7,c8,AQ,rfl,b2,B6,BJ,Cu,hh⟩;rw[WO]at B6 hh;rw[YG (by lia)]at B6;exact⟨_,D?,q fa AQ H2 b2 B6 BJ Cu λi hi=>hh i (by lia)⟩
def LDone(H:Hp)(G:LG)(s:Nat)(ps:List Th)(f0:Th):Prop:=∀p∈ps,∀c∈callsOf (p.pl []),∀u,(c.1,u)∈f0.pl []->∀x∈u.pl [],gM H G (nk c.2.1 x.1) (s:Nat) (c.1++x.1)
theorem LDone.sub{G G':LG}{s:Nat}{ps:List Th}{f0:Th}(h:LDone H G s ps f0)(k:LSub H H' G G'):LDone H' G' s ps f0:=λp hp c hc u hu x hx=>k _ _ _ (h p hp c hc u hu x hx)
inductive iW(P:W6)(w:Xo)(K:WQ)(vs:List V)(H:Hp)(Q:VK)(_E:XK):Prop
 |mk (b fa la:WS) (s:Nat) (ins outs:List (Xk×Int)) (head:Th) (rows:List (List Th)) (row:List Th) (f0:Th) (H0:Hp) (G:LG) (N:Nat) (Al:List au) (Lk:LkT):vs=[.ref b,.int (s:Nat),.ref fa,.ref la]->Bk H ins outs head rows b->FrK ins outs rows->rows[s]?=A? row->AtK .i K H f0 fa->f0.size<=200->f0.tall<=100->LkI P w ins Al Lk H0 H la G N->N<=15000000->(∀x∈f0.pl [],nk (s:Nat) x.1∈Al)->(∀(i:Nat)(p:Th)(kd:Xk×Int)(c:List Int×Int×Int)(u:Th)(x:List Int×Th),row[i]?=A? p->ins[i]?=A? kd->c∈callsOf (p.pl [])->(c.1,u)∈f0.pl []->x∈u.pl []->Lk (nk c.2.1 x.1) (s:Nat) (c.1++x.1) kd c.2.2)->(∀(G':LG)(H':Hp),KT H H'->LkI P w ins Al Lk H0 H' la G' (N+640000)->LSub H H' G G'->LDone H' G' s row f0->Q .non H')->iW P w K vs H Q _E
theorem pe:aX P w K mg base CX0 6 T.g_35.f T.g_35.d ["book","state","front","links"] (iW P w K):=by
 refine T.g_35.F.okA bJ λAi A outer s0 H vs Q E hr h=>?_;obtain⟨b,fa,la,s,ins,outs,head,rows,row,f0,H0,G,N,Al,Lk,rfl,hB,F,Af,B6,Wy,Wz,L,hN,B0,hL,q⟩:=h;refine hid λZZ kZ=>?_;obtain⟨ia,oa,ha,ra,Ak,Ay,AS,hB⟩:=hB;refine kZ ?_
 refine⟨_,(ad (aq 4 bJ.nd (bB (lA (yF hr) rfl) rfl T.n_1 PyProof.Rows.boot_dict (aa (pcF T.g_4 (gE T) hr (aa (pv 2) ab)) ab)))
  (af (bH XE rfl (vq rfl T.n_12 (aa (pcF T.g_26 (dS T) hr (aa (pv 0) ab)) (aa (aY bx (pcF T.g_29 (dA T) hr (aa (pv 0) ab)) (pv 1) (λ_ _=>rfl)) ab))) (bi rfl (aj (pgN 5 bJ.nd) (aj (pgN 6 bJ.nd) aP))) (af (bH XE rfl (cw (pcF T.g_13 (qw T) hr (aa (pv 6) ab))) (bi rfl (aj (pgN 7 bJ.nd) (aj (bi rfl (aj (pgN 8 bJ.nd) (aj (pgN 9 bJ.nd) aP))) aP))) (af (cC (sh (zL (jI hr) (pv 7) (pv 4))) (af (bH XE rfl (cw (pcF T.g_6 (uI T) hr (aa (oU (jI hr) (pv 4) (pv 7) (λ_ _=>rfl)) ab))) (pgN 10 bJ.nd) (af (aQ (bR Xf Xy Xx aN (wD (fl:=CU) Zn PySem.F.type_dict_setdefault (gj (fl:=CU) (fL hr)) (pv 3) (aa (aB (aa (pv 8) (aa (pv 10) ab))) (aa (bw ab) ab))) (aa (aB (aa (pv 1) (aa (aA fD (pv 7) (pv 10)) (aa (pv 5) (aa (pv 9) ab))))) ab)))))) bU))))))),?_⟩
 try dsimp only[Aw,Ae]
 have g:=F.gi;have C6:ins.length=Ak.length:=W4 hB.inK;have N8:=g.le;have N7:=(glE Af)
 refine⟨_,D?,fa,f0,D?,B6,by lia,by lia,λUG LU H1 s1 WA J6 Bo=>?_⟩;have Ot:(f0.pl []).length=LU.length:=W4 Bo;rw[D!]at Ot;refine hid λZZ kZ=>?_;obtain⟨prs,J7,Ou,Ov⟩:∃prs:List (List Key×V),Xs (PrA H1) prs LU/\(∀p∈prs,∃x∈f0.pl [],p.1=x.1.map Xn/\∃a,p.2=.ref a/\AtK .i K H1 x.2 a)/\∀x∈f0.pl [],∃p∈prs,p.1=x.1.map Xn:=xy Bo;refine kZ ?_;have Rc:prs.length=LU.length:=W4 J7;refine⟨UG,LU,prs,D?,J6,J7,by lia,λpd UH=>?_⟩;refine gU UH λH2 s2 e2=>?_;refine hid λZZ kZ=>?_;obtain⟨f1,f2⟩:=jZ (R:=λk v=>∃x∈f0.pl [],k=x.1.map Xn/\∃a,v=.ref a/\AtK .i K H1 x.2 a) prs [] (λk v hv=>by cases hv) Ou;have DH:=s1.trans s2;have Hr:=L.same DH;obtain⟨BO,CH,JV,Hk,Et⟩:=F! hB.rw Af;refine kZ ?_;have AR:=Et.length;have Ob:=(F.fit.row row (WT Af)).1
 have Ow:∀(q:List Int)(u:Th),(q,u)∈f0.pl []->∃a,aH (df [] prs) (q.map Xn)=A? (.ref a)/\AtK .i K H1 u a:=λq u hu=>by
  obtain⟨p,hp,e⟩:=Ov (q,u) hu;obtain⟨v,hv⟩:=f2 (q.map Xn) (.inr ⟨p,hp,e⟩);obtain⟨x,hx,ex,a,rfl,ha⟩:=f1 _ v hv;have hq:q=x.1:=(List.map_inj_right (λ_ _ e=>YL e)).mp ex;have:u=x.2:=se _ (WX _) hu (by rw[hq];exact hx);rw[this];exact⟨a,hv,ha⟩
 have Ox:∀(q:List Int)(v:V),aH (df [] prs) (q.map Xn)=A? v->∃u a,(q,u)∈f0.pl []/\v=.ref a/\AtK .i K H1 u a:=λq v hv=>by
  obtain⟨x,hx,ex,a,rfl,ha⟩:=f1 _ v hv;have hq:q=x.1:=(List.map_inj_right (λ_ _ e=>YL e)).mp ex;exact⟨x.2,a,by rw[hq];exact hx,D?,ha⟩
 have Gk:pd≠la:=λz=>by
  obtain⟨φ,e⟩:=cp Hr.dm;rw[z,e]at e2;cases e2
 have Oy:∀g∈G,g.2.1≠pd:=λg hg z=>by
  have:=(Hr.ls g hg).2.1;rw[z,e2]at this;cases this
 refine⟨_,D?,b,_,_,_,_,D?,DH _ _ hB.bk,_,D?,b,_,_,_,_,D?,DH _ _ hB.bk,_,D?,ra,_,_,.ref BO,D?,D?,o! (DH _ _ hB.rl),cF (gmE CH),ia,BO,D?,⟨_,o! (DH _ _ hB.inE)⟩,⟨_,o! (DH _ _ Hk)⟩,?_⟩
 refine tZ (K:=K) (a:=ia) (b:=BO) (xs:=Ak.map i!) (ys:=JV.map i!) (by rw[WO,WO];lia) (λi Y H3=>Ex7 λ(c5 c6 c7 c8 c9 Dx:Option V)(G3:LG)=>An3 (Y=[A? (.ref b),A? (.int ((s:Nat):Int)),A? (.ref fa),A? (.ref la),A? (.ref pd),c5,c6,c7,c8,c9,Dx]) (LQ P w ins Al Lk H0 la H2 G H3 G3 (N+i * 80000)) (LDone H3 G3 s (row.take i) f0))
  ⟨B?,B?,B?,B?,B?,B?,G,rfl,(LQ.refl Hr).up (by lia),λp hp=>by rw[ZA]at hp;cases hp⟩ (λi Y H3 _⟨_,_,_,_,_,_,_,_,q3,_⟩=>?_) ?_ ?_
 .have kt:=(j! DH).trans (q3.kt Hr);exact⟨o! (kt _ _ hB.inE),o! (kt _ _ Hk)⟩
 .rintro i x y p2 Y H3 hx hy BL ⟨c5,c6,c7,c8,c9,Dx,G3,rfl,q3,d3⟩;refine hid λZZ kZ=>?_;obtain⟨ka,rfl,De⟩:=aO hx;obtain⟨pa,rfl,EL⟩:=aO hy;obtain⟨kd,hk,ek⟩:=B! hB.inK De;obtain⟨p,hp,Es⟩:=Et.get EL;refine kZ ?_;have UI:i<8:=by have:=(glE hk);lia
  refine gU BL λH4 s4 e4=>?_;have q4:=q3.same s4;have LV:=(j! DH).trans (q4.kt Hr);refine⟨p2,_,D?,o! e4,D?,_,_,D?,_,_,D?,D?,?_⟩;dsimp only[av];have Ie:=F.sz row (WT Af) p (WT hp);refine⟨_,D?,pa,p,D?,(Es.mono LV).k,by lia,by lia,λcl cs H5 s5 UJ EX Ck=>?_⟩;have q5:=q4.same s5;have d5:=d3.sub (LSub.kt (j! (s4.trans s5)) G3);have L5:=q5.lk;have UK:(callsOf (p.pl [])).length=cs.length:=W4 Ck;have Oz:=jE (p.pl []);rw[D!]at Oz
  have OA:∀g∈G3,g.2.1≠cl:=λg hg z=>by
   have:=(q4.lk.ls g hg).2.1;rw[z,UJ]at this;cases this
  have J8:cl≠la:=λz=>by
   obtain⟨φ,e⟩:=cp L5.dm;rw[z,e]at EX;cases EX
  refine⟨cl,D?,⟨_,l! EX⟩,?_⟩
  refine cR (K:=K) (a:=cl) (xs:=cs.map i!) (λj Y H6=>Ex5 λ(c7 c8 c9 Dx:Option V)(G6:LG)=>An3 (Y=[A? (.ref b),A? (.int ((s:Nat):Int)),A? (.ref fa),A? (.ref la),A? (.ref pd),A? (.ref ka),A? (.ref pa),c7,c8,c9,Dx]) (LQ P w ins Al Lk H0 la H5 G3 H6 G6 (N+i * 80000+j * 400)) (∀(j':Nat)(c:List Int×Int×Int),j'<j->(callsOf (p.pl []))[j']?=A? c->∀u,(c.1,u)∈f0.pl []->∀x∈u.pl [],gM H6 G6 (nk c.2.1 x.1) (s:Nat) (c.1++x.1)))
   ⟨_,_,_,_,G3,rfl,(LQ.refl L5).up (by lia),λ_ _ h=>g! h (YZ _)⟩ (λj Y H6 _⟨_,_,_,_,_,_,q6,_⟩=>l! (q6.fr _ _ EX J8 OA)) ?_ ?_
  .rintro j x Y H6 hx ⟨c7,c8,c9,Dx,G6,rfl,q6,d6⟩;refine hid λZZ kZ=>?_;obtain⟨ca,rfl,Du⟩:=aO hx;obtain⟨c,hc,J9,UL,UM,Rf,OB⟩:=B! Ck Du;refine kZ ?_;have EV:=q6.kt L5;have Nl:j<200:=by have:=(glE hc);lia
   have J':H5 pd=A? (.dT (df [] prs)):=q5.fr _ _ e2 Gk Oy
   have Ka:∀g∈G3,g.2.1≠pd:=λg hg z=>by
    have:=(L5.ls g hg).2.1;rw[z,J']at this;cases this
   have Kb:=q6.fr _ _ J' Gk Ka
   have Rg:H6 J9=A? (.tup ((c.1.map Xn).map kV)):=by
    rw[EV _ _ Rf,YM];rfl
   have FC:=(j! s2).trans ((q5.kt Hr).trans EV);refine⟨ca,_,D?,o! (EV _ _ UM),D?,_,_,D?,_,_,D?,UL,_,D?,o! (EV _ _ OB),D?,_,_,D?,_,_,D?,D?,D?,?_⟩;refine cj (λbb H'=>An2 (H6=H') (bb=(aH (df [] prs) (c.1.map Xn)).isSome)) (λk2 Bq=>?_) (λH' hb2=>?_) (λH' hb2=>?_)
   .exact⟨_,D?,_,D?,pd,_,D?,DGet.t Kb Rg,_,D?,Bq _ _ ⟨D?,D?⟩⟩
   .refine hid λZZ kZ=>?_;obtain⟨rfl,hb2⟩:=hb2;obtain⟨v,hv⟩:=Z0.mp hb2.symm;obtain⟨u,ua,hu,rfl,Ft⟩:=Ox c.1 v hv;obtain⟨E4,UN⟩:=y8 _ f0 [] (WX _) _ hu;refine kZ ?_;dsimp only at E4 UN;refine⟨_,D?,_,D?,pd,.ref ua,D?,by rw[<-hv];exact DGet.t Kb Rg,ua,u,D?,Ft.mono FC,by lia,by lia,λil Rh H7 s7 nil LW Kc=>⟨il,D?,⟨_,l! LW⟩,?_⟩⟩;have q7:=q6.same s7;have L7:=q7.lk;have d7:∀(j':Nat)(c:List Int×Int×Int),j'<j->(callsOf (p.pl []))[j']?=A? c->∀u,(c.1,u)∈f0.pl []->∀x∈u.pl [],gM H7 G6 (nk c.2.1 x.1) (s:Nat) (c.1++x.1):=λj' c h1 h2 u h3 x h4=>LSub.kt (j! s7) G6 _ _ _ (d6 j' c h1 h2 u h3 x h4);have OC:(u.pl []).length=Rh.length:=W4 Kc;rw[D!]at OC
    have OD:∀g∈G6,g.2.1≠il:=λg hg z=>by
     have:=(q6.lk.ls g hg).2.1;rw[z,nil]at this;cases this
    have Kd:il≠la:=λz=>by
     obtain⟨φ,e⟩:=cp L7.dm;rw[z,e]at LW;cases LW
    have EU:=EV.trans (j! s7);have OE:=(LV.trans (j! s5)).trans EU
    refine cR (K:=K) (a:=il) (xs:=Rh.map i!) (λm Y H8=>Ex2 λ(Dx:Option V)(G8:LG)=>An3 (Y=[A? (.ref b),A? (.int ((s:Nat):Int)),A? (.ref fa),A? (.ref la),A? (.ref pd),A? (.ref ka),A? (.ref pa),A? (.ref J9),A? (.int c.2.1),A? (.int c.2.2),Dx]) (LQ P w ins Al Lk H0 la H7 G6 H8 G8 (N+i * 80000+j * 400+2 * m)) (∀(m':Nat)(x:List Int×Th),m'<m->(u.pl [])[m']?=A? x->gM H8 G8 (nk c.2.1 x.1) (s:Nat) (c.1++x.1)))
     ⟨_,G6,rfl,LQ.refl L7,λ_ _ h=>g! h (YZ _)⟩ (λm Y H8 _⟨_,_,_,q8,_⟩=>l! (q8.fr _ _ LW Kd OD)) ?_ ?_
    .rintro m x Y H8 hx ⟨Dx,G8,rfl,q8,d8⟩;refine hid λZZ kZ=>?_;obtain⟨ib,rfl,UO⟩:=aO hx;obtain⟨y,hy,OF⟩:=B! Kc UO;have Ke:m<200:=by have:=(glE hy);rw[D!]at this;lia
     have OG:=q8.kt L7;have L8:=q8.lk;have OH:=L8.le;have OI:=OG _ _ OF;have Ri:=OG _ _ (EU _ _ Rf);have Rj:KAt H8 kd ka:=OG _ _ (OE _ _ ek);obtain⟨WB,UP⟩:=cp L8.dm;refine kZ ?_;have QY:c.1.length<=100:=by have:=wZ _ f0 [] (WX _) _ hu;rw[List.length_nil]at this;dsimp only at this;lia
     have EY:y.1.length<=100:=by have:=wZ _ u [] (WX _) y (WT hy);rw[List.length_nil]at this;lia
     have Rk:nk (s:Nat) (c.1++y.1)∈Al:=B0 (c.1++y.1,y.2) (tP _ (WX _) hu (WT hy));have Rl:Lk (nk c.2.1 y.1) (s:Nat) (c.1++y.1) kd c.2.2:=hL i p kd c u y hp hk (WT hc) hu (WT hy);refine⟨_,D?,⟨la,_,D?,L8.dm⟩,_,D?,_,D?,lnE rfl,λkp CG=>?_⟩;dsimp only;refine gU CG λH9 s9 e9=>?_;refine⟨lnE rfl,λl0 EJ=>?_⟩;have AX:k! H9 (upd H9 l0 (.lst [])):=ae EJ _;have q9:LQ P w ins Al Lk H0 la H8 G8 H9 G8 (N+i * 80000+j * 400+2 * m):=(LQ.refl L8).same s9;have Ht:=j! (s9.trans AX);refine⟨la,kp,.ref l0,nk c.2.1 y.1,lkv G8,D?,D?,L8.dm.mono (s9.trans AX),mR (AX _ _ e9) ((s9.trans AX) _ _ OI),fy (by unfold lkv;rw[WO];lia),λu hu=>?_,λhn BD UQ OJ=>?_⟩
     .obtain⟨g,hg,Kf,rfl⟩:=t9 hu;have qs:LQ P w ins Al Lk H0 la H8 G8 (upd H9 l0 (.lst [])) G8 (N+i * 80000+j * 400+2 * m+1):=(q9.same AX).up (by lia);generalize(upd H9 l0 (.lst []))=Hs at qs Ht |-;have Ls:=qs.lk;refine hid λZZ kZ=>?_;obtain⟨_,gl,gn,_⟩:=Ls.ls g hg;refine kZ ?_;refine⟨.inl ⟨D?,_,l! gl⟩,_,D?,_,D?,_,D?,?_⟩;refine rP (Ht _ _ Ri) (Ht _ _ OI) (by rw[WO,WO];lia) λpj GD BR FD=>?_;rw[<-Xb]at FD;refine⟨_,D?,_,D?,lnE rfl,λen OK=>?_⟩;refine gU OK λHo CI Fy=>?_;have Dh:=BR.trans CI;refine⟨g.2.1,_,_,D?,D?,Dh _ _ gl,fy (by rw[WO];lia),?_⟩;obtain⟨Kg,has⟩:=(qs.same Dh).appG hg (en:=en) ⟨_,_,c.1++y.1,pj,ka,kd,Fy,CI _ _ FD,(j! Dh) _ _ (Ht _ _ Rj),WT hk,Rk,by rw[Kf];exact Rl⟩;refine⟨_,_,D?,(q8.trans Kg).up (by lia),λm' x2 F6 BS=>?_⟩;by_cases LX:m'=m
      .rw[LX,hy]at BS;cases BS;have hh:=has _ _ _ _ _ Fy (CI _ _ FD);rw[Kf]at hh;exact hh
      .exact Kg.sub _ _ _ (d8 m' x2 (by lia) BS)
     .have qs:=q9.newG EJ hn UQ OJ;have OL:=qs.kt L8;refine hid λZZ kZ=>?_;obtain⟨g,hg,Kf,UR⟩:∃g∈G8++[(nk c.2.1 y.1,l0,[])],g.1=nk c.2.1 y.1/\g.2.1=l0:=⟨_,XB _ (Xd ..),rfl,rfl⟩;refine kZ ?_;rw[<-UR]at qs hg |-;have Ls:=qs.lk;refine hid λZZ kZ=>?_;obtain⟨_,gl,gn,_⟩:=Ls.ls g hg;refine kZ ?_;refine⟨.inl ⟨D?,_,l! gl⟩,_,D?,_,D?,_,D?,?_⟩;refine rP (OL _ _ Ri) (OL _ _ OI) (by rw[WO,WO];lia) λpj GD BR FD=>?_;rw[<-Xb]at FD;refine⟨_,D?,_,D?,lnE rfl,λen OK=>?_⟩;refine gU OK λHo CI Fy=>?_;have Dh:=BR.trans CI;refine⟨g.2.1,_,_,D?,D?,Dh _ _ gl,fy (by rw[WO];lia),?_⟩;obtain⟨Kg,has⟩:=(qs.same Dh).appG hg (en:=en) ⟨_,_,c.1++y.1,pj,ka,kd,Fy,CI _ _ FD,(j! Dh) _ _ (OL _ _ Rj),WT hk,Rk,by rw[Kf];exact Rl⟩;refine⟨_,_,D?,(q8.trans Kg).up (by lia),λm' x2 F6 BS=>?_⟩;by_cases LX:m'=m
      .rw[LX,hy]at BS;cases BS;have hh:=has _ _ _ _ _ Fy (CI _ _ FD);rw[Kf]at hh;exact hh
      .exact Kg.sub _ _ _ (d8 m' x2 (by lia) BS)
    .rintro Y H8 ⟨Dx,G8,rfl,q8,d8⟩;refine⟨_,_,_,_,G8,D?,(q7.trans q8).up (by rw[WO];lia),λj' c' Au AN u' BF x2 BS=>?_⟩;by_cases Ey:j'=j
     .subst Ey;rw[hc]at AN;cases AN;have:u'=u:=se _ (WX _) BF hu;subst this;obtain⟨m',F6⟩:=Xi.mp BS;exact d8 m' x2 (by have:=(YF.mp F6).1;rw[D!]at this;rw[WO];lia) F6
     .exact q8.sub _ _ _ (d7 j' c' (by lia) AN u' BF x2 BS)
   .obtain⟨rfl,hb2⟩:=hb2;refine⟨_,_,_,_,G6,D?,q6.up (by lia),λj' c' Au AN u' BF x2 BS=>?_⟩;by_cases Ey:j'=j
    .subst Ey;rw[hc]at AN;cases AN;obtain⟨a,ha,_⟩:=Ow c.1 u' BF;rw[ha]at hb2;cases hb2
    .exact d6 j' c' (by lia) AN u' BF x2 BS
  .rintro Y H6 ⟨c7,c8,c9,Dx,G6,rfl,q6,d6⟩;refine⟨_,_,_,_,_,_,G6,D?,(q5.trans q6).up ?_,?_⟩
   .rw[WO];have:cs.length * 400<=200 * 400:=YQ _ (by lia);lia
   .intro p' AZ;rw[Yh,hp]at AZ;rcases Xz.mp AZ with AZ|AZ
    .exact(d5.sub q6.sub) p' AZ
    .cases Xc.mp AZ;intro c Od;obtain⟨j',Au⟩:=Xi.mp Od;exact d6 j' c (by have:=(YF.mp Au).1;rw[WO];lia) Au
 .rintro Y H3 ⟨c5,c6,c7,c8,c9,Dx,G3,rfl,q3,d3⟩;rw[WO]at q3 d3;rw[YG (by lia)]at d3;have hmul:Ak.length * 80000<=8 * 80000:=YQ _ (by lia);exact q G3 H3 ((j! DH).trans (q3.kt Hr)) (q3.lk.up (by lia)) ((LSub.kt (j! DH) G).trans q3.sub) d3
theorem nC(k:Key)(v:V):jc [] [(k,v)]=[(k,v)]:=rfl
theorem qf{kid:Int}{t:Th}(h:At H t a):zg H ins [(Xn kid,.ref a)] (ga ins n kid t):=λi u hu=>by
 unfold ga at hu;rw[WZ,XD]at hu;obtain⟨j,hj,rfl⟩:=hu;have WC:j<n:=by have:=YR.mp (WT hj);exact this
 have F':i=j:=by
  have hi:i<n:=by have:=(glE hj);rwa [Xj]at this
  rw[XY hi]at hj;exact Xp hj
 subst F';by_cases hk:(i:Int)=kid
 .rw[b! hk];exact .inl ⟨a,by rw[bD (by rw[hk])],h⟩
 .rw[a! hk];exact .inr ⟨by rw[bE (λz=>hk (YL z).symm)];rfl,rfl⟩
def SpI(P:W6)(w:Xo)(Vl:VlT)(H:Hp)(ia la pt hl:WS)(G:LG)(f':List (au×V))(Al:List au)(m:Nat)(Y:St)(H2:Hp):Prop:=∃(i:Nat)(AQ:List (au×V))(FE:List WS)(c5 c6 c7 c8 c9 Dx:Option V),Y=[A? (.ref ia),A? (.ref la),A? (.ref pt),A? (.ref hl),A? (.int (i:Nat)),c5,c6,c7,c8,c9,Dx]/\But pt H H2/\H2 hl=A? (.lst (FE.map i!))/\Pt P w Vl H2 pt AQ Al/\Xs (λk b=>MKAt CU H2 k b) (AQ.map (·.1)) FE/\(∀k∈f'.map (·.1),k∈AQ.map (·.1))/\i<=AQ.length/\(∀(j:Nat)(k:au),j<i->(AQ.map (·.1))[j]?=A? k->∀s pl,gM H2 G k s pl->nk s pl∈AQ.map (·.1))/\m=Al.length+1 - i
inductive ny(P:W6)(w:Xo)(vs:List V)(H:Hp)(Q:VK)(_E:XK):Prop
 |mk (ia la pt:WS) (Ak:List WS) (ins:List (Xk×Int)) (G:LG) (f':List (au×V)) (Al:List au) (Vl:VlT) (Lk:LkT):vs=[.ref ia,.ref la,.ref pt]->H ia=A? (.tup (Ak.map i!))->KsAt H ins Ak->cz ins->LkR P w ins Al Lk H la G->Pt P w Vl H pt f' Al->Al.length<=1000000->pt≠la->(∀(i j:Nat)(k:au)(t1 t2:Th)(s:Int)(pl:List Int)(kd:Xk×Int)(kid:Int),i<j->Vl i k t1 t2->kd∈ins->Lk k s pl kd kid->Vl j (nk s pl) (.knot kd.1 (ga ins kd.2.toNat kid t1)) (.knot kd.1 (ga ins kd.2.toNat kid t2)))->(∀(A9:List (au×V))(H':Hp),But pt H H'->Pt P w Vl H' pt A9 Al->(∀k∈f'.map (·.1),k∈A9.map (·.1))->(∀k∈A9.map (·.1),∀s pl,gM H' G k s pl->nk s pl∈A9.map (·.1))->Q .non H')->ny P w vs H Q _E
theorem vc:aX P w K mg base CX0 3 T.g_36.f T.g_36.d ["ins","links","partings"] (ny P w):=by
 refine T.g_36.F.okA b9 λAi A outer s0 H vs Q E hr h=>?_;obtain⟨ia,la,pt,Ak,ins,G,f',Al,Vl,Lk,rfl,ei,ET,g,R,Fv,LR,Ap,hS,q⟩:=h
 refine⟨_,(ad (aq 3 b9.nd (bB (rW (fl:=CU) rfl) rfl T.n_6 PyProof.Rows.boot_list (aa (pv 2) ab)))
  (ad (aq 4 b9.nd ai)
  (af (d4 XE (bz lQ (pv 4) (aC ay rfl T.n_5 XU (aa (pv 3) ab)) (bc _)) (ad (eU (wS (fl:=CU) (fL hr) (pv 2) (aY bv (pv 3) (pv 4) (λ_ _=>rfl)) (λ_ _=>rfl)) (bi rfl (aj (pgN 5 b9.nd) (aj (pgN 6 b9.nd) aP))))
  (ad (bH XE rfl (cw (uP (fl:=CU) (fL hr) (pv 1) (aY bv (pv 3) (pv 4) (λ_ _=>rfl)) (bw ab) ⟨D?,D?,D?,D?⟩)) (bi rfl (aj (pgN 7 b9.nd) (aj (pgN 8 b9.nd) (aj (pgN 9 b9.nd) (aj (pgN 10 b9.nd) aP))))) (af (cC (sh (sF (fl:=CU) (fL hr) (aB (aa (pv 7) (aa (pv 8) ab))) (pv 2))) (ad (qt (fl:=CU) (fL hr) (pv 2) (aB (aa (pv 7) (aa (pv 8) ab))) (aB (aa (pcF T.g_32 (eW T) hr (aa (pv 0) (aa (pv 9) (aa (uf (p6 (pv 10) (pv 5) tT) rfl rfl (by decide) (by decide)) ab)))) (aa (pcF T.g_32 (eW T) hr (aa (pv 0) (aa (pv 9) (aa (uf (p6 (pv 10) (pv 6) tT) rfl rfl (by decide) (by decide)) ab)))) ab))) rfl)
  (af (aQ (bR Xf Xy Xx aN (pv 3) (aa (aB (aa (pv 7) (aa (pv 8) ab))) ab))))) bU)))
  (af (wn (i:=4) b9.nd rfl (Or.inl rfl) ai wb)))))))),?_⟩
 try dsimp only[Aw,Ae]
 obtain⟨φ,Fw⟩:=cp Fv.dm;have C6:ins.length=Ak.length:=W4 ET;refine⟨_,D?,pt,f',D?,Fv.dm,λhl bs EW Ao=>?_⟩;refine gU EW λH1 s1 e1=>?_;have Rm:hl≠pt:=λz=>by rw[z,Fw]at EW;cases EW
 have OM:Xs (λk b=>MKAt CU H1 k b) (f'.map (·.1)) bs:=P2.mapl _ (y! (λ_ _ e=>e.mono (j! s1)) Ao);refine⟨SpI P w Vl H ia la pt hl G f' Al,⟨_,0,f',bs,B?,B?,B?,B?,B?,B?,D?,G! s1,e1,Fv.same s1,OM,λ_ h=>h,Xh _,λ_ _ h=>g! h (YZ _),D?⟩,?_⟩;rintro m Y H2 ⟨i,AQ,FE,c5,c6,c7,c8,c9,Dx,rfl,b2,Di,BJ,Hu,Gm,LO,C2,rfl⟩;have ON:(AQ.map (·.1)).length=FE.length:=W4 Hu;rw[WO]at ON;have WD:=BJ.len;have Oc:=b2.kt Fw;obtain⟨LY,DK⟩:=cp BJ.dm;refine⟨_,D?,_,D?,hl,_,D?,.inl (l! Di),_,_,D?,D?,?_⟩;refine⟨_,D?,?_⟩;refine cX (λcc=>?_) (λcc=>?_)
 .have Ah:i<FE.length:=by
   have:=e! cc;rw[WO]at this;lia
  refine hid λZZ kZ=>?_;obtain⟨bk,Rn⟩:∃bk,FE[i]?=A? bk:=⟨_,WR Ah⟩;obtain⟨k,hk,ER⟩:=B! Hu Rn
  obtain⟨v,hv⟩:∃v,aH AQ k=A? v:=by
   cases Kh:aH AQ k with
   |none=>exact g! (WT hk) (dR Kh)
   |some v=>exact⟨v,D?⟩
  obtain⟨kv,Ro,Rp⟩:∃kv,AQ[i]?=A? kv/\kv.1=k:=by
   rw[WZ,XD]at hk;exact hk
  obtain⟨pr,ta,tb,t1,t2,ev,Ih,Ds,LD,Rq⟩:=BJ.vl i kv Ro;refine kZ ?_;rw[<-Rp]at hv;rw[<-yb BJ.nd Ro hv]at ev;subst ev;rw[Rp]at hv Rq;have Ki:atI (FE.map i!) ((i:Nat):Int)=A? (.ref bk):=cF (gmE Rn);refine⟨λAa H'=>∃m',m'<Al.length+1 - i/\SpI P w Vl H ia la pt hl G f' Al m' Aa H',λAa H' h=>h,?_⟩;refine⟨_,D?,_,D?,_,D?,hl,_,_,.ref bk,D?,D?,l! Di,Ki,?_⟩;refine⟨pt,bk,k,AQ,.ref pr,D?,D?,BJ.dm,ER,hv,?_⟩;refine⟨pr,_,D?,o! Ih,D?,_,_,D?,_,_,D?,D?,?_⟩;dsimp only[av];have R2:=R.but b2 Fw Ap
  refine ce (λAa H'=>Ex6 λ(By:List (au×V))(CJ:List WS)(d7 d8 d9 Ip:Option V)=>An8 (Aa=[A? (.ref ia),A? (.ref la),A? (.ref pt),A? (.ref hl),A? (.int (i:Nat)),A? (.ref ta),A? (.ref tb),d7,d8,d9,Ip]) (But pt H H') (KT H2 H') (H' hl=A? (.lst (CJ.map i!))) (Pt P w Vl H' pt By Al) (Xs (λk b=>MKAt CU H' k b) (By.map (·.1)) CJ) ((∃more,By.map (·.1)=AQ.map (·.1)++more)) (∀s pl,gM H' G k s pl->nk s pl∈By.map (·.1))) (λkk AM=>?_) ?_
  .refine⟨_,D?,la,_,D?,R2.dm,_,D?,_,D?,hl,_,_,.ref bk,D?,D?,l! Di,Ki,lnE rfl,λl0 EJ=>?_⟩;refine gU EJ λH3 s3 e3=>?_;have e3:H3 l0=A? (.lst (([]:List WS).map i!)):=e3;have R3:=R2.but (G! s3 (p:=pt)) DK Ap;have OO:l0≠hl:=λz=>by rw[z,Di]at EJ;cases EJ
   refine⟨la,bk,k,lkv G,D?,D?,R3.dm,ER.mono (j! s3),?_⟩;refine hid λZZ kZ=>?_
   obtain⟨l,as,el,Rr,US,UT,hle,UU⟩:∃(l:WS)(as:List WS),(aH (lkv G) k).getD (.ref l0)=.ref l/\H3 l=A? (.lst (as.map i!))/\l≠hl/\l≠pt/\(∀a∈as,LE H3 ins Al Lk k a)/\∀s pl,gM H3 G k s pl->∃a∈as,∃(pa ka:WS)(kid:Int),H3 a=A? (.tup [.int s,.ref pa,.ref ka,.int kid])/\H3 pa=A? (.tup (pl.map q!)):=by
    have DL:H3 pt=A? (.ext LY):=s3 _ _ DK;cases Rt:aH (lkv G) k with
    |none=>exact⟨l0,[],D?,e3,OO,(λz=>by rw[z,DL]at e3;cases e3),(λa ha=>by cases ha),λs pl hh=>g! hh (vS Rt)⟩
    | some u =>
      obtain⟨g,hg,rfl,rfl⟩:=t9 Rt;obtain⟨h1,h2⟩:=R3.ls g hg;refine⟨g.2.1,g.2.2,D?,h1,(λz=>?_),(λz=>by rw[z,DL]at h1;cases h1),h2,λs pl hh=>R3.at hg hh⟩;have:=(R.ls g hg).1;rw[z,EW]at this;cases this
   refine kZ ?_;rw[el];refine⟨l,D?,⟨_,l! Rr⟩,?_⟩;have b3:=b2.trans (G! s3 (p:=pt))
   refine cR (K:=K) (a:=l) (xs:=as.map i!) (λj Y H4=>Ex6 λ(By:List (au×V))(CJ:List WS)(d7 d8 d9 Ip:Option V)=>An8 (Y=[A? (.ref ia),A? (.ref la),A? (.ref pt),A? (.ref hl),A? (.int (i:Nat)),A? (.ref ta),A? (.ref tb),d7,d8,d9,Ip]) (But pt H H4) ((∀c o,c≠pt->c≠hl->H3 c=A? o->H4 c=A? o)) (H4 hl=A? (.lst (CJ.map i!))) (Pt P w Vl H4 pt By Al) (Xs (λk b=>MKAt CU H4 k b) (By.map (·.1)) CJ) ((∃more,By.map (·.1)=AQ.map (·.1)++more)) (∀(j':Nat)(a:WS),j'<j->as[j']?=A? a->∀(s:Int)(pl:List Int)(pa ka:WS)(kid:Int),H3 a=A? (.tup [.int s,.ref pa,.ref ka,.int kid])->H3 pa=A? (.tup (pl.map q!))->nk s pl∈By.map (·.1)))
    ⟨AQ,FE,_,_,_,_,rfl,b3,λ_ _ _ _ e=>e,s3 _ _ Di,BJ.same s3,y! (λ_ _ e=>e.mono (j! s3)) Hu,⟨[],by rw[XC]⟩,λ_ _ h=>g! h (YZ _)⟩ (λj Y H4 _⟨_,_,_,_,_,_,_,_,f4,_,_,_,_,_⟩=>l! (f4 _ _ UT US Rr)) ?_ ?_
   .rintro j x Y H4 hx ⟨By,CJ,d7,d8,d9,Ip,rfl,b4,f4,DN,Bt,Dj,AK,Ac⟩;have DL:H3 pt=A? (.ext LY):=s3 _ _ DK;have Dm:KT H3 H4:=λc ys ec=>f4 c _ (λz=>by rw[z,DL]at ec;cases ec) (λz=>by rw[z,s3 _ _ Di]at ec;cases ec) ec;have FF:=(j! s3).trans Dm;have OP:=Oc.trans FF;refine hid λZZ kZ=>?_;obtain⟨WE,OQ⟩:=cp Bt.dm;have UW:=Bt.len;have OR:(By.map (·.1)).length=CJ.length:=W4 Dj;rw[WO]at OR;obtain⟨a,rfl,ha⟩:=aO hx;obtain⟨s',kid,pl,pa,ka,kd,g1,g2,g3,g4,g5,g6⟩:=hle a (WT ha);refine kZ ?_;have ea:=Dm _ _ g1;have BM:=Dm _ _ g2;have Ru:KAt H4 kd ka:=Dm _ _ g3
    have Kj:∀(s:Int)(BU:List Int)(EO Eh:WS)(B4:Int),H3 a=A? (.tup [.int s,.ref EO,.ref Eh,.int B4])->H3 EO=A? (.tup (BU.map q!))->nk s BU=nk s' pl:=λs BU EO Eh B4 h1 h2=>by
     rw[g1]at h1;cases h1;rw[g2]at h2;have:pl=BU:=qA (by injection h2 with h3;injection h3);rw[this]
    refine⟨a,_,D?,o! ea,D?,_,_,D?,_,_,D?,_,_,D?,_,_,D?,D?,?_⟩;dsimp only[av];refine cj (λbb H'=>An2 (k! H4 H') (bb=!(aH By (nk s' pl)).isSome)) (λk2 Bq=>?_) (λH5 hb2=>?_) (λH5 hb2=>?_)
    .refine⟨_,D?,_,D?,lnE rfl,λkp CG=>?_⟩;have s5:=ae CG (.tup [.int s',.ref pa]);exact⟨_,D?,pt,kp,nk s' pl,By,D?,D?,Bt.dm.mono s5,mR ac (s5 _ _ BM),_,D?,Bq _ _ ⟨s5,D?⟩⟩
    .obtain⟨s5,hb2⟩:=hb2
     have hn:aH By (nk s' pl)=none:=by
      cases Kh:aH By (nk s' pl)with
      |none=>rfl
      |some u=>rw[Kh]at hb2;cases hb2
     have Kk:=OP.trans (j! s5);have Fn:=FF.trans (j! s5)
     refine⟨_,D?,_,D?,λdd LS=>?_⟩;refine⟨_,D?,_,D?,ac,[(Xn kid,.ref ta)],D?,(by show 1<=15;decide),?_⟩;rw[nC];have s6:k! H5 (upd (upd H5 dd (.dK [])) dd (.dK [(Xn kid,.ref ta)])):=am (ae LS _) LS;have e6:(upd (upd H5 dd (.dK [])) dd (.dK [(Xn kid,.ref ta)])) dd=A? (.dK [(Xn kid,.ref ta)]):=ac;generalize(upd (upd H5 dd (.dK [])) dd (.dK [(Xn kid,.ref ta)]))=H6 at s6 e6 |-;have FC:=Kk.trans (j! s6);refine⟨ia,ka,dd,Ak,ins,kd,_,ga ins kd.2.toNat kid t1,D?,FC _ _ ei,ET.mono FC,g,(s5.trans s6) _ _ Ru,g4,e6,lD ..,qf (Ds.mono (Fn.trans (j! s6))),λr1 H7 s7 N'=>?_⟩
     refine⟨_,D?,_,D?,λd2 hd2=>?_⟩;refine⟨_,D?,_,D?,ac,[(Xn kid,.ref tb)],D?,(by show 1<=15;decide),?_⟩;rw[nC];have s8:k! H7 (upd (upd H7 d2 (.dK [])) d2 (.dK [(Xn kid,.ref tb)])):=am (ae hd2 _) hd2;have e8:(upd (upd H7 d2 (.dK [])) d2 (.dK [(Xn kid,.ref tb)])) d2=A? (.dK [(Xn kid,.ref tb)]):=ac;generalize(upd (upd H7 d2 (.dK [])) d2 (.dK [(Xn kid,.ref tb)]))=H8 at s8 e8 |-;have Dw:=s6.trans (s7.trans s8);have DJ:=Kk.trans (j! Dw);refine⟨ia,ka,d2,Ak,ins,kd,_,ga ins kd.2.toNat kid t2,D?,DJ _ _ ei,ET.mono DJ,g,(s5.trans Dw) _ _ Ru,g4,e8,lD ..,qf (LD.mono (Fn.trans (j! Dw))),λr2 H9 s9 G0=>?_⟩;refine⟨lnE rfl,λp2 BL=>?_⟩;refine gU BL λBD AX JI=>?_;refine⟨_,D?,_,D?,_,D?,lnE rfl,λkp CG=>?_⟩;refine gU CG λGD BR FD=>?_;have DO:=s5.trans (Dw.trans (s9.trans (AX.trans BR)));have Gn:=Bt.same DO;refine⟨pt,kp,nk s' pl,By,D?,D?,Gn.dm,mR FD (DO _ _ BM),fy (by lia),λHo OS OT=>?_⟩;have LZ:But pt GD Ho:=OS
     have OU:i<By.length:=by
      obtain⟨more,hm⟩:=id AK;have:=h! Zu hm;rw[WO,Xg,WO]at this;lia
     obtain⟨UX,Hv⟩:=Gn.put hn LZ OT ⟨p2,r1,r2,_,_,rfl,BR _ _ JI,N'.mono (j! (s8.trans (s9.trans (AX.trans BR)))),G0.mono (j! (AX.trans BR)),hS i _ k t1 t2 s' pl kd kid OU Rq g4 g6⟩ g5;have Ez:Ho hl=A? (.lst (CJ.map i!)):=LZ _ _ Rm (DO _ _ DN);have Gp:KT H4 Ho:=(j! DO).trans (LZ.kt (DO _ _ OQ));dsimp only[av];refine⟨_,D?,.inl ⟨D?,_,l! Ez⟩,_,D?,_,D?,lnE rfl,λL3 OV=>?_⟩;refine gU OV λFA DZ OW=>?_;refine⟨hl,_,_,D?,D?,DZ _ _ Ez,fy (by rw[WO];lia),?_⟩;have FG:KT FA (upd FA hl (.lst (CJ.map i!++[.ref L3]))):=aG (DZ _ _ Ez);have Kl:=(Gp.trans (j! DZ)).trans FG;have Io:=UX.same DZ;have UY:Pt P w Vl (upd FA hl (.lst (CJ.map i!++[.ref L3]))) pt _ Al:=⟨sO Io.dm FG λo eo=>by rw[ag Rm.symm];exact eo,Io.nd,Io.al,λj p hp=>(Io.vl j p hp).mono FG⟩;obtain⟨more,AK⟩:=AK
     have go:∀c o,c≠pt->c≠hl->H4 c=A? o->(upd FA hl (.lst (CJ.map i!++[.ref L3]))) c=A? o:=λc o h1 h2 e=>by
      rw[ag h2];exact DZ _ _ (LZ _ _ h1 (DO _ _ e))
     refine⟨_,CJ++[L3],_,_,_,_,D?,λc o hc e=>go c o hc (λz=>by rw[z,EW]at e;cases e) (b4 _ _ hc e),λc o h1 h2 e=>go c o h1 h2 (f4 c o h1 h2 e),uAE,UY,?_,⟨more++[nk s' pl],by rw[Hv,AK,XG]⟩,λj' a' Au C1 s BU EO Eh B4 h1 h2=>?_⟩
     .rw[Hv];exact t! (y! (λ_ _ e=>e.mono Kl) Dj) (.cons ((mR OW (DZ _ _ (Gp _ _ BM))).mono FG) .nil)
     .rw[Hv];by_cases Ey:j'=j
      .rw[Ey,ha]at C1;cases C1;rw[Kj s BU EO Eh B4 h1 h2];exact XB _ (Xd ..)
      .exact XJ _ (Ac j' a' (by lia) C1 s BU EO Eh B4 h1 h2)
    .obtain⟨s5,hb2⟩:=hb2
     obtain⟨u,hu⟩:∃u,aH By (nk s' pl)=A? u:=by
      cases Kh:aH By (nk s' pl)with
      |none=>rw[Kh]at hb2;cases hb2
      |some u=>exact⟨u,D?⟩
     refine⟨By,CJ,_,_,_,_,D?,b4.trans (G! s5),λc o h1 h2 e=>s5 _ _ (f4 c o h1 h2 e),s5 _ _ DN,Bt.same s5,y! (λ_ _ e=>e.mono (j! s5)) Dj,AK,λj' a' Au C1 s BU EO Eh B4 h1 h2=>?_⟩;by_cases Ey:j'=j
     .rw[Ey,ha]at C1;cases C1;rw[Kj s BU EO Eh B4 h1 h2];exact Xl.mpr ⟨_,fk hu,rfl⟩
     .exact Ac j' a' (by lia) C1 s BU EO Eh B4 h1 h2
   .rintro Y H4 ⟨By,CJ,d7,d8,d9,Ip,rfl,b4,f4,DN,Bt,Dj,AK,Ac⟩;have DL:H3 pt=A? (.ext LY):=s3 _ _ DK;have Dm:KT H3 H4:=λc ys ec=>f4 c _ (λz=>by rw[z,DL]at ec;cases ec) (λz=>by rw[z,s3 _ _ Di]at ec;cases ec) ec;refine AM _ _ ⟨By,CJ,_,_,_,_,rfl,b4,(j! s3).trans Dm,DN,Bt,Dj,AK,λs pl hh=>?_⟩;refine hid λZZ kZ=>?_;obtain⟨a,ha,pa,ka,kid,h1,h2⟩:=UU s pl (R3.back Dm hh);obtain⟨j',Au⟩:=Xi.mp ha;refine kZ ?_;exact Ac j' a (by have:=(YF.mp Au).1;rw[WO];exact this) Au s pl pa ka kid h1 h2
  .rintro Aa H4 ⟨By,CJ,d7,d8,d9,Ip,rfl,b4,FF,DN,Bt,Dj,⟨more,AK⟩,OX⟩;have UW:=Bt.len;have hlen:=h! Zu AK;rw[WO,Xg,WO]at hlen;refine⟨_,D?,_,_,D?,D?,Al.length+1 - (i+1),by lia,i+1,By,CJ,_,_,_,_,_,_,D?,b4,DN,Bt,Dj,λk' A'=>by rw[AK];exact XJ _ (Gm k' A'),by lia,λj k' hj A' s pl hh=>?_,D?⟩;have F7:j<(AQ.map (·.1)).length:=by rw[WO];lia
   have Bq:(AQ.map (·.1))[j]?=A? k':=by rw[AK,Yi F7]at A';exact A'
   by_cases Nz:j=i
   .rw[Nz,hk]at Bq;cases Bq;exact OX s pl hh
   .rw[AK];exact XJ _ (C2 j k' (by lia) Bq s pl (R2.back FF hh))
 .have GY:¬i<FE.length:=λz=>cc (d! (by rw[WO];lia));refine q AQ H2 b2 BJ Gm λk hk s pl hh=>?_;obtain⟨j,hj⟩:=Xi.mp hk;exact C2 j k (by have:=(glE hj);rw[WO]at this;lia) hj s pl hh
inductive fK(P:W6)(w:Xo)(K:WQ)(vs:List V)(H:Hp)(Q:VK)(_E:XK):Prop
 |mk (fa pt:WS) (s:Nat) (t:Th) (f':List (au×V)) (Al:List au) (Vl:VlT):vs=[.ref fa,.int (s:Nat),.ref pt]->AtK .i K H t fa->t.size<=200->t.tall<=100->t.noCall->Pt P w Vl H pt f' Al->(∀(r:WS)(H':Hp),k! H H'->AtK .i K H' (t.cut (Dk f' (s:Nat)) []) r->Q (.ref r) H')->fK P w K vs H Q _E
def aaS(K:WQ)(D:List Int->Bool)(fa pt tl ah:WS)(s:Nat)(t:Th)(H:Hp)(m:Nat)(Y:St)(H3:Hp):Prop:=∃(ts as:List WS)(Ts:List Th)(As:List (List Int×Th))(c5 c6 c7:Option V),Y=[A? (.ref fa),A? (.int (s:Nat)),A? (.ref pt),A? (.ref tl),A? (.ref ah),c5,c6,c7]/\k! H H3/\H3 tl=A? (.lst (ts.map i!))/\H3 ah=A? (.lst (as.map i!))/\Xs (TopAtK .i K H3) (Ts.map (eQ z!)) ts/\PsAtK K H3 As as/\Ts++iu D As.reverse=(t.cut D []).walk/\(∀p∈As,p.1.length+p.2.tall<=100/\p.2.noCall)/\Ts.length+szP As<=200/\m=szP As
theorem om:aX P w K mg base CX0 3 T.g_37.f T.g_37.d ["front","state","partings"] (fK P w K):=by
 refine T.g_37.F.okA cx λAi A outer s0 H vs Q E hr h=>?_;obtain⟨fa,pt,s,t,f',Al,Vl,rfl,hA,hsz,AD,OY,Fv,k⟩:=h
 refine⟨_,(ad (aq 3 cx.nd (bw ab))
  (ad (aq 4 cx.nd (bw (aa (aB (aa (aB ab) (aa (pv 0) ab))) ab)))
  (ad (d4 XE (bq (pv 4) (λ_=>rfl)) (ad (eU (jm Xf ZE ZD jC (pv 4)) (bi rfl (aj (pgN 5 cx.nd) (aj (pgN 6 cx.nd) aP))))
  (af (cC (PW.pt (tH (bq (pcF T.g_10 (fI T) hr (aa (pv 6) ab)) (λ_=>rfl)) (oK (sh (xY (fl:=CU) (fL hr) (aB (aa (pv 1) (aa (pv 5) ab))) (pv 2)))))) (af (aQ (bR Xf Xy Xx aN (pv 3) (aa (aB (aa (cy (v:=.ref T.k_HOLE.a) rfl T.k_HOLE.c rfl) (aa ai ab))) ab)))) (ad (aQ (bR Xf Xy Xx aN (pv 3) (aa (aB (aa (fe ub (pv 6) gF (fH ai)) (aa (aA sI (aC ay rfl T.n_5 XU (aa (pv 6) ab)) ai) ab))) ab)))
  (ad (dN (i:=7) (N:=["number","kid","place"]) (js:=[B?,B?,A? 5]) (g:=(mE K 2 (cV (av 0) (cV (av 1) mF)))) (tt:=bL) (te:=(kg (aJ (tOp (qU K) (bh 2) (kg (aJ (bh 0) cN))) (aJ (bh 1) cN)))) cx.nd rfl (Or.inl rfl) rfl (cB rfl (by decide +kernel) (by decide +kernel) rfl rfl rfl) (ou rfl T.n_2 (fe kQ (pv 6) (fH ai) gF)) (λ_ _ _ _ _ _=>(bi rfl (aj (pgN 0 x8) (aj (pgN 1 x8) aP)))) (f8 (bM aW (aL rfl) (bM aW (aL rfl) gu))) (λ_ _ _ _ _ _=>bV) (λ_ _ _ _ _ _=>(aB (aa (aA fD (pv 2) (aB (aa (pv 0) ab))) (aa (pv 1) ab)))))
  (af (aQ (bR Xf ZY ZX gH (pv 4) (aa (mw rfl rfl T.n_6 rfl T.n_10 (pv 7)) ab))))))))))
  (af (ax (pcF T.g_5 (iy T) hr (aa (pv 3) ab))))))),?_⟩
 try dsimp only[Aw,Ae]
 generalize UZ:Dk f' (s:Nat)=D at k;refine⟨lnE rfl,λtl Hw=>?_⟩;have s1:k! H (upd H tl (.lst [])):=ae Hw _;have G4:(upd H tl (.lst [])) tl=A? (.lst []):=ac;generalize upd H tl (.lst [])=H1 at s1 G4 |-;refine⟨lnE rfl,λp0 Fh=>?_⟩;refine⟨_,D?,lnE rfl,λp1 DW=>?_⟩;refine⟨lnE rfl,λah Bx=>?_⟩;have s2:k! H1 (upd (upd H1 p0 (.tup [])) p1 (.tup [.ref p0,.ref fa])):=(ae Fh _).trans (ae DW _);have e1:(upd (upd H1 p0 (.tup [])) p1 (.tup [.ref p0,.ref fa])) p1=A? (.tup [.ref p0,.ref fa]):=ac;have e0:(upd (upd H1 p0 (.tup [])) p1 (.tup [.ref p0,.ref fa])) p0=A? (.tup []):=ae DW _ _ _ ac;generalize(upd (upd H1 p0 (.tup [])) p1 (.tup [.ref p0,.ref fa]))=H2 at s2 e1 e0 Bx |-;have Df:H1 ah=none:=s2.free Bx;have BV:H ah=none:=s1.free Df;have Ap:ah≠tl:=λz=>by rw[z,G4]at Df;cases Df
 have U0:szP [(([]:List Int),t)]=t.size:=by rw[szP,szP];rfl
 refine⟨aaS K D fa pt tl ah s t H,⟨_,[],[p1],[],[([],t)],B?,B?,B?,D?,am (s1.trans s2) BV,by rw[ag Ap.symm];exact s2 _ _ G4,by rw[ac];rfl,.nil,.cons ⟨p0,fa,ae Bx _ _ _ e1,ae Bx _ _ _ e0,hA.mono (j! (am (s1.trans s2) BV))⟩ .nil,by show[]++((t.cut D []).walk++[])=_;rw[Y0,XC],λp hp=>by rw[Xc.mp hp];exact⟨by simpa using AD,OY⟩,by rw[U0];simpa using hsz,D?⟩,?_⟩;rintro m Y H3 ⟨ts,as,Ts,As,c5,c6,c7,rfl,sm,em,ea,a1,a2,hw,hb,hlen,rfl⟩;have WG:Ts.length=ts.length:=by have:=W4 a1;rwa [WO]at this
 refine⟨_,D?,_,.inl ⟨_,l! ea,D?⟩,?_⟩;refine cX (λc=>?_) (λc=>?_)
 .refine⟨λAa H'=>∃m',m'<szP As/\aaS K D fa pt tl ah s t H m' Aa H',λAa H' h=>h,?_⟩;have Be:as≠[]:=by intro z;subst z;simp at c
  refine hid λZZ kZ=>?_;obtain⟨Ar,b,rfl⟩:∃Ar b,as=Ar++[b]:=⟨as.dropLast,as.getLast Be,(Y3 Be).symm⟩;obtain⟨Us,⟨pre,x⟩,rfl,a3,pa,ta,eb,BM,Ds⟩:=P2.snoc_inv a2;have JF:szP (Us++[(pre,x)])=szP Us+x.size:=by rw[cH,szP,szP];rfl
  have Fg:=x.size_eq;rw[JF]at hlen;obtain⟨LJ,Km⟩:=hb (pre,x) (by simp);refine kZ ?_;simp only at LJ Km BM Ds;have Q0:Us.length=Ar.length:=W4 a3;have q4:=oB Us;refine⟨_,D?,.inl ⟨D?,_,l! ea⟩,ah,_,.ref b,D?,D?,ea,by simp,?_⟩;have d1:((Ar++[b]).map i!).dropLast=Ar.map i!:=by simp
  rw[d1];have k1:KT H3 (upd H3 ah (.lst (Ar.map i!))):=aG ea;have Ga:k! H (upd H3 ah (.lst (Ar.map i!))):=am sm BV;have Dt:(upd H3 ah (.lst (Ar.map i!))) tl=A? (.lst (ts.map i!)):=by rw[ag Ap.symm];exact em
  have G5:(upd H3 ah (.lst (Ar.map i!))) ah=A? (.lst (Ar.map i!)):=ac;generalize(upd H3 ah (.lst (Ar.map i!)))=H4 at k1 Ga Dt G5 |-;refine⟨b,_,D?,o! (k1 _ _ eb),D?,_,_,D?,_,_,D?,D?,?_⟩
  try dsimp only[av]
  have Bt:=Fv.same Ga;refine cj (λbb H'=>An2 (k! H4 H') (bb=(x.isHole ||D pre))) (λk2 Bq=>?_) (λH5 hb2=>?_) (λH5 hb2=>?_)
  .refine⟨_,D?,ta,x,D?,Ds.mono k1,by lia,_,D?,?_⟩;refine cX (λch=>Bq _ _ ⟨.refl _,by rw[ch];rfl⟩) (λch=>?_);have U1:x.isHole=false:=Yo.mpr ch;refine⟨_,D?,_,D?,lnE rfl,λkp CG=>?_⟩;have s5:=ae CG (.tup [.int ((s:Nat):Int),.ref pa]);refine⟨_,D?,pt,kp,nk (s:Nat) pre,f',D?,D?,Bt.dm.mono s5,mR ac (s5 _ _ (k1 _ _ BM)),_,D?,Bq _ _ ⟨s5,?_⟩⟩;rw[U1,Bool.false_or,<-UZ];rfl
  .obtain⟨s5,hb2⟩:=hb2
   have Hz:x.cut D pre=hole:=by
    cases x with
    |call u v=>rw[Th.cut]
    | knot n ks =>
      rw[Th.cut,b!];rcases Bool.or_eq_true_iff.mp hb2.symm with h|h
      .exact .inl h
      .exact .inr h
   refine⟨_,D?,.inl ⟨D?,_,l! (s5 _ _ Dt)⟩,lnE rfl,λp hp=>?_⟩;refine gU hp λH6 s6 e6=>?_;have Rv:=(s5.trans s6) _ _ Dt;refine⟨tl,_,_,D?,D?,Rv,lbE (by lia),?_⟩;have k7:KT H6 (upd H6 tl (.lst (ts.map i!++[.ref p]))):=aG Rv;have Rw:=(k1.trans (j! (s5.trans s6))).trans k7;refine⟨szP Us,by lia,ts++[p],Ar,Ts++[hole],Us,_,_,_,D?,am (Ga.trans (s5.trans s6)) Hw,uAE,by rw[ag Ap];exact(s5.trans s6) _ _ G5,?_,I! Rw a3,?_,λp' AZ=>hb p' (XJ _ AZ),?_,D?⟩
   .rw[Xb];exact t! (cW Rw a1) (.cons ⟨T.k_HOLE.a,k7 _ _ e6,zE,(TK.const T.k_HOLE.q)⟩ .nil)
   .rw[<-hw,Yz,XG];show Ts++([hole]++iu D Us.reverse)=Ts++iu D ((pre,x)::Us.reverse);unfold iu;rw[List.flatMap_cons,Hz];rfl
   .rw[Xg];show Ts.length+1+szP Us<=200;lia
  .obtain⟨s5,hb2⟩:=hb2;obtain⟨hh,Kn⟩:=Bool.or_eq_false_iff.mp hb2.symm;cases x with
   |call u v=>rw[w!]at Km;exact Km.elim
   |knot n ks =>
   have Hz:(n! n ks).cut D pre=.knot n (cf D pre 0 ks):=by
    rw[Th.cut,a!];rintro(h|h)
    .rw[hh]at h;cases h
    .rw[Kn]at h;cases h
   have Ii:=k1.trans (j! s5);have Ko:=Ds.mono Ii;rw[AtK]at Ko;refine hid λZZ kZ=>?_;obtain⟨U2,BN,OZ,Kp⟩:=Ko;refine kZ ?_;have CQ:BN.length=ks.length:=Kp.length;rw[p!]at hlen;have NU:=cJ ks;rw[w!]at Km;rw[u!]at LJ;refine⟨_,D?,.inl ⟨D?,_,l! (s5 _ _ Dt)⟩,_,D?,_,D?,ta,_,D?,OZ,λp2 H6 s6 e6=>?_⟩
   have U3:TK K H6 p2 [.str n]:=by
    have e7:TK K H6 p2 (jn (L! n::BN.map i!) B? (A? 1)):=e6;rw[sW]at e7;exact e7
   refine⟨_,D?,ta,_,D?,.inr ((OZ.mono (j! s6)).sq),_,_,D?,D?,lnE rfl,λtp CD=>?_⟩
   have Kq:((L! n::BN.map i!).length:Int) - 1=((ks.length:Nat):Int):=by
    rw[W2,WO];lia
   dsimp only[cN,tX];rw[Kq];refine gU CD λH7 s7 e7=>?_;have O0:=s5.trans (s6.trans s7);have JG:=O0 _ _ Dt;refine⟨tl,_,_,D?,D?,JG,lbE (by lia),?_⟩;have k8:KT H7 (upd H7 tl (.lst (ts.map i!++[.ref tp]))):=aG JG;have O1:k! H (upd H7 tl (.lst (ts.map i!++[.ref tp]))):=am (Ga.trans O0) Hw;have Rx:(upd H7 tl (.lst (ts.map i!++[.ref tp]))) tl=A? (.lst ((ts++[tp]).map i!)):=uAE;have JH:(upd H7 tl (.lst (ts.map i!++[.ref tp]))) ah=A? (.lst (Ar.map i!)):=by rw[ag Ap];exact O0 _ _ G5
   generalize(upd H7 tl (.lst (ts.map i!++[.ref tp])))=H8 at k8 O1 Rx JH |-;have O2:=(j! (s6.trans s7)).trans k8;have Ge:=Ii.trans O2
   have O3:Xs (TopAtK .i K H8) ((Ts++[n! n (cf D pre 0 ks)]).map (eQ z!)) (ts++[tp]):=by
    rw[Xb];refine t! (cW Ge a1) (.cons ⟨p2,?_,U2,U3.mono ((j! s7).trans k8)⟩ .nil);show H8 tp=A? (.tup [.ref p2,.int ((cf D pre 0 ks).length:Nat)]);rw[cS];exact k8 _ _ e7
   try dsimp only[av]
   refine⟨_,D?,1,D?,ta,_,D?,(OZ.mono O2).sq,?_,λp3 U4=>?_⟩
   .rintro⟨z,_⟩;rw[W2,show(1:Int)=((1:Nat):Int)by rfl,HT.sIx_nat]at z;lia
   dsimp only;rw[iw];refine gU U4 λH9 s9 e9=>?_;have O4:=s9 _ _ (Ge _ _ BM);have O5:=Kp.mono (O2.trans (j! s9));refine⟨p3,D?,⟨_,o! e9⟩,?_⟩;intro Dl FH;refine⟨BN.length,λj BD=>An3 (j<=BN.length) (k! H9 BD) (Ex1 λ(bs:List WS)=>An2 (BD Dl=A? (.lst (bs.map i!))) (PsAtK K BD ((cU pre 0 ks).take j) bs)),⟨Xh _,ae FH _,[],ac,.nil⟩,?_⟩;rintro j BD ⟨hj,AX,bs,eD,Ao⟩;by_cases Cf:j=BN.length
   .left;refine⟨⟨_,o! (AX _ _ e9),by rw[WO];exact Cf.symm⟩,?_⟩;have Ac:(cU pre 0 ks).take j=cU pre 0 ks:=by rw[Cf,CQ,<-f9 pre 0 ks,YB]
    rw[Ac]at Ao;have HC:=AX _ _ (s9 _ _ JH);have Kr:=AX _ _ (s9 _ _ Rx)
    have Bg:bs.length=ks.length:=by
     have:=W4 Ao;rw[f9]at this;exact this.symm
    try dsimp only[av]
    refine⟨_,D?,.inl ⟨D?,_,l! HC⟩,_,D?,C?,Dl,_,D?,SqB.l (l! eD),λl hl=>?_⟩;have E8:ah≠l:=aw HC hl;have Fi:tl≠l:=aw Kr hl;have Ks:(upd BD l (.lst (bs.map i!).reverse)) ah=A? (.lst (Ar.map i!)):=by rw[ag E8];exact HC
    refine⟨ah,l,_,_,D?,D?,Ks,ac,de ?_,?_⟩
    .rw[WO,Ys,WO];lia
    have Kt:KT BD (upd (upd BD l (.lst (bs.map i!).reverse)) ah (.lst (Ar.map i!++(bs.map i!).reverse))):=(dC hl).trans (aG Ks);have Ku:=(j! (s9.trans AX)).trans Kt;have O6:=Ge.trans Ku;refine⟨szP (Us++(cU pre 0 ks).reverse),?_,ts++[tp],Ar++bs.reverse,Ts++[.knot n (cf D pre 0 ks)],Us++(cU pre 0 ks).reverse,_,_,_,D?,?_,?_,?_,cW Ku O3,t! (I! O6 a3) (P2.reverse (I! Kt Ao)),?_,?_,?_,D?⟩
    .rw[cH,kI,iY,JF,p!];lia
    .exact am (am ((O1.trans s9).trans AX) ((O1.trans s9).trans AX |>.free hl)) BV
    .rw[ag Ap.symm,ag Fi];exact Kr
    .rw[ac,Xb,List.map_reverse]
    .rw[<-hw,XG,Yz,Yz,Y6,pB,m4];show Ts++([n! n (cf D pre 0 ks)]++(walks (cf D pre 0 ks)++iu D Us.reverse))=Ts++iu D ((pre,n! n ks)::Us.reverse);have:iu D ((pre,n! n ks)::Us.reverse)=((n! n ks).cut D pre).walk++iu D Us.reverse:=by unfold iu;rw[List.flatMap_cons]
     rw[this,Hz,Th.walk];rfl
    .intro p hp;rcases Xz.mp hp with hp|hp
     .exact hb p (XJ _ hp)
     .obtain⟨g1,g2⟩:=l4 pre 0 ks p (List.mem_reverse.mp hp);have:=cA g2;exact⟨by lia,cK Km g2⟩
    .rw[Xg,cH,kI,iY];show Ts.length+1+(szP Us+ak ks)<=200;lia
   .right;have Au:j<BN.length:=by lia
    refine⟨Au,⟨_,.ref BN[j],o! (AX _ _ e9),by rw[WZ,WR Au];rfl⟩,?_⟩;rintro y GD ⟨p,v,hp,rfl,rfl,hv⟩;have Bh:=hv _ (o! (AX _ _ e9));obtain⟨kd,rfl,Dc⟩:=aO Bh;obtain⟨tk,AO,NX⟩:=O5.get Dc;have BR:k! BD (upd BD p (.tup [.int (j:Nat),.ref kd])):=ae hp _;refine⟨p,_,D?,o! ac,D?,_,_,D?,_,_,D?,D?,?_⟩;generalize(upd BD p (.tup [.int (j:Nat),.ref kd]))=GD at BR |-;refine⟨_,D?,_,D?,lnE rfl,λn1 Gf=>?_⟩;refine gU Gf λHo CI Fy=>?_;refine rP (CI _ _ (BR _ _ (AX _ _ O4))) Fy (by rw[WO];show pre.length+1<=1000000;lia) λn2 FA DZ OW=>?_;refine⟨_,D?,lnE rfl,λn3 Gg=>?_⟩;have L4:k! BD (upd FA n3 (.tup [.ref n2,.ref kd])):=(BR.trans (CI.trans DZ)).trans (ae Gg _);have Kv:=L4 _ _ eD;refine⟨_,Kv,bO ?_,Au,?_,bs++[n3],?_,?_⟩
    .have:=W4 Ao;rw[XS]at this;rw[WO];lia
    .exact am (AX.trans L4) FH
    .rw[ac,Xb];rfl
    .have L6:KT (upd FA n3 (.tup [.ref n2,.ref kd])) (upd (upd FA n3 (.tup [.ref n2,.ref kd])) Dl (.lst (bs.map i!++[.ref n3]))):=aG Kv;rw[Yh,lU pre 0 ks j tk AO];refine t! (I! ((j! L4).trans L6) Ao) (.cons ⟨n2,kd,L6 _ _ ac,L6 _ _ (ae Gg _ _ _ ?_),?_⟩ .nil)
     .rw[OW,Xb,Ym];rfl
     .exact NX.mono ((j! (AX.trans L4)).trans L6)
 .have hz:as=[]:=by
   cases as with
   |nil=>rfl
   |cons y ys=>simp at c
  subst hz;have En:As=[]:=XZ.mp (W4 a2);subst En;have EM:Ts=(t.cut D []).walk:=by simpa[iu]using hw
  subst EM;obtain⟨b1,b2⟩:=tU z! (t.cut D []);rw[tI]at b1;refine⟨_,D?,tl,ts,_,t.cut D [],D?,em,a1,by rw[WO];lia,b2,?_,b1,λr H4 s4 O7=>k r H4 (sm.trans s4) O7⟩;intro u hu;obtain⟨y,hy,e⟩:=Xl.mp hu;cases y with
  |knot n us=>cases e
  | call sn kn =>
    cases e;rw[p!];decide
def kW(ins:List (Xk×Int))(rows:List (List Th)):List au:=(XF rows.length).flatMap λs=>((mkF ins rows (s:Nat)).pl []).map λx=>nk (s:Nat) x.1
theorem qD{f:α->List β}:∀{l:List α},(∀x∈l,(f x).length<=B)->(l.flatMap f).length<=l.length * B
 | [],_=>Xh _
 | x::l,h=>by
   rw[List.flatMap_cons,Xg,W2,Nat.succ_mul];have h1:=h x (Xd ..);have h2:=qD (l:=l) λy hy=>h y (W8 _ hy);lia
theorem xC(F:FrK ins outs rows):(kW ins rows).length<=1000000:=by
 have h:=qD (l:=XF rows.length) (f:=λs=>((mkF ins rows (s:Nat)).pl []).map λx=>nk (s:Nat) x.1) (B:=200) λs hs=>by
  rw[WO,D!];have CO:=YR.mp hs;obtain⟨row,p,_,_,e,z,_⟩:=F.mkd (l:=(s:Nat)) (by lia) (by lia);rw[e];exact z
 rw[Xj]at h;have:=F.le;show((XF rows.length).flatMap _).length<=_;lia
theorem qq{s:Nat}(hs:s<rows.length){x:List Int×Th}(hx:x∈(mkF ins rows (s:Nat)).pl []):nk (s:Nat) x.1∈kW ins rows:=List.mem_flatMap.mpr ⟨s,YR.mpr hs,Xl.mpr ⟨x,hx,rfl⟩⟩
theorem xQ{s:Nat}(hs:s<rows.length){x:List Int×Th}(hx:x∈(frS ins rows s).pl []):nk (s:Nat) x.1∈kW ins rows:=by
 obtain⟨u,hu⟩:=vk _ _ _ x hx;exact qq (x:=(x.1,u)) hs hu
theorem aa6{pt:WS}(h:Pt P w Vl H pt f' Al)(k:KT H H')(e:∀o,H pt=A? o->H' pt=A? o):Pt P w Vl H' pt f' Al:=⟨sO h.dm k e,h.nd,h.al,λj p hp=>(h.vl j p hp).mono k⟩
theorem pM{p:WS}{H0:Hp}(hb:But p H H')(s:k! H0 H)(h0:H0 p=B?):k! H0 H':=λc o e=>hb c o (λz=>by rw[z,h0]at e;cases e) (s c o e)
theorem lc(F:FrK ins outs rows){s:Nat}(hs:s<rows.length):(frS ins rows s).size<=200/\(frS ins rows s).tall<=100/\(frS ins rows s).noCall:=by
 refine hid λZZ kZ=>?_;obtain⟨row,p,hr,hp,e,z1,z2,hf⟩:=F.mkd (l:=(s:Nat)) (by lia) (by lia);refine kZ ?_;have h:=iJ (mkF ins rows) (mkF ins rows (s:Nat)) ((rows[s]?).getD []);have hn:(mkF ins rows (s:Nat)).noCall:=by rw[e];exact j1 _ _ (WX _) hf
 unfold frS;rw[e]at h hn;rw[e];exact⟨by lia,by lia,rJ hn _⟩
theorem sH(go:cz outs){t v:Th}{pl:List Int}(h:t.FitS outs S C)(hi:In t pl v):v.isHole=false:=by
 have:=hi.fit h;cases v with
 |call a b=>rw[A!]
 | knot m ks =>
   rw[r!]at this;rw[A!,decide_eq_false_iff_not];rintro⟨rfl,_⟩;exact l6 (go.low _ this.1).1 rfl
theorem uJ(F:FrK ins outs rows)(go:cz outs){s:Nat}(hs:s<rows.length):∀x∈(mkF ins rows (s:Nat)).pl [],x.2.isHole=false:=λx hx=>by
 refine hid λZZ kZ=>?_;obtain⟨_,p,_,_,e,_,_,f⟩:=F.mkd (l:=(s:Nat)) (by lia) (by lia);refine kZ ?_;rw[e]at hx;exact sH go f (In.of _ (WX _) (pl:=x.1) (v:=x.2) hx)
inductive fX(P:W6)(w:Xo)(K:WQ)(vs:List V)(H:Hp)(Q:VK)(_E:XK):Prop
 |mk (b:WS) (ins outs:List (Xk×Int)) (head:Th) (rows:List (List Th)):vs=[.ref b]->Bk H ins outs head rows b->FrK ins outs rows->cz outs->(∀(r fl pt:WS)(fs:List WS)(f':List (au×V))(H':Hp),k! H H'->H' r=A? (.tup [.ref fl,.ref pt])->H' fl=A? (.lst (fs.map i!))->Xs (λs a=>AtK .i K H' ((frS ins rows s).cut (Dk f' (s:Nat)) []) a) (XF rows.length) fs->Pt P w (VlM ins rows) H' pt f' (kW ins rows)->FrD ins rows (f'.map (·.1))->qN ins rows f'->Q (.ref r) H')->fX P w K vs H Q _E
theorem kj:aX P w K mg base CX0 7 T.g_38.f T.g_38.d ["book"] (fX P w K):=by
 refine T.g_38.F.okA bu λAi A outer s0 H vs Q E hr h=>?_;obtain⟨b,ins,outs,head,rows,rfl,hB,F,go,k⟩:=h
 refine⟨_,(ad (aq 1 bu.nd (pcF T.g_33 (jh T) hr (aa (pv 0) ab)))
  (ad (aq 2 bu.nd (l9 (fl:=CU)))
  (ad (dN (i:=3) (N:=["state","book","made","partings"]) (js:=[B?,A? 0,A? 1,A? 2]) (g:=(av 0)) (tt:=bL) (te:=(dr (dY P w K) [] E0 (aJ (bh 1) (aJ (bh 0) (aJ (bh 2) (aJ (bh 3) cN)))))) bu.nd rfl (Or.inl rfl) rfl (cB rfl (by decide +kernel) (by decide +kernel) rfl rfl rfl) (bI rfl T.n_9 (aa (pcF T.g_30 (ow T) hr (aa (pv 0) ab)) ab)) (λ_ _ _ _ _ _=>(pgN 0 abv)) (aL rfl) (λ_ _ _ _ _ _=>bV) (λ_ _ _ _ _ _=>(pcF T.g_34 (lV T) hr (aa (pv 1) (aa (pv 0) (aa (pv 2) (aa (pv 3) ab)))))))
  (ad (aq 4 bu.nd (l9 (fl:=CU)))
  (ad (bH XE rfl (lb rfl T.n_2 (pv 3)) (bi rfl (aj (pgN 5 bu.nd) (aj (pgN 6 bu.nd) aP))) (af (aQ (pcF T.g_35 (pe T) hr (aa (pv 0) (aa (pv 5) (aa (pv 6) (aa (pv 4) ab))))))))
  (ad (aQ (pcF T.g_36 (vc T) hr (aa (pcF T.g_26 (dS T) hr (aa (pv 0) ab)) (aa (pv 4) (aa (pv 2) ab)))))
  (af (ax (aB (aa (cD (N:=["state","front","partings"]) (js:=[B?,B?,A? 2]) (g:=(mE K 2 (cV (av 0) (cV (av 1) mF)))) (tt:=bL) (te:=(dr (fK P w K) [] E0 (aJ (bh 1) (aJ (bh 0) (aJ (bh 2) cN))))) rfl (cB rfl (by decide +kernel) (by decide +kernel) rfl rfl rfl) (lb rfl T.n_2 (pv 3)) (λ_ _ _ _ _ _=>(bi rfl (aj (pgN 0 aaR) (aj (pgN 1 aaR) aP)))) (f8 (bM aW (aL rfl) (bM aW (aL rfl) gu))) (λ_ _ _ _ _ _=>bV) (λ_ _ _ _ _ _=>(pcF T.g_37 (om T) hr (aa (pv 1) (aa (pv 0) (aa (pv 2) ab)))))) (aa (pv 2) ab))))))))))),?_⟩
 try dsimp only[Aw,Ae]
 have hle:=F.le;refine⟨_,D?,b,ins,outs,head,rows,D?,hB,F.gi,by lia,λrow Af=>(F.fit.row row Af).1,λmd Dg H1 s1 U5 Im ER=>?_⟩;intro pt H2 Kw s2 Ry;have O8:=hB.mono (j! s1);refine hid λZZ kZ=>?_;obtain⟨ia,oa,ha,ra,Ak,Ay,AS,hb1⟩:=id O8;have Hf:rows.length=AS.length:=W4 hb1.rw;have LR:=xC F;obtain⟨LY,DK⟩:=cp Ry;refine kZ ?_;refine⟨_,D?,b,_,_,_,ra,_,D?,s2 _ _ hb1.bk,s2 _ _ hb1.rl,_,D?,by lia,by rw[WO];lia,λD hD=>?_⟩;have Kn:D≠pt:=λz=>by rw[z,DK]at hD;cases hD
 have U6:H1 D=none:=s2.free hD;refine⟨rows.length,λj H'=>An3 (j<=rows.length) (k! H1 H') (Ex2 λ(as:List WS)(f':List (au×V))=>An4 (H' D=A? (.lst (as.map i!))) (Xs (λs a=>AtK .i K H' (frS ins rows s) a) (XF j) as) (Pt P w (VlM ins rows) H' pt f' (kW ins rows)) (∀(s i:Nat)(row:List Th),s<j->rows[s]?=A? row->i<=row.length->∀x∈(frF (mkF ins rows) (mkF ins rows (s:Nat)) (row.take i)).pl [],x.2.isHole=C?->nk (s:Nat) x.1∈f'.map (·.1))),⟨Xh _,s2.trans (ae hD _),[],[],ac,.nil,⟨Ry.mono (ae hD _),List.nodup_nil,λp hp=>(Z7 hp).elim,λj p hp=>by simp at hp⟩,λs i row hs=>by lia⟩,?_⟩;rintro j H' ⟨hj,sj,as,f',eD,has,L9,Kx⟩;obtain⟨GV,FI⟩:=cp L9.dm;by_cases Cf:j=rows.length
 .left;subst Cf;refine⟨by show _<=_;rw[WO];lia,?_⟩;intro la H5 E8 s5 U7;have L0:LkI P w ins (kW ins rows) (Lk0 ins rows) H' H5 la [] 0:=⟨s5,E8,U7,List.nodup_nil,List.nodup_nil,λg hg=>(Z7 hg).elim,WX _⟩;have Fu:(XF rows.length).length=as.length:=W4 has;rw[Xj]at Fu;refine⟨_,D?,D,D?,⟨_,l! (s5 _ _ eD)⟩,?_⟩
  refine mQ (K:=K) (a:=D) (xs:=as.map i!) (λi Y H6=>Ex3 λ(c5 c6:Option V)(G:LG)=>An3 (Y=[A? (.ref b),A? (.ref md),A? (.ref pt),A? (.ref D),A? (.ref la),c5,c6]) (LkI P w ins (kW ins rows) (Lk0 ins rows) H' H6 la G (i * 640000)) (∀s<i,∀row,rows[s]?=A? row->LDone H6 G s row (frS ins rows s)))
   ⟨B?,B?,[],rfl,by rw[Nat.zero_mul];exact L0,λs hs=>by lia⟩ (λi Y H6 _⟨_,_,_,_,L,_⟩=>l! (L.sm _ _ eD)) ?_ ?_
  .rintro i x pr Y H6 hx Bi ⟨c5,c6,G,rfl,L,Dy⟩;obtain⟨fa,rfl,B6⟩:=aO hx;have C6:=(glE B6);have Ma:i<rows.length:=by lia
   obtain⟨s',CO,Cg⟩:=B! has B6;rw[XY Ma]at CO;cases CO;obtain⟨row,Af⟩:∃row,rows[i]?=A? row:=⟨_,WR Ma⟩;refine gU Bi λH7 s7 e7=>?_;refine⟨pr,_,D?,o! e7,D?,_,_,D?,_,_,D?,D?,?_⟩;dsimp only[av];have L7:=L.same s7;obtain⟨z1,z2,z3⟩:=lc F Ma;refine⟨_,D?,_,D?,_,D?,_,D?,b,fa,la,i,ins,outs,head,rows,row,frS ins rows i,H',G,i * 640000,kW ins rows,Lk0 ins rows,D?,O8.mono (j! (sj.trans L7.sm)),F,Af,Cg.mono (j! L7.sm),z1,z2,L7,by lia,λx hx=>xQ Ma hx,λi2 p kd c u x hp hk hc hu hx=>⟨i,row,i2,p,c.1,x.1,c.2.1,D?,Af,hp,hk,In.iff.mp (cg.mp hc),D?,D?,u,x.2,hu,hx⟩,λG' H8 k8 L8 O9 Ky=>?_⟩;refine⟨_,_,G',D?,by rw[Nat.succ_mul];exact L8,λs hs AJ EA=>?_⟩;by_cases U8:s=i
   .subst U8;rw[Af]at EA;cases EA;exact Ky
   .exact((Dy s (by lia) AJ EA).sub (LSub.kt (j! s7) _)).sub O9
  .rintro Y H6 ⟨c5,c6,G,rfl,L,Dy⟩;rw[WO,<-Fu]at Dy;have Kz:=L9.same L.sm;obtain⟨Uy,DI⟩:=cp Kz.dm;have Mb:=sj.trans L.sm
   have AR:pt≠la:=λz=>by
    rw[z]at FI;rw[L.la0]at FI;cases FI
   refine⟨_,D?,b,_,_,_,_,D?,Mb _ _ hb1.bk,_,D?,_,D?,ia,la,pt,Ak,ins,G,f',kW ins rows,VlM ins rows,Lk0 ins rows,D?,Mb _ _ hb1.inE,hb1.inK.mono (j! Mb),F.gi,L.r,Kz,LR,AR,λi j k t1 t2 s pl kd kid h1 h2 h3 h4=>yp F i j k t1 t2 s pl kd kid h1 h2 h3 h4 _ _,λA9 H7 Mc HE Bp Pa=>?_⟩;have Rz:k! H1 H7:=pM Mc Mb Kw;have EU:=(j! L.sm).trans (Mc.kt DI);have Md:H7 D=A? (.lst (as.map i!)):=Mc _ _ Kn (L.sm _ _ eD);refine⟨_,D?,D,D?,⟨_,l! Md⟩,λDl FH=>?_⟩;have U9:H1 Dl=none:=Rz.free FH;refine⟨rows.length,λj H8=>An3 (j<=rows.length) (k! H7 H8) (Ex1 λ(bs:List WS)=>An2 (H8 Dl=A? (.lst (bs.map i!))) (Xs (λs a=>AtK .i K H8 ((frS ins rows s).cut (Dk A9 (s:Nat)) []) a) (XF j) bs)),⟨Xh _,ae FH _,[],ac,.nil⟩,?_⟩;rintro j H8 ⟨WH,s8,bs,RA,Ao⟩;by_cases U':j=rows.length
   .left;subst U';refine⟨⟨_,l! (s8 _ _ Md),by rw[WO];exact Fu.symm⟩,?_⟩;refine⟨_,D?,lnE rfl,λr Va=>?_⟩;have s9:k! H8 (upd H8 r (.tup [.ref Dl,.ref pt])):=ae Va _
    have RB:FrD ins rows (A9.map (·.1)):=⟨λs i row hr hi x hx hh=>Bp _ (Kx s i row (glE hr) hr hi x hx hh),λs row Af p hp c hc u hu x hx hk=>by
     have hs:=(glE Af);exact Pa _ hk _ _ (LSub.kt (Mc.kt DI) G _ _ _ (Dy s hs row Af p hp c hc u hu x hx))⟩
    refine k r Dl pt bs A9 _ (s1.trans (Rz.trans (s8.trans s9))) ac (s9 _ _ RA) (y! (λ_ _ h=>h.mono (j! s9)) Ao) (HE.same (s8.trans s9)) RB (ya F RB λp hp=>by
     refine hid λZZ kZ=>?_;obtain⟨j,hj⟩:=Xi.mp hp;obtain⟨_,_,_,t1,t2,_,_,_,_,hv⟩:=HE.vl j p hj;refine kZ ?_;exact⟨j,t1,t2,hv⟩)
   .right;have Au:j<rows.length:=by lia
    obtain⟨fa,B6⟩:∃fa,as[j]?=A? fa:=⟨_,WR (by lia)⟩;refine⟨Au,⟨_,.ref fa,l! (s8 _ _ Md),by rw[WZ,B6];rfl⟩,?_⟩;rintro y H9 ⟨p,v,hp,rfl,rfl,hv⟩;have Bh:=hv _ (l! (s8 _ _ Md));rw[WZ,B6]at Bh;cases Bh;obtain⟨s',CO,Cg⟩:=B! has B6;rw[XY Au]at CO;cases CO;have s9:k! H8 (upd H8 p (.tup [.int (j:Nat),.ref fa])):=ae hp _;refine⟨p,_,D?,o! ac,D?,_,_,D?,_,_,D?,D?,?_⟩;generalize(upd H8 p (.tup [.int (j:Nat),.ref fa]))=H9 at s9 |-;obtain⟨z1,z2,z3⟩:=lc F Au;refine⟨_,D?,_,D?,_,D?,fa,pt,j,frS ins rows j,A9,kW ins rows,VlM ins rows,D?,Cg.mono (EU.trans (j! (s8.trans s9))),z1,z2,z3,HE.same (s8.trans s9),λq BD AX hq=>?_⟩;have KA:=(s9.trans AX) _ _ RA;have Bg:(XF j).length=bs.length:=W4 Ao;rw[Xj]at Bg;have Kt:KT BD (upd BD Dl (.lst (bs.map i!++[.ref q]))):=aG KA;refine⟨_,KA,lbE (by lia),Au,am (s8.trans (s9.trans AX)) FH,bs++[q],uAE,?_⟩;rw[List.range_succ];exact t! (y! (λ_ _ h=>h.mono ((j! (s9.trans AX)).trans Kt)) Ao) (.cons (hq.mono Kt) .nil)
 .right;have Au:j<rows.length:=by lia
  obtain⟨row,Af⟩:∃row,rows[j]?=A? row:=⟨_,WR Au⟩;refine⟨Au,by show _<_;rw[WO];lia,?_⟩;rintro y H9 ⟨rfl,rfl⟩;rw[Ym];refine⟨_,D?,_,D?,_,D?,_,D?,b,md,pt,j,ins,outs,head,rows,row,Dg,f',kW ins rows,VlM ins rows,D?,O8.mono (j! sj),F,Af,sj _ _ Im,ER.mono (j! sj),L9,LR,λx hx=>qq Au hx,uJ F go Au,vL Af,λr A9 H4 hb4 Cg Pb Cu KC=>?_⟩;have LV:=hb4.kt FI;have Eo:=hb4 _ _ Kn eD;have Bd:(XF j).length=as.length:=W4 has;rw[Xj]at Bd;have k5:KT H4 (upd H4 D (.lst (as.map i!++[.ref r]))):=aG Eo;rw[<-rV Af]at Cg;refine⟨_,Eo,lbE (by lia),Au,am (pM hb4 sj Kw) U6,as++[r],A9,uAE,?_,aa6 Pb k5 (λo e=>by rw[ag Kn.symm];exact e),λs i AJ hs AL hi x hx hh=>?_⟩
  .rw[List.range_succ];exact t! (y! (λ_ _ h=>h.mono (LV.trans k5)) has) (.cons (Cg.mono k5) .nil)
  .by_cases Vb:s=j
   .subst Vb;rw[Af]at AL;cases AL;exact KC i hi x hx hh
   .exact Cu _ (Kx s i AJ (by lia) AL hi x hx hh)
inductive iK(P:W6)(w:Xo)(K:WQ)(vs:List V)(H:Hp)(Q:VK)(_E:XK):Prop
 |mk (b:WS) (ins outs:List (Xk×Int)) (head:Th) (rows:List (List Th)):vs=[.ref b]->Bk H ins outs head rows b->FrK ins outs rows->cz outs->(∀(fl:WS)(fs:List WS)(f':List (au×V))(H':Hp),k! H H'->H' fl=A? (.lst (fs.map i!))->Xs (λs a=>AtK .i K H' ((frS ins rows s).cut (Dk f' (s:Nat)) []) a) (XF rows.length) fs->FrD ins rows (f'.map (·.1))->qN ins rows f'->Q (.ref fl) H')->iK P w K vs H Q _E
theorem iP:aX P w K mg base CX0 8 T.g_39.f T.g_39.d ["book"] (iK P w K):=by
 refine T.g_39.F.okA fJ λAi A outer s0 H vs Q E hr h=>?_;obtain⟨b,ins,outs,head,rows,rfl,hB,F,go,k⟩:=h
 refine⟨_,(ad (eU (pcF T.g_38 (kj T) hr (aa (pv 0) ab)) (bi rfl (aj (pgN 1 fJ.nd) (aj (pgN 2 fJ.nd) aP))))
  (af (ax (pv 1)))),?_⟩
 try dsimp only[Aw,Ae]
 refine⟨_,D?,b,ins,outs,head,rows,D?,hB,F,go,λr fl pt fs f' H1 s1 er EB D0 L9 hD hK=>?_⟩;exact⟨r,_,D?,o! er,D?,_,_,D?,_,_,D?,D?,_,D?,k fl fs f' H1 s1 EB D0 hD hK⟩
inductive sU(K:WQ)(vs:List V)(H:Hp)(Q:VK)(_E:XK):Prop
 |mk (rs:Rep) (a pl:WS) (f t:Th) (as:List WS):vs=[.ref a,.ref pl]->AtK .i K H f a->f.size<=100000->f.tall<=150->f.noCall->f.lies t=C?->(∀p∈f.hw [] t,p.2.size<=100000)->H pl=A? (.lst (as.map i!))->AtsK rs K H ((f.hw [] t).map (·.2)) as->(∀(r:WS)(H':Hp),k! H H'->AtK rs K H' t r->Q (.ref r) H')->sU K vs H Q _E
theorem yn:aX P w K mg base CX0 3 T.g_19.f T.g_19.d ["front","parts"] (sU K):=by
 refine T.g_19.F.okA iN λAi A outer s H vs Q E hr h=>?_;obtain⟨rs,a,pl,f,t,ps,rfl,hA,hsz,AD,OY,hl,Vc,J6,Bo,k⟩:=h
 refine⟨_,(ad (aq 2 iN.nd (bw ab))
  (ad (aq 3 iN.nd ai)
  (ad (bH XE rfl (cw (pcF T.g_3 (jl T) hr (aa (pv 0) ab))) (pgN 4 iN.nd) (af (cC (bq (pcF T.g_10 (fI T) hr (aa (pv 4) ab)) (λ_=>rfl)) (ad (aQ (bR Xf Xy Xx aN (pv 2) (aa (aB (aa (aY bv (pv 1) (pv 3) (λ_ _=>rfl)) (aa ai ab))) ab)))
  (af (wn (i:=3) iN.nd rfl (Or.inl rfl) ai wb))) (af (aQ (bR Xf Xy Xx aN (pv 2) (aa (pcF T.g_16 (jt T) hr (aa (pv 4) ab)) ab)))))))
  (af (ax (pcF T.g_5 (iy T) hr (aa (pv 2) ab))))))),?_⟩
 try dsimp only[Aw,Ae]
 obtain⟨hb1,hb2,hb3⟩:=uq [] hl;have Ie:=xX [] hl;generalize hW:(f.hw [] t).map (·.2)=W at Bo hb1 hb2;have Vd:W.length=aS f.walk:=by rw[<-hW,WO,hb3]
 have Ve:∀u∈W,u.size<=100000:=λu hu=>by
  rw[<-hW]at hu;obtain⟨p,hp,rfl⟩:=Xl.mp hu;exact Vc p hp
 have AR:ps.length=W.length:=Bo.length;refine⟨lnE rfl,λtl BI=>?_⟩;refine⟨_,D?,a,f,D?,hA.mono (dC BI),hsz,λwl ws H1 s1 JO JP hw=>?_⟩;have D7:ws.length=f.walk.length:=hw.length;have Ue:=J! f;have JQ:k! H H1:=(ae BI _).trans s1;have N3:wl≠tl:=λz=>by rw[z,ac]at JO;cases JO
 have Fv:pl≠tl:=λz=>by rw[z,BI]at J6;cases J6
 refine⟨wl,D?,⟨_,l! JP⟩,?_⟩
 refine cR (K:=K) (a:=wl) (xs:=ws.map i!) (λi Y H2=>Ex2 λc bs=>An6 (Y=[A? (.ref a),A? (.ref pl),A? (.ref tl),A? (.int (aS (f.walk.take i):Nat)),c]) (k! H H2) (H2 wl=A? (.lst (ws.map i!))) (AtsK .i K H2 f.walk ws) (H2 tl=A? (.lst (bs.map i!))) (Xs (TopAtK rs K H2) (aZ (f.walk.take i) W) bs))
  ⟨B?,[],rfl,JQ,JP,hw,s1 _ _ ac,.nil⟩ (λi Y H2 _⟨_,_,_,_,e,_,_,_⟩=>l! e) ?_ ?_
 .rintro i x Y H2 hx ⟨c,bs,rfl,s2,Ep,G9,BH,Ao⟩;obtain⟨xa,rfl,N4⟩:=aO hx;obtain⟨tx,JR,Ik⟩:=G9.get N4;have G2:tx∈f.walk:=WT JR;have JK:=u7 f tx G2;have AO:f.walk.take (i+1)=f.walk.take i++[tx]:=by rw[Yh,JR];rfl
  have Bg:bs.length<=100000:=by
   have:=W4 Ao;rw[gB,XS]at this;lia
  refine⟨_,D?,xa,tx,D?,Ik,by lia,_,D?,?_⟩
  have push:∀(H3:Hp)(p:WS)(tp:Top)(nx:Nat),k! H2 H3->TopAtK rs K H3 tp p->aZ (f.walk.take (i+1)) W=aZ (f.walk.take i) W++[tp]->aS (f.walk.take (i+1))=nx->Ex2 λc Fq=>An6 (([A? (.ref a),A? (.ref pl),A? (.ref tl),A? (.int (nx:Nat)),A? (.ref xa)]:St)=[A? (.ref a),A? (.ref pl),A? (.ref tl),A? (.int (aS (f.walk.take (i+1)):Nat)),c]) (k! H (upd H3 tl (.lst (bs.map i!++[.ref p])))) ((upd H3 tl (.lst (bs.map i!++[.ref p]))) wl=A? (.lst (ws.map i!))) (AtsK .i K (upd H3 tl (.lst (bs.map i!++[.ref p]))) f.walk ws) ((upd H3 tl (.lst (bs.map i!++[.ref p]))) tl=A? (.lst (Fq.map i!))) (Xs (TopAtK rs K (upd H3 tl (.lst (bs.map i!++[.ref p])))) (aZ (f.walk.take (i+1)) W) Fq):=by
   intro H3 p tp nx s3 hp e1 e2;have k3:KT H3 (upd H3 tl (.lst (bs.map i!++[.ref p]))):=aG (s3 _ _ BH);refine⟨_,bs++[p],by rw[e2],am (s2.trans s3) BI,by rw[ag N3];exact s3 _ _ Ep,G9.mono ((j! s3).trans k3),uAE,?_⟩;rw[e1];exact t! (cW ((j! s3).trans k3) Ao) (.cons (hp.mono k3) .nil)
  refine cX (λch=>?_) (λch=>?_)
  .have Gf:aS (f.walk.take (i+1))=aS (f.walk.take i)+1:=by
    rw[AO,di];show _+(List.filter A! [tx]).length=_;rw[X0,b! ch];rfl
   have Ah:aS (f.walk.take i)<W.length:=by
    rw[Vd];have h1:aS f.walk=aS (f.walk.take (i+1))+aS (f.walk.drop (i+1)):=by rw[<-di,List.take_append_drop]
    lia
   refine hid λZZ kZ=>?_;obtain⟨u,hu⟩:∃u,W[aS (f.walk.take i)]?=A? u:=⟨_,WR Ah⟩;obtain⟨ua,Ft,KD⟩:=Bo.at hu;refine kZ ?_
   have E9:aZ (f.walk.take (i+1)) W=aZ (f.walk.take i) W++[.th u]:=by
    rw[AO,cu];congr 1;rw[aZ,b! ch,aZ,List.headD_eq_head?_getD,List.head?_drop,hu];rfl
   have Pd:H2 pl=A? (.lst (ps.map i!)):=s2 _ _ J6;refine⟨_,D?,.inl ⟨D?,_,l! BH⟩,_,D?,_,D?,pl,_,_,.ref ua,D?,D?,l! Pd,at_nonneg (by lia) (by rw[Xu,WZ,Ft];rfl),lnE rfl,λp hp=>?_⟩;have s3:k! H2 (upd H2 p (.tup [.ref ua,.int 0])):=ae hp _;refine⟨tl,_,_,D?,D?,s3 _ _ BH,lbE (by lia),?_⟩;refine⟨_,D?,_,_,D?,D?,?_⟩;exact push _ p (.th u) (aS (f.walk.take i)+1) s3 ⟨ua,ac,KD.mono (j! (s2.trans s3))⟩ E9 Gf
  .have Ap:tx.isHole=false:=Yo.mpr ch
   have Gf:aS (f.walk.take (i+1))=aS (f.walk.take i):=by
    rw[AO,di];show _+(List.filter A! [tx]).length=_;rw[X0,a! (by rw[Ap];exact W5)];rfl
   have E9:aZ (f.walk.take (i+1)) W=aZ (f.walk.take i) W++[.nm tx.name tx.wid]:=by
    rw[AO,cu];congr 1;rw[aZ,a! (by rw[Ap];exact W5),aZ]
   have KG:=jH f OY tx G2;cases tx with
   |call sn kn=>rw[w!]at KG;exact KG.elim
   |knot nm us =>
   refine⟨_,D?,.inl ⟨D?,_,l! BH⟩,_,D?,xa,nm,us,D?,Ik,λp H3 s3 hp=>?_⟩;refine⟨tl,_,_,D?,D?,s3 _ _ BH,lbE (by lia),?_⟩;exact push _ p (.nm nm us.length) (aS (f.walk.take i)) s3 hp E9 Gf
 .rintro Y H2 ⟨c,bs,rfl,s2,Ep,G9,BH,Ao⟩;rw[WO,D7,YB]at Ao;refine⟨_,D?,tl,bs,_,t,D?,BH,Ao,by rw[gB];lia,hb2,?_,hb1,λr H3 s3 Ha=>k r H3 (s2.trans s3) Ha⟩;intro u hu;rcases iU _ _ _ hu with h|h
  .exact Ve u h
  .rw[h,dP];lia
inductive i4(vs:List V)(H:Hp)(Q:VK)(_E:XK):Prop
 |mk (i:Int):vs=[.int i]->Q (.bl C?) H->i4  vs H Q _E
theorem oM:aX P w K mg base CX0 1 T.g_0.f T.g_0.d ["thing"] i4:=by
 refine T.g_0.F.okA oi λAi A outer s H vs Q E hr h=>?_;obtain⟨i,rfl,k⟩:=h;refine⟨_,(af (ax (gA (aC (nN (T:="int")) rfl T.n_4 PyProof.Rows.boot_isinstance (aa (pv 0) (aa (sY (v:=.ty "int") rfl T.n_3 PyProof.Rows.boot_int rfl) ab))) (jr (sk (aC (nN (T:="bool")) rfl T.n_4 PyProof.Rows.boot_isinstance (aa (pv 0) (aa (sY (v:=.ty "bool") rfl T.n_0 PyProof.Rows.boot_bool rfl) ab)))))))),?_⟩
 try dsimp only[Aw,Ae]
 refine⟨_,D?,_,_,_,D?,.int i,aac,_,D?,?_⟩;refine uT ?_;exact⟨_,D?,_,_,_,D?,.int i,zV,_,D?,k⟩
inductive jY(vs:List V)(H:Hp)(Q:VK)(_E:XK):Prop
 |mk (i b:Int):vs=[.int i,.int b]->Q (.bl (decide (0<=i/\i<b))) H->jY  vs H Q _E
theorem pS:aX P w K mg base CX0 2 T.g_1.f T.g_1.d ["number","bound"] jY:=by
 refine T.g_1.F.okA p9 λAi A outer s H vs Q E hr h=>?_;obtain⟨i,b,rfl,k⟩:=h;refine⟨_,(af (ax (gA (pcF T.g_0 (oM T) hr (aa (pv 0) ab)) (jr (wJ uA lQ ai (pv 0) (pv 1)))))),?_⟩
 try dsimp only[Aw,Ae]
 refine⟨_,D?,i,D?,_,D?,?_⟩;refine uT ?_;refine⟨_,D?,_,_,D?,D?,_,D?,?_⟩;refine cX (λc=>?_) (λc=>?_)
 .have c':0<=i:=e! c;refine⟨_,D?,_,_,D?,D?,?_⟩;have e:decide (0<=i/\i<b)=decide (i<b):=by simp[c']
  rw[e]at k;exact k
 .have c':¬0<=i:=λz=>c (d! z);have e:decide (0<=i/\i<b)=false:=by simp[c']
  rw[e]at k;exact k
inductive mX(K:WQ)(vs:List V)(H:Hp)(Q:VK)(_E:XK):Prop
 |mk {rq:Rep} (a:WS) (t u:Th) (i:Int):vs=[.ref a,.int i]->AtK rq K H t a->0<=i->t.kids[i.toNat]?=A? u->(∀(b:WS)(H':Hp),k! H H'->AtK rq K H' u b->Q (.ref b) H')->mX K vs H Q _E
theorem uW:aX P w K mg base CX0 3 T.g_7.f T.g_7.d ["thing","number"] (mX K):=by
 refine T.g_7.F.okA nX λAi A outer s H vs Q E hr h=>?_;obtain⟨a,t,u,i,rfl,hA,h0,hu,k⟩:=h
 refine⟨_,(ad (aq 2 nX.nd (pcF T.g_2 (eF T) hr (aa (pv 0) ab)))
  (ad (cC (sD (bq (pcF T.g_1 (pS T) hr (aa (pv 1) (aa (aC ay rfl T.n_5 XU (aa (pv 2) ab)) ab))) (λ_=>rfl))) (af lR) bU)
  (af (ax (aY bx (pv 2) (pv 1) (λ_ _=>rfl)))))),?_⟩
 try dsimp only[Aw,Ae]
 refine⟨_,D?,a,t,D?,hA,λr as H1 s1 er CS=>?_⟩;have hl:as.length=t.kids.length:=CS.length;have hi:i.toNat<t.kids.length:=(glE hu);refine⟨_,D?,_,D?,r,_,D?,.inr (o! er),i,_,D?,_,D?,?_⟩;refine cX (λc=>?_) (λc=>?_)
 .exfalso;rw[WO,hl]at c;have:decide (0<=i/\i<(t.kids.length:Int))=true:=d! ⟨h0,by lia⟩;rw[this]at c;cases c
 .obtain⟨b,hb,Vf⟩:=CS.at hu;exact⟨_,D?,_,D?,r,_,i,.ref b,D?,D?,o! er,at_nonneg h0 (gmE hb),k b H1 s1 Vf⟩
inductive ir(K:WQ)(vs:List V)(H:Hp)(Q:VK)(_E:XK):Prop
 |mk {rq:Rep} (a pa:WS) (t u:Th) (p:List Int):vs=[.ref a,.ref pa]->AtK rq K H t a->H pa=A? (.tup (p.map q!))->t.sub p=A? u->(∀(b:WS)(H':Hp),k! H H'->AtK rq K H' u b->Q (.ref b) H')->ir K vs H Q _E
theorem rZ:aX P w K mg base CX0 4 T.g_8.f T.g_8.d ["tree","place"] (ir K):=by
 refine T.g_8.F.okA fS λAi A outer s H vs Q E hr h=>?_;obtain@⟨rq,a,pa,t,u,p,rfl,hA,hp,hu,k⟩:=h
 refine⟨_,(ad (aq 2 fS.nd (pv 0))
  (ad (bH XE rfl (ij (pv 1)) (pgN 3 fS.nd) (af (aq 2 fS.nd (pcF T.g_7 (uW T) hr (aa (pv 2) (aa (pv 3) ab))))))
  (af (ax (pv 2))))),?_⟩
 try dsimp only[Aw,Ae]
 refine⟨_,D?,?_⟩;refine⟨_,D?,pa,D?,⟨_,o! hp⟩,?_⟩
 refine yw (K:=K) (a:=pa) (xs:=p.map q!) (λi Y H2=>Ex3 λb c v=>An4 (Y=[A? (.ref a),A? (.ref pa),A? (.ref b),c]) (k! H H2) (AtK rq K H2 v b) (v.sub (p.drop i)=A? u))
  ⟨a,B?,t,rfl,.refl _,hA,by rw[Z9];exact hu⟩ (λi Y H2 _⟨_,_,_,_,s2,_,_⟩=>o! (s2 _ _ hp)) ?_ ?_
 .rintro i x Y H2 hx ⟨b,c,v,rfl,s2,hb,hv⟩;rw[WZ]at hx;obtain⟨n,hn,rfl⟩:=XD.mp hx;have hi:i<p.length:=(glE hn)
  have hd:p.drop i=n::p.drop (i+1):=by
   rw[List.drop_eq_getElem_cons hi];congr 1;rw[WR hi]at hn;exact Xp hn
  rw[hd,Th.sub]at hv;split at hv
  .rename_i h0
   split at hv
   .rename_i v' Bh
    refine⟨_,D?,_,D?,b,v,v',n,D?,hb,h0,Bh,λb' H3 s3 AA=>?_⟩;exact⟨b',_,v',D?,s2.trans s3,AA,hv⟩
   .cases hv
  .cases hv
 .rintro Y H2 ⟨b,c,v,rfl,s2,hb,hv⟩;rw[WO,List.drop_length,eN]at hv;cases hv;exact⟨_,D?,k b H2 s2 hb⟩
def mf(k c:Int):List (Xk×V):=[("met_knots",.int k),("met_calls",.int c)]
theorem mkc:¬(("met_knots":Xk)="met_calls"):=by decide +kernel
theorem abU:¬(("met_calls":Xk)="met_knots"):=by decide +kernel
theorem yj:dq "met_knots" (.int 0) []=[(("met_knots":Xk),q! 0)]:=rfl
theorem yg:dq "met_calls" (.int 0) [(("met_knots":Xk),q! 0)]=mf 0 0:=by
 unfold mf;rw[dq,a! mkc,dq]
theorem yV(k c z:Int):dq "met_knots" (.int z) (mf k c)=mf z c:=by
 unfold mf;rw[dq,b! rfl]
theorem yd(k c z:Int):dq "met_calls" (.int z) (mf k c)=mf k z:=by
 unfold mf;rw[dq,a! mkc,dq,b! rfl]
theorem aaZ(k c:Int):(mf k c).lookup ("met_knots":Xk)=A? (q! k):=by
 unfold mf;have hb:(("met_knots":Xk) == "met_knots")=true:=beq_iff_eq.mpr rfl;simp only[ZU,hb]
theorem aaQ(k c:Int):(mf k c).lookup ("met_calls":Xk)=A? (q! c):=by
 unfold mf;have hb:(("met_calls":Xk) == "met_calls")=true:=beq_iff_eq.mpr rfl;have hc:(("met_calls":Xk) == "met_knots")=false:=beq_eq_false_iff_ne.mpr abU;simp only[ZU,hb,hc]
theorem aaA{m:Xk}(k c:Int)(h1:(m == ("met_knots":Xk))=CU)(h2:(m == ("met_calls":Xk))=CU):(mf k c).lookup m=none:=by
 unfold mf;simp only[ZU,h1,h2]
theorem vi(k c:Int):(mf k c).length<1000:=by show 2<1000;decide
inductive fU(C:WS)(vs:List V)(H:Hp)(Q:VK)(_E:XK):Prop
 |mk (x dx:WS):vs=[.ref x]->H x=A? (.ins C dx [])->(∀H':Hp,(∀b o,b≠x->H b=A? o->H' b=A? o)->H' x=A? (.ins C dx (mf 0 0))->Q .non H')->fU C vs H Q _E
theorem kh:aX P w K mg base CX0 1 T.g_23.f T.g_23.d ["self"] (fU T.e_Measure):=by
 refine T.g_23.F.okA kc λAi A outer s H vs Q E hr h=>?_;obtain⟨x,dx,rfl,ex,q⟩:=h
 refine⟨_,(ad (vn (pv 0) ai rfl)
  (af (vn (pv 0) ai rfl))),?_⟩
 try dsimp only[Aw,Ae]
 refine⟨_,D?,x,T.e_Measure,dx,_,D?,ex,T.cl_Measure,T.na_Measure_met_knots,(by show 0<1000;decide),?_⟩;refine⟨_,D?,x,T.e_Measure,dx,_,D?,ac,T.cl_Measure,T.na_Measure_met_calls,(by show 1<1000;decide),?_⟩;refine q _ (λb o hb e=>?_) ?_
 .rw[ag hb,ag hb];exact e
 .rw[ac,yj,yg]
inductive fg(K:WQ)(C:WS)(vs:List V)(H:Hp)(Q:VK)(_E:XK):Prop
 |mk {rq:Rep} (x dx pa:WS) (k c row:Int) (t:Th):vs=[.ref x,.ref pa,.int row]->H x=A? (.ins C dx (mf k c))->AtK rq K H t pa->(∀(k' c':Int)(H':Hp),k'=(if t.isCall=C? then k else k+1)->c'=(if t.isCall=C? then c+1 else c)->(∀b o,b≠x->H b=A? o->H' b=A? o)->H' x=A? (.ins C dx (mf k' c'))->Q (.bl (decide (row<=20/\k'<=400/\c'<=200))) H')->fg K C vs H Q _E
theorem jf:aX P w K mg base CX0 2 T.g_24.f T.g_24.d ["self","part","row"] (fg K T.e_Measure):=by
 refine T.g_24.F.okA jB λAi A outer s H vs Q E hr h=>?_;obtain@⟨rq,x,dx,pa,k,c,row,t,rfl,ex,hA,q⟩:=h
 refine⟨_,(ad (cC (bq (pcF T.g_9 (dZ T) hr (aa (pv 1) ab)) (λ_=>rfl)) (af (m3 (pv 0) ai wC)) (af (m3 (pv 0) ai wC)))
  (af (ax (gA (dg uA (pv 2) (cy (v:=.int (20)) rfl T.c_MOST_ROWS.choose_spec ⟨_,D?⟩) (bc _)) (gA (dg uA (vH (pv 0) rfl) (cy (v:=.int (400)) rfl T.c_MOST_KNOTS.choose_spec ⟨_,D?⟩) (bc _)) (jr (dg uA (vH (pv 0) rfl) (cy (v:=.int (200)) rfl T.c_MOST_CALLS.choose_spec ⟨_,D?⟩) (bc _)))))))),?_⟩
 try dsimp only[Aw,Ae]
 refine ce (λAa H'=>Ex2 λ(k' c':Int)=>An5 (k'=(if t.isCall=C? then k else k+1)) (c'=(if t.isCall=C? then c+1 else c)) ((∀b o,b≠x->H b=A? o->H' b=A? o)) (H' x=A? (.ins T.e_Measure dx (mf k' c'))) (Aa=[A? (.ref x),A? (.ref pa),A? (.int row)])) (λkk hk=>?_) ?_
 .refine cj (λb H'=>An2 (H=H') (b=t.isCall)) (λk2 Bq=>?_) (λH' hb=>?_) (λH' hb=>?_)
  .exact⟨_,D?,pa,t,D?,hA,_,D?,Bq _ _ ⟨D?,D?⟩⟩
  .obtain⟨rfl,hb⟩:=hb;refine⟨_,D?,x,T.e_Measure,dx,_,_,D?,ex,T.cl_Measure,T.na_Measure_met_calls,aaQ k c,c,1,D?,D?,dx,_,ex,vi k c,?_⟩;exact hk _ _ ⟨k,c+1,by rw[b! hb.symm],by rw[b! hb.symm],λb o hb e=>by rw[ag hb];exact e,by rw[ac,yd],rfl⟩
  .obtain⟨rfl,hb⟩:=hb;have AA:¬t.isCall=true:=λz=>by rw[<-hb]at z;cases z
   refine⟨_,D?,x,T.e_Measure,dx,_,_,D?,ex,T.cl_Measure,T.na_Measure_met_knots,aaZ k c,k,1,D?,D?,dx,_,ex,vi k c,?_⟩;exact hk _ _ ⟨k+1,c,by rw[a! AA],by rw[a! AA],λb o hb e=>by rw[ag hb];exact e,by rw[ac,yV],rfl⟩
 rintro Aa H' ⟨k',c',A',AN,hs,Lr,rfl⟩;have q':=q k' c' H' A' AN hs Lr;clear q;refine⟨_,D?,_,_,D?,D?,?_⟩;refine⟨_,D?,?_⟩;by_cases c1:row<=20
 .rw[b! (d! c1)];refine⟨_,D?,x,T.e_Measure,dx,_,_,D?,Lr,T.cl_Measure,T.na_Measure_met_knots,aaZ k' c',_,_,D?,D?,_,D?,?_⟩;by_cases c2:k'<=400
  .rw[b! (d! c2)];refine⟨_,D?,x,T.e_Measure,dx,_,_,D?,Lr,T.cl_Measure,T.na_Measure_met_calls,aaQ k' c',_,_,D?,D?,?_⟩;have e:decide (row<=20/\k'<=400/\c'<=200)=decide (c'<=200):=by simp[c1,c2]
   rw[e]at q';exact q'
  .rw[a! (λz=>c2 (e! z))];rw[c! (λz=>c2 z.2.1)]at q';exact q'
 .rw[a! (λz=>c1 (e! z))];rw[c! (λz=>c1 z.1)]at q';exact q'
instance (t:Th):Decidable (Small t):=decidable_of_iff (t.tall<=20/\t.kn<=400/\cnT t<=200) ⟨λh=>⟨h.1,h.2.1,h.2.2⟩,λh=>⟨h.1,h.2,h.3⟩⟩
theorem vJ(h:ts≠[]):∃t∈ts,aI ts=t.tall:=by
 induction ts with
 |nil=>exact g! rfl h
 | cons x ts ih =>
   rw[aI];by_cases hz:ts=[]
   .subst hz;exact⟨x,Xd ..,by rw[aI];lia⟩
   .obtain⟨t,ht,e⟩:=ih hz;by_cases hc:aI ts<=x.tall
    .exact⟨x,Xd ..,by lia⟩
    .exact⟨t,W8 _ ht,by lia⟩
def RwAt(rq:Rep)(K:WQ)(H:Hp)(e:Th×Int)(p:WS):Prop:=∃ta,H p=A? (.tup [.ref ta,.int e.2])/\AtK rq K H e.1 ta
theorem RwAt.mono(k:KT H H'){e:Th×Int}{p:WS}(h:RwAt rq K H e p):RwAt rq K H' e p:=by
 obtain⟨ta,h1,h2⟩:=h;exact⟨ta,k _ _ h1,h2.mono k⟩
inductive jD(K:WQ)(vs:List V)(H:Hp)(Q:VK)(_E:XK):Prop
 |mk {rq:Rep} (a:WS) (t:Th):vs=[.ref a]->AtK rq K H t a->t.size<=100000->(∀H',k! H H'->Q (.bl (decide (Small t))) H')->jD K vs H Q _E
theorem pz:aX P w K mg base CX0 4 T.g_25.f T.g_25.d ["pattern"] (jD K):=by
 refine T.g_25.F.okA dz λAi A outer s H vs Q E hr h=>?_;obtain@⟨rq,a,t,rfl,hA,hsz,q⟩:=h
 refine⟨_,(ad (aq 1 dz.nd (vt ⟨T.mi_Measure.1,T.g_23.me.1,T.g_23.me.2,T.mi_Measure.2⟩ (kh T) (hr.mono (by first|decide|lia)) rfl T.x_Measure T.g_23.b .nil gN))
  (ad (aq 2 dz.nd (bw (aa (aB (aa (pv 0) (aa ai ab))) ab)))
  (ad (d4 XE (bq (pv 2) (λ_=>rfl)) (ad (eU (jm Xf ZE ZD jC (pv 2)) (bi rfl (aj (pgN 3 dz.nd) (aj (pgN 4 dz.nd) aP))))
  (ad (cC (sD (bq (xZ (pv 1) T.cl_Measure T.g_24.me (jf T) (hr.mono (by first|decide|lia)) T.g_24.b .nil gN (aa (pv 3) (aa (pv 4) ab))) (λ_=>rfl))) (af (ax v7)) bU)
  (af (aQ (bR Xf ZY ZX gH (pv 2) (aa (cD (N:=["kid","row"]) (js:=[B?,A? 4]) (g:=(av 0)) (tt:=bL) (te:=(kg (aJ (bh 0) (aJ (tOp (rI0 λi j=>.int (i+j)) (bh 1) (tC (.int 1))) cN)))) rfl (cB rfl (by decide +kernel) (by decide +kernel) rfl rfl rfl) (ij (pcF T.g_2 (eF T) hr (aa (pv 3) ab))) (λ_ _ _ _ _ _=>(pgN 0 abP)) (aL rfl) (λ_ _ _ _ _ _=>bV) (λ_ _ _ _ _ _=>(aB (aa (pv 0) (aa (aA cZ (pv 1) ai) ab))))) ab)))))))
  (af (ax v7))))),?_⟩
 try dsimp only[Aw,Ae]
 intro mo dx Me Vg Ap;refine⟨mo,dx,D?,ac,λH1 k1 RC=>⟨D?,?_⟩⟩
 have s0:k! H (upd (upd H dx (.own mo)) mo (.ins T.e_Measure dx [])):=λb o e=>by
  rw[ag (aw e Me),ag (aw e Vg)];exact e
 have s1:k! H H1:=λb o e=>k1 b o (aw e Me) (s0 b o e);refine⟨_,D?,lnE rfl,λp0 Fh=>?_⟩;dsimp only[av];refine gU Fh λH2 s2 e2=>?_;refine⟨lnE rfl,λah Bx=>?_⟩;have s3:k! H2 (upd H2 ah (.lst [.ref p0])):=ae Bx _;have e3:(upd H2 ah (.lst [.ref p0])) ah=A? (.lst (([p0]:List WS).map i!)):=ac;have KH:H ah=none:=(s1.trans s2).free Bx;have HF:mo≠ah:=λz=>by rw[<-z,s2 _ _ RC]at Bx;cases Bx
 generalize(upd H2 ah (.lst [.ref p0]))=H3 at s3 e3 |-;have DZ:=s2.trans s3;refine⟨λm Y H4=>Ex6 λ(ps:List WS)(As:List (Th×Int))(k c:Int)(pv rv:Option V)=>aab (Y=[A? (.ref a),A? (.ref mo),A? (.ref ah),pv,rv]) (k! H H4) (H4 ah=A? (.lst (ps.map i!))) (Xs (RwAt rq K H4) As ps) (H4 mo=A? (.ins T.e_Measure dx (mf k c))) (k+(kns (As.map (·.1)):Int)=(t.kn:Int)) (c+(bY (As.map (·.1)):Int)=(cnT t:Int)) (k<=400) (c<=200) ((∀e∈As,e.2+(e.1.tall:Int)<=(t.tall:Int)+1)) (((t.tall:Int)<=20\/∃e∈As,(t.tall:Int)+1<=e.2+(e.1.tall:Int))) (ak (As.map (·.1))<=100000) (m=ak (As.map (·.1))),⟨_,[p0],[(t,1)],0,0,B?,B?,D?,s1.trans DZ,e3,.cons ⟨a,s3 _ _ e2,hA.mono (j! (s1.trans DZ))⟩ .nil,DZ _ _ RC,?_,?_,by decide,by decide,?_,?_,?_,D?⟩,?_⟩
 .show(0:Int)+((kns [t]:Nat):Int)=_;rw[kns,kns];lia
 .show(0:Int)+((bY [t]:Nat):Int)=_;rw[bY,bY];lia
 .intro e he;rw[Xc.mp he];show(1:Int)+(t.tall:Int)<=_;lia
 .exact .inr ⟨(t,1),Xd ..,by show _<=(1:Int)+(t.tall:Int);lia⟩
 .show ak [t]<=100000;rw[ak,ak];lia
 rintro m Y H4 ⟨ps,As,k,c,pv,rv,rfl,s4,e4,RD,em,hk,hc,WI,BQ,hle,LP,RE,rfl⟩;refine⟨_,D?,_,.inl ⟨_,l! e4,D?⟩,?_⟩;refine cX (λcc=>?_) (λcc=>?_)
 .refine⟨λAa H'=>∃m',m'<ak (As.map (·.1))/\Ex6 λ(ps:List WS)(As:List (Th×Int))(k c:Int)(pv rv:Option V)=>aab (Aa=[A? (.ref a),A? (.ref mo),A? (.ref ah),pv,rv]) (k! H H') (H' ah=A? (.lst (ps.map i!))) (Xs (RwAt rq K H') As ps) (H' mo=A? (.ins T.e_Measure dx (mf k c))) (k+(kns (As.map (·.1)):Int)=(t.kn:Int)) (c+(bY (As.map (·.1)):Int)=(cnT t:Int)) (k<=400) (c<=200) ((∀e∈As,e.2+(e.1.tall:Int)<=(t.tall:Int)+1)) (((t.tall:Int)<=20\/∃e∈As,(t.tall:Int)+1<=e.2+(e.1.tall:Int))) (ak (As.map (·.1))<=100000) (m'=ak (As.map (·.1))),λAa H' h=>h,?_⟩;have Be:ps≠[]:=by intro z;subst z;simp at cc
  refine hid λZZ kZ=>?_;obtain⟨Dn,b,rfl⟩:∃Dn b,ps=Dn++[b]:=⟨ps.dropLast,ps.getLast Be,(Y3 Be).symm⟩;obtain⟨Us,⟨x,r⟩,rfl,RF,ta,eb,hx⟩:=P2.snoc_inv RD;refine kZ ?_;have KI:(Us++[(x,r)]).map (·.1)=Us.map (·.1)++[x]:=by rw[Xb];rfl
  rw[KI]at hk hc RE;rw[l5,kns,kns,y9]at hk;rw[jT,bY,bY,za]at hc;rw[bK,ak,ak,x.size_eq]at RE;have Vh:=hle (x,r) (XB _ (Xd ..));dsimp only at Vh;have JK:=x.tall_eq;refine⟨_,D?,.inl ⟨D?,_,l! e4⟩,ah,_,.ref b,D?,D?,e4,by simp,?_⟩;have d1:((Dn++[b]).map i!).dropLast=Dn.map i!:=by simp
  rw[d1];have k5:KT H4 (upd H4 ah (.lst (Dn.map i!))):=aG e4;have s5:k! H (upd H4 ah (.lst (Dn.map i!))):=am s4 KH;have e5:(upd H4 ah (.lst (Dn.map i!))) ah=A? (.lst (Dn.map i!)):=ac;have Mf:(upd H4 ah (.lst (Dn.map i!))) mo=A? (.ins T.e_Measure dx (mf k c)):=by rw[ag HF];exact em
  generalize(upd H4 ah (.lst (Dn.map i!)))=H5 at k5 s5 e5 Mf |-;refine⟨b,_,D?,o! (k5 _ _ eb),D?,_,_,D?,_,_,D?,D?,?_⟩;dsimp only[av];refine ce (λAa H6=>Ex2 λ(k' c':Int)=>An6 (k'=(if x.isCall=C? then k else k+1)) (c'=(if x.isCall=C? then c+1 else c)) ((∀b o,b≠mo->H5 b=A? o->H6 b=A? o)) (H6 mo=A? (.ins T.e_Measure dx (mf k' c'))) ((r<=20/\k'<=400/\c'<=200)) (Aa=[A? (.ref a),A? (.ref mo),A? (.ref ah),A? (.ref ta),A? (.int r)])) (λkk AM=>?_) ?_
  .refine cj (λbb H6=>Ex2 λ(k' c':Int)=>An5 (k'=(if x.isCall=C? then k else k+1)) (c'=(if x.isCall=C? then c+1 else c)) ((∀b o,b≠mo->H5 b=A? o->H6 b=A? o)) (H6 mo=A? (.ins T.e_Measure dx (mf k' c'))) (bb=!decide (r<=20/\k'<=400/\c'<=200))) (λk2 Bq=>?_) (λH6 hb=>?_) (λH6 hb=>?_)
   .refine⟨_,D?,mo,dx,_,D?,Mf,aaA k c (by decide +kernel) (by decide +kernel),_,D?,_,D?,mo,dx,ta,k,c,r,x,D?,Mf,hx.mono k5,λk' c' H6 h1 h2 h3 h4=>?_⟩;exact⟨_,D?,Bq _ _ ⟨k',c',h1,h2,h3,h4,D?⟩⟩
   .refine hid λZZ kZ=>?_;obtain⟨k',c',h1,h2,h3,h4,h5⟩:=hb;refine kZ ?_;have C0:¬(r<=20/\k'<=400/\c'<=200):=λz=>by rw[d! z]at h5;cases h5
    have Cp:decide (Small t)=false:=c! λz=>C0 (by
     obtain⟨z1,z2,z3⟩:=z;refine⟨by lia,?_,?_⟩
     .rw[h1];split at hk <;> split <;> first|lia|contradiction
     .rw[h2];split at hc <;> split <;> first|lia|contradiction)
    have s6:k! H H6:=λb o e=>h3 b o (aw e Me) (s5 b o e);rw[Cp]at q;exact q H6 s6
   .refine hid λZZ kZ=>?_;obtain⟨k',c',h1,h2,h3,h4,h5⟩:=hb;refine kZ ?_
    have GO:r<=20/\k'<=400/\c'<=200:=e! (by
     cases hd:decide (r<=20/\k'<=400/\c'<=200)with
     |true=>rfl
     |false=>rw[hd]at h5;cases h5)
    exact AM _ _ ⟨k',c',h1,h2,h3,h4,GO,rfl⟩
  rintro Aa H6 ⟨k',c',h1,h2,h3,h4,⟨Vi,Pe,Pf⟩,rfl⟩;have k6:KT H5 H6:=λb xs e=>h3 b _ (λz=>by rw[z,Mf]at e;cases e) e;have s6:k! H H6:=λb o e=>h3 b o (aw e Me) (s5 b o e);have e6:H6 ah=A? (.lst (Dn.map i!)):=h3 _ _ HF.symm e5;have RG:=k5.trans k6;refine⟨_,D?,.inl ⟨D?,_,l! e6⟩,_,D?,ta,x,D?,hx.mono RG,λka BN H7 s7 ek CS=>?_⟩;have CQ:BN.length=x.kids.length:=CS.length;have WJ:=cJ x.kids;refine⟨ka,D?,⟨_,o! ek⟩,gL (F:=RwAt rq K) (xs:=BN.map i!) (x.kids.map λu=>(u,r+1)) (λH1 H2 z p kt h=>h.mono kt) (by rw[WO,WO];lia) (by rw[WO];lia) (λi Hx sx hi=>⟨_,_,o! (sx _ _ ek),WR hi⟩) (λHx sx=>⟨_,o! (sx _ _ ek),WX _⟩) (λi Hx x Hy sx hi hy=>⟨hy.1,hy.2 _ (o! (sx _ _ ek))⟩) (λi y z Hx R W' hy BW sx hR=>?_) (λD H8 bs hD s8 eD DG=>?_)⟩
  .obtain⟨ua,rfl,Ft⟩:=aO hy;obtain⟨u,hu,KD⟩:=CS.get Ft;rw[WZ,hu]at BW;cases BW;refine⟨_,D?,_,D?,_,_,D?,D?,lnE rfl,λp1 DW=>?_⟩;exact hR _ p1 (ae DW _) ⟨ua,ac,KD.mono (j! (sx.trans (ae DW _)))⟩
  have Q0:Us.length=Dn.length:=W4 RF;have Bg:(x.kids.map λu=>(u,r+1)).length=bs.length:=W4 DG;rw[WO]at Bg;have Q1:=cJ (Us.map (·.1));rw[WO]at Q1;have Mg:=s7.trans s8;have e8:=Mg _ _ e6;refine⟨ah,D,_,_,D?,D?,e8,eD,ZT (bO (by rw[WO,WO];lia)),?_⟩;have k9:KT H8 (upd H8 ah (.lst (Dn.map i!++bs.map i!))):=aG e8;have s9:k! H (upd H8 ah (.lst (Dn.map i!++bs.map i!))):=am (s6.trans Mg) KH
  have Ke:(Us++x.kids.map λu=>(u,r+1)).map (·.1)=Us.map (·.1)++x.kids:=by
   rw[Xb,YM];congr 1;exact List.map_id' _
  refine⟨ak ((Us++x.kids.map λu=>(u,r+1)).map (·.1)),?_,Dn++bs,Us++(x.kids.map λu=>(u,r+1)),k',c',_,_,D?,s9,?_,?_,?_,?_,?_,Pe,Pf,?_,?_,?_,D?⟩
  .rw[Ke,KI,bK,bK,ak,ak,x.size_eq];lia
  .rw[ac,Xb]
  .exact t! (y! (λ_ _ e=>e.mono ((RG.trans (j! Mg)).trans k9)) RF) (y! (λ_ _ e=>e.mono k9) DG)
  .rw[ag HF];exact Mg _ _ h4
  .rw[Ke,l5,h1];split at hk <;> split <;> first|lia|contradiction
  .rw[Ke,jT,h2];split at hc <;> split <;> first|lia|contradiction
  .intro e he;rcases Xz.mp he with he|he
   .exact hle e (XJ _ he)
   .obtain⟨u,hu,rfl⟩:=Xl.mp he;have:=cA hu;dsimp only;lia
  .rcases LP with h|⟨e,he,Pg⟩
   .exact .inl h
   .rcases Xz.mp he with he|he
    .exact .inr ⟨e,XJ _ he,Pg⟩
    .rw[Xc.mp he]at Pg;dsimp only at Pg;by_cases hz:x.kids=[]
     .rw[hz,aI]at JK;exact .inl (by lia)
     .obtain⟨u,hu,eu⟩:=vJ hz;exact .inr ⟨(u,r+1),XB _ (Xl.mpr ⟨u,hu,rfl⟩),by dsimp only;lia⟩
  .rw[Ke,bK];lia
 .have hz:ps=[]:=by
   cases ps with
   |nil=>rfl
   |cons y ys=>simp at cc
  subst hz;have En:As=[]:=XZ.mp (W4 RD);subst En;have A':k+((kns []:Nat):Int)=(t.kn:Int):=hk;have AN:c+((bY []:Nat):Int)=(cnT t:Int):=hc;rw[kns]at A';rw[bY]at AN
  have Vj:(t.tall:Int)<=20:=by
   rcases LP with h|⟨e,he,_⟩
   .exact h
   .cases he
  have DQ:decide (Small t)=true:=d! ⟨by lia,by lia,by lia⟩;rw[DQ]at q;exact q H4 s4
inductive ie(K:WQ)(vs:List V)(H:Hp)(Q:VK)(_E:XK):Prop
 |mk {rq:Rep} (a:WS) (t:Th):vs=[.ref a]->AtK rq K H t a->t.size<=100000->Small t->(∀H',k! H H'->Q (.ref a) H')->ie K vs H Q _E
theorem lH:aX P w K mg base CX0 5 T.g_43.f T.g_43.d ["pattern"] (ie K):=by
 refine T.g_43.F.okA rM λAi A outer s H vs Q E hr h=>?_;obtain⟨a,t,rfl,hA,hsz,DQ,q⟩:=h
 refine⟨_,(ad (cC (sD (bq (pcF T.g_25 (pz T) hr (aa (pv 0) ab)) (λ_=>rfl))) (af lR) bU)
  (af (ax (pv 0)))),?_⟩
 try dsimp only[Aw,Ae]
 refine⟨_,D?,a,t,D?,hA,hsz,λH1 s1=>⟨_,D?,?_⟩⟩;rw[d! DQ];exact yO ⟨_,rfl,q H1 s1⟩
def CP(rq:Rep)(H:Hp)(c:Int×Int)(a:WS):Prop:=∃v,H a=A? (.tup [v,.int c.2])/\StV rq H c.1 v
theorem CP.mono{rq:Rep}(k:KT H H'){c:Int×Int}(h:CP rq H c a):CP rq H' c a:=by
 obtain⟨v,h1,h2⟩:=h;exact⟨v,k _ _ h1,h2.mono k⟩
inductive iV(K:WQ)(vs:List V)(H:Hp)(Q:VK)(_E:XK):Prop
 |mk {rq:Rep} (a:WS) (t:Th):vs=[.ref a]->AtK rq K H t a->t.size<=100000->(∀(r:WS)(as:List WS)(H':Hp),k! H H'->H r=B?->H' r=A? (.lst (as.map i!))->Xs (CP rq H') (dE t) as->Q (.ref r) H')->iV K vs H Q _E
theorem iA:aX P w K mg base CX0 3 T.g_14.f T.g_14.d ["pattern"] (iV K):=by
 refine T.g_14.F.okA oC λAi A outer s H vs Q E hr h=>?_;obtain@⟨rq,a,t,rfl,hA,hsz,k⟩:=h;refine⟨_,(af (ax (cD (N:=["part"]) (js:=[B?]) (g:=(av 0)) (tt:=(λY H Q=>(dr (fO K) [] E0 (aJ (bh 0) cN)) Y H λx H1=>∃k,vD K x H1 k/\Q k H1)) (te:=(dr (dH K) [] E0 (aJ (bh 0) cN))) rfl (cB rfl (by decide +kernel) (by decide +kernel) rfl rfl rfl) (cw (pcF T.g_3 (jl T) hr (aa (pv 0) ab))) (λ_ _ _ _ _ _=>(pgN 0 abn)) (aL rfl) (λ_ _ _ _ _ _=>gD (bq (pcF T.g_9 (dZ T) hr (aa (pv 0) ab)) (λ_=>rfl))) (λ_ _ _ _ _ _=>(pcF T.g_12 (fC T) hr (aa (pv 0) ab)))))),?_⟩
 try dsimp only[Aw,Ae]
 refine⟨_,D?,a,t,D?,hA,hsz,λr as H1 s1 nr er Bo=>⟨r,D?,⟨_,l! er⟩,?_⟩⟩;have Bd:as.length=t.walk.length:=Bo.length;have AR:=J! t;intro D hD;refine⟨as.length,λj H2=>An3 (j<=as.length) (k! H1 H2) (Ex1 λ(bs:List WS)=>An2 (H2 D=A? (.lst (bs.map i!))) (Xs (CP rq H2) ((t.walk.take j).filterMap nM) bs)),⟨Xh _,ae hD _,[],ac,.nil⟩,?_⟩;rintro j H2 ⟨hj,s2,bs,eD,Ao⟩;by_cases Cf:j=as.length
 .left;refine⟨⟨_,l! (s2 _ _ er),by rw[WO,Cf];exact WX _⟩,?_⟩;have Ac:t.walk.take j=t.walk:=by rw[Cf,Bd,YB]
  rw[Ac]at Ao;exact k D bs H2 (s1.trans s2) (s1.free hD) eD Ao
 .right;have Au:j<as.length:=by lia
  refine⟨Au,⟨_,.ref as[j],l! (s2 _ _ er),by rw[WZ,WR Au];rfl⟩,?_⟩;rintro y H3 ⟨rfl,hv⟩;have Bh:=hv _ (l! (s2 _ _ er));obtain⟨ta,rfl,Bi⟩:=aO Bh;obtain⟨u,N2,e3⟩:=(Bo.mono (j! s2)).get Bi;have AO:t.walk.take (j+1)=t.walk.take j++[u]:=by rw[Yh,N2];rfl
  have Bg:bs.length<=j:=by
   have g1:=W4 Ao;have g2:=List.length_filterMap_le nM (t.walk.take j);rw[XS]at g2;lia
  refine⟨_,D?,ta,u,D?,e3,_,D?,?_⟩;cases u with
  | knot n ks =>
    refine yO ⟨Au,s2,bs,eD,?_⟩;rw[AO,List.filterMap_append];show Xs (CP rq H3) ((t.walk.take j).filterMap nM++[]) bs;rw[XC];exact Ao
  | call sn kn =>
    refine uT ?_;refine⟨_,D?,ta,sn,kn,D?,e3,λca v AW Du=>?_⟩;have s4:k! H3 (upd H3 ca (.tup [v,.int kn])):=ae Du _;have Eo:=s4 _ _ eD;refine⟨_,Eo,lbE (by lia),Au,am (s2.trans s4) hD,bs++[ca],?_,?_⟩
    .rw[ac,Xb];rfl
    .have k5:KT (upd H3 ca (.tup [v,.int kn])) (upd (upd H3 ca (.tup [v,.int kn])) D (.lst (bs.map i!++[.ref ca]))):=aG Eo;rw[AO,List.filterMap_append];refine t! (y! (λ_ _ e=>CP.mono ((j! s4).trans k5) e) Ao) (.cons ⟨v,k5 _ _ ac,AW.mono ((j! s4).trans k5)⟩ .nil)
def lq(x y k:Int):au:=([Xn x,Xn y],Xn k)
theorem nH{t:Th}{s k:Int}(h:z! s k∈t.walk):(s,k)∈dE t:=List.mem_filterMap.mpr ⟨_,h,rfl⟩
theorem wH{t:Th}{c:Int×Int}(h:c∈dE t):c.1∈stT t:=Xl.mpr ⟨c,h,rfl⟩
inductive j9(K:WQ)(vs:List V)(H:Hp)(Q:VK)(_E:XK):Prop
 |mk (a nd:WS) (t:Th) (g:Int->Int) (f':List (List Key×V)):vs=[.ref a,.ref nd]->AtK .p K H t a->t.size<=100000->H nd=A? (.dT f')->(∀x y,enc x y∈stT t->0<=x->0<=y->y<1000->aH f' [Xn x,Xn y]=A? (.int (g (enc x y))))->(∀(r:WS)(H':Hp),k! H H'->AtK .i K H' (ren g t) r->Q (.ref r) H')->j9 K vs H Q _E
theorem pI:aX P w K mg base CX0 4 T.g_18.f T.g_18.d ["pattern","names"] (j9 K):=by
 refine T.g_18.F.okA eT λAi A outer s H vs Q E hr h=>?_;obtain⟨a,nd,t,g,f',rfl,hA,hsz,FJ,Ph,k⟩:=h
 refine⟨_,(ad (aq 2 eT.nd (l9 (fl:=C?)))
  (ad (bH XE rfl (cw (pcF T.g_14 (iA T) hr (aa (pv 0) ab))) (bi rfl (aj (pgN 3 eT.nd) (aj (pgN 4 eT.nd) aP))) (af (qt (fl:=C?) (fL hr) (pv 2) (aB (aa (pv 3) (aa (pv 4) ab))) (aB (aa (cy (v:=.str (Xq "?")) rfl T.c_CALL_SIGN.choose_spec ⟨_,D?⟩) (aa (oU (jI hr) (pv 1) (pv 3) (λ_ _=>rfl)) (aa (pv 4) ab)))) rfl)))
  (af (ax (pcF T.g_17 (gC T) hr (aa (pv 0) (aa (pv 2) ab))))))),?_⟩
 try dsimp only[Aw,Ae]
 intro td H1 Hi s1 e1;dsimp only[av];refine⟨_,D?,a,t,D?,hA.mono (j! s1),hsz,λr as H2 s2 nr er Ck=>⟨r,D?,⟨_,l! er⟩,?_⟩⟩;have Br:(dE t).length=as.length:=W4 Ck
 have WK:(dE t).length<=100000:=by
  have h1:=List.length_filterMap_le nM t.walk;have h2:=J! t;unfold dE;lia
 have Pj:r≠td:=λz=>by
  obtain⟨_,_,_,φ,e,_⟩:=e1;rw[z,e]at nr;cases nr
 refine cR (K:=K) (a:=r) (xs:=as.map i!) (λi Y H3=>Ex3 λ(c3 c4:Option V)(tk:List (au×V))=>An7 (Y=[A? (.ref a),A? (.ref nd),A? (.ref td),c3,c4]) (k! H H3) (H3 r=A? (.lst (as.map i!))) (Xs (CP .p H3) (dE t) as) (DM C? P w H3 td tk) (tk.length<=i) (∀c∈(dE t).take i,∀x y,c.1=enc x y->0<=y->y<1000->∃v,aH tk (lq x y c.2)=A? (.ref v)/\AtK .i K H3 (.call (g c.1) c.2) v))
  ⟨B?,B?,[],rfl,s1.trans s2,er,Ck,e1.mono s2,WX _,λc hc=>by rw[ZA]at hc;cases hc⟩ (λi Y H3 _⟨_,_,_,_,_,e,_,_,_,_⟩=>l! e) ?_ ?_
 .rintro i x Y H3 hx ⟨c3,c4,tk,rfl,s3,Iq,B7,Pk,hlen,Ac⟩;refine hid λZZ kZ=>?_;obtain⟨ca,rfl,Du⟩:=aO hx;obtain⟨⟨sn,kn⟩,hc,sv,KJ,AW⟩:=B! B7 Du;obtain⟨pa,x,y,rfl,BM,Ff,EN,Em,EY⟩:=AW;refine kZ ?_;dsimp only at Ff KJ;subst Ff;have C6:i<100000:=by have:=(glE hc);lia
  have hgs:=Ph x y (wH (WT hc)) EN Em EY;refine⟨ca,_,D?,o! KJ,D?,_,_,D?,_,_,D?,D?,?_⟩;dsimp only[av];have Pl:=s3 _ _ FJ;refine⟨_,D?,_,D?,nd,.int (g (enc x y)),D?,.inr ⟨f',[.inl x,.inl y],pa,.inl Pl,D?,BM,hgs.symm⟩,_,D?,lnE rfl,λcv NC=>?_⟩;have s4:k! H3 (upd H3 cv (.tup [.str (Xq "?"),.int (g (enc x y)),.int kn])):=ae NC _;have e4:AtK .i K (upd H3 cv (.tup [.str (Xq "?"),.int (g (enc x y)),.int kn])) (.call (g (enc x y)) kn) cv:=by rw[AtK];exact⟨_,.of ac,D?⟩
  generalize(upd H3 cv (.tup [.str (Xq "?"),.int (g (enc x y)),.int kn]))=H4 at s4 e4 |-;refine⟨_,D?,_,D?,_,D?,lnE rfl,λkp CG=>?_⟩;have s5:k! H4 (upd H4 kp (.tup [.ref pa,.int kn])):=ae CG _;have e5:MKAt C? (upd H4 kp (.tup [.ref pa,.int kn])) (lq x y kn) kp:=⟨pa,ac,s5 _ _ (s4 _ _ BM)⟩;generalize(upd H4 kp (.tup [.ref pa,.int kn]))=H5 at s5 e5 |-;have DF:=s4.trans s5;have RH:=Pk.mono DF;refine⟨td,kp,_,tk,D?,D?,RH,e5,bO (by lia),λH6 Pm JW=>?_⟩
  have k6:KT H5 H6:=λb xs e=>Pm b _ (λz=>by
   obtain⟨_,_,_,φ,e',_⟩:=RH;rw[z,e']at e;cases e) e
  have HG:=(j! DF).trans k6;refine⟨_,_,_,D?,λb o e=>Pm b o (aw e Hi) ((s3.trans DF) b o e),Pm _ _ Pj (DF _ _ Iq),y! (λ_ _ e=>CP.mono HG e) B7,JW,?_,λc AN x' y' DR FK FL=>?_⟩
  .have:=bt tk (lq x y kn) (.ref cv);lia
  .rw[fq];by_cases CV:lq x' y' c.2=lq x y kn
   .rw[b! CV];unfold lq at CV;injection CV with h1 h2;injection h1 with h3 h4;injection h4 with h5 _;have e1:x'=x:=YL h3;have e2:y'=y:=YL h5;have e3:c.2=kn:=YL h2;exact⟨cv,D?,by rw[DR,e1,e2,e3];exact(e4.mono (j! s5)).mono k6⟩
   .rw[a! CV];rw[take_snoc hc]at AN;rcases Xz.mp AN with h|h
    .obtain⟨v,h1,h2⟩:=Ac c h x' y' DR FK FL;exact⟨v,h1,h2.mono HG⟩
    .refine g! ?_ CV;rw[Xc.mp h]at DR |-;obtain⟨h1,h2⟩:=oF DR Em EY FK FL;rw[h1,h2]
 .rintro Y H3 ⟨c3,c4,tk,rfl,s3,Iq,B7,Pk,hlen,Ac⟩;rw[YG (by rw[WO];lia)]at Ac;refine⟨_,D?,_,D?,.i,a,td,t,λs k=>.call (g s) k,D?,hA.mono (j! s3),hsz,λs' k' A'=>?_,λr' H4 s4 h4=>k r' H4 (s3.trans s4) h4⟩;refine hid λZZ kZ=>?_;obtain⟨i',AY⟩:=Xi.mp (nH A');obtain⟨_,_,_,_,_,x,y,_,_,Ff,_,Em,EY⟩:=F! B7 AY;refine kZ ?_;dsimp only at Ff;subst Ff;obtain⟨v,h1,h2⟩:=Ac (enc x y,k') (nH A') x y rfl Em EY;refine⟨v,h2,by rw[p!];decide,λH2 ca sv s2 N6 Du=>?_⟩;refine hid λZZ kZ=>?_;obtain⟨pb,x',y',rfl,Oj,DR,_,FK,FL⟩:=N6;obtain⟨rfl,rfl⟩:=oF DR Em EY FK FL;refine kZ ?_;exact .inr ⟨C?,ca,lq x y k',tk,rfl,Pk.mono s2,⟨pb,Du,Oj⟩,h1⟩
def kP(s:Int):List Key:=[Xn (s / 1000),Xn (s%1000)]
theorem wL{x y:Int}(h0:0<=y)(h1:y<1000):kP (enc x y)=[Xn x,Xn y]:=by
 unfold kP enc;rw[show(1000 * x+y) / 1000=x by lia,show(1000 * x+y)%1000=y by lia]
theorem aai{a b:Int}(h:kP a=kP b):a=b:=by
 unfold kP at h;injection h with h1 h2;injection h2 with h2 _;have e1:=YL h1;have e2:=YL h2;lia
def dI(m:List Int):List (List Key×V):=m.zipIdx.map λp=>(kP p.1,q! (p.2:Nat))
theorem lC(m:List Int):(dI m).length=m.length:=by unfold dI;rw[WO,List.length_zipIdx]
theorem ve(m:List Int)(s:Int):dI (m++[s])=dI m++[(kP s,q! (m.length:Nat))]:=by
 unfold dI;rw[List.zipIdx_append,Xb];simp
theorem ll:∀(m:List Int)(s:Int)(n:Nat),aH ((m.zipIdx n).map λp=>(kP p.1,q! (p.2:Nat))) (kP s)=if s∈m then A? (.int ((n+m.idxOf s:Nat):Int))else B?
 | [],s,n=>rfl
 | x::m,s,n=>by
   rw[List.zipIdx_cons,Xr];by_cases h:x=s
   .subst h;rw[bD rfl,b! (Xd ..),List.idxOf_cons_self];rfl
   .rw[bE (λz=>h (aai z)),ll m s (n+1)];by_cases hm:s∈m
    .rw[b! hm,b! (W8 _ hm),List.idxOf_cons,(beq_eq_false_iff_ne.mpr h:(x == s)=CU)];simp only[cond_false];have:n+1+m.idxOf s=n+(m.idxOf s+1):=by lia
     rw[this]
    .rw[a! hm,a! (λz=>(W7.mp z).elim (λy=>h y.symm) hm)]
theorem t7{m:List Int}{s:Int}(h:s∈m):aH (dI m) (kP s)=A? (.int (idx m s)):=by
 unfold dI;rw[ll,b! h,Nat.zero_add];rfl
theorem w6{m:List Int}{s:Int}(h:s∉m):aH (dI m) (kP s)=none:=by
 unfold dI;rw[ll,a! h]
inductive g7(K:WQ)(vs:List V)(H:Hp)(Q:VK)(_E:XK):Prop
 |mk (a nd:WS) (t:Th) (m:List Int):vs=[.ref a,.ref nd]->AtK .p K H t a->t.size<=100000->H nd=A? (.dT (dI m))->(bd m (stT t)).length<=20->(∀(r:WS)(H':Hp),SameB nd H H'->H' nd=A? (.dT (dI (bd m (stT t))))->AtK .i K H' (ren (idx (bd m (stT t))) t) r->Q (.ref r) H')->g7 K vs H Q _E
theorem kX:aX P w K mg base CX0 5 T.g_40.f T.g_40.d ["pattern","numbers"] (g7 K):=by
 refine T.g_40.F.okA ik λAi A outer s H vs Q E hr h=>?_;obtain⟨a,nd,t,m,rfl,hA,hsz,FJ,WL,k⟩:=h
 refine⟨_,(ad (bH XE rfl (cw (pcF T.g_14 (iA T) hr (aa (pv 0) ab))) (bi rfl (aj (pgN 2 ik.nd) (aj (pgN 3 ik.nd) aP))) (af (aQ (bR PySem.F.plainAttrs_dict Zn PySem.F.type_dict_setdefault (mC (jI hr)) (pv 1) (aa (pv 2) (aa (aC ji rfl T.n_5 XU (aa (pv 1) ab)) ab))))))
  (ad (cC (bz pf (aC ji rfl T.n_5 XU (aa (pv 1) ab)) (cy (v:=.int (20)) rfl T.c_MOST_STATES.choose_spec ⟨_,D?⟩) (bc _)) (af lR) bU)
  (af (ax (pcF T.g_18 (pI T) hr (aa (pv 0) (aa (pv 1) ab))))))),?_⟩
 try dsimp only[Aw,Ae]
 refine⟨_,D?,a,t,D?,hA,hsz,λr as H1 s1 nr er Ck=>⟨r,D?,⟨_,l! er⟩,?_⟩⟩;have Br:(dE t).length=as.length:=W4 Ck;have Vk:r≠nd:=λz=>by rw[z,FJ]at nr;cases nr
 refine cR (K:=K) (a:=r) (xs:=as.map i!) (λi Y H3=>Ex2 λc2 c3=>An6 (Y=[A? (.ref a),A? (.ref nd),c2,c3]) (SameB nd H H3) (KT H H3) (H3 r=A? (.lst (as.map i!))) (Xs (CP .p H3) (dE t) as) (H3 nd=A? (.dT (dI (bd m ((stT t).take i))))))
  ⟨B?,B?,rfl,SameB.of s1,j! s1,er,Ck,by rw[ZA];exact s1 _ _ FJ⟩ (λi Y H3 _⟨_,_,_,_,_,e,_,_⟩=>l! e) ?_ ?_
 .rintro i x Y H3 hx ⟨c2,c3,rfl,s3,k3,Iq,B7,EC⟩;refine hid λZZ kZ=>?_;obtain⟨ca,rfl,Du⟩:=aO hx;obtain⟨⟨sn,kn⟩,hc,sv,KJ,Pn⟩:=B! B7 Du;obtain⟨pa,x,y,rfl,BM,Ff,EN,Em,EY⟩:=Pn;refine kZ ?_;dsimp only at Ff KJ;have CG:[Xn x,Xn y]=kP sn:=by rw[Ff,wL Em EY]
  have AW:(stT t)[i]?=A? sn:=by unfold stT;rw[WZ,hc];rfl
  have AO:bd m ((stT t).take (i+1))=fT (bd m ((stT t).take i)) sn:=by
   rw[take_snoc AW,eM];rfl
  have Cu:(fT (bd m ((stT t).take i)) sn).length<=20:=by
   have h1:bd m (stT t)=bd (bd m ((stT t).take (i+1))) ((stT t).drop (i+1)):=by rw[<-eM,List.take_append_drop]
   have h2:=(gw ((stT t).drop (i+1)) (bd m ((stT t).take (i+1)))).length_le;rw[<-h1,AO]at h2;lia
  generalize bd m ((stT t).take i)=mi at EC AO Cu |-;have WM:=(pq mi sn).length_le;refine⟨ca,_,D?,o! KJ,D?,_,_,D?,_,_,D?,D?,?_⟩;dsimp only[av];have hl:=lC mi;refine⟨_,D?,.inr (.inr (.inl ⟨D?,.inr ⟨_,EC⟩⟩)),_,D?,_,D?,nd,_,D?,EC,nd,pa,.int ((dI mi).length:Nat),kP sn,dI mi,D?,D?,EC,by rw[<-CG];exact BM,bO (by lia),λu hu=>?_,λhu=>?_⟩
  .have B0:sn∈mi:=by
    by_cases h:sn∈mi
    .exact h
    .rw[w6 h]at hu;cases hu
   refine⟨_,_,D?,s3,k3,Iq,B7,?_⟩;rw[AO];unfold fT;rw[b! B0];exact EC
  .have B0:sn∉mi:=λh=>by rw[t7 h]at hu;cases hu
   have Po:putK (dI mi) (kP sn) (.int ((dI mi).length:Nat))=dI (fT mi sn):=by
    rw[i6 _ hu];unfold fT;rw[a! B0,ve,hl]
   rw[Po];have k4:KT H3 (upd H3 nd (.dT (dI (fT mi sn)))):=λb xs e=>by rw[ag (eJ e EC (λz=>nomatch z))];exact e
   refine⟨_,_,D?,λb o hb e=>by rw[ag hb];exact s3 b o hb e,k3.trans k4,by rw[ag Vk];exact Iq,y! (λ_ _ e=>CP.mono k4 e) B7,by rw[ac,AO]⟩
 .rintro Y H3 ⟨c2,c3,rfl,s3,k3,Iq,B7,EC⟩;have N7:(stT t).length=as.length:=by unfold stT;rw[WO];lia
  rw[YG (by rw[WO];lia)]at EC;have hl:=lC (bd m (stT t));dsimp only[yY];refine ce (λAa H'=>An2 (H3=H') (Aa=[A? (.ref a),A? (.ref nd),c2,c3])) (λkk hk=>?_) ?_
  .refine⟨_,D?,nd,_,D?,EC,_,_,D?,D?,_,D?,?_⟩;refine cX (λc=>?_) (λc=>hk _ _ ⟨rfl,rfl⟩);have:=e! c;lia
  rintro Aa H' ⟨rfl,rfl⟩;exact⟨_,D?,_,D?,a,nd,t,idx (bd m (stT t)),_,D?,hA.mono k3,hsz,EC,λx y hs _ Em EY=>by rw[<-wL Em EY];exact t7 (cr.mpr (.inr hs)),λr' H4 s4 h4=>k r' H4 (λb o hb e=>s4 _ _ (s3 b o hb e)) (s4 _ _ EC) h4⟩
def RowK(K:WQ)(H:Hp)(ts:List Th)(a:WS):Prop:=∃as:List WS,H a=A? (.tup (as.map i!))/\AtsK .i K H ts as
theorem RowK.mono(k:KT H H')(h:RowK K H ts a):RowK K H' ts a:=by
 obtain⟨as,h1,h2⟩:=h;exact⟨as,k _ _ h1,h2.mono k⟩
inductive jN(P:W6)(w:Xo)(K:WQ)(mg:Xk->Option WU)(base:Yd)(vs:List V)(H:Hp)(Q:VK)(_E:XK):Prop
 |mk (ia oa ha f:WS) (head:Th) (R:Int->List Th) (Mh:Sp):vs=[.ref ia,.ref oa,.ref ha,.ref f]->AtK .p K H head ha->head.size<=1000->(aV R head).length<=20->(∀s∈aV R head,(R s).length<=8/\∀t∈R s,t.size<=1000)->yk P w K mg base CX0 8 f Mh->(∀(H1:Hp)(s:Int)(pa:WS)(Z:VK),k! H H1->s∈aV R head->H1 pa=A? (.tup [.int (s / 1000),.int (s%1000)])->(∀(r:WS)(as:List WS)(H2:Hp),k! H1 H2->H2 r=A? (.lst (as.map i!))->AtsK .p K H2 (R s) as->Z (.ref r) H2)->Mh [.ref pa] H1 Z E0)->(∀(r fh rl:WS)(CT:List WS)(H':Hp),k! H H'->H' r=A? (.tup [.ref ia,.ref oa,.ref fh,.ref rl])->AtK .i K H' (ren (idx (aV R head)) head) fh->H' rl=A? (.tup (CT.map i!))->Xs (RowK K H') ((aV R head).map λs=>(R s).map (ren (idx (aV R head)))) CT->Q (.ref r) H')->jN P w K mg base vs H Q _E
theorem jW(a b:List Th):bC (a++b)=bC a++bC b:=List.flatMap_append
theorem wK{m:List Int}{s:Int}(h:m[i]?=A? s):(dI m)[i]?=A? (kP s,q! (i:Nat)):=by
 unfold dI;rw[WZ,List.getElem?_zipIdx,h];simp
theorem qT:aX P w K mg base CX0 9 T.g_41.f T.g_41.d ["ins","outs","head","patterns_of"] (jN P w K mg base):=by
 refine T.g_41.F.okA du λAi A outer s H vs Q E hr h=>?_;obtain⟨ia,oa,ha,f,head,R,Mh,rfl,hA,hsz,HH,Vm,Vn,Pp,k⟩:=h
 refine⟨_,(ad (aq 4 du.nd kN)
  (ad (aq 5 du.nd (pcF T.g_40 (kX T) hr (aa (pv 2) (aa (pv 4) ab))))
  (ad (aq 6 du.nd (bw ab))
  (ad (d4 XE (bz lQ (aC ay rfl T.n_5 XU (aa (pv 6) ab)) (aC ji rfl T.n_5 XU (aa (pv 4) ab)) (bc _)) (ad (aq 7 du.nd (aY bv (bB (mh rfl) rfl T.n_6 PyProof.Rows.boot_list (aa (pv 4) ab)) (aC ay rfl T.n_5 XU (aa (pv 6) ab)) (λ_ _=>rfl)))
  (af (aQ (bR Xf Xy Xx aN (pv 6) (aa (bB bo rfl T.n_11 YA (aa (cD (N:=["pattern","numbers"]) (js:=[B?,A? 4]) (g:=(av 0)) (tt:=bL) (te:=(dr (g7 K) [] E0 (aJ (bh 0) (aJ (bh 1) cN)))) rfl (cB rfl (by decide +kernel) (by decide +kernel) rfl rfl rfl) (aao (vU (k:=8) (i:=3) rfl (Or.inl rfl) (hr.mono (by first|decide|lia)) gN (aa (pv 7) ab))) (λ_ _ _ _ _ _=>(pgN 0 aa1)) (aL rfl) (λ_ _ _ _ _ _=>bV) (λ_ _ _ _ _ _=>(pcF T.g_40 (kX T) hr (aa (pv 0) (aa (pv 1) ab))))) ab)) ab))))))
  (af (ax (aB (aa (pv 0) (aa (pv 1) (aa (pv 5) (aa (bB bo rfl T.n_11 YA (aa (pv 6) ab)) ab))))))))))),?_⟩
 try dsimp only[Aw,Ae]
 have ED:bd [] (stT head) <+: aV R head:=fE _ _ _ _;intro nd Pq;dsimp only[av];refine gU Pq λH1 s1 e1=>?_;have e1:H1 nd=A? (.dT (dI [])):=e1;refine⟨_,D?,_,D?,ha,nd,head,[],D?,hA.mono (j! s1),by lia,e1,Xw ED.length_le HH,λfh H2 DC RI h2=>?_⟩;dsimp only[av];have Pr:ren (idx (bd [] (stT head))) head=ren (idx (aV R head)) head:=oQ head λx hx=>(sN ED (cr.mpr (.inr hx))).symm;rw[Pr]at h2;have s2:k! H H2:=λb o e=>DC b o (aw e Pq) (s1 b o e);refine⟨lnE rfl,λrl CC=>?_⟩;have s3:k! H2 (upd H2 rl (.lst [])):=ae CC _;have e3:(upd H2 rl (.lst [])) rl=A? (.lst []):=ac;have Pu:H rl=none:=s2.free CC;have Gq:nd≠rl:=λz=>by rw[<-z,RI]at CC;cases CC
 generalize(upd H2 rl (.lst []))=H3 at s3 e3 |-
 refine⟨λmz Y H4=>Ex4 λ(i:Nat)(mm:List Int)(bs:List WS)(tv:Option V)=>wT (Y=[A? (.ref ia),A? (.ref oa),A? (.ref ha),A? (.ref f),A? (.ref nd),A? (.ref fh),A? (.ref rl),tv]) (k! H H4) (H4 nd=A? (.dT (dI mm))) (H4 rl=A? (.lst (bs.map i!))) (Xs (RowK K H4) (((aV R head).take i).map λs=>(R s).map (ren (idx (aV R head)))) bs) (AtK .i K H4 (ren (idx (aV R head)) head) fh) (mm <+: aV R head) (bfs R (21 - i) mm i=aV R head) (i<=mm.length) (mz=21 - i),
  ⟨_,0,bd [] (stT head),[],B?,D?,s2.trans s3,s3 _ _ RI,e3,.nil,h2.mono (j! s3),ED,D?,Xh _,D?⟩,?_⟩
 rintro mz Y H4 ⟨i,mm,bs,tv,rfl,s4,Pw,Px,Ao,Mi,BZ,FN,hi,rfl⟩;have LX:=BZ.length_le
 have Bg:bs.length=i:=by
  have:=W4 Ao;rw[WO,XS]at this;lia
 have OH:=lC mm;refine⟨_,D?,rl,_,D?,.inl (l! Px),_,D?,nd,_,D?,Pw,_,_,D?,D?,_,D?,?_⟩;refine cX (λcc=>?_) (λcc=>?_)
 .have Ah:i<mm.length:=by
   have:=e! cc;rw[WO]at this;lia
  refine⟨λAa H'=>∃m',m'<21 - i/\Ex4 λ(i:Nat)(mm:List Int)(bs:List WS)(tv:Option V)=>wT (Aa=[A? (.ref ia),A? (.ref oa),A? (.ref ha),A? (.ref f),A? (.ref nd),A? (.ref fh),A? (.ref rl),tv]) (k! H H') (H' nd=A? (.dT (dI mm))) (H' rl=A? (.lst (bs.map i!))) (Xs (RowK K H') (((aV R head).take i).map λs=>(R s).map (ren (idx (aV R head)))) bs) (AtK .i K H' (ren (idx (aV R head)) head) fh) (mm <+: aV R head) (bfs R (21 - i) mm i=aV R head) (i<=mm.length) (m'=21 - i),λAa H' h=>h,?_⟩;obtain⟨sn,Py⟩:∃sn,mm[i]?=A? sn:=⟨_,WR Ah⟩
  have Gr:(aV R head)[i]?=A? sn:=by
   obtain⟨rr,Vo⟩:=BZ;rw[<-Vo,Yi Ah];exact Py
  have RJ:sn∈aV R head:=WT Gr;refine⟨_,D?,nd,_,D?,Pw,λl Fq hl Pz=>?_⟩;obtain⟨pa,EL,PD⟩:=F! Pz (wK Py);refine gU hl λH5 s5 e5=>?_;have PF:=s5 _ _ Px;have Vp:=s5 _ _ Pw;have Vq:(bs.map i!).length=i:=by rw[WO];exact Bg
  refine⟨_,D?,rl,_,D?,.inl (l! PF),l,_,_,.ref pa,D?,D?,l! e5,at_nonneg (by lia) (by rw[Vq,Xu,WZ,EL];rfl),?_⟩;dsimp only[av];refine⟨_,D?,.inl ⟨D?,_,l! PF⟩,f,Mh,D?,Vn,_,D?,Pp H5 sn pa _ (s4.trans s5) RJ (s5 _ _ PD) λr as H6 s6 Mj Er=>⟨r,D?,.inl ⟨⟨_,l! Mj⟩,?_⟩⟩⟩;obtain⟨KL,Gs⟩:=Vm sn RJ;generalize Af:R sn=row at Er KL Gs;have Bd:=Er.length
  have KN:bfs R (21 - i) mm i=bfs R (21 - (i+1)) (bd mm (bC row)) (i+1):=by
   rw[show 21 - i=(21 - (i+1))+1 by lia,bfs,Py];show bfs R (21 - (i+1)) (bd mm (bC (R sn))) (i+1)=_;rw[Af]
  rw[KN]at FN;have Gu:bd mm (bC row) <+: aV R head:=by rw[<-FN];exact fE _ _ _ _
  have Ml:=s6 _ _ Vp;have KO:=s6 _ _ PF;have Mm:=s4.trans (s5.trans s6);have PH:r≠nd:=λz=>by rw[z,Ml]at Mj;cases Mj
  intro D hD;have HI:D≠nd:=λz=>by rw[z,Ml]at hD;cases hD
  have Vr:D≠rl:=λz=>by rw[z,KO]at hD;cases hD
  have EV:∀(H7:Hp),SameB nd H6 H7->KT H6 H7:=λH7 sb b xs e=>sb b _ (eJ e Ml (λz=>nomatch z)) e
  refine⟨as.length,λj H7=>An4 (j<=as.length) (SameB nd H6 H7) (H7 nd=A? (.dT (dI (bd mm (bC (row.take j)))))) (Ex1 λ(ds:List WS)=>An2 (H7 D=A? (.lst (ds.map i!))) (AtsK .i K H7 ((row.take j).map (ren (idx (aV R head)))) ds)),
   ⟨Xh _,SameB.of (ae hD _),by rw[ag HI.symm];exact Ml,[],ac,.nil⟩,?_⟩
  rintro j H7 ⟨hj,Ir,Mn,ds,eD,Bz⟩;have PJ:H7 r=A? (.lst (as.map i!)):=Ir _ _ PH Mj
  have Fd:ds.length=j:=by
   have:=Bz.length;rw[WO,XS]at this;lia
  by_cases Cf:j=as.length
  .left;refine⟨⟨_,l! PJ,by rw[WO,Cf];exact WX _⟩,?_⟩;have Ac:row.take j=row:=by rw[Cf,Bd,YB]
   rw[Ac]at Bz Mn;have Vs:k! H H7:=λb o e=>Ir b o (aw e Pq) (Mm b o e);have PK:H7 rl=A? (.lst (bs.map i!)):=Ir _ _ Gq.symm KO;refine⟨D,_,D?,.inl ⟨l! eD,λtp CD=>?_⟩⟩;refine gU CD λH8 s8 e8=>?_;have RK:=s8 _ _ PK;refine⟨rl,_,_,D?,D?,RK,lbE (by lia),?_⟩;have k9:KT H8 (upd H8 rl (.lst (bs.map i!++[.ref tp]))):=aG RK;have RL:KT H4 (upd H8 rl (.lst (bs.map i!++[.ref tp]))):=((j! (s5.trans s6)).trans (EV H7 Ir)).trans ((j! s8).trans k9);refine⟨21 - (i+1),by lia,i+1,bd mm (bC row),bs++[tp],_,D?,am (Vs.trans s8) Pu,by rw[ag Gq];exact s8 _ _ Mn,uAE,?_,Mi.mono RL,Gu,FN,Xw Ah (gw _ _).length_le,D?⟩;rw[take_snoc Gr,Xb];refine t! (y! (λ_ _ e=>RowK.mono RL e) Ao) (.cons ⟨ds,k9 _ _ e8,?_⟩ .nil);dsimp only;rw[Af];exact Bz.mono ((j! s8).trans k9)
  .right;have Au:j<as.length:=by lia
   refine⟨Au,⟨_,.ref as[j],l! PJ,by rw[WZ,WR Au];rfl⟩,?_⟩;rintro y H8 ⟨rfl,hv⟩;have Bh:=hv _ (l! PJ);obtain⟨ta,rfl,Ds⟩:=aO Bh;obtain⟨t,ht,Cg⟩:=(Er.mono (EV _ Ir)).get Ds;have AO:row.take (j+1)=row.take j++[t]:=by rw[Yh,ht];rfl
   have KP:bd mm (bC (row.take (j+1)))=bd (bd mm (bC (row.take j))) (stT t):=by
    rw[AO,jW,eM];show bd _ (stT t++[])=_;rw[XC]
   have PL:bd mm (bC (row.take (j+1))) <+: aV R head:=by
    refine List.IsPrefix.trans ?_ Gu;have:bd mm (bC row)=bd (bd mm (bC (row.take (j+1)))) (bC (row.drop (j+1))):=by rw[<-eM,<-jW,List.take_append_drop]
    rw[this];exact gw _ _
   rw[KP]at PL;have hzt:=Gs t (WT ht);refine⟨_,D?,_,D?,ta,nd,t,_,D?,Cg,by lia,Mn,Xw PL.length_le HH,λr' H9 PM Vt h9=>?_⟩;have Vu:ren (idx (bd (bd mm (bC (row.take j))) (stT t))) t=ren (idx (aV R head)) t:=oQ t λx hx=>(sN PL (cr.mpr (.inr hx))).symm;rw[Vu]at h9;have RM:=PM _ _ HI eD;have Vv:KT H8 H9:=λb xs e=>PM b _ (eJ e Mn (λz=>nomatch z)) e;have kA:KT H9 (upd H9 D (.lst (ds.map i!++[.ref r']))):=aG RM;refine⟨_,RM,lbE (by lia),Au,λb o hb e=>?_,?_,ds++[r'],?_,?_⟩
   .rw[ag (aw e hD)];exact PM b o hb (Ir b o hb e)
   .rw[ag HI.symm,KP];exact Vt
   .rw[ac,Xb];rfl
   .rw[AO,Xb];exact(Bz.mono (Vv.trans kA)).append (.cons (h9.mono kA) .nil)
 .have GY:i=mm.length:=by
   by_cases h:i<mm.length
   .exact g! (d! (by rw[WO];lia)) cc
   .lia
  have Vw:aV R head=mm:=by rw[<-FN,yS _ _ _ _ (by lia)]
  have AO:(aV R head).take i=aV R head:=by rw[YG (by rw[Vw];lia)]
  rw[AO]at Ao;refine⟨_,D?,_,D?,_,D?,_,D?,rl,_,D?,.inl ⟨l! Px,λrt Pj=>⟨lnE rfl,λr AL=>?_⟩⟩⟩;have t1:=ae Pj (.tup (bs.map i!));have t2:=ae AL (.tup [.ref ia,.ref oa,.ref fh,.ref rt]);have PN:=t1.trans t2;exact k r fh rt bs _ (s4.trans PN) ac (Mi.mono (j! PN)) (t2 _ _ ac) (y! (λ_ _ e=>RowK.mono (j! PN) e) Ao)
theorem tY(h:f.noCall):f.nh<=f.size:=by
 have h1:=fQ (λ_=>hole) f 0 h;rw[<-lh [] f _ h1];exact zT [] h1
inductive gx(K:WQ)(vs:List V)(H:Hp)(Q:VK)(_E:XK):Prop
 |mk (fl:WS) (fs:List WS) (fr:Nat->Th) (N:Nat):vs=[.ref fl]->H fl=A? (.lst (fs.map i!))->Xs (λs a=>AtK .i K H (fr s) a) (XF N) fs->N<=20->(∀s,s<N->(fr s).noCall/\(fr s).size<=200/\(fr s).tall<=100)->(∀(r:WS)(f':List (List Key×V))(H':Hp),k! H H'->H' r=A? (.dT f')->(∀(s k:Nat),s<N->k<3->∃a,aH f' [Xn (s:Int),Xn (k:Int)]=A? (.ref a)/\AtK .p K H' (hgF fr (s:Nat) (k:Nat)) a)->Q (.ref r) H')->gx K vs H Q _E
theorem lg:aX P w K mg base CX0 8 T.g_42.f T.g_42.d ["fronts"] (gx K):=by
 refine T.g_42.F.okA bQ λAi A outer s H vs Q E hr h=>?_;obtain⟨fl,fs,fr,N,rfl,EB,D0,hN,LH,q⟩:=h
 refine⟨_,(ad (aq 1 bQ.nd kN)
  (ad (bH XE rfl (lb rfl T.n_2 (pv 0)) (bi rfl (aj (pgN 2 bQ.nd) (aj (pgN 3 bQ.nd) aP))) (af (bH XE rfl (bI rfl T.n_9 (aa (cy (v:=.int (3)) rfl T.c_MOST_KIDS.choose_spec ⟨_,D?⟩) ab)) (pgN 4 bQ.nd) (ad (dN (i:=5) (N:=["hole","kid","state"]) (js:=[B?,A? 4,A? 2]) (g:=(av 0)) (tt:=bL) (te:=(kg (aJ (tC (.str (Xq "?"))) (aJ (kg (aJ (bh 2) (aJ (bh 0) cN))) (aJ (bh 1) cN))))) bQ.nd rfl (Or.inl rfl) rfl (cB rfl (by decide +kernel) (by decide +kernel) rfl rfl rfl) (bI rfl T.n_9 (aa (aC ay rfl T.n_5 XU (aa (pcF T.g_15 (gv T) hr (aa (pv 3) ab)) ab)) ab)) (λ_ _ _ _ _ _=>(pgN 0 abf)) (aL rfl) (λ_ _ _ _ _ _=>bV) (λ_ _ _ _ _ _=>(aB (aa (cy (v:=.str (Xq "?")) rfl T.c_CALL_SIGN.choose_spec ⟨_,D?⟩) (aa (aB (aa (pv 2) (aa (pv 0) ab))) (aa (pv 1) ab))))))
  (af (tV (jI hr) (pv 1) (aB (aa (pv 2) (aa (pv 4) ab))) (pcF T.g_19 (yn T) hr (aa (pv 3) (aa (pv 5) ab))) rfl))))))
  (af (ax (pv 1))))),?_⟩
 try dsimp only[Aw,Ae]
 have JZ:(XF N).length=fs.length:=W4 D0;rw[Xj]at JZ;intro td Hi;dsimp only[av];refine gU Hi λH1 s1 e1=>?_;refine⟨_,D?,fl,D?,⟨_,l! (s1 _ _ EB)⟩,?_⟩
 refine mQ (K:=K) (a:=fl) (xs:=fs.map i!) (λi Y H2=>Ex5 λ(c2 c3 c4 c5:Option V)(tk:List (List Key×V))=>An5 (Y=[A? (.ref fl),A? (.ref td),c2,c3,c4,c5]) (k! H H2) (H2 td=A? (.dT tk)) (tk.length<=3 * i) (∀(s k:Nat),s<i->k<3->∃a,aH tk [Xn (s:Int),Xn (k:Int)]=A? (.ref a)/\AtK .p K H2 (hgF fr (s:Nat) (k:Nat)) a))
  ⟨B?,B?,B?,B?,[],rfl,s1,e1,Xh _,λs k h=>g! h (YZ _)⟩ (λi Y H2 _⟨_,_,_,_,_,_,s2,_,_,_⟩=>l! (s2 _ _ EB)) ?_ ?_
 .rintro i x pr Y H2 hx Bi ⟨c2,c3,c4,c5,tk,rfl,s2,et,hlen,Ac⟩;obtain⟨fa,rfl,B6⟩:=aO hx;have C6:=(glE B6);have RN:i<N:=by lia
  obtain⟨s',CO,Cg⟩:=B! D0 B6;rw[XY RN]at CO;cases CO;obtain⟨z1,z2,z3⟩:=LH i RN;have Vx:=tY z1;refine gU Bi λH3 s3 e3=>?_;refine⟨pr,_,D?,o! e3,D?,_,_,D?,_,_,D?,D?,?_⟩;dsimp only[av];refine⟨3,D?,by decide,by decide,?_⟩
  refine dW (n:=3) (λj Y H4=>Ex3 λ(c4 c5:Option V)(tk:List (List Key×V))=>An5 (Y=[A? (.ref fl),A? (.ref td),A? (.int ((i:Nat):Int)),A? (.ref fa),c4,c5]) (k! H H4) (H4 td=A? (.dT tk)) (tk.length<=3 * i+j) (∀(s k:Nat),(s<i/\k<3\/s=i/\k<j)->∃a,aH tk [Xn (s:Int),Xn (k:Int)]=A? (.ref a)/\AtK .p K H4 (hgF fr (s:Nat) (k:Nat)) a))
   ⟨_,_,tk,rfl,s2.trans s3,s3 _ _ et,hlen,λs k h=>by
    rcases h with h|h
    .obtain⟨a,a1,a2⟩:=Ac s k h.1 h.2;exact⟨a,a1,a2.mono (j! s3)⟩
    .lia⟩ ?_ ?_
  .rintro j Y H4 hj ⟨c4,c5,tk,rfl,s4,Hj,KQ,EE⟩;have hj3:j<3:=hj;have KR:=Cg.mono (j! s4);refine⟨_,D?,fa,_,D?,KR,by lia,by lia,λhl bs H5 s5 Gj Ao=>?_⟩
   have Bg:bs.length=(fr i).nh:=by
    have h1:=W4 Ao;have h2:=h! Zu (i8 [] (fr i) _ (fQ (λ_=>hole) (fr i) 0 z1));rw[WO,WO,lh [] _ _ (fQ (λ_=>hole) (fr i) 0 z1)]at h2;rw[<-h1,WO];exact h2
   refine⟨hl,_,D?,.inl (l! Gj),_,D?,by lia,by rw[WO];lia,gL (F:=AtK .p K) (xs:=(XF bs.length).map λ(m:Nat)=>q! (m:Nat)) ((XF bs.length).map λ(m:Nat)=>z! (enc (i:Nat) (m:Nat)) (j:Nat)) (λH1 H2 z p kt h=>h.mono kt) (by rw[WO,WO]) (by rw[WO,Xj];lia) (λm Hx sx hi=>by rw[WO,Xj]at hi;show m<(((bs.map i!).length:Nat):Int).toNat;rw[WO];lia) (λHx sx=>by show(((bs.map i!).length:Nat):Int).toNat<=((XF bs.length).map λ(m:Nat)=>q! (m:Nat)).length;rw[WO,WO,Xj];lia) (λm Hx x Hy sx hi hy=>⟨hy.1,?_⟩) (λm y z Hx R W' hy BW sx hR=>?_) (λD H6 cs hD s6 e6 DG=>?_)⟩
   .rw[WO,Xj]at hi;rw[WZ,XY hi,hy.2];show A? (q! ((m:Nat):Int))=A? (q! (0+((m:Nat):Int)));rw[Ym]
   .have hi:m<bs.length:=by
     have:=(glE BW);rw[WO,Xj]at this;exact this
    rw[WZ,XY hi]at hy BW;cases hy;cases BW;refine⟨_,D?,_,D?,lnE rfl,λpp JT=>?_⟩;refine gU JT λHy sp ep=>?_;refine⟨_,D?,lnE rfl,λca Du=>hR _ ca (sp.trans (ae Du _)) ?_⟩;rw[AtK,Ym];exact⟨_,.of ac,pp,_,_,D?,ae Du _ _ _ ep,D?,by lia,by lia,by lia⟩
   have KS:=s5.trans s6
   have hws:AtsK .p K H6 (((fr i).hw [] (hgF fr (i:Nat) (j:Nat))).map (·.2)) cs:=by
    have e:=wF (λm=>z! (enc (i:Nat) (m:Nat)) (j:Nat)) [] (fr i) 0 z1;rw[show hgF fr (i:Nat) (j:Nat)=(fr i).hg (λm=>z! (enc (i:Nat) (m:Nat)) (j:Nat)) 0 from by unfold hgF;rw[Xu],e,<-List.range_eq_range',<-Bg];exact og DG
   have PQ:(fr i).lies (hgF fr (i:Nat) (j:Nat))=true:=by
    unfold hgF;rw[Xu];exact fQ _ _ _ z1
   refine⟨_,D?,_,D?,.p,fa,D,fr i,hgF fr (i:Nat) (j:Nat),cs,D?,KR.mono (j! KS),by lia,by lia,z1,PQ,(λp hp=>?_),e6,hws,λr H7 s7 PR=>?_⟩
   .have BL:p.2∈((fr i).hw [] (hgF fr (i:Nat) (j:Nat))).map (·.2):=Xl.mpr ⟨p,hp,rfl⟩;have e:=wF (λm=>z! (enc (i:Nat) (m:Nat)) (j:Nat)) [] (fr i) 0 z1;rw[show hgF fr (i:Nat) (j:Nat)=(fr i).hg (λm=>z! (enc (i:Nat) (m:Nat)) (j:Nat)) 0 from by unfold hgF;rw[Xu],e]at BL;obtain⟨m,_,hm⟩:=Xl.mp BL;rw[<-hm,p!];decide
   refine⟨_,D?,_,D?,_,D?,lnE rfl,λkp CG=>?_⟩;refine gU CG λH8 s8 e8=>?_;have e8:H8 kp=A? (.tup ([Xn ((i:Nat):Int),Xn (0+((j:Nat):Int))].map kV)):=e8;have PU:=KS.trans (s7.trans s8);have RO:=PU _ _ Hj;refine⟨td,_,D?,DPut.t RO e8 (bO (by lia)),?_⟩
   have Ht:KT H8 (upd H8 td (.dT (putK tk [Xn ((i:Nat):Int),Xn (0+((j:Nat):Int))] (.ref r)))):=λc ys ec=>by
    rw[ag (eJ ec RO (λz=>nomatch z))];exact ec
   refine⟨_,_,_,D?,am (s4.trans PU) Hi,ac,?_,λs k h=>?_⟩
   .have:=bt tk [Xn ((i:Nat):Int),Xn (0+((j:Nat):Int))] (i! r);lia
   .rw[fq];by_cases AM:([Xn ((s:Nat):Int),Xn ((k:Nat):Int)]:List Key)=[Xn ((i:Nat):Int),Xn (0+((j:Nat):Int))]
    .rw[b! AM];injection AM with e1 e2;have C5:((s:Nat):Int)=(i:Nat):=YL e1;injection e2 with e3 _;have e3':((k:Nat):Int)=0+(j:Nat):=YL e3;obtain rfl:s=i:=by lia
     obtain rfl:k=j:=by lia
     exact⟨r,D?,(PR.mono (j! s8)).mono Ht⟩
    .rw[a! AM]
     have Ah:s<i/\k<3\/s=i/\k<j:=by
      rcases h with h|h
      .exact .inl h
      .by_cases hk:k=j
       .exact g! (by rw[h.1,hk,Ym]) AM
       .exact .inr ⟨h.1,by lia⟩
     obtain⟨a,a1,a2⟩:=EE s k Ah;exact⟨a,a1,(a2.mono (j! PU)).mono Ht⟩
  .rintro Y H4 ⟨c4,c5,tk,rfl,s4,Hj,KQ,EE⟩;exact⟨_,_,_,_,tk,D?,s4,Hj,by lia,λs k hs hk=>EE s k (by lia)⟩
 .rintro Y H2 ⟨c2,c3,c4,c5,tk,rfl,s2,et,hlen,Ac⟩;rw[WO,<-JZ]at Ac;exact⟨_,D?,q td tk H2 s2 et Ac⟩
inductive lz(vs:List V)(H:Hp)(Q:VK)(_E:XK):Prop
 |mk (b:WS) (v1 v2 v3 v4:V):vs=[.ref b]->H b=A? (.tup [v1,v2,v3,v4])->Q v2 H->lz  vs H Q _E
theorem rL:aX P w K mg base CX0 1 T.g_27.f T.g_27.d ["book"] lz:=by
 refine T.g_27.F.okA r6 λAi A outer s H vs Q E hr h=>?_;obtain⟨b,v1,v2,v3,v4,rfl,e,q⟩:=h;refine⟨_,(af (ax (aY bx (pv 0) ai (λ_ _=>rfl)))),?_⟩
 try dsimp only[Aw,Ae]
 exact⟨_,D?,b,_,1,v2,D?,D?,o! e,cF (j:=1) rfl,q⟩
inductive lm(vs:List V)(H:Hp)(Q:VK)(_E:XK):Prop
 |mk (b:WS) (v1 v2 v3 v4:V):vs=[.ref b]->H b=A? (.tup [v1,v2,v3,v4])->Q v3 H->lm  vs H Q _E
theorem si:aX P w K mg base CX0 1 T.g_28.f T.g_28.d ["book"] lm:=by
 refine T.g_28.F.okA rR λAi A outer s H vs Q E hr h=>?_;obtain⟨b,v1,v2,v3,v4,rfl,e,q⟩:=h;refine⟨_,(af (ax (aY bx (pv 0) ai (λ_ _=>rfl)))),?_⟩
 try dsimp only[Aw,Ae]
 exact⟨_,D?,b,_,2,v3,D?,D?,o! e,cF (j:=2) rfl,q⟩
def aT:Stmt:=match bG ip with
 | [_,_,st,_]=>st
 |_=>.Pass ⟨0,0,0,0⟩
def ndP:Stmt->Arguments
 |.FunctionDef _ p _ _ _ _ _ _ _ _=>p
 |_=>bT ip
def ndB:Stmt->List Stmt
 |.FunctionDef _ _ b _ _ _ _ _ _ _=>b
 |_=>[]
def ndS:Stmt->Z6
 |.FunctionDef _ _ _ _ _ _ s _ _ _=>s
 |_=>aE ip
def xf:Stmt->Z4
 |.FunctionDef _ _ _ _ _ _ _ _ _ p=>p
 |_=>⟨0,0,0,0⟩
def ndQ:Xk:="earliest.<locals>."++"patterns_of"
def fZ(ins:List (Xk×Int))(rows:List (List Th))(f':List (au×V))(s:Nat):Th:=(frS ins rows s).cut (Dk f' (s:Nat)) []
abbrev clE(c1 c2 c3:WS):List (Xk×WS):=[("table",c3),("fronts",c2),("book",c1)]
inductive ox(P:W6)(w:Xo)(K:WQ)(f c' c1 c2 c3:WS)(vs:List V)(H:Hp)(Q:VK)(_E:XK):Prop
 |mk (pa b fl td:WS) (x:Int) (fs:List WS) (f':List (List Key×V)) (ins outs:List (Xk×Int)) (F:Nat->Th) (head:Th) (rows:List (List Th)):vs=[.ref pa]->NestAt H f c' "patterns_of" ndQ (ndP aT) (ndB aT) (ndS aT) (clE c1 c2 c3)->CodeAt H c' ndQ->CellAt H c1 (.ref b)->CellAt H c2 (.ref fl)->CellAt H c3 (.ref td)->H pa=A? (.tup [.int (x / 1000),.int (x%1000)])->Bk H ins outs head rows b->EaOk ins outs F head rows->mH F rows.length x->H fl=A? (.lst (fs.map i!))->Xs (λs a=>AtK .i K H (F s) a) (XF rows.length) fs->H td=A? (.dT f')->(∀(s k:Nat),s<rows.length->k<3->∃a,aH f' [Xn (s:Int),Xn (k:Int)]=A? (.ref a)/\AtK .p K H (hgF F (s:Nat) (k:Nat)) a)->(∀(r:WS)(as:List WS)(H':Hp),k! H H'->H' r=A? (.lst (as.map i!))->AtsK .p K H' (eaR F rows x) as->Q (.ref r) H')->ox P w K f c' c1 c2 c3 vs H Q _E
theorem ku:(["pair","book","fronts","table","state","hole","place"]:List Xk).Nodup:=by decide +kernel
theorem xO(c1 c2 c3:WS)(Ap:[c3,c2,c1].Nodup):ni ["pair","book","fronts","table","state","hole","place"] ["pair"] ["book","fronts","table"] "place" (clE c1 c2 c3) (ndS aT):=by
 refine⟨D?,D?,D?,ku,D?,by decide +kernel,by decide +kernel,λn=>rfl,λh=>rfl,λx h=>?_,λx h=>?_,λx y c h1 h2=>aag (cl:=clE c1 c2 c3) Ap h1 h2,by decide +kernel,λx h=>?_⟩
 .have hm:=Yj h;have Ac:∀z∈(ndS aT).names,z.2=.cell->z.1="place":=by decide +kernel
  exact Ac _ hm rfl
 .have hm:=Yj h;have Ac:∀z∈(ndS aT).names,z.2=.free->z.1="book"\/z.1="fronts"\/z.1="table":=by decide +kernel
  rcases Ac _ hm rfl with e|e|e
  .exact⟨c1,by rw[show x="book" from e];rfl⟩
  .exact⟨c2,by rw[show x="fronts" from e];rfl⟩
  .exact⟨c3,by rw[show x="table" from e];rfl⟩
 .have hm:=Yj h;have Ac:∀z∈(ndS aT).names,z.2=.free->(z.1 == ("place":Xk))=false:=by decide +kernel
  exact Ac _ hm rfl
theorem uv{c1 c2 c3:WS}{v1 v2 v3:V}(h1:CellAt H c1 v1)(h2:CellAt H c2 v2)(h3:CellAt H c3 v3):Exts ((clE c1 c2 c3).map (·.2)) H:=λb hb=>by
 have AA:b∈[c3,c2,c1]:=hb;rcases W7.mp AA with e|AA
 .obtain⟨φ,z,_⟩:=h3;exact⟨φ,by rw[e];exact z⟩
 rcases W7.mp AA with e|AA
 .obtain⟨φ,z,_⟩:=h2;exact⟨φ,by rw[e];exact z⟩
 .obtain⟨φ,z,_⟩:=h1;exact⟨φ,by rw[Xc.mp AA];exact z⟩
include T in
theorem xT(f c' c1 c2 c3:WS)(Ap:[c3,c2,c1].Nodup):yk P w K mg base CX0 8 f (ox P w K f c' c1 c2 c3):=by
 refine yM (k:=7) (c':=c') (name:="patterns_of") (qual:=ndQ) (params:=ndP aT) (body:=ndB aT) (xO c1 c2 c3 Ap) (λdoc pm DE us hl=>?_) (λvs H Q E h=>?_) λA outer s H vs Q E hr h=>?_
 .obtain⟨u,rfl⟩:=us1 hl;rfl
 .obtain⟨pa,b,fl,td,x,fs,f',ins,outs,F,head,rows,rfl,hn,hc,h1,h2,h3,_⟩:=h;refine⟨D?,hn,hc,uv h1 h2 h3,λx c hx=>?_⟩;have e1:=Yj hx;rcases W7.mp e1 with e|e1
  .cases e;exact⟨_,h3⟩
  rcases W7.mp e1 with e|e1
  .cases e;exact⟨_,h2⟩
  .cases Xc.mp e1;exact⟨_,h1⟩
 .obtain⟨pa,b,fl,td,x,fs,f',ins,outs,F,head,rows,rfl,hn,hc,h1,h2,h3,BM,bk,J,hx,EB,D0,PV,Ac,kq⟩:=h;have Fg:=uv h1 h2 h3;have kf:=zG Fg;have KU:=pw Fg EB (λφ z=>nomatch z);have KW:=pw Fg PV (λφ z=>nomatch z)
  refine⟨_,[.ref b,.ref fl,.ref td],.cons ⟨c1,D?,h1⟩ (.cons ⟨c2,D?,h2⟩ (.cons ⟨c3,D?,h3⟩ .nil)),(ad (eU (pv 0) (bi rfl (aj (pgN 4 ku) (aj (pgN 5 ku) aP))))
   (ad (aq 6 ku (aY bv (pcF T.g_15 (gv T) hr (aa (aY bv (pv 2) (pv 4) (λ_ _=>rfl)) ab)) (pv 5) (λ_ _=>rfl)))
   (af (ax (cD (N:=["pattern","place","table"]) (js:=[B?,A? 6,A? 3]) (g:=(av 0)) (tt:=bL) (te:=(dr (ie K) [] E0 (aJ (dr (ir K) [] E0 (aJ (dr (jj P w K) [] E0 (aJ (bh 0) (aJ (bh 2) cN))) (aJ (bh 1) cN))) cN))) rfl (cB rfl (by decide +kernel) (by decide +kernel) rfl rfl rfl) (ij (aY bx (pcF T.g_29 (dA T) hr (aa (pv 1) ab)) (pv 4) (λ_ _=>rfl))) (λ_ _ _ _ _ _=>(pgN 0 aaE)) (aL rfl) (λ_ _ _ _ _ _=>bV) (λ_ _ _ _ _ _=>(pcF T.g_43 (lH T) hr (aa (pcF T.g_8 (rZ T) hr (aa (pcF T.g_17 (gC T) hr (aa (pv 0) (aa (pv 2) ab))) (aa (pv 1) ab))) ab)))))))),?_⟩
  generalize Vy:fgt ((clE c1 c2 c3).map (·.2)) H=H0 at kf KU KW |-;refine hid λZZ kZ=>?_;obtain⟨ia,oa,ha,ra,Ak,Ay,AS,bk⟩:=bk.mono kf;obtain⟨row,Af,PX,hlen,AU⟩:=J.row hx;obtain⟨BO,CH,RP,PY,KY⟩:=F! bk.rw Af;have AD:RP.length=row.length:=KY.length;have hle:=J.gi.le;obtain⟨EN,ES,BS⟩:=id hx;obtain⟨z1,z2,z3⟩:=J.fr _ ES;have Vx:=tY z1;obtain⟨fa,B6,Cg⟩:=F! D0 (XY ES);refine kZ ?_;refine⟨_,D?,pa,_,D?,o! (kf _ _ BM),D?,_,_,D?,_,_,D?,D?,?_⟩;dsimp only[av];refine⟨_,D?,_,D?,fl,_,_,.ref fa,D?,D?,l! KU,at_nonneg EN (gmE B6),fa,F (x / 1000).toNat,D?,Cg.mono kf,by lia,by lia,λhl bs H1 s1 Gj Ao=>?_⟩;have EW:∀t,(F (x / 1000).toNat).lies t=C?->(((F (x / 1000).toNat).pl []).filter λp=>p.2.isHole).map (·.1)=((F (x / 1000).toNat).hw [] t).map (·.1):=λt ht=>i8 [] _ t ht;have RQ:=fQ (λ_=>hole) (F (x / 1000).toNat) 0 z1;refine hid λZZ kZ=>?_;obtain⟨pl,AR⟩:∃pl,((((F (x / 1000).toNat).pl []).filter λp=>p.2.isHole).map (·.1))[(x%1000).toNat]?=A? pl:=⟨_,WR (by rw[EW _ RQ,WO,lh [] _ _ RQ];exact BS)⟩;obtain⟨J9,PZ,P0⟩:=F! (show Xs (λ(p:List Int)b=>H1 b=A? (.tup (p.map q!))) _ bs from Ao) AR;refine kZ ?_;refine⟨_,D?,hl,_,_,.ref J9,D?,D?,l! Gj,at_nonneg (by lia) (gmE PZ),?_⟩;dsimp only[av];have k1:=j! s1;refine⟨_,D?,b,_,_,_,_,D?,k1 _ _ bk.bk,_,D?,ra,_,_,.ref BO,D?,D?,o! (k1 _ _ bk.rl),at_nonneg EN (gmE CH),?_⟩;have Mo:=k1 _ _ PY;have KZ:=KY.mono k1;refine⟨BO,D?,⟨_,o! Mo⟩,gL (F:=AtK .p K) (xs:=RP.map i!) (row.map (eaU F x)) (λH1 H2 z p kt h=>h.mono kt) (by rw[WO,WO];lia) (by rw[WO];lia) (λi Hx sx hi=>⟨_,_,o! (sx _ _ Mo),WR hi⟩) (λHx sx=>⟨_,o! (sx _ _ Mo),WX _⟩) (λi Hx x Hy sx hi hy=>⟨hy.1,hy.2 _ (o! (sx _ _ Mo))⟩) (λi y z Hx R W' hy BW sx hR=>?_) (λD Hx as hD sx eD DG=>?_)⟩
  .refine hid λZZ kZ=>?_;obtain⟨ua,rfl,Ft⟩:=aO hy;obtain⟨u,hu,KD⟩:=KZ.get Ft;rw[WZ,hu]at BW;cases BW;have Mp:=WT hu;obtain⟨C,hC,hC3⟩:=AU u Mp;obtain⟨RR,_,g1,g2,g3⟩:=J.at hx Af Mp;refine kZ ?_
   have e2:RR=pl:=by
    have h5:=AR;rw[EW _ (J.lies Af Mp hC),WZ,g1]at h5;exact Xp h5
   subst e2;have kx:=j! sx;have DQ:=J.smR row (WT Af) u Mp;have K0:=DQ.size;have hz7:=g3.size;have E4:u.size<=600:=Xw (oz _ _) K0;refine⟨_,D?,_,D?,.p,ua,td,u,hgF F,D?,(KD.mono kx).k,by lia,λl k' hc=>?_,λr1 H3 s3 h3=>?_⟩
   .refine hid λZZ kZ=>?_;obtain⟨a1,a2,a3,a4⟩:=i9 hC hc;have Ia:k'.toNat<3:=by lia
    obtain⟨v,v1,v2⟩:=Ac l.toNat k'.toNat (by lia) Ia;refine kZ ?_;rw[Yc a1,Yc a3]at v1 v2;have h8:=iL F l k';have h9:=J.fr l.toNat (by lia);exact⟨v,((v2.mono kf).mono k1).mono kx,by lia,λH5 ca sv s5 hs BQ=>we (sx _ _ (s1 _ _ KW)) v1 s5 hs BQ⟩
   refine⟨_,D?,r1,J9,eaP F u,eaU F x u,RR,D?,h3,(j! (sx.trans s3)) _ _ P0,g2,λr2 H4 s4 h4=>?_⟩;refine⟨r2,_,D?,h4,by lia,g3,λH5 s5=>hR H5 r2 (s3.trans (s4.trans s5)) (h4.mono (j! s5))⟩
  .intro LB;subst Vy;have sR:=wk (H:=H) LB;refine kq D as _ (v8 (s1.trans sx)) (sR _ _ eD) ?_;unfold eaR;rw[PX];exact(show AtsK .p K Hx _ as from og DG).mono (j! sR)
inductive jV(P:W6)(w:Xo)(K:WQ)(tp:WS)(vs:List V)(H:Hp)(Q:VK)(_E:XK):Prop
 |mk (b ia oa ha ra:WS) (Ak Ay AS:List WS) (ins outs:List (Xk×Int)) (head:Th) (rows:List (List Th)):vs=[.ref b]->BookAt H ins outs head rows b ia oa ha ra Ak Ay AS->FrB ins outs rows->cz outs->(∀f':List (au×V),FrD ins rows (f'.map (·.1))->EaOk ins outs (fZ ins rows f') head rows)->TabSt H tp (xf aT) ndQ->(∀(r fh rl:WS)(CT:List WS)(f':List (au×V))(F:Nat->Th)(M:List Int)(H':Hp),FrD ins rows (f'.map (·.1))->qN ins rows f'->F=fZ ins rows f'->M=aV (eaR F rows) (eaP F head)->SameT tp H H'->TabSt H' tp (xf aT) ndQ->H' r=A? (.tup [.ref ia,.ref oa,.ref fh,.ref rl])->AtK .i K H' (ren (idx M) (eaP F head)) fh->H' rl=A? (.tup (CT.map i!))->Xs (RowK K H') (M.map λx=>(eaR F rows x).map (ren (idx M))) CT->Q (.ref r) H')->jV P w K tp vs H Q _E
theorem jG(L:Lam mg base T.g_44.tc T.g_44.tp):aX P w K mg base CX0 10 T.g_44.f T.g_44.d ["book"] (jV P w K T.g_44.tp):=by
 refine T.g_44.F.okT T.g_44.th eO (λvs H Q E h=>?_) (λA outer s H vs Q E hr h=>?_)
 .obtain⟨b,ia,oa,ha,ra,Ak,Ay,AS,ins,outs,head,rows,rfl,_⟩:=h;rfl
 obtain⟨b,ia,oa,ha,ra,Ak,Ay,AS,ins,outs,head,rows,rfl,bk,F,go,hJ,Fp,q⟩:=h
 refine⟨_,(ad (aq 1 eO.nd (pcF T.g_39 (iP T) hr (aa (pv 0) ab)))
  (ad (aq 2 eO.nd (pcF T.g_42 (lg T) hr (aa (pv 1) ab)))
  (ad (yH (i:=3) (name:="patterns_of") (pos:=xf aT) (params:=ndP aT) (body:=ndB aT) (scope:=ndS aT) (cl:=[("table",s.1.1.size+3),("fronts",s.1.1.size+2),("book",s.1.1.size+1)]) L eO.nd rfl (Or.inl rfl) rfl rfl)
  (af (ax (xv (cl:=[("table",s.1.1.size+3),("fronts",s.1.1.size+2),("book",s.1.1.size+1)]) (qT T) (hr.mono (by decide)) rfl T.g_41.m T.g_41.F.kp T.g_41.b (abw rfl rfl rfl rfl rfl rfl rfl rfl rfl) (aa (fM (dS T) (hr.mono (by decide)) rfl T.g_26.m T.g_26.F.kp T.g_26.b .nil gN (aa (pv 0) ab)) (aa (fM (rL T) (hr.mono (by decide)) rfl T.g_27.m T.g_27.F.kp T.g_27.b .nil gN (aa (pv 0) ab)) (aa (fM (lH T) (hr.mono (by decide)) rfl T.g_43.m T.g_43.F.kp T.g_43.b .nil gN (aa (fM (gC T) (hr.mono (by decide)) rfl T.g_17.m T.g_17.F.kp T.g_17.b .nil gN (aa (fM (si T) (hr.mono (by decide)) rfl T.g_28.m T.g_28.F.kp T.g_28.b .nil gN (aa (pv 0) ab)) (aa (pv 2) ab))) ab)) (aa (pv 3) ab)))))))))),?_⟩
 try dsimp only[Aw,Ae]
 have hle:=F.le;refine⟨_,D?,b,ins,outs,head,rows,D?,⟨_,_,_,_,_,_,_,bk⟩,F,go,λfl fs f' H1 s1 EB D0 hD hK=>?_⟩;dsimp only[av];have J:=hJ f' hD;have DS:Xs (λs a=>AtK .i K H1 (fZ ins rows f' s) a) (XF rows.length) fs:=D0;generalize hF:fZ ins rows f'=G at J DS;refine⟨_,D?,fl,fs,G,rows.length,D?,EB,DS,hle,J.fr,λtd P1 H2 s2 PV Ac=>?_⟩;dsimp only[av];have CI:=s1.trans s2;have EF:=Fp.mono CI;refine⟨EF,λf c' H3 s3 et BX K1 hf=>?_⟩;have P4:KT H2 H3:=EF.kt s3;have K2:KT H H3:=(j! CI).trans P4
 have RS:∀{a:WS}{o:HO},H2 a=A? o->(∀z,o≠.tbl z)->H3 a=A? o:=λe h2=>s3 _ _ (λz=>by
  rw[z]at e;rcases EF with h|⟨_,h,_⟩ <;> · rw[h]at e;cases e;exact h2 _ rfl) e
 have K3:=RS PV (λz h=>nomatch h);have P5:=RS (s2 _ _ EB) (λz h=>nomatch h);dsimp only[av];refine⟨_,D?,b,_,_,_,_,D?,K2 _ _ bk.bk,_,D?,b,_,_,_,_,D?,K2 _ _ bk.bk,_,D?,b,_,_,_,_,D?,K2 _ _ bk.bk,_,D?,?_⟩;have K0:=J.smH.size;have hhz:head.size<=600:=Xw (oz _ _) K0;refine⟨.p,ha,td,head,hgF G,D?,(bk.hd.mono K2).k,by lia,λl k hc=>?_,λr1 H4 s4 h4=>?_⟩
 .refine hid λZZ kZ=>?_;obtain⟨a1,a2,a3,a4⟩:=i9 J.hd hc;obtain⟨v,v1,v2⟩:=Ac l.toNat k.toNat (by lia) (by lia);refine kZ ?_;rw[Yc a1,Yc a3]at v1 v2;have h8:=iL G l k;have h9:=J.fr l.toNat (by lia);exact⟨v,v2.mono P4,by lia,λH5 ca sv s5 hs BQ=>we K3 v1 s5 hs BQ⟩
 refine⟨r1,eaP G head,D?,h4,Xw K0 (by decide),J.smH,λH5 s5=>?_⟩;refine⟨_,D?,λH6 trk=>?_⟩;have Iu:=s4.trans (s5.trans trk.same);have HG:=j! Iu;have Vz:=K2.trans HG;have HJ:CellAt H6 (s.1.1.size+1) (.ref b):=trk.2.2.2 0 "book" (.ref b) _ rfl rfl rfl;have HK:CellAt H6 (s.1.1.size+2) (.ref fl):=trk.2.2.2 1 "fronts" (.ref fl) _ rfl rfl rfl;have HL:CellAt H6 (s.1.1.size+3) (.ref td):=trk.2.2.2 2 "table" (.ref td) _ rfl rfl rfl;refine⟨ia,oa,r1,f,eaP G head,eaR G rows,ox P w K f c' (s.1.1.size+1) (s.1.1.size+2) (s.1.1.size+3),D?,h4.mono (j! (s5.trans trk.same)),Xw K0 (by decide),J.len,λx hx=>?_,xT T f c' _ _ _ (by simp),λH7 x pa Z s7 hx BM hZ=>?_,λr fh rl CT H7 s7 e7 h7 VA P6=>?_⟩
 .obtain⟨h1,h2⟩:=J.small (J.met x hx);exact⟨h1,λt ht=>Xw (h2 t ht).size (by decide)⟩
 .have K4:=Iu.trans s7;have RT:=P4.trans (j! K4)
  exact⟨pa,b,fl,td,x,fs,P1,ins,outs,G,head,rows,D?,K1.mono K4,BX.mono K4,HJ.mono s7,HK.mono s7,HL.mono s7,BM,⟨_,_,_,_,_,_,_,bk.mono (Vz.trans (j! s7))⟩,J,J.met x hx,K4 _ _ P5,y! (λ_ _ h=>h.mono ((j! s2).trans RT)) DS,K4 _ _ K3,λs' k' h1 h2=>by
   obtain⟨a,a1,a2⟩:=Ac s' k' h1 h2;exact⟨a,a1,a2.mono RT⟩,hZ⟩
 .have sB:k! H3 _:=(s4.trans s5).trans (trk.back s7);refine⟨λb' hb=>?_,q r fh rl CT f' G _ _ hD hK hF.symm rfl ((CI.t _).trans (s3.trans (sB.t _))) ((show TabSt H3 _ _ _ from .inr ⟨c',et,BX⟩).mono sB) (trk.kt s7 _ _ e7) (h7.mono (trk.kt s7)) (trk.kt s7 _ _ VA) (y! (λ_ _ e=>RowK.mono (trk.kt s7) e) P6)⟩;obtain⟨φ,e⟩:=trk.2.2.1 b' hb;rw[e,s7 _ _ e]
inductive dB(vs:List V)(H:Hp)(Q:VK)(_E:XK):Prop
 |mk (c k:Int):vs=[.int c,.int k]->(∀z:Int,0<=z->Q (.int z) H)->dB  vs H Q _E
def pc(c:Int):Xk:=if c=0 then Xq "" else if c=1 then Xq "a" else if c=2 then Xq "zz" else Xq "name"
def zZ(b n:Int):Nat:=97+((b+5 * n)%26).toNat
def kl(b n:Int):Xk:=⟨#[zZ b n]⟩++pc (b / 26%4)
inductive eE(vs:List V)(H:Hp)(Q:VK)(_E:XK):Prop
 |mk (b n:Int):vs=[.int b,.int n]->(∀H',k! H H'->Q (.str (kl b n)) H')->eE  vs H Q _E
theorem dk:aX P w K mg base CX0 1 T.g_46.f T.g_46.d ["cell","k"] dB:=by
 refine T.g_46.F.okA gQ λAi A outer s H vs Q E hr h=>?_;obtain⟨c,k,rfl,q⟩:=h
 refine⟨_,(ad (aq 2 gQ.nd (aA bP (aA ej (aA cZ (aA cZ (aA bP (pv 0) ai) (aA ej ai (pv 1))) ai) ai) ai))
  (af (ax (aA bP (aA ej (aA bP (aA ej (pv 2) (pv 2)) ai) ai) ai)))),?_⟩
 try dsimp only[Aw,Ae]
 refine⟨_,D?,_,_,D?,D?,(by show(0:Int)<1000000007;decide),_,D?,_,_,D?,D?,.inl ⟨by decide,by decide⟩,_,_,D?,D?,_,_,D?,D?,_,_,D?,D?,.inr ⟨by decide,by decide⟩,_,_,D?,D?,(by show(0:Int)<2147483647;decide),?_⟩
 try dsimp only[av]
 generalize(c%1000000007+7919 * k+1) * 48271=z;have z0:=Yu z (show(2147483647:Int)≠0 by decide);have z1:=Yx z (show(0:Int)<2147483647 by decide);generalize z%2147483647=y at z0 z1;refine⟨_,D?,_,D?,_,_,D?,D?,.inl ⟨by lia,by lia⟩,_,_,D?,D?,(by show(0:Int)<2147483629;decide),_,_,D?,D?,.inr ⟨by decide,by decide⟩,_,_,D?,D?,(by show(0:Int)<2147483647;decide),q _ (Yu _ (by decide))⟩
theorem oA:aX P w K mg base CX0 1 T.g_47.f T.g_47.d ["base","n"] eE:=by
 refine T.g_47.F.okA iO λAi A outer s H vs Q E hr h=>?_;obtain⟨b,n,rfl,q⟩:=h
 refine⟨_,(ad (aq 2 iO.nd (aY bv (bw (aa g8 (aa g8 (aa g8 (aa g8 ab))))) (aA bP (aA cP (pv 0) ai) ai) (λ_ _=>rfl)))
  (af (ax (aA r9 (aY zy g8 (aA bP (aA cZ (pv 0) (aA ej ai (pv 1))) ai) (λ_ _=>rfl)) (pv 2))))),?_⟩
 try dsimp only[Aw,Ae]
 refine⟨lnE rfl,λl hl=>?_⟩;refine gU hl λH1 s1 e1=>?_;have z0:=Yu (b / 26) (show(4:Int)≠0 by decide);have z1:=Yx (b / 26) (show(0:Int)<4 by decide)
 have Cg:atI [L! (Xq ""),.str (Xq "a"),.str (Xq "zz"),.str (Xq "name")] (b / 26%4)=A? (.str (pc (b / 26%4))):=by
  generalize b / 26%4=c at z0 z1;rcases(by lia:c=0\/c=1\/c=2\/c=3)with rfl|rfl|rfl|rfl <;> rfl
 refine⟨_,D?,_,_,D?,D?,⟨by decide,by decide⟩,_,_,D?,D?,(by show(0:Int)<4;decide),l,_,_,_,D?,D?,l! e1,Cg,?_⟩
 try dsimp only[av]
 have y0:=Yu (b+5 * n) (show(26:Int)≠0 by decide);have y1:=Yx (b+5 * n) (show(0:Int)<26 by decide);refine⟨_,D?,_,D?,_,_,D?,D?,.inl ⟨by decide,by decide⟩,_,_,D?,D?,_,_,D?,D?,(by show(0:Int)<26;decide),kJ,_,_,D?,D?,de (by rw[qr];decide),u9 y0 y1,_,D?,_,_,D?,D?,de (by show 1+(pc (b / 26%4)).length<=1000000;unfold pc;(repeat' split) <;> decide),q H1 s1⟩
theorem vh(c:Int):Low (pc c)/\(pc c).length<=4:=by
 unfold pc;split
 .exact⟨(λx hx=>by have:x∈([]:List Nat):=hx;cases this),by decide⟩
 .split
  .exact⟨(λx hx=>by have:x∈([97]:List Nat):=hx;simp at this;lia),by decide⟩
  .split
   .exact⟨(λx hx=>by have:x∈([122,122]:List Nat):=hx;simp at this;lia),by decide⟩
   .exact⟨(λx hx=>by have:x∈([110,97,109,101]:List Nat):=hx;simp at this;lia),by decide⟩
theorem vA(b n:Int):Low (kl b n)/\(kl b n).length<=8:=by
 have h1:=Yu (b+5 * n) (by decide:(26:Int)≠0);have h2:=Yx (b+5 * n) (by decide:(0:Int)<26);obtain⟨l1,l2⟩:=vh (b / 26%4);unfold kl zZ;refine⟨yN (xM (by lia) (by lia)) l1,?_⟩;rw[strLen_append];show 1+_<=8;lia
theorem ww{b:Int}(hi:i<5)(hj:j<5)(h:kl b (i:Int)=kl b (j:Int)):i=j:=by
 unfold kl zZ at h
 have h0:∀(m:Nat)(t:Xk),((⟨#[m]⟩:Xk)++t).cps.toList.head?=A? m:=λm t=>by
  show((#[m]:Array Nat)++t.cps).toList.head?=A? m;rw[Array.toList_append];rfl
 have e:=h! (λz:Xk=>z.cps.toList.head?) h;rw[show(((⟨#[97+((b+5 * (i:Int))%26).toNat]⟩:Xk)++pc (b / 26%4)).cps.toList.head?)=_ from h0 _ _,show(((⟨#[97+((b+5 * (j:Int))%26).toNat]⟩:Xk)++pc (b / 26%4)).cps.toList.head?)=_ from h0 _ _]at e;have e':=Xp e;have e1:=Yu (b+5 * (i:Int)) (by decide:(26:Int)≠0);have e2:=Yu (b+5 * (j:Int)) (by decide:(26:Int)≠0);lia
inductive eS(K:WQ)(vs:List V)(H:Hp)(Q:VK)(_E:XK):Prop
 |mk (a:WS) (ns:List Int) (k:Int):vs=[.ref a,.int k]->SqL K H a (ns.map q!)->0<=k->(∀z:Int,Q (.int z) H)->eS K vs H Q _E
def lW(b:Int)(ms:List Int):List (Xk×Int):=(XF ms.length).map λ(i:Nat)=>(kl b (i:Int),ms.getD i 0)
theorem fj{b:Int}{ms:List Int}{k:Xk×Int}(h:(lW b ms)[i]?=A? k):i<ms.length/\k=(kl b (i:Int),ms.getD i 0):=by
 unfold lW at h;rw[WZ,XD]at h;obtain⟨j,hj,rfl⟩:=h;have hi:i<ms.length:=by have:=(glE hj);rwa [Xj]at this
 rw[XY hi]at hj;cases hj;exact⟨hi,D?⟩
theorem gf(b:Int)(ms:List Int):(lW b ms).length=ms.length:=by unfold lW;rw[WO,Xj]
theorem nu{b:Int}{ms:List Int}(h1:1<=ms.length)(h5:ms.length<=5)(hm:∀m∈ms,0<=m/\m<=3)(hz:(0:Int)∈ms):cz (lW b ms):=by
 have mem:∀(i:Nat),i<ms.length->ms.getD i 0∈ms:=λi hi=>by
  rw[List.getD,WR hi];exact List.getElem_mem hi
 refine⟨by rw[gf];exact h1,by rw[gf];lia,λk hk=>?_,λk hk=>?_,?_,λi j k l hi hj e=>?_⟩
 .obtain⟨i,hi⟩:=Xi.mp hk;obtain⟨_,rfl⟩:=fj hi;exact vA _ _
 .obtain⟨i,hi⟩:=Xi.mp hk;obtain⟨h,rfl⟩:=fj hi;exact hm _ (mem i h)
 .obtain⟨i,hi⟩:=Xi.mp hz;have hl:=(glE hi);refine⟨(kl b (i:Int),ms.getD i 0),Xl.mpr ⟨i,YR.mpr hl,D?⟩,?_⟩;show ms.getD i 0=0;rw[List.getD,hi];rfl
 .obtain⟨a1,rfl⟩:=fj hi;obtain⟨a2,rfl⟩:=fj hj;exact ww (by lia) (by lia) e
inductive fY(vs:List V)(H:Hp)(Q:VK)(_E:XK):Prop
 |mk (b:Int) (ml:WS) (ms:List Int):vs=[.int b,.ref ml]->H ml=A? (.lst (ms.map q!))->ms.length<=5->(∀(r:WS)(as:List WS)(H':Hp),k! H H'->H' r=A? (.tup (as.map i!))->KsAt H' (lW b ms) as->Q (.ref r) H')->fY  vs H Q _E
theorem dD:aX P w K mg base CX0 1 T.g_45.f T.g_45.d ["script","k"] (eS K):=by
 refine T.g_45.F.okA ki λAi A outer s H vs Q E hr h=>?_;obtain⟨a,ns,k,rfl,hS,h0,q⟩:=h
 refine⟨_,(ad (cC (bz lQ (pv 1) (aC ay rfl T.n_5 XU (aa (pv 0) ab)) (bc _)) (af (ax (aY bv (pv 0) (pv 1) (λ_ _=>rfl)))) bU)
  (af (ax ai))),?_⟩
 try dsimp only[Aw,Ae]
 refine⟨_,D?,_,D?,a,_,D?,.inl hS,_,_,D?,D?,_,D?,?_⟩;refine cX (λc=>?_) (λc=>?_)
 .have c':k<(((ns.map q!).length:Nat):Int):=e! c;rw[WO]at c';exact⟨_,D?,_,D?,a,_,k,_,D?,D?,hS,int_at h0 c',q _⟩
 .exact q _
theorem gO:aX P w K mg base CX0 2 T.g_48.f T.g_48.d ["base","menu"] fY:=by
 refine T.g_48.F.okA mG λAi A outer s H vs Q E hr h=>?_;obtain⟨b,ml,ms,rfl,em,Ui,q⟩:=h;refine⟨_,(af (ax (bB bo rfl T.n_11 YA (aa (cD (N:=["n","base","menu"]) (js:=[B?,A? 0,A? 1]) (g:=(av 0)) (tt:=bL) (te:=(kg (aJ (dr eE [] E0 (aJ (bh 1) (aJ (bh 0) cN))) (aJ (tOp (xl K) (bh 2) (bh 0)) cN)))) rfl (cB rfl (by decide +kernel) (by decide +kernel) rfl rfl rfl) (bI rfl T.n_9 (aa (aC ay rfl T.n_5 XU (aa (pv 1) ab)) ab)) (λ_ _ _ _ _ _=>(pgN 0 aaH)) (aL rfl) (λ_ _ _ _ _ _=>bV) (λ_ _ _ _ _ _=>(aB (aa (pcF T.g_47 (oA T) hr (aa (pv 1) (aa (pv 0) ab))) (aa (aY bv (pv 2) (pv 0) (λ_ _=>rfl)) ab))))) ab)))),?_⟩
 try dsimp only[Aw,Ae]
 refine⟨_,D?,ml,_,D?,.inl (l! em),_,D?,by lia,by rw[WO];lia,gL (F:=KAt) (xs:=(XF ms.length).map λ(i:Nat)=>q! (0+(i:Int))) (lW b ms) (λH1 H2 z p kt h=>kt _ _ h) (by rw[gf,WO,Xj]) (by rw[WO,Xj];lia) (λi Hx sx hi=>by rw[WO,Xj]at hi;show i<(((ms.map q!).length:Nat):Int).toNat;rw[WO];lia) (λHx sx=>by show(((ms.map q!).length:Nat):Int).toNat<=((XF ms.length).map λ(i:Nat)=>q! (0+(i:Int))).length;rw[WO,WO,Xj];lia) (λi Hx x Hy sx hi hy=>⟨hy.1,?_⟩) (λi x z Hx R W' hx BW sx hR=>?_) (λD2 H2 as RU s2 Ij ET=>?_)⟩
 .rw[WO,Xj]at hi;rw[hy.2,WZ,XY hi];rfl
 .have hi:i<ms.length:=by
   have:=(glE hx);rw[WO,Xj]at this;exact this
  rw[WZ,XY hi]at hx;cases hx;obtain⟨_,rfl⟩:=fj BW;refine⟨_,D?,_,D?,b,_,D?,λH3 s3=>?_⟩;refine⟨_,D?,_,D?,ml,_,_,.int (ms.getD i 0),D?,D?,l! ((sx.trans s3) _ _ em),at_nonneg (by lia) (by rw[show(0+(i:Int)).toNat=i by lia,WZ,List.getD,WR hi];rfl),lnE rfl,λp hp=>?_⟩;refine hR _ p (s3.trans (ae hp _)) ?_;show(upd H3 p (.tup [.str (kl b (0+(i:Int))),.int (ms.getD i 0)])) p=A? (.tup [.str (kl b (i:Int)),.int (ms.getD i 0)]);rw[ac,Ym]
 refine⟨D2,_,D?,.inl ⟨l! Ij,λia Mq=>?_⟩⟩;have s3:=ae Mq (.tup (as.map i!));exact q ia as _ (s2.trans s3) ac (y! (λ_ _ e=>(j! s3) _ _ e) ET)
def fV:Nat->Sp
 |0=>λ_ _ _ _=>False
 |n+1=>λvs H Q _=>∃(c d:Int)(oa:WS)(Ay:List WS)(outs:List (Xk×Int))(S k:Int)(W:Nat),vs=[.int c,.int d,.ref oa,.int S,.int k]/\H oa=A? (.tup (Ay.map i!))/\KsAt H outs Ay/\cz outs/\1<=W/\(∀z∈outs,z.2<=(W:Int))/\0<=S/\S<=20/\0<=k/\k<=3/\0<=d/\d<=n/\d<=5/\∀(r:WS)(t:Th)(H':Hp),k! H H'->At H' t r->PB outs S k W d.toNat t->Q (.ref r) H'
theorem b8:∀n:Nat,aX P w K mg base CX0 (n+1) T.g_49.f T.g_49.d ["cell","deep","outs","states","kids"] (fV n)
 |0=>⟨λ_ _ _ _ h=>h.elim,λ_ _ _ _ _ _ _ _ _ _ _ _ _ h=>h.elim⟩
 | n+1=>by
   have ih:=b8 n;refine T.g_49.F.ok (k:=n+1) cE (λvs H Q E h=>?_) (λAi A outer s H vs Q E hr h=>?_)
   .obtain⟨c,d,oa,Ay,outs,S,kd,W,rfl,_⟩:=h;rfl
   obtain⟨c,d,oa,Ay,outs,S,kd,W,rfl,FO,B8,g,hW,EZ,S0,Mr,K5,Mt,d0,dn,d5,q⟩:=h
   refine⟨_,(ad (cC (PW.pt (aap (bz pf (aA ej (pv 3) (pv 4)) ai (bc _)) (yh (bz lQ (aA bP (pv 0) ai) ai (bc _))))) (af (ax (aB (aa g8 (aa (aA bP (aA cP (pv 0) ai) (pv 3)) (aa (aA bP (aA cP (aA cP (pv 0) ai) (pv 3)) (pv 4)) ab)))))) bU)
    (ad (dN (i:=5) (N:=["kind","deep"]) (js:=[B?,A? 1]) (g:=(av 0)) (tt:=(tOr (np (tOp (rEq) (tOp (zC K) (bh 0) (tC (.int 1))) (tC (.int 0)))) (np (tOp (rI0 λi j=>.bl (decide (j<i))) (bh 1) (tC (.int 0)))))) (te:=(bh 0)) cE.nd rfl (Or.inl rfl) rfl (cB rfl (by decide +kernel) (by decide +kernel) rfl rfl rfl) (ij (pv 2)) (λ_ _ _ _ _ _=>(pgN 0 aaX)) (aL rfl) (λ_ _ _ _ _ _=>gD (PW.pt (tH (bz f6 (aY bx (pv 0) ai (λ_ _=>rfl)) ai (bc _)) (oK (bz pf (pv 1) ai (bc _)))))) (λ_ _ _ _ _ _=>(pv 0)))
    (ad (aq 6 cE.nd (aY bv (pv 5) (aA bP (aA cP (pv 0) ai) (aC ay rfl T.n_5 XU (aa (pv 5) ab))) (λ_ _=>rfl)))
    (ad (dN (i:=7) (N:=["j","outs","states","kids","cell","deep"]) (js:=[B?,A? 2,A? 3,A? 4,A? 0,A? 1]) (g:=(av 0)) (tt:=bL) (te:=(dr (fV _) [] E0 (aJ (dr dB [] E0 (aJ (bh 4) (aJ (bh 0) cN))) (aJ (tOp (rI0 λi j=>.int (i - j)) (bh 5) (tC (.int 1))) (aJ (bh 1) (aJ (bh 2) (aJ (bh 3) cN))))))) cE.nd rfl (Or.inl rfl) rfl (cB rfl (by decide +kernel) (by decide +kernel) rfl rfl rfl) (bI rfl T.n_9 (aa (aY bx (pv 6) ai (λ_ _=>rfl)) ab)) (λ_ _ _ _ _ _=>(pgN 0 aaU)) (aL rfl) (λ_ _ _ _ _ _=>bV) (λ_ _ _ _ _ _=>(fM (ih) (hr.mono (WX _)) rfl T.g_49.m T.g_49.F.kp T.g_49.b .nil gN (aa (pcF T.g_46 (dk T) hr (aa (pv 4) (aa (pv 0) ab))) (aa (aA sI (pv 5) ai) (aa (pv 1) (aa (pv 2) (aa (pv 3) ab))))))))
    (af (ax (aA fD (aB (aa (aY bx (pv 6) ai (λ_ _=>rfl)) ab)) (bB bo rfl T.n_11 YA (aa (pv 7) ab))))))))),?_⟩
   try dsimp only[Aw,Ae]
   refine ce (λAa H'=>Aa=[A? (.int c),A? (.int d),A? (.ref oa),A? (.int S),A? (.int kd),B?,B?,B?]/\H=H') (λkk AM=>?_) ?_
   .refine cj (λb H'=>An2 (H=H') ((b=C?->0<S/\0<kd))) (λk2 Bq=>?_) (λH' hb=>?_) (λH' hb=>?_)
    .refine⟨_,D?,_,D?,_,_,D?,D?,.inl ⟨by lia,by lia⟩,_,_,D?,D?,_,D?,?_⟩;refine cX (λcc=>?_) (λcc=>Bq _ _ ⟨rfl,λz=>by cases z⟩);refine⟨_,D?,_,_,D?,D?,(by show(0:Int)<5;decide),_,_,D?,D?,_,D?,Bq _ _ ⟨D?,λ_=>?_⟩⟩;have h1:0<S * kd:=e! cc;have h2:S≠0:=λz=>by rw[z,Int.zero_mul]at h1;lia
     have h3:kd≠0:=λz=>by rw[z,Int.mul_zero]at h1;lia
     lia
    .obtain⟨rfl,hb⟩:=hb;obtain⟨K6,RV⟩:=hb rfl;have u0:=Yu (c / 5) (show S≠0 by lia);have u1:=Yx (c / 5) K6;have v0:=Yu (c / 5 / S) (show kd≠0 by lia);have v1:=Yx (c / 5 / S) RV;refine⟨_,D?,_,_,D?,D?,⟨by decide,by decide⟩,_,D?,_,_,D?,D?,K6,_,D?,_,_,D?,D?,⟨by decide,by decide⟩,_,D?,_,_,D?,D?,⟨K6,by lia⟩,_,D?,_,_,D?,D?,RV,lnE rfl,λr AL=>?_⟩;refine q r (.call (c / 5%S) (c / 5 / S%kd)) _ (ae AL _) (by rw[At];exact ac) (PB.call hW (by rw[r!];exact⟨u0,u1,v0,v1⟩))
    .obtain⟨rfl,_⟩:=hb;exact AM _ _ ⟨rfl,rfl⟩
   rintro Aa H' ⟨rfl,rfl⟩
   try dsimp only[av]
   have CQ:outs.length=Ay.length:=W4 B8;have VB:=g.le;obtain⟨kz,NU,P7⟩:=g.zero;refine⟨_,D?,oa,D?,⟨_,o! FO⟩,jR (K:=K) (λk=>decide (q! k.2=q! 0) ||decide (0<d)) FO B8 (by lia) (λz ka H2 R sm hz r=>?_) (λka H2 R r=>⟨_,D?,r⟩) (λD bs H2 hD e' hb1 VC Ao=>?_)⟩
   .refine⟨_,D?,ka,_,1,_,D?,D?,o! hz,at1,D?,_,D?,?_⟩;refine cX (λc=>?_) (λc=>?_)
    .rw[c]at r;exact r
    .rw[Yo.mpr c]at r;exact⟨_,D?,_,_,D?,D?,_,D?,r⟩
   have hb1:=hb1 ⟨kz,NU,by rw[P7];rfl⟩;have s2:k! H H2:=by rw[e'];exact ae hD _
   have eD:H2 D=A? (.lst (bs.map λz=>i! z.2)):=by rw[e'];exact ac
   clear e';have Fi:0<((bs.map λz=>i! z.2).length:Int):=by rw[WO];lia
   have y0:=Yu (c / 7) (show((bs.map λz=>i! z.2).length:Int)≠0 by lia);have y1:=Yx (c / 7) Fi;refine hid λZZ kZ=>?_;obtain⟨z,hz⟩:∃z,bs[(c / 7%((bs.map λz=>i! z.2).length:Int)).toNat]?=A? z:=⟨_,WR (by rw[WO]at y1 |-;lia)⟩;obtain⟨AE,gp,Fc⟩:=Ao z (WT hz);obtain⟨k0,ka⟩:=z;refine kZ ?_;dsimp only at AE gp Fc hz;have B5:=g.num k0 AE
   have RW:k0.2=0\/0<d:=by
    rcases Bool.or_eq_true .. |>.mp gp with h|h
    .exact .inl (V.int.inj (e! h))
    .exact .inr (e! h)
   try dsimp only[av]
   refine⟨_,D?,_,D?,_,_,D?,D?,⟨by decide,by decide⟩,_,D?,D,_,D?,.inl (l! eD),_,_,D?,D?,Fi,D,_,_,.ref ka,D?,D?,l! eD,at_nonneg y0 (gmE hz),?_⟩
   try dsimp only[av]
   have K7:=s2 _ _ Fc;refine⟨_,D?,ka,_,1,_,D?,D?,o! K7,at1,k0.2,D?,by lia,by lia,?_⟩;intro Dl FH;refine⟨k0.2.toNat,λj H4=>An3 (j<=k0.2.toNat) (k! H2 H4) (Ex2 λ(as:List WS)(ts:List Th)=>An4 (H4 Dl=A? (.lst (as.map i!))) (Ats H4 ts as) (ts.length=j) (∀t∈ts,PB outs S kd W (d.toNat - 1) t)),⟨Xh _,ae FH _,[],[],ac,.nil,D?,λt h=>by cases h⟩,?_⟩;rintro j H4 ⟨hj,s4,as,ts,Eo,Ci,AD,Ac⟩;have Bd:=Ci.length;by_cases Cf:j=k0.2.toNat
   .left;refine⟨(by show k0.2.toNat<=j;lia),?_⟩
    try dsimp only[av]
    refine⟨_,D?,ka,_,0,.str k0.1,D?,D?,o! (s4 _ _ K7),at0,lnE rfl,λma HF=>?_⟩;refine gU HF λH3 s3 e3=>?_;refine⟨_,D?,Dl,_,D?,.inl ⟨l! (s3 _ _ Eo),λtp CD=>?_⟩⟩;refine gU CD λH5 s5 e5=>?_;refine rP (s5 _ _ e3) e5 (by rw[WO];show 1+as.length<=1000000;lia) λp H6 s6 e6=>?_;have KS:=s3.trans (s5.trans s6);have hk:(k0.1,(ts.length:Int))=k0:=by rw[AD,Cf,Yc B5.1]
    refine q p (.knot k0.1 ts) H6 (s2.trans (s4.trans KS)) ?_ ?_
    .rw[At];exact⟨pk (g.low k0 AE).1,as,e6,Ci.mono (j! KS)⟩
    .rcases RW with h0|hd
     .have hn:ts=[]:=XZ.mp (by lia);subst hn;exact PB.leaf _ hW (by rw[<-h0];exact AE)
     .obtain⟨m,hm⟩:∃m,d.toNat=m+1:=⟨d.toNat - 1,by lia⟩;rw[hm,Nat.add_sub_cancel]at Ac;rw[hm];have:=EZ k0 AE;exact PB.over hW (by rw[hk];exact AE) (by lia) Ac
   .right;have Au:j<k0.2.toNat:=by lia
    have hd:0<d:=by rcases RW with h|h <;> lia
    refine⟨Au,(by show j<k0.2.toNat;exact Au),?_⟩;rintro x' H5 ⟨q1,q2⟩;have VD:H5=H4:=q1;subst VD;have VE:x'=q! (0+(j:Int)):=q2;subst VE;obtain⟨m,rfl⟩:∃m,n=m+1:=⟨n - 1,by lia⟩;refine⟨_,D?,_,D?,c,_,D?,λz _=>?_⟩;refine⟨_,D?,_,_,D?,D?,_,D?,_,D?,_,D?,z,d - 1,oa,Ay,outs,S,kd,W,D?,(s2.trans s4) _ _ FO,B8.mono (j! (s2.trans s4)),g,hW,EZ,S0,Mr,K5,Mt,by lia,by lia,by lia,λr t H6 s6 P8 Mu=>?_⟩;have RX:=s6 _ _ Eo;refine⟨_,RX,lbE (by lia),Au,am (s4.trans s6) FH,as++[r],ts++[t],uAE,?_,by rw[Xg,AD];rfl,λu hu=>?_⟩
    .have k7:KT H6 (upd H6 Dl (.lst (as.map i!++[.ref r]))):=aG RX;exact Ats.append (Ci.mono ((j! s6).trans k7)) (.cons (P8.mono k7) .nil)
    .rcases Xz.mp hu with hu|hu
     .exact Ac u hu
     .rw[Xc.mp hu];rw[show(d - 1).toNat=d.toNat - 1 by lia]at Mu;exact Mu
theorem wG{k:Int}{t:Th}(hW:1<=W)(h:PB outs S k W 0 t):∀{d:Nat},PB outs S k W d t
 |0=>h
 |_+1=>(wG hW h).up hW (Int.le_refl _) (Int.le_refl _)
theorem uk:∀{bs:List ((Xk×Int)×WS)},(∀z∈bs,KAt H z.1 z.2)->KsAt H (bs.map (·.1)) (bs.map (·.2))
 | [],_=>.nil
 |z::bs,h=>.cons (h z (Xd ..)) (uk λy hy=>h y (W8 _ hy))
inductive gz(vs:List V)(H:Hp)(Q:VK)(_E:XK):Prop
 |mk (e c d:Int) (oa:WS) (Ay:List WS) (outs:List (Xk×Int)) (S kd:Int) (W:Nat):vs=[.int e,.int c,.int d,.ref oa,.int S,.int kd]->H oa=A? (.tup (Ay.map i!))->KsAt H outs Ay->cz outs->1<=W->(∀z∈outs,z.2<=(W:Int))->0<=S->S<=20->0<=kd->kd<=3->0<=d->d<=2->(∀(r:WS)(t:Th)(H':Hp),k! H H'->At H' t r->PB outs S kd W (d.toNat+1) t->Q (.ref r) H')->gz  vs H Q _E
theorem ld:aX P w K mg base CX0 5 T.g_50.f T.g_50.d ["seed","cell","deep","outs","states","kids"] gz:=by
 refine T.g_50.F.okA cq λAi A outer s H vs Q E hr h=>?_;obtain⟨e,c,d,oa,Ay,outs,S,kd,W,rfl,FO,B8,g,hW,EZ,S0,Mr,K5,Mt,d0,d2,q⟩:=h
 refine⟨_,(ad (dN (i:=6) (N:=["kind","seed"]) (js:=[B?,A? 0]) (g:=(av 0)) (tt:=(tOr (np (tOp (rI0 λi j=>.bl (decide (j<i))) (tOp (zC K) (bh 0) (tC (.int 1))) (tC (.int 0)))) (np (tOp (rEq) (tOp (rI (λ_ j=>0<j) λi j=>.int (i%j)) (bh 1) (tC (.int 5))) (tC (.int 1)))))) (te:=(bh 0)) cq.nd rfl (Or.inl rfl) rfl (cB rfl (by decide +kernel) (by decide +kernel) rfl rfl rfl) (ij (pv 3)) (λ_ _ _ _ _ _=>(pgN 0 aa4)) (aL rfl) (λ_ _ _ _ _ _=>gD (PW.pt (tH (bz pf (aY bx (pv 0) ai (λ_ _=>rfl)) ai (bc _)) (oK (bz f6 (aA bP (pv 1) ai) ai (bc _)))))) (λ_ _ _ _ _ _=>(pv 0)))
  (ad (cC (PW.pt (tH (bz f6 (aA bP (pv 0) ai) ai (bc _)) (oK (bz (yT (B:=150) (gg hr)) (pv 6) (bw ab) (bc _))))) (af (ax (pcF T.g_49 (b8 T 3) hr (aa (pv 1) (aa (pv 2) (aa (pv 3) (aa (pv 4) (aa (pv 5) ab)))))))) bU)
  (ad (aq 7 cq.nd (aY bv (pv 6) (aA bP (aA cP (pv 0) ai) (aC ay rfl T.n_5 XU (aa (pv 6) ab))) (λ_ _=>rfl)))
  (ad (aq 8 cq.nd (bw ab))
  (ad (bH XE rfl (bI rfl T.n_9 (aa (aY bx (pv 7) ai (λ_ _=>rfl)) ab)) (pgN 9 cq.nd) (ad (aQ (bR Xf Xy Xx aN (pv 8) (aa (pcF T.g_49 (b8 T 3) hr (aa (pcF T.g_46 (dk T) hr (aa (pv 1) (aa (pv 9) ab))) (aa (pv 2) (aa (pv 3) (aa (pv 4) (aa (pv 5) ab)))))) ab)))
  (af (cC (bz f6 (aA bP (aA cP (pv 0) ai) ai) (pv 9) (bc _)) (af (eU (pcF T.g_49 (b8 T 3) hr (aa (pcF T.g_46 (dk T) hr (aa (pv 0) (aa (pv 9) ab))) (aa ai (aa (pv 3) (aa ai (aa ai ab)))))) (vZ (pv 8) (pv 9) set_list))) bU))))
  (af (ax (aA fD (aB (aa (aY bx (pv 7) ai (λ_ _=>rfl)) ab)) (bB bo rfl T.n_11 YA (aa (pv 8) ab)))))))))),?_⟩
 try dsimp only[Aw,Ae]
 have CQ:outs.length=Ay.length:=W4 B8;have VB:=g.le;refine⟨_,D?,oa,D?,⟨_,o! FO⟩,jR (K:=K) (λk=>decide (0<k.2) ||decide (q! (e%5)=q! 1)) FO B8 (by lia) (λz ka H2 R sm hz r=>?_) (λka H2 R r=>⟨_,D?,r⟩) (λD bs H2 hD e' _ VC Ao=>?_)⟩
 .refine⟨_,D?,ka,_,1,_,D?,D?,o! hz,at1,_,_,D?,D?,_,D?,?_⟩;refine cX (λc=>?_) (λc=>?_)
  .rw[c]at r;exact r
  .rw[Yo.mpr c]at r;exact⟨_,D?,_,_,D?,D?,(by show(0:Int)<5;decide),D?,_,D?,r⟩
 have s2:k! H H2:=by rw[e'];exact ae hD _
 have eD:H2 D=A? (.lst (bs.map λz=>i! z.2)):=by rw[e'];exact ac
 clear e'
 try dsimp only[av]
 refine ce (λAa H3=>Aa=[A? (.int e),A? (.int c),A? (.int d),A? (.ref oa),A? (.int S),A? (.int kd),A? (.ref D),B?,B?,B?]/\k! H2 H3/\bs≠[]) (λkk AM=>?_) ?_
 .refine cj (λb H3=>An2 (k! H2 H3) ((b=CU->bs≠[]))) (λk2 Bq=>?_) (λH3 hb=>?_) (λH3 hb=>?_)
  .refine⟨_,D?,_,_,D?,D?,(by show(0:Int)<3;decide),D?,_,D?,?_⟩;refine cX (λcc=>Bq _ _ ⟨.refl _,λz=>by cases z⟩) (λcc=>?_);refine⟨_,D?,lnE rfl,λnl OH=>?_⟩;refine gU OH λH3 s3 e3=>?_;have CS:=uk (H:=H3) (bs:=bs) λz hz=>(j! (s2.trans s3)) _ _ (Ao z hz).2.2;have RY:=sJ CS;rw[show(bs.map (·.2)).map i!=bs.map λz=>i! z.2 by rw[YM];rfl]at RY;refine⟨D,nl,_,_,_,[],D?,D?,l! (s3 _ _ eD),l! e3,RY,.nil,Xw (iQ _) (by decide),λb hb=>⟨_,D?,Bq _ _ ⟨s3,λhf hn=>?_⟩⟩⟩;rw[hf]at hb;exact W5 (hb.mpr (by rw[hn];rfl))
  .obtain⟨s3,_⟩:=hb;have DY:=s2.trans s3;refine⟨_,D?,_,D?,_,D?,_,D?,_,D?,c,d,oa,Ay,outs,S,kd,W,D?,DY _ _ FO,B8.mono (j! DY),g,hW,EZ,S0,Mr,K5,Mt,d0,d2,by lia,λr t H4 s4 O7 VF=>?_⟩;exact q r t H4 (DY.trans s4) O7 (VF.up hW (Int.le_refl _) (Int.le_refl _))
  .obtain⟨s3,hb⟩:=hb;exact AM _ _ ⟨rfl,s3,hb rfl⟩
 rintro Aa H3 ⟨rfl,s3,Ap⟩;have hb1:=List.length_pos_iff.mpr Ap
 have Fi:0<((bs.map λz=>i! z.2).length:Int):=by
  rw[WO];lia
 have y0:=Yu (e / 3) (show((bs.map λz=>i! z.2).length:Int)≠0 by lia);have y1:=Yx (e / 3) Fi;refine hid λZZ kZ=>?_;obtain⟨z,hz⟩:∃z,bs[(e / 3%((bs.map λz=>i! z.2).length:Int)).toNat]?=A? z:=⟨_,WR (by rw[WO]at y1 |-;lia)⟩;obtain⟨AE,_,Fc⟩:=Ao z (WT hz);obtain⟨k0,ka⟩:=z;refine kZ ?_;dsimp only at AE Fc hz;have B5:=g.num k0 AE;have DY:=s2.trans s3;have RZ:=s3 _ _ eD;have K8:=DY _ _ Fc;refine⟨_,D?,_,D?,_,_,D?,D?,⟨by decide,by decide⟩,_,D?,D,_,D?,.inl (l! RZ),_,_,D?,D?,Fi,D,_,_,.ref ka,D?,D?,l! RZ,at_nonneg y0 (gmE hz),?_⟩
 try dsimp only[av]
 refine⟨lnE rfl,λpl AR=>?_⟩;refine gU AR λH4 s4 e4=>?_;have e4:H4 pl=A? (.lst (([]:List WS).map i!)):=e4
 try dsimp only[av]
 refine⟨_,D?,ka,_,1,_,D?,D?,o! (s4 _ _ K8),at1,k0.2,D?,by lia,by lia,?_⟩
 refine dW (n:=k0.2.toNat) (λj Y H5=>Ex3 λ(jv:Option V)(as:List WS)(ts:List Th)=>An6 (Y=[A? (.int e),A? (.int c),A? (.int d),A? (.ref oa),A? (.int S),A? (.int kd),A? (.ref D),A? (.ref ka),A? (.ref pl),jv]) (k! H3 H5) (H5 pl=A? (.lst (as.map i!))) (Ats H5 ts as) (ts.length=j) (∀t∈ts,PB outs S kd W d.toNat t))
  ⟨B?,[],[],rfl,s4,e4,.nil,rfl,λt h=>by cases h⟩ ?_ ?_
 .rintro j Y H5 hj ⟨jv,as,ts,rfl,s5,e5,Ci,AD,Ac⟩;have Au:j<k0.2.toNat:=hj;have Bd:=Ci.length;have Il:=DY.trans s5
  try dsimp only[av]
  refine ce (λAa H6=>Ex2 λ(as:List WS)(ts:List Th)=>An6 (Aa=[A? (.int e),A? (.int c),A? (.int d),A? (.ref oa),A? (.int S),A? (.int kd),A? (.ref D),A? (.ref ka),A? (.ref pl),A? (.int (0+(j:Int)))]) (k! H3 H6) (H6 pl=A? (.lst (as.map i!))) (Ats H6 ts as) (ts.length=j+1) (∀t∈ts,PB outs S kd W d.toNat t)) (λkk AM=>?_) ?_
  .refine⟨_,D?,.inl ⟨D?,_,l! e5⟩,_,D?,_,D?,c,_,D?,λz _=>?_⟩;refine⟨_,D?,_,D?,_,D?,_,D?,z,d,oa,Ay,outs,S,kd,W,D?,Il _ _ FO,B8.mono (j! Il),g,hW,EZ,S0,Mr,K5,Mt,d0,d2,by lia,λr t H6 s6 P8 Mu=>?_⟩;have e6:=s6 _ _ e5;refine⟨pl,_,_,D?,D?,e6,lbE (by lia),?_⟩;have k7:KT H6 (upd H6 pl (.lst (as.map i!++[.ref r]))):=aG e6;refine AM _ _ ⟨as++[r],ts++[t],rfl,am (s5.trans s6) AR,uAE,Ats.append (Ci.mono ((j! s6).trans k7)) (.cons (P8.mono k7) .nil),by rw[Xg,AD];rfl,λu hu=>?_⟩;rcases Xz.mp hu with hu|hu
   .exact Ac u hu
   .rw[Xc.mp hu];exact Mu
  rintro Aa H6 ⟨as,ts,rfl,s6,e6,Ci,AD,Ac⟩;have Bd:=Ci.length;have Mm:=DY.trans s6;refine cj (λb H7=>H6=H7) (λk2 Bq=>?_) (λH7 hb=>?_) (λH7 hb=>?_)
  .exact⟨_,D?,_,_,D?,D?,⟨by decide,by decide⟩,_,_,D?,D?,(by show(0:Int)<3;decide),_,D?,D?,_,D?,Bq _ _ rfl⟩
  .subst hb;refine⟨_,D?,_,D?,e,_,D?,λz _=>?_⟩;refine⟨_,D?,z,0,oa,Ay,outs,0,0,W,D?,Mm _ _ FO,B8.mono (j! Mm),g,hW,EZ,by decide,by decide,by decide,by decide,by decide,by decide,by decide,λr t H7 s7 PR P6=>?_⟩;have e7:=s7 _ _ e6;refine⟨_,D?,_,D?,pl,_,_,j,D?,D?,e7,?_,?_⟩
   .unfold ixN;rw[b! (by lia),b! (by rw[WO];lia)];simp
   .have k8:KT H7 (upd H7 pl (.lst ((as.map i!).set j (.ref r)))):=aG e7;refine⟨_,as.set j r,ts.set j t,D?,am (s6.trans s7) AR,by rw[ac,List.map_set],?_,by rw[List.length_set];exact AD,λu hu=>?_⟩
    .exact Ats.set j (Ci.mono ((j! s7).trans k8)) (PR.mono k8)
    .rcases List.mem_or_eq_of_mem_set hu with hu|rfl
     .exact Ac u hu
     .refine wG hW ?_;exact P6.wide S0 K5
  .subst hb;exact⟨_,as,ts,D?,s6,e6,Ci,AD,Ac⟩
 .rintro Y H5 ⟨jv,as,ts,rfl,s5,e5,Ci,AD,Ac⟩;have Bd:=Ci.length
  try dsimp only[av]
  refine⟨_,D?,ka,_,0,.str k0.1,D?,D?,o! (s5 _ _ K8),at0,lnE rfl,λma HF=>?_⟩;refine gU HF λH6 s6 e6=>?_;refine⟨_,D?,pl,_,D?,.inl ⟨l! (s6 _ _ e5),λtp CD=>?_⟩⟩;refine gU CD λH7 s7 e7=>?_;refine rP (s7 _ _ e6) e7 (by rw[WO];show 1+as.length<=1000000;lia) λp H8 s8 e8=>?_;have Dw:=s6.trans (s7.trans s8);have hk:(k0.1,(ts.length:Int))=k0:=by rw[AD,Yc B5.1]
  have:=EZ k0 AE;refine q p (.knot k0.1 ts) H8 (DY.trans (s5.trans Dw)) ?_ (PB.over hW (by rw[hk];exact AE) (by lia) Ac);rw[At];exact⟨pk (g.low k0 AE).1,as,e8,Ci.mono (j! Dw)⟩
inductive gR(K:WQ)(vs:List V)(H:Hp)(Q:VK)(_E:XK):Prop
 |mk (a:WS) (ns:List Int) (M:Nat):vs=[.ref a,.int (M:Nat)]->SqL K H a (ns.map q!)->ns.length<=63->1<=M->M<=100->(∀(r:WS)(ds:List Int)(H':Hp),k! H H'->H' r=A? (.lst (ds.map q!))->ds.length=M->Q (.ref r) H')->gR K vs H Q _E
theorem mx:aX P w K mg base CX0 1 T.g_51.f T.g_51.d ["script","many"] (gR K):=by
 refine T.g_51.F.okA dj λAi A outer s H vs Q E hr h=>?_;obtain⟨a,ns,M,rfl,hS,Cp,K9,R1,q⟩:=h
 refine⟨_,(ad (dN (i:=2) (N:=["k"]) (js:=[B?]) (g:=(av 0)) (tt:=bL) (te:=(tOp (rI0 λi j=>.int (i+j)) (tC (.int 11)) (tOp (rI CMul λi j=>.int (i * j)) (tC (.int 5)) (bh 0)))) dj.nd rfl (Or.inl rfl) rfl (cB rfl (by decide +kernel) (by decide +kernel) rfl rfl rfl) (bI rfl T.n_9 (aa (pv 1) ab)) (λ_ _ _ _ _ _=>(pgN 0 abb)) (aL rfl) (λ_ _ _ _ _ _=>bV) (λ_ _ _ _ _ _=>(aA cZ ai (aA ej ai (pv 0)))))
  (ad (bH XE rfl (uE rfl T.n_9 (aa ai (aa (aC ay rfl T.n_5 XU (aa (pv 0) ab)) ab))) (pgN 3 dj.nd) (ad (aq 4 dj.nd (aA ej (aY bv (pv 0) (pv 3) (λ_ _=>rfl)) (aA cZ ai (aA cP (pv 3) (pv 1)))))
  (af (eU (aA cZ (aY bv (pv 2) (aA bP (pv 3) (pv 1)) (λ_ _=>rfl)) (pv 4)) (vZ (pv 2) (aA bP (pv 3) (pv 1)) set_list)))))
  (af (ax (pv 2))))),?_⟩
 try dsimp only[Aw,Ae]
 refine⟨_,D?,(M:Int),D?,by lia,by lia,xN (xs:=(XF M).map λ(i:Nat)=>q! (0+(i:Int))) ((XF M).map λ(i:Nat)=>11+5 * (i:Int)) q! (by rw[WO,WO]) (by rw[WO,Xj];lia) (λi Hx sx hi=>by rw[WO,Xj]at hi;show i<((M:Nat):Int).toNat;lia) (λHx sx=>by rw[WO,Xj];show((M:Nat):Int).toNat<=M;lia) (λi Hx x Hy sx hi hy=>⟨hy.1,?_⟩) (λi x z Hx R W' hx hz sx hR=>?_) (λcl H1 Br s1 EX=>?_)⟩
 .rw[WO,Xj]at hi;rw[hy.2,WZ,XY hi];rfl
 .have hi:i<M:=by
   have:=(glE hz);rw[WO,Xj]at this;exact this
  rw[WZ,XY hi]at hx hz;cases hx;cases hz;refine⟨_,D?,_,_,D?,D?,.inl ⟨by decide,by decide⟩,_,_,D?,D?,?_⟩;rw[Ym];exact hR _ (.refl _)
 try dsimp only[av]
 have K6:=s1.seq hS;refine⟨_,D?,a,_,D?,.inl K6,2,_,D?,⟨by decide,by decide,by lia,by rw[WO];lia⟩,?_⟩
 refine dW (lo:=2) (n:=((((ns.map q!).length:Nat):Int) - 2).toNat) (λi Y H2=>Ex3 λ(kv mv:Option V)(ds:List Int)=>An4 (Y=[A? (.ref a),A? (.int (M:Nat)),A? (.ref cl),kv,mv]) (k! H H2) (H2 cl=A? (.lst (ds.map q!))) (ds.length=M))
  ⟨B?,B?,_,rfl,s1,EX,by rw[WO,Xj]⟩ ?_ ?_
 .rintro i Y H2 hi ⟨kv,mv,ds,rfl,s2,e2,Fd⟩
  have AY:2+i<ns.length:=by
   have h1:i<((((ns.map q!).length:Nat):Int) - 2).toNat:=hi;rw[WO]at h1;lia
  have Gr:(0:Int)<(M:Nat):=by lia
  have y0:=Yu (2+(i:Int)) (show((M:Nat):Int)≠0 by lia);have y1:=Yx (2+(i:Int)) Gr;have w0:=Int.ediv_nonneg (show 0<=2+(i:Int)by lia) (Int.le_of_lt Gr);have w1:(2+(i:Int)) / (M:Nat)<=2+(i:Int):=Int.ediv_le_self _ (by lia);refine hid λZZ kZ=>?_;obtain⟨ix,Ki⟩:∃ix:Nat,(2+(i:Int))%(M:Nat)=(ix:Int):=⟨_,(Yc y0).symm⟩;obtain⟨c,hc⟩:∃c,ds[ix]?=A? c:=⟨_,WR (by lia)⟩;obtain⟨x,hx⟩:∃x,ns[2+i]?=A? x:=⟨_,WR AY⟩;refine kZ ?_;have D9:=s2.seq hS;refine⟨_,D?,_,D?,a,_,_,.int x,D?,D?,D9,at_nonneg (by lia) (by rw[show(2+(i:Int)).toNat=2+i by lia,WZ,hx];rfl),?_⟩;refine⟨_,D?,_,D?,_,_,D?,D?,⟨Gr,by lia⟩,_,_,D?,D?,_,_,D?,D?,.inr ⟨by lia,by lia⟩,?_⟩
  try dsimp only[av]
  refine⟨_,D?,_,D?,_,D?,_,_,D?,D?,Gr,cl,_,_,.int c,D?,D?,l! e2,at_nonneg y0 (by rw[Ki,Xu,WZ,hc];rfl),?_⟩;refine⟨_,D?,_,_,D?,D?,?_⟩;refine⟨_,D?,_,D?,_,D?,_,_,D?,D?,Gr,cl,_,_,ix,D?,D?,e2,?_,?_⟩
  .rw[Ki];unfold ixN;rw[b! (by lia),b! (by rw[WO];lia)];simp
  .refine⟨_,_,ds.set ix (c+x * (1+(2+(i:Int)) / (M:Nat))),D?,am s2 Br,?_,by rw[List.length_set];exact Fd⟩;rw[ac,List.map_set]
 .rintro Y H2 ⟨kv,mv,ds,rfl,s2,e2,Fd⟩;exact⟨_,D?,q cl ds H2 s2 e2 Fd⟩
def tK:List (List Int):=[[0,1],[0,2],[0,0,2],[0,1,2],[1,0],[2,0,0],[0,1,1],[0,3]]
def uo:List (List Int):=[[0,2],[0,1,2],[0,0,2],[2,0,1,0],[0,0,1],[0,0,0],[0,1],[0,3,1]]
def tQ(z:List Int):Prop:=1<=z.length/\z.length<=5/\(∀m∈z,0<=m/\m<=3)/\(0:Int)∈z
theorem pZ:∀z∈tK,tQ z:=by unfold tQ tK;decide
theorem qF:∀z∈uo,tQ z:=by unfold tQ uo;decide
inductive iB(K:WQ)(vs:List V)(H:Hp)(Q:VK)(_E:XK):Prop
 |mk (a:WS) (ns:List Int):vs=[.ref a]->SqL K H a (ns.map q!)->ns.length<=63->(∀(b ia oa ha ra:WS)(Ak Ay AS:List WS)(ins outs:List (Xk×Int))(W D:Nat)(head:Th)(rows:List (List Th))(H':Hp),k! H H'->BookAt H' ins outs head rows b ia oa ha ra Ak Ay AS->Drw ins outs W D head rows->Q (.ref b) H')->iB K vs H Q _E
theorem oZ:aX P w K mg base CX0 6 T.g_52.f T.g_52.d ["script"] (iB K):=by
 refine T.g_52.F.okA aD λAi A outer s H vs Q E hr h=>?_;obtain⟨a,ns,rfl,hS,Cp,q⟩:=h
 refine⟨_,(@ad _ _ _ _ _ (aq 1 aD.nd (pcF T.g_45 (dD T) hr (aa (pv 0) (aa ai ab))))
  (@ad _ _ _ _ _ (@nK _ 2 _ _ _ _ _ _ _ [([(0,_,_),(1,_,_)],_),([(0,_,_),(2,_,_)],_),([(0,_,_),(0,_,_),(2,_,_)],_),([(0,_,_),(1,_,_),(2,_,_)],_),([(1,_,_),(0,_,_)],_),([(2,_,_),(0,_,_),(0,_,_)],_),([(0,_,_),(1,_,_),(1,_,_)],_),([(0,_,_),(3,_,_)],_)] aD.nd rfl (Or.inl rfl) (Or.inl rfl) (aA bP (pv 1) ai) (λ_ _=>rfl))
  (@ad _ _ _ _ _ (aq 3 aD.nd (pcF T.g_48 (gO T) hr (aa (aA cP (pv 1) ai) (aa (pv 2) ab))))
  (@ad _ _ _ _ _ (@nK _ 2 _ _ _ _ _ _ _ [([(0,_,_),(2,_,_)],_),([(0,_,_),(1,_,_),(2,_,_)],_),([(0,_,_),(0,_,_),(2,_,_)],_),([(2,_,_),(0,_,_),(1,_,_),(0,_,_)],_),([(0,_,_),(0,_,_),(1,_,_)],_),([(0,_,_),(0,_,_),(0,_,_)],_),([(0,_,_),(1,_,_)],_),([(0,_,_),(3,_,_),(1,_,_)],_)] aD.nd rfl (Or.inl rfl) (Or.inl rfl) (aA bP (aA cP (pv 1) ai) ai) (λ_ _=>rfl))
  (@ad _ _ _ _ _ (aq 4 aD.nd (pcF T.g_48 (gO T) hr (aa (aA cP (pv 1) ai) (aa (pv 2) ab))))
  (@ad _ _ _ _ _ (aq 5 aD.nd (aA cZ ai (aA bP (pcF T.g_45 (dD T) hr (aa (pv 0) (aa ai ab))) ai)))
  (@ad _ _ _ _ _ (cC (bz f6 (aA bP (pcF T.g_45 (dD T) hr (aa (pv 0) (aa ai ab))) ai) ai (bc _)) (af (aq 5 aD.nd ai)) bU)
  (@ad _ _ _ _ _ (cC (bz f6 (aC (nz rfl) rfl T.n_7 PyProof.Rows.boot_max (aa (pv 2) ab)) ai (bc _)) (af (aq 5 aD.nd (aC (uZ rfl) rfl T.n_8 PyProof.Rows.boot_min (aa (pv 5) (aa ai ab))))) bU)
  (@ad _ _ _ _ _ (aq 6 aD.nd (aA cZ ai (bB uQ rfl T.n_3 PyProof.Rows.boot_int (aa (gA (dg lQ (pv 5) ai (bc _)) (jr (dg lQ (aC (nz rfl) rfl T.n_7 PyProof.Rows.boot_max (aa (pv 2) ab)) ai (bc _)))) ab))))
  (@ad _ _ _ _ _ (aq 7 aD.nd (pcF T.g_51 (mx T) hr (aa (pv 0) (aa (aA cZ ai (aA ej (pv 5) (aC ay rfl T.n_5 XU (aa (pv 3) ab)))) ab))))
  (@ad _ _ _ _ _ (aq 8 aD.nd (bw ab))
  (@ad _ _ _ _ _ (bH XE rfl (bI rfl T.n_9 (aa (pv 5) ab)) (pgN 9 aD.nd) (ad (aq 10 aD.nd (pcF T.g_46 (dk T) hr (aa (aY bv (pv 7) (aA cZ ai (aA ej (pv 9) (aC ay rfl T.n_5 XU (aa (pv 3) ab)))) (λ_ _=>rfl)) (aa ai ab))))
  (ad (aq 11 aD.nd (bw ab))
  (ad (bH XE rfl (bI rfl T.n_9 (aa (aC ay rfl T.n_5 XU (aa (pv 3) ab)) ab)) (pgN 12 aD.nd) (af (aQ (bR Xf Xy Xx aN (pv 11) (aa (pcF T.g_50 (ld T) hr (aa (pv 10) (aa (aY bv (pv 7) (aA cZ (aA cZ ai (aA ej (pv 9) (aC ay rfl T.n_5 XU (aa (pv 3) ab)))) (pv 12)) (λ_ _=>rfl)) (aa (pv 6) (aa (pv 4) (aa (pv 5) (aa (aY bx (aY bx (pv 3) (pv 12) (λ_ _=>rfl)) ai (λ_ _=>rfl)) ab))))))) ab)))))
  (af (aQ (bR Xf Xy Xx aN (pv 8) (aa (bB bo rfl T.n_11 YA (aa (pv 11) ab)) ab))))))))
  (@af _ _ _ (ax (aB (aa (pv 3) (aa (pv 4) (aa (pcF T.g_49 (b8 T 3) hr (aa (aY bv (pv 7) ai (λ_ _=>rfl)) (aa (pv 6) (aa (pv 4) (aa (pv 5) (aa ai ab)))))) (aa (bB bo rfl T.n_11 YA (aa (pv 8) ab)) ab))))))))))))))))))),?_⟩
 try dsimp only[Aw,Ae]
 refine⟨_,D?,a,ns,0,D?,hS,by decide,λc=>?_⟩;dsimp only[av];refine jQ (zs:=tK) (λz hz=>by have:=(pZ z hz).2.1;lia) (by decide) λD as H1 s1 eD hp=>?_;have y0:=Yu c (show(8:Int)≠0 by decide);have y1:=Yx c (show(0:Int)<8 by decide);refine hid λZZ kZ=>?_;obtain⟨zA,R4⟩:∃z,tK[(c%8).toNat]?=A? z:=⟨_,WR (by show(c%8).toNat<8;lia)⟩;obtain⟨mA,VG,VH⟩:=F! hp R4;obtain⟨a1,a2,a3,a4⟩:=pZ zA (WT R4);refine kZ ?_;refine⟨_,D?,_,_,D?,D?,(by show(0:Int)<8;decide),D,_,_,.ref mA,D?,D?,l! eD,at_nonneg y0 (gmE VG),?_⟩;dsimp only[av];refine⟨_,D?,_,_,D?,D?,⟨by decide,by decide⟩,_,D?,_,mA,zA,D?,VH,a2,λia Ak H2 s2 VI Mq=>?_⟩;dsimp only[av];refine jQ (zs:=uo) (λz hz=>by have:=(qF z hz).2.1;lia) (by decide) λD2 as2 H3 s3 Ij BL=>?_;have x0:=Yu (c / 8) (show(8:Int)≠0 by decide);have x1:=Yx (c / 8) (show(0:Int)<8 by decide);refine hid λZZ kZ=>?_;obtain⟨zB,R5⟩:∃z,uo[(c / 8%8).toNat]?=A? z:=⟨_,WR (by show(c / 8%8).toNat<8;lia)⟩;obtain⟨mB,VJ,R6⟩:=F! BL R5;obtain⟨b1,b2,b3,b4⟩:=qF zB (WT R5);refine kZ ?_;refine⟨_,D?,_,_,D?,D?,⟨by decide,by decide⟩,_,_,D?,D?,(by show(0:Int)<8;decide),D2,_,_,.ref mB,D?,D?,l! Ij,at_nonneg x0 (gmE VJ),?_⟩;dsimp only[av];refine⟨_,D?,_,_,D?,D?,⟨by decide,by decide⟩,_,D?,_,mB,zB,D?,R6,b2,λoa Ay H4 s4 E6 R7=>?_⟩;dsimp only[av];have Mv:=s1.trans (s2.trans (s3.trans s4));have gi:cz (lW (c / 64) zA):=nu a1 a2 a3 a4;have go:cz (lW (c / 6656) zB):=nu b1 b2 b3 b4;have R8:=s3.trans s4;have K':=R8 _ _ VI;have La:=Mq.mono (j! R8);have Lb:=s4 _ _ R6;have hiL:Ak.length=zA.length:=by have:=W4 Mq;rw[gf]at this;exact this.symm
 refine⟨_,D?,a,ns,1,D?,Mv.seq hS,by decide,λc1=>?_⟩;have n0:=Yu c1 (show(5:Int)≠0 by decide);have n1:=Yx c1 (show(0:Int)<5 by decide);refine⟨_,_,D?,D?,(by show(0:Int)<5;decide),_,_,D?,D?,?_⟩;dsimp only[av];refine ce (λAa H'=>An2 (H4=H') (Ex1 λ(N:Nat)=>An2 (N<=5) (Aa=[A? (.ref a),A? (.int c),A? (.ref mB),A? (.ref ia),A? (.ref oa),A? (.int (N:Nat)),B?,B?,B?,B?,B?,B?,B?]))) (λkk AM=>?_) ?_
 .refine cj (λb H'=>H4=H') (λk2 Bq=>?_) (λH' hb=>?_) (λH' hb=>?_)
  .exact⟨_,D?,a,ns,1,D?,Mv.seq hS,by decide,λc2=>⟨_,_,D?,D?,(by show(0:Int)<11;decide),D?,_,D?,Bq _ _ rfl⟩⟩
  .subst hb;exact AM _ _ ⟨rfl,0,by decide,rfl⟩
  .subst hb;exact AM _ _ ⟨rfl,(1+c1%5).toNat,by lia,by rw[Yc (by lia)];rfl⟩
 rintro Aa H' ⟨rfl,N,Lc,rfl⟩;have R9:∀M:Int,M∈zB->(∀x∈zB,x<=M)->(M=3↔(3:Int)∈zB):=λM h1 h2=>⟨λh=>by rw[<-h];exact h1,λh=>by have:=h2 3 h;have:=(b3 M h1).2;lia⟩;have Ld:zB≠[]:=λz=>by rw[z]at b1;simp at b1
 refine ce (λAa H'=>An2 (H4=H') (Ex1 λ(N:Nat)=>An3 (N<=5) (((3:Int)∈zB->N<=2)) (Aa=[A? (.ref a),A? (.int c),A? (.ref mB),A? (.ref ia),A? (.ref oa),A? (.int (N:Nat)),B?,B?,B?,B?,B?,B?,B?]))) (λkk AM=>?_) ?_
 .refine cj (λb H'=>An2 (H4=H') ((b=C?↔(3:Int)∈zB))) (λk2 Bq=>?_) (λH' hb=>?_) (λH' hb=>?_)
  .refine⟨_,D?,mB,zB,D?,l! Lb,Ld,λM K9 Le=>⟨D?,_,D?,Bq _ _ ⟨D?,?_⟩⟩⟩;rw[<-R9 M K9 Le];exact⟨λh=>V.int.inj (e! h),λh=>d! (by rw[h])⟩
  .obtain⟨rfl,hb⟩:=hb;refine⟨_,D?,_,_,D?,?_⟩;dsimp only[av];by_cases h2:(2:Int)<(N:Nat)
   .rw[b! h2];exact AM _ _ ⟨rfl,2,by decide,λ_=>by decide,rfl⟩
   .rw[a! h2];exact AM _ _ ⟨rfl,N,Lc,λ_=>by lia,rfl⟩
  .obtain⟨rfl,hb⟩:=hb;exact AM _ _ ⟨rfl,N,Lc,λh=>g! (hb.mpr h) W5,rfl⟩
 clear Lc;rintro Aa H' ⟨rfl,N,Lc,VL,rfl⟩;refine ce (λAa H'=>An2 (H4=H') (Ex1 λ(dp:Nat)=>An2 ((dp=2/\N<3/\(3:Int)∉zB\/dp=1)) (Aa=[A? (.ref a),A? (.int c),A? (.ref mB),A? (.ref ia),A? (.ref oa),A? (.int (N:Nat)),A? (.int (dp:Nat)),B?,B?,B?,B?,B?,B?]))) (λkk AM=>?_) ?_
 .refine⟨_,D?,_,_,D?,D?,_,D?,?_⟩;refine cX (λcc=>?_) (λcc=>?_)
  .have cc':((N:Nat):Int)<3:=e! cc;refine⟨_,D?,mB,zB,D?,l! Lb,Ld,λM K9 Le=>⟨_,_,D?,D?,.inr ⟨_,D?,_,_,D?,D?,?_⟩⟩⟩;dsimp only[av];have hM:=R9 M K9 Le;have hM3:=(b3 M K9).2;by_cases h3:M<3
   .exact AM _ _ ⟨rfl,2,.inl ⟨rfl,by lia,λz=>by have:=hM.mpr z;lia⟩,by rw[b! (d! h3)];rfl⟩
   .exact AM _ _ ⟨rfl,1,.inr rfl,by rw[a! (λz=>h3 (e! z))];rfl⟩
  .refine .inr ⟨_,rfl,_,_,rfl,rfl,?_⟩;dsimp only[av];exact AM _ _ ⟨rfl,1,.inr rfl,rfl⟩
 rintro Aa H' ⟨rfl,dp,Sa,rfl⟩;generalize P9:lW (c / 64) zA=ins at gi La;generalize Lf:lW (c / 6656) zB=outs at go R7;have C6:ins.length=zA.length:=by rw[<-P9,gf]
 refine hid λZZ kZ=>?_
 obtain⟨W,Mw,EZ,GU⟩:∃W:Nat,1<=W/\(∀z∈outs,z.2<=(W:Int))/\(dp+1<=3/\W ^ (dp+1)<=9/\szB W (dp+1)<=15/\N * W ^ (dp+1)<=20):=by
  have hz:∀z∈outs,z.2∈zB:=λz hz=>by
   rw[<-Lf]at hz;obtain⟨i,hi⟩:=Xi.mp hz;obtain⟨h1,rfl⟩:=fj hi;show zB.getD i 0∈zB;rw[List.getD,WR h1];exact List.getElem_mem h1
  by_cases h3:(3:Int)∈zB
  .have hn:=VL h3;rcases Sa with⟨_,_,h⟩|rfl
   .exact g! h3 h
   .exact⟨3,by decide,λz h=>(b3 _ (hz z h)).2,by decide,by decide,by decide,by show N * 9<=20;lia⟩
  .have h2:∀z∈outs,z.2<=((2:Nat):Int):=λz h=>by
    have h5:=hz z h;have h6:=(b3 _ h5).2;have h7:z.2≠3:=λe=>h3 (by rw[<-e];exact h5);lia
   rcases Sa with⟨rfl,hn,_⟩|rfl
   .exact⟨2,by decide,h2,by decide,by decide,by decide,by show N * 8<=20;lia⟩
   .exact⟨2,by decide,h2,by decide,by decide,by decide,by show N * 4<=20;lia⟩
 refine kZ ?_;have VM:1<=dp/\dp<=2:=by lia
 have hNL:N * Ak.length<=5 * 5:=Nat.mul_le_mul Lc (show Ak.length<=5 by lia);refine⟨_,D?,_,D?,_,D?,ia,_,D?,.inr (o! K'),_,_,D?,D?,.inl ⟨by lia,by lia⟩,_,_,D?,D?,a,ns,1+N * Ak.length,?_,Mv.seq hS,Cp,by lia,by lia,λcl cs H5 s5 EX Br=>?_⟩
 .rw[WO,Int.natCast_add,Int.natCast_mul];rfl
 dsimp only[av];refine⟨lnE rfl,λrl CC=>?_⟩;refine gU CC λH6 s6 e6=>?_;have e6:H6 rl=A? (.lst (([]:List WS).map i!)):=e6;dsimp only[av];have Il:=Mv.trans s5;have EG:=s5 _ _ K';have Lg:=La.mono (j! s5);have HM:=s5 _ _ E6;have HN:=R7.mono (j! s5)
 have VN:∀i:Nat,i<N->1+i * Ak.length+Ak.length<=cs.length:=λi hi=>by
  have h1:(i+1) * Ak.length<=N * Ak.length:=YQ _ hi;rw[Nat.succ_mul]at h1;lia
 refine⟨_,D?,(N:Int),D?,by lia,by lia,?_⟩
 refine dW (n:=((N:Nat):Int).toNat) (λi Y H7=>Ex6 λ(sv ev rv jv:Option V)(bs:List WS)(rows:List (List Th))=>An6 (Y=[A? (.ref a),A? (.int c),A? (.ref mB),A? (.ref ia),A? (.ref oa),A? (.int (N:Nat)),A? (.int (dp:Nat)),A? (.ref cl),A? (.ref rl),sv,ev,rv,jv]) (k! H5 H7) (H7 rl=A? (.lst (bs.map i!))) (Xs (RowAt H7) rows bs) (rows.length=i) (∀row∈rows,row.length=ins.length/\∀(j:Nat)(p:Th)(k:Xk×Int),row[j]?=A? p->ins[j]?=A? k->PB outs (N:Nat) k.2 W (dp+1) p))
  ⟨B?,B?,B?,B?,[],[],rfl,s6,e6,.nil,rfl,λrow h=>by cases h⟩ ?_ ?_
 .rintro i Y H7 hi ⟨sv,ev,rv,jv,bs,rows,rfl,s7,e7,Ao,DT,CF⟩
  have AY:i<N:=by
   have h1:i<((N:Nat):Int).toNat:=hi;lia
  have Bg:rows.length=bs.length:=W4 Ao;have hci:=VN i AY;obtain⟨x,hx⟩:∃x,cs[1+i * Ak.length]?=A? x:=⟨_,WR (by lia)⟩;have s57:=s7
  have hsz:(1:Int)+(0+(i:Int)) * (((Ak.map i!).length:Nat):Int)=((1+i * Ak.length:Nat):Int):=by
   rw[Ym,WO,Int.natCast_add,Int.natCast_mul];rfl
  refine⟨_,D?,_,D?,_,D?,ia,_,D?,.inr (o! (s7 _ _ EG)),_,_,D?,D?,.inl ⟨by lia,by lia⟩,_,_,D?,D?,cl,_,_,.int x,D?,D?,l! (s7 _ _ EX),by rw[hsz];exact at_nonneg (by lia) (by rw[Xu,WZ,hx];rfl),x,77,D?,λsd _=>?_⟩;dsimp only[av];refine⟨lnE rfl,λwl D7=>?_⟩;refine gU D7 λH8 s8 e8=>?_;have e8:H8 wl=A? (.lst (([]:List WS).map i!)):=e8;dsimp only[av];have Dw:=s7.trans s8;refine⟨_,D?,ia,_,D?,.inr (o! (Dw _ _ EG)),_,D?,by lia,by rw[WO];lia,?_⟩
  refine dW (n:=(((Ak.map i!).length:Nat):Int).toNat) (λj Y H9=>Ex3 λ(jv:Option V)(as:List WS)(ts:List Th)=>An6 (Y=[A? (.ref a),A? (.int c),A? (.ref mB),A? (.ref ia),A? (.ref oa),A? (.int (N:Nat)),A? (.int (dp:Nat)),A? (.ref cl),A? (.ref rl),A? (.int (0+(i:Int))),A? (.int sd),A? (.ref wl),jv]) (k! H7 H9) (H9 wl=A? (.lst (as.map i!))) (Ats H9 ts as) (ts.length=j) (∀(j':Nat)(p:Th)(k:Xk×Int),ts[j']?=A? p->ins[j']?=A? k->PB outs (N:Nat) k.2 W (dp+1) p))
   ⟨jv,[],[],rfl,s8,e8,.nil,rfl,λj p k h=>by simp at h⟩ ?_ ?_
  .rintro j Y H9 hj ⟨jv,as,ts,rfl,s9,e9,Ci,AD,Ac⟩
   have Au:j<Ak.length:=by
    have h1:j<(((Ak.map i!).length:Nat):Int).toNat:=hj;rw[WO]at h1;lia
   have Bd:=Ci.length;refine hid λZZ kZ=>?_;obtain⟨y,hy⟩:∃y,cs[1+i * Ak.length+j]?=A? y:=⟨_,WR (by lia)⟩;obtain⟨k0,Cd⟩:∃k0,ins[j]?=A? k0:=⟨_,WR (by lia)⟩;have DX:=s7.trans s9;obtain⟨ka,De,Fc⟩:=F! (Lg.mono (j! DX)) Cd;refine kZ ?_;have B5:=gi.num k0 (WT Cd)
   have Cz:(1:Int)+(0+(i:Int)) * (((Ak.map i!).length:Nat):Int)+(0+(j:Int))=((1+i * Ak.length+j:Nat):Int):=by
    rw[hsz,Ym,Int.natCast_add (1+i * Ak.length)]
   refine⟨_,D?,.inl ⟨D?,_,l! e9⟩,_,D?,_,D?,_,D?,_,D?,ia,_,D?,.inr (o! (DX _ _ EG)),_,_,D?,D?,.inl ⟨by lia,by lia⟩,_,_,D?,D?,_,D?,_,_,D?,D?,cl,_,_,.int y,D?,D?,l! (DX _ _ EX),by rw[Cz];exact at_nonneg (by lia) (by rw[Xu,WZ,hy];rfl),?_⟩;refine⟨_,D?,_,D?,_,D?,_,D?,_,D?,ia,_,_,.ref ka,D?,D?,o! (DX _ _ EG),at_nonneg (by lia) (by rw[show(0+(j:Int)).toNat=j by lia,WZ,De];rfl),ka,_,1,.int k0.2,D?,D?,o! Fc,at1,?_⟩;refine⟨sd,y,(dp:Nat),oa,Ay,outs,(N:Nat),k0.2,W,D?,DX _ _ HM,HN.mono (j! DX),go,Mw,EZ,by lia,by lia,B5.1,B5.2,by lia,by lia,λr t HA sA VO VP=>?_⟩;have eA:=sA _ _ e9;refine⟨wl,_,_,D?,D?,eA,lbE (by lia),?_⟩;have k7:KT HA (upd HA wl (.lst (as.map i!++[.ref r]))):=aG eA;refine⟨_,as++[r],ts++[t],D?,am (s9.trans sA) D7,uAE,Ats.append (Ci.mono ((j! sA).trans k7)) (.cons (VO.mono k7) .nil),by rw[Xg,AD];rfl,λj' p k hp hk=>?_⟩;rcases Nat.lt_or_ge j' ts.length with Ah|GY
   .rw[Yi Ah]at hp;exact Ac j' p k hp hk
   .rw[YS GY]at hp
    have h0:j' - ts.length=0:=by
     have:=(glE hp);rw[List.length_singleton]at this;lia
    rw[h0]at hp;cases hp;rw[show j'=j by lia,Cd]at hk;cases hk;exact VP
  .rintro Y H9 ⟨jv,as,ts,rfl,s9,e9,Ci,AD,Ac⟩
   have BI:ts.length=ins.length:=by
    have h1:ts.length=(((Ak.map i!).length:Nat):Int).toNat:=AD;rw[WO]at h1;lia
   have Sb:=s9 _ _ e7;refine⟨_,D?,.inl ⟨D?,_,l! Sb⟩,_,D?,wl,_,D?,.inl ⟨l! e9,λtp CD=>?_⟩⟩;refine gU CD λHA sA eA=>?_;have Sd:=sA _ _ Sb;refine⟨rl,_,_,D?,D?,Sd,lbE (by lia),?_⟩;have kB:KT HA (upd HA rl (.lst (bs.map i!++[.ref tp]))):=aG Sd;refine⟨_,_,_,_,bs++[tp],rows++[ts],D?,am (s7.trans (s9.trans sA)) CC,uAE,?_,by rw[Xg,DT];rfl,λrow hr=>?_⟩
   .exact t! (y! (λ_ _ e=>RowAt.mono ((j! (s9.trans sA)).trans kB) e) Ao) (.cons ⟨as,kB _ _ eA,Ci.mono ((j! sA).trans kB)⟩ .nil)
   .rcases Xz.mp hr with hr|hr
    .exact CF row hr
    .rw[Xc.mp hr];exact⟨BI,Ac⟩
 rintro Y H7 ⟨sv,ev,rv,jv,bs,rows,rfl,s7,e7,Ao,DT,CF⟩;rw[Xu]at DT;have Bg:rows.length=bs.length:=W4 Ao;obtain⟨x,hx⟩:∃x,cs[0]?=A? x:=⟨_,WR (by lia)⟩;refine⟨_,D?,_,D?,_,D?,cl,_,0,.int x,D?,D?,l! (s7 _ _ EX),at_nonneg (by decide) (by show(cs.map q!)[0]?=_;rw[WZ,hx];rfl),?_⟩;refine⟨_,D?,_,D?,_,D?,x,(dp:Nat),oa,Ay,outs,(N:Nat),1,W,D?,s7 _ _ HM,HN.mono (j! s7),go,Mw,EZ,by lia,by lia,by decide,by decide,by lia,(by show((dp:Nat):Int)<=2;lia),by lia,λha t H8 s8 VQ Se=>?_⟩;refine⟨_,D?,rl,_,D?,.inl ⟨l! (s8 _ _ e7),λtp CD=>?_⟩⟩;refine gU CD λH9 s9 e9=>?_;refine⟨lnE rfl,λb hb=>?_⟩;have sA:=ae hb (.tup [.ref ia,.ref oa,.ref ha,.ref tp]);have Lh:=s7.trans (s8.trans (s9.trans sA));have VR:=j! (s8.trans (s9.trans sA));refine q b ia oa ha tp Ak Ay bs ins outs W (dp+1) t rows _ (Il.trans Lh) ⟨ac,Lh _ _ EG,Lg.mono (j! Lh),Lh _ _ HM,HN.mono (j! Lh),VQ.mono (j! (s9.trans sA)),sA _ _ e9,y! (λ_ _ e=>RowAt.mono VR e) Ao⟩ ?_;rw[Xu]at Se;refine⟨gi,go,Mw,?_,?_,by lia,by rw[DT];exact GU⟩
 .rw[DT];exact Se.up Mw (Int.le_refl _) (Int.le_refl _)
 .rw[DT];exact CF
structure vN(K:WQ)(H:Hp)(ins:List (Xk×Int))(head:Th)(rows:List (List Th))(b ia oa ha ra:WS)(Ak AS:List WS):Prop where
 bk:H b=A? (.tup [.ref ia,.ref oa,.ref ha,.ref ra])
 inE:H ia=A? (.tup (Ak.map i!))
 inK:KsAt H ins Ak
 hd:AtK .i K H head ha
 rl:H ra=A? (.tup (AS.map i!))
 rw:Xs (RowK K H) rows AS
theorem vI(h:BookAt H ins outs head rows b ia oa ha ra Ak Ay AS):vN K H ins head rows b ia oa ha ra Ak AS :=
 ⟨h.bk,h.inE,h.inK,h.hd.k,h.rl,y! (λ_ _ e=>let⟨as,h1,h2⟩:=e;⟨as,h1,h2.k⟩) h.rw⟩
theorem i3(F:FrB ins outs rows)(hD:FrD ins rows (f'.map (·.1))){s:Nat}{row:List Th}(Af:rows[s]?=A? row)(hp:p∈row) :
 ((frS ins rows s).cut (Dk f' (s:Nat)) []).lies (p.fill λl _=>(frS ins rows l.toNat).cut (Dk f' ((l.toNat:Nat):Int)) [])=true:=by
 have hs:=(glE Af);obtain⟨j,hj⟩:=Xi.mp hp;obtain⟨CC,AU⟩:=F.fit.row row (WT Af);obtain⟨k0,Cd⟩:∃k0,ins[j]?=A? k0:=⟨_,WR (by have:=(glE hj);lia)⟩;have VS:=AU j p k0 hj Cd;obtain⟨z1,z2,z3⟩:=lc F hs;have Sf:=jA _ _ (WX _) z3
 have Gv:∀(m:Nat),m<rows.length->(frS ins rows m).lies (mkF ins rows (m:Nat))=C?/\∀AJ,rows[m]?=A? AJ->∀p'∈AJ,(frS ins rows m).lies (p'.fill λl _=>mkF ins rows l)=true:=λm hm=>by
  obtain⟨y1,y2,y3⟩:=lc F hm;have h0:=jA _ _ (WX _) y3;obtain⟨g1,g2⟩:=qj (frS ins rows m) ((rows[m]?).getD []) (mkF ins rows (m:Nat)) h0;refine⟨g1,λAJ AL p' AZ=>g2 p' (by rw[AL];exact AZ)⟩
 have:=lE (f0:=λl=>frS ins rows l.toNat) (D:=λl=>Dk f' ((l.toNat:Nat):Int)) (mk:=mkF ins rows) (s:=(s:Nat)) (pat:=p) (λc hc=>?_) _ (frS ins rows s) p [] (WX _) (λx hx=>hx) (λc hc=>hc) z3 ((Gv s hs).2 row Af p hp)
 .exact this
 .obtain⟨c0,c1,_⟩:=gJ p [] VS c hc;have P':c.2.1.toNat<rows.length:=by lia
  have CV:((c.2.1.toNat:Nat):Int)=c.2.1:=Yc c0;have hl:=(Gv _ P').1;rw[CV]at hl;refine⟨hl,(lc F P').2.2,λr u hu hh=>lX.mpr (hD.hol _ P' (r,u) hu hh),λr u hd hu=>?_⟩;have BF:(c.1++r,u)∈(frS ins rows s).pl []:=hu;obtain⟨v,VT,VU⟩:=p7 _ (u:=u) (WX _) BF;have hk:=lX.mp hd;rw[CV]at hk;exact lX.mpr (hD.cl s row Af p hp c hc v VT (r,u) VU hk)
theorem kF{D:Nat}(h:Drw ins outs W D head rows):FrB ins outs rows:=⟨h.gi,h.fit,Xw h.le (by decide),λrow hr p hp=>by
 obtain⟨C,_,hb⟩:=h.pat hr hp;have l:=h.lim;have h1:=hb.sz;have h2:=hb.tall;lia⟩
theorem f7{D:Nat}(h:Drw ins outs W D head rows)(f':List (au×V)){s:Nat}(hs:s<rows.length):(fZ ins rows f' s).noCall/\(fZ ins rows f' s).lf<=W ^ D/\(fZ ins rows f' s).size<=15/\(fZ ins rows f' s).tall<=4:=by
 refine hid λZZ kZ=>?_;obtain⟨row,p,hr,hp,e,_⟩:=(kF h).mkd (l:=(s:Nat)) (by lia) (by lia);obtain⟨C,_,hb⟩:=h.pat (WT hr) (WT hp);refine kZ ?_;have l:=h.lim;have h1:=hb.sz;have h2:=hb.tall;have h3:=hb.lf;rw[<-e]at h1 h2 h3;have h4:=iJ (mkF ins rows) (mkF ins rows (s:Nat)) ((rows[s]?).getD []);have h5:=wA (mkF ins rows) ((rows[s]?).getD []) (mkF ins rows (s:Nat));have h6:=xn (Dk f' (s:Nat)) (frS ins rows s) [];have h7:=qL (Dk f' (s:Nat)) _ (frS ins rows s) [] (WX _);unfold fZ;unfold frS at h6 h7 |-;exact⟨h6.2.2,by lia,by lia,by lia⟩
theorem zn{D:Nat}(h:Drw ins outs W D head rows)(hD:FrD ins rows (f'.map (·.1))):EaOk ins outs (fZ ins rows f') head rows :=
 ⟨h.gi,h.fit,h.hd.fit,λs hs=>by
  refine hid λZZ kZ=>?_;obtain⟨h1,_,h3,h4⟩:=f7 h f' hs;refine kZ ?_;exact⟨h1,by lia,by lia⟩,λs row p hr hp=>i3 (kF h) hD hr hp,h.small (λs hs=>f7 h f' hs) h.hd,λrow hr p hp=>by
  obtain⟨C,_,hb⟩:=h.pat hr hp;exact h.small (λs hs=>f7 h f' hs) hb,h.many λs hs=>(f7 h f' hs).2.1⟩
mutual
def Th.Fo(outs:List (Xk×Int)):Th->Prop
 |.knot n ks=>(n=star/\ks=[])\/((n,(ks.length:Int))∈outs/\n≠star/\Fos outs ks)
 |.call _ _=>False
def Fos(outs:List (Xk×Int)):List Th->Prop
 | []=>True
 |t::ts=>Th.Fo outs t/\Fos outs ts
end
theorem n9:∀{ts:List Th}{t:Th},Fos outs ts->t∈ts->Th.Fo outs t
 | [],t,_,h=>(Z7 h).elim
 | u::ts,t,h,hm=>by
   rw[Fos]at h;rcases W7.mp hm with rfl|hm
   .exact h.1
   .exact n9 h.2 hm
theorem o8:∀{ts:List Th},(∀t∈ts,Th.Fo outs t)->Fos outs ts
 | [],_=>by rw[Fos];trivial
 |t::ts,h=>by rw[Fos];exact⟨h t (Xd ..),o8 λu hu=>h u (W8 _ hu)⟩
theorem tu(outs:List (Xk×Int)):Th.Fo outs hole:=by rw[hole,Th.Fo];exact .inl ⟨rfl,rfl⟩
theorem wI(g:cz outs):∀(n:Nat)(t:Th),t.size<=n->t.FitS outs S 0->Th.Fo outs t
 |0,t,h,_=>by have:=t.size_pos;lia
 |n+1,.call a b,_,h=>by rw[r!]at h;lia
 | n+1,.knot m ks,hn,h=>by
   rw[r!]at h;rw[p!]at hn;rw[Th.Fo];exact .inr ⟨h.1,l6 (g.low _ h.1).1,o8 λt ht=>wI g n t (by have:=aU ht;lia) (i7 h.2 t ht)⟩
theorem vV:∀(n:Nat)(l r:Th),l.size<=n->Th.Fo outs l->Th.Fo outs (l.com r)
 |0,l,_,h,_=>by have:=l.size_pos;lia
 | n+1,l,r,hn,h=>by
   rw[ii];by_cases hs:az l r=C?
   .rw[b! hs];obtain⟨m,ks,us,rfl,rfl,hl,hh⟩:=bp hs;rw[Th.Fo]at h;rw[p!]at hn;rcases h with⟨h1,h2⟩|⟨h1,h2,h3⟩
    .rw[A!,d! ⟨h1,h2⟩]at hh;cases hh
    .show Th.Fo outs (.knot m ((ks.zip us).map λp=>p.1.com p.2));rw[Th.Fo];refine .inr ⟨by rw[WO,List.length_zip,<-hl,Nat.min_self];exact h1,h2,o8 λt ht=>?_⟩;obtain⟨p,hp,rfl⟩:=Xl.mp ht;have hm:=(ZM hp).1;exact vV n p.1 p.2 (by have:=aU hm;lia) (n9 h3 hm)
   .rw[a! hs];exact tu _
theorem vG(mk:Int->Th):∀(row:List Th)(m:Th),Th.Fo outs m->Th.Fo outs (frF mk m row)
 | [],m,h=>h
 |p::row,m,h=>vG mk row _ (vV _ m _ (WX _) h)
theorem wR(D:List Int->Bool):∀(n:Nat)(t:Th)(pre:List Int),t.size<=n->Th.Fo outs t->Th.Fo outs (t.cut D pre)
 |0,t,_,h,_=>by have:=t.size_pos;lia
 |n+1,.call a b,_,_,h=>by rw[Th.Fo]at h;exact h.elim
 | n+1,.knot m ks,pre,hn,h=>by
   rw[Th.cut];by_cases hc:(n! m ks).isHole=C?\/D pre=C?
   .rw[b! hc];exact tu _
   .rw[a! hc];rw[Th.Fo]at h;rw[p!]at hn;rcases h with⟨h1,h2⟩|⟨h1,h2,h3⟩
    .exact g! (.inl (by rw[A!];exact d! ⟨h1,h2⟩)) hc
    .rw[Th.Fo];refine .inr ⟨by rw[cS];exact h1,h2,o8 λt ht=>?_⟩;obtain⟨j,hj⟩:=Xi.mp ht;rw[gr,XD]at hj;obtain⟨u,hu,rfl⟩:=hj;have hm:=WT hu;exact wR D n u _ (by have:=aU hm;lia) (n9 h3 hm)
mutual
theorem xF{g:Nat->Th}(hg:∀j,j<B->(g j).FitS outs S C):∀(f:Th)(i:Nat),Th.Fo outs f->i+f.nh<=B->(f.hg g i).FitS outs S C
 |.call a b,i,h,_=>by rw[Th.Fo]at h;exact h.elim
 | .knot n ks,i,h,hi=>by
   rw[Th.nh]at hi;rw[Th.hg];by_cases hh:(n! n ks).isHole=C?
   .rw[b! hh]at hi |-;exact hg i (by lia)
   .rw[a! hh]at hi |-;rw[Th.Fo]at h;rcases h with⟨h1,h2⟩|⟨h1,h2,h3⟩
    .exact g! (by rw[A!];exact d! ⟨h1,h2⟩) hh
    .rw[r!,iS];exact⟨h1,uj hg ks i h3 hi⟩
theorem uj{g:Nat->Th}(hg:∀j,j<B->(g j).FitS outs S C):∀(ts:List Th)(i:Nat),Fos outs ts->i+nhs ts<=B->FitSs outs S C (hgs g ts i)
 | [],i,_,_=>by rw[hgs,FitSs];trivial
 | t::ts,i,h,hi=>by
   rw[Fos]at h;rw[nhs]at hi;rw[hgs,FitSs];exact⟨xF hg t i h.1 (by lia),uj hg ts _ h.2 (by lia)⟩
end
theorem uh:∀(pl:List Int){t u:Th},t.FitS outs S C->t.sub pl=A? u->u.FitS outs S C
 | [],t,u,h,e=>by rw[eN]at e;cases e;exact h
 | i::r,t,u,h,e=>by
   rw[Th.sub]at e;by_cases h0:0<=i
   .rw[b! h0]at e;cases hk:t.kids[i.toNat]? with
    |none=>rw[hk]at e;cases e
    | some v =>
      rw[hk]at e;cases t with
      |call a b=>cases hk
      | knot n ks =>
        rw[r!]at h;exact uh r (FitSs.mem' h.2 v (WT hk)) e
   .rw[a! h0]at e;cases e
section
variable{F:Nat->Th}
theorem sX(J:EaOk ins outs F head rows)(hF:∀s,s<rows.length->Th.Fo outs (F s))(hp:p.FitS outs (rows.length:Nat) C):(eaP F p).FitS outs (1000 * (rows.length:Nat)) C:=by
 refine pH (hgF F) (λs c h0 h1 h2 h3=>?_) p hp;have hs:s.toNat<rows.length:=by lia
 have hn:=J.nh hs;refine xF (B:=(F s.toNat).nh) (λj hj=>?_) _ 0 (hF _ hs) (by lia);rw[r!];unfold enc;lia
theorem uu(J:EaOk ins outs F head rows)(hF:∀s,s<rows.length->Th.Fo outs (F s))(hM:M=aV (eaR F rows) (eaP F head)):(ren (idx M) (eaP F head)).FitS outs (M.length:Nat) 1 :=
 n6 _ (sX J hF J.hd) (wm J hM)
theorem tq(J:EaOk ins outs F head rows)(hF:∀s,s<rows.length->Th.Fo outs (F s))(hM:M=aV (eaR F rows) (eaP F head)){AJ:List Th}(AL:AJ∈eaB F rows M):AJ.length=ins.length/\∀(j:Nat)(p':Th)(kd:Xk×Int),AJ[j]?=A? p'->ins[j]?=A? kd->(p'.size<=600/\p'.tall<=38)/\p'.FitS outs ((eaB F rows M).length:Nat) kd.2:=by
 unfold eaB at AL;refine hid λZZ kZ=>?_;obtain⟨x,hx,rfl⟩:=Xl.mp AL;have Bi:=oV J hM x hx;obtain⟨row,hr,er,hl,_⟩:=J.row Bi;refine kZ ?_;have eR:eaR F rows x=row.map (eaU F x):=by unfold eaR;rw[er]
 refine⟨by rw[eR,WO,WO,hl],λj p' kd AZ hk=>?_⟩;have Af:=tE J hM x hx;rw[eR]at AZ Af;rw[WZ,WZ,Option.map_map,XD]at AZ;refine hid λZZ kZ=>?_;obtain⟨p,hp,rfl⟩:=AZ;have Sg:=WT hp;have hf:=(J.fit.row row (WT hr)).2 j p kd hp hk;obtain⟨pl,_,_,hs,DQ⟩:=J.at Bi hr Sg;obtain⟨r1,r2⟩:=gq (idx M) (eaU F x p);refine kZ ?_;refine⟨⟨by show(ren (idx M) (eaU F x p)).size<=600;rw[r1];exact DQ.size,by show(ren (idx M) (eaU F x p)).tall<=38;rw[r2];have:=DQ.tall;lia⟩,?_⟩;rw[ko J hM];exact n6 _ (uh pl (sX J hF hf) hs) λy hy=>Af y (List.mem_flatMap.mpr ⟨_,Xl.mpr ⟨p,Sg,rfl⟩,hy⟩)
end
theorem qZ:∀{pl:List Int}{t u:Th},t.sub pl=A? u->u.size<=t.size
 | [],t,u,h=>by rw[eN]at h;cases h;exact WX _
 | i::r,t,u,h=>by
   refine hid λZZ kZ=>?_;obtain⟨_,w,hw,h⟩:=oX h;refine kZ ?_;have h1:=qZ h;have h2:=aU (WT hw)
   have h3:ak t.kids<=t.size:=by
    cases t with
    |call a b=>exact Xh _
    |knot n ks=>rw[p!];show ak ks<=_;lia
   lia
section
variable{D:Nat}{F:Nat->Th}
theorem oG(h:Drw ins outs W D head rows)(hF:F=fZ ins rows f')(J:EaOk ins outs F head rows)(Dq:∀s,s<rows.length->Th.Fo outs (F s))(hM:M=aV (eaR F rows) (eaP F head)):FrB ins outs (eaB F rows M) :=
 ⟨h.gi,⟨rfl,λrow hr=>⟨(tq J Dq hM hr).1,λj p k hp hk=>((tq J Dq hM hr).2 j p k hp hk).2⟩⟩,by rw[ko J hM,hM];exact J.len,λAJ AL p' AZ=>by
  unfold eaB at AL;refine hid λZZ kZ=>?_;obtain⟨x,hx,rfl⟩:=Xl.mp AL;obtain⟨t,ht,rfl⟩:=Xl.mp AZ;have Bi:=oV J hM x hx;have DQ:=(J.small Bi).2 t ht;obtain⟨row,hr,er,_,_⟩:=J.row Bi;refine kZ ?_;unfold eaR at ht;rw[er]at ht;refine hid λZZ kZ=>?_;obtain⟨p,hp,rfl⟩:=Xl.mp ht;obtain⟨pl,_,_,hs,_⟩:=J.at Bi hr hp;obtain⟨C,_,hb⟩:=h.pat (WT hr) hp;have h1:=h.size (F:=F) (λs hs=>by rw[hF];exact(f7 h f' hs).2.2.1) hb;have h2:=qZ hs;have h3:=DQ.tall;obtain⟨r1,r2⟩:=gq (idx M) (eaU F x p);refine kZ ?_;lia⟩
theorem ja(h:Drw ins outs W D head rows)(hF:F=fZ ins rows f')(hK:qN ins rows f')(J:EaOk ins outs F head rows)(Dq:∀s,s<rows.length->Th.Fo outs (F s))(hM:M=aV (eaR F rows) (eaP F head)){AQ:List (au×V)}(hD:FrD ins (eaB F rows M) (AQ.map (·.1))):∀i,i<M.length->fZ ins (eaB F rows M) AQ i=hole:=λi hi =>
 vx J hM (kF h) hK (λs=>by rw[hF];rfl) ⟨λs row p hr hp=>i3 (oG h hF J Dq hM) hD hr hp⟩ hi
theorem xm(h:Drw ins outs W D head rows)(hF:F=fZ ins rows f')(hK:qN ins rows f')(J:EaOk ins outs F head rows)(Dq:∀s,s<rows.length->Th.Fo outs (F s))(hM:M=aV (eaR F rows) (eaP F head)){AQ:List (au×V)}(hD:FrD ins (eaB F rows M) (AQ.map (·.1))):EaOk ins outs (fZ ins (eaB F rows M) AQ) (ren (idx M) (eaP F head)) (eaB F rows M):=by
 have hB:=oG h hF J Dq hM;have hG:=ja h hF hK J Dq hM hD;have hl:=ko J hM;have Li:=uu J Dq hM;have hz:(n! star []).size=1:=by rw[p!,ak]
 have hn:hole.nh=1:=by
  show(n! star []).nh=1;rw[Th.nh,b! (show(n! star []).isHole=C? from bS)]
 refine⟨h.gi,hB.fit,by rw[hl];exact Li,λs hs=>?_,λs row p hr hp=>?_,?_,λrow hr p hp=>?_,?_⟩
 .rw[hG s (by lia)];refine⟨?_,?_,?_⟩
  .show(n! star []).noCall;rw[w!,aK];trivial
  .show(n! star []).size<=200;lia
  .show(n! star []).tall<=100;rw[u!,aI];decide
 .rw[hG s (by have:=(glE hr);lia)];exact dX _
 .rw[iC hG Li];exact(J.smH.ren _).ren _
 .refine hid λZZ kZ=>?_;obtain⟨CC,AU⟩:=hB.fit.row row hr;obtain⟨j,hj⟩:=Xi.mp hp;obtain⟨kd,Dc⟩:∃kd,ins[j]?=A? kd:=⟨_,WR (by have:=(glE hj);lia)⟩;refine kZ ?_;have hf:=AU j p kd hj Dc;rw[hl]at hf;rw[iC hG hf];unfold eaB at hr;obtain⟨x,hx,rfl⟩:=Xl.mp hr;obtain⟨t,ht,rfl⟩:=Xl.mp hp;exact(((J.small (oV J hM x hx)).2 t ht).ren _).ren _
 .have e:((XF (eaB F rows M).length).map λs=>(fZ ins (eaB F rows M) AQ s).nh)=(XF (eaB F rows M).length).map λ_=>1:=Zd λs hs=>by
   rw[hG s (by have:=YR.mp hs;lia),hn]
  have e2:∀l:List Nat,(l.map λ_=>1).sum=l.length:=λl=>by
   induction l with
   |nil=>rfl
   |cons x l ih=>rw[Xr,List.sum_cons,ih,W2];lia
  rw[e,e2,Xj,hl,hM];exact J.len
end
inductive rG(K:WQ)(tp:WS)(vs:List V)(H:Hp)(Q:VK)(_E:XK):Prop
 |mk (a:WS) (ns:List Int):vs=[.ref a]->SqL K H a (ns.map q!)->ns.length<=63->H tp=A? (.tbl #[])->(∀H',Q (.bl C?) H')->rG K tp vs H Q _E
def rj(rows:List (List Th)):List Dv:=rows.map λts=>.tup (dvs ts)
theorem qJ:∀{rows:List (List Th)}{as:List WS},Xs (RowK K H) rows as->DAtsK K H (rj rows) (as.map i!)
 |_,_,.nil=>.nil
 |_,_,.cons ⟨as,e,h⟩ t=>.cons (by rw[DAtK];exact⟨_,_,D?,.inl e,h.dvs⟩) (qJ t)
theorem li:∀{rows:List (List Th)},(∀row∈rows,∀p∈row,p.size<=600/\p.tall<=38)->bA (rj rows)<=39
 | [],_=>Xh _
 | row::rows,h=>by
   have h1:=jP (B:=600) (C:=38) row λu hu=>h row (Xd ..) u hu;have h2:=li (rows:=rows) λr hr=>h r (W8 _ hr);show max (bA (dvs row)+1) (bA (rj rows))<=39;lia
def vC(ins outs:List (Xk×Int))(head:Th)(rows:List (List Th)):List Dv:=[.tup (ins.map kDv),.tup (outs.map kDv),head.dv,.tup (rj rows)]
theorem qG(h:vN K H ins head rows b ia oa ha ra Ak AS)(eo:H oa=A? (.tup (Ay.map i!)))(ho:KsAt H outs Ay):DAtsK K H (vC ins outs head rows) [.ref ia,.ref oa,.ref ha,.ref ra] :=
 .cons (by rw[DAtK];exact⟨_,_,D?,.inl h.inE,(sJ h.inK).k⟩) (.cons (by rw[DAtK];exact⟨_,_,D?,.inl eo,(sJ ho).k⟩) (.cons h.hd.dv (.cons (by rw[DAtK];exact⟨_,_,D?,.inl h.rl,qJ h.rw⟩) .nil)))
theorem ph:∀{l:List Nat}{fs:List WS},Xs (λ(_:Nat)a=>AtK .i K H hole a) l fs->DAtsK K H (XN l.length hole.dv) (fs.map i!)
 |_,_,.nil=>.nil
 |_,_,.cons h t=>.cons h.dv (ph t)
theorem wt{d:Dv}(h:DAtK K H d v):∀n:Nat,DAtsK K H (XN n d) (XN n v)
 |0=>.nil
 |n+1=>.cons h (wt h n)
theorem aau(L:Lam mg base T.g_44.tc T.g_44.tp):aX P w K mg base CX0 50 T.g_53.f T.g_53.d ["script"] (rG K T.g_44.tp):=by
 refine T.g_53.F.okA vo λAi A outer s H vs Q E hr h=>?_;obtain⟨a,ns,rfl,hS,Cp,CD,q⟩:=h
 refine⟨_,(ad (aq 1 vo.nd (pcF T.g_44.1 (jG T L) hr (aa (pcF T.g_52 (oZ T) hr (aa (pv 0) ab)) ab)))
  (ad (cC (bz (ye (B:=150) (gg hr)) (pcF T.g_39 (iP T) hr (aa (pv 1) ab)) (aA z8 (bw (aa (aB (aa g8 ab)) ab)) (aC ay rfl T.n_5 XU (aa (aY bx (pv 1) ai (λ_ _=>rfl)) ab))) (bc _)) (af (ax v7)) bU)
  (af (ax (dg (tm (B:=150) (gg hr)) (pcF T.g_44.1 (jG T L) hr (aa (pv 1) ab)) (pv 1) (bc _)))))),?_⟩
 try dsimp only[Aw,Ae]
 refine⟨_,D?,a,ns,D?,hS,Cp,λb ia oa ha ra Ak Ay AS ins outs W D head rows H1 s1 bk hd=>?_⟩;have Lj:=s1 _ _ CD;have Sh:=kF hd;refine⟨b,ia,oa,ha,ra,Ak,Ay,AS,ins,outs,head,rows,D?,bk,Sh,hd.go,λf' hD=>zn hd hD,.inl Lj,λr fh rl CT f' F M H2 hD hK hF hM s2 Ig er Mi VW Ll=>?_⟩;dsimp only[av];have J:EaOk ins outs F head rows:=by rw[hF];exact zn hd hD
 have k2:=s2.kt Lj;have Mx:=bk.mono k2
 have Dq:∀s,s<rows.length->Th.Fo outs (F s):=λs hs=>by
  rw[hF];obtain⟨_,p,_,_,e,_,_,f⟩:=Sh.mkd (l:=(s:Nat)) (by lia) (by lia);exact wR _ _ _ _ (WX _) (vG _ _ _ (by rw[e];exact wI hd.go _ _ (WX _) f))
 have Si:=ko J hM;have Li:=uu J Dq hM;have hB:=oG hd hF J Dq hM;have HH:M.length<=20:=by rw[hM];exact J.len
 have Lm:∀row∈eaB F rows M,∀p∈row,∃C,p.FitS outs (M.length:Nat) C:=λrow hr p hp=>by
  obtain⟨CC,AU⟩:=hB.fit.row row hr;obtain⟨j,hj⟩:=Xi.mp hp;obtain⟨kd,Dc⟩:∃kd,ins[j]?=A? kd:=⟨_,WR (by have:=(glE hj);lia)⟩;have hf:=AU j p kd hj Dc;rw[Si]at hf;exact⟨_,hf⟩
 have Qa:(eaB F rows M).length=CT.length:=W4 Ll
 have bf:BookAt H2 ins outs (ren (idx M) (eaP F head)) (eaB F rows M) r ia oa fh rl Ak Ay CT:=⟨er,Mx.inE,Mx.inK,Mx.outE,Mx.outK,Mi.un hd.go Li,VW,fo Qa λj row x Af hx=>by
  obtain⟨y,hy,as,h1,h2⟩:=F! (show Xs (RowK K H2) (eaB F rows M) CT from Ll) Af;rw[hx]at hy;cases hy;exact⟨as,h1,AtsK.un hd.go h2 λt ht=>⟨_,Lm row (WT Af) t ht⟩⟩⟩
 refine⟨_,D?,r,ins,outs,_,_,D?,⟨_,_,_,_,_,_,_,bf⟩,hB,hd.go,λfl fs AQ H3 s3 EB D0 RU hK2=>?_⟩;have hG:=ja hd hF hK J Dq hM RU
 have DS:Xs (λ(_:Nat)a=>AtK .i K H3 hole a) (XF M.length) fs:=by
  rw[Si]at D0;refine fo (W4 D0) λj x a hx ha=>?_;obtain⟨y,hy,h1⟩:=F! D0 hx;rw[ha]at hy;cases hy;have hj:j<M.length:=by have:=(glE hx);rw[Xj]at this;exact this
  rw[XY hj]at hx;cases hx;have h2:=hG j hj;unfold fZ at h2;rw[h2]at h1;exact h1
 have Sj:=bf.mono (j! s3);have JZ:fs.length=M.length:=by rw[<-W4 DS,Xj]
 have Ln:CT.length=M.length:=by lia
 refine⟨lnE rfl,λtp Qb=>⟨lnE rfl,λl1 BK=>?_⟩⟩;have t1:k! H3 (upd H3 tp (.tup [.str (Xq "*")])):=ae Qb _;have e1:(upd H3 tp (.tup [.str (Xq "*")])) tp=A? (.tup [.str (Xq "*")]):=ac;generalize(upd H3 tp (.tup [.str (Xq "*")]))=H4 at t1 e1 BK |-;refine gU BK λH5 t2 e2=>?_;have DF:=t1.trans t2;have Sk:=Sj.mono (j! DF);refine⟨_,D?,r,_,3,.ref rl,D?,D?,o! Sk.bk,at3,rl,_,D?,.inr (o! Sk.rl),l1,_,_,D?,D?,e2,by lia,by rw[WO];lia,de (by rw[WO,Xu,Ln];show 1 * M.length<=1000000;lia),λl2 Bf=>?_⟩;have t3:=ae Bf (.lst (XN (((CT.map i!).length:Nat):Int).toNat [i! tp]).flatten)
 have e3:(upd H5 l2 (.lst (XN (((CT.map i!).length:Nat):Int).toNat [i! tp]).flatten)) l2=A? (.lst (XN M.length (i! tp))):=by
  rw[ac,WO,Xu,Ln];congr 2;induction M.length with
  |zero=>rfl
  |succ n ih=>rw[Zr,List.flatten_cons,ih];rfl
 generalize(upd H5 l2 (.lst (XN (((CT.map i!).length:Nat):Int).toNat [i! tp]).flatten))=H6 at t3 e3 |-;have Iu:=DF.trans t3;have HG:=j! Iu;have d1:=ph (y! (λ_ _ h=>AtK.mono HG h) DS);rw[Xj]at d1
 have d2:DAtsK K H6 (XN M.length hole.dv) (XN M.length (i! tp)):=wt (by
  show DAtK K H6 (n! star []).dv _;rw[Th.dv,dvs,DAtK];exact⟨tp,_,D?,.of (t3 _ _ (t2 _ _ e1)),.cons (by rw[DAtK];rfl) .nil⟩) _
 refine⟨fl,l2,_,_,_,_,D?,D?,l! (Iu _ _ EB),l! e3,d1,d2,?_,λbb hb=>⟨_,D?,?_⟩⟩
 .have h1:hole.dv.deep<=2:=by decide
  have:∀n:Nat,bA (XN n hole.dv)<=2:=λn=>by
   induction n with
   |zero=>exact Xh _
   |succ n ih=>rw[Zr,bA];lia
  exact Xw (this _) (by decide)
 refine cX (λc=>g! rfl (hb.mp c)) (λ_=>?_);have VX:=s3.trans Iu;have Sl:=Ig.mono VX;have Sm:=Sj.mono HG;refine⟨_,D?,r,ia,oa,fh,rl,Ak,Ay,CT,ins,outs,_,_,D?,Sm,hB,hd.go,λEu My=>xm hd hF hK J Dq hM My,Sl,λr2 VY VZ Qc Eu F2 M2 H7 My hK3 Sn Le s7 _ V0 Lo Qd Lp=>?_⟩;have J2:=xm hd hF hK J Dq hM My;rw[<-Sn]at J2;have V1:∀i,i<M.length->F2 i=hole:=by rw[Sn];exact ja hd hF hK J Dq hM My
 have Bf:=J2.len;obtain⟨g1,g2⟩:=wy J hM V1 rfl Li Lm Bf;rw[<-Le]at g1 g2;rw[g1]at Lo;have k7:=Sl.kt s7;have Gw:=Sm.mono k7;have bg:vN K H7 ins (ren (idx M) (eaP F head)) (eaB F rows M) r2 ia oa VY VZ Ak Qc:=⟨V0,Gw.inE,Gw.inK,Lo,Qd,by rw[<-g2];exact Lp⟩;refine⟨_,D?,r2,r,_,_,vC ins outs _ _,vC ins outs _ _,D?,D?,o! bg.bk,o! Gw.bk,qG bg Gw.outE Gw.outK,qG (vI Gw) Gw.outE Gw.outK,?_,λbb hb=>?_⟩
 .have h1:=iQ ins;have h2:=iQ outs;have h3:=(ren (idx M) (eaP F head)).dv_deep
  have DQ:∀t:Th,Small t->(ren (idx M) t).size<=600/\(ren (idx M) t).tall<=38:=λt ht=>by
   obtain⟨r1,r2⟩:=gq (idx M) t;exact⟨by rw[r1];exact ht.size,by rw[r2];have:=ht.tall;lia⟩
  have h4:=li (rows:=eaB F rows M) λAJ AL p' AZ=>by
   unfold eaB at AL;obtain⟨x,hx,rfl⟩:=Xl.mp AL;obtain⟨t,ht,rfl⟩:=Xl.mp AZ;exact DQ t ((J.small (J.met x (by rw[<-hM];exact hx))).2 t ht)
  have h5:=(DQ _ J.smH).2;show max (bA (ins.map kDv)+1) (max (bA (outs.map kDv)+1) (max (ren (idx M) (eaP F head)).dv.deep (max (bA (rj (eaB F rows M))+1) 0)))<=150;lia
 .rw[hb.mpr rfl];exact q H7
end
theorem walk{l:PySem.W.OpenLaw}{q:W6}{d dt:DefRec}{K:Params->WQ}(hn:l.most=A? 63)(FQ:d.params.defaults=[])(hd:d.name="law")(hq:(PyProof.Rows.recsOf q).find? (λe=>e.name == ("earliest":Xk))=A? dt)(hY:∀(w:Xo)(h:Yd),YP w h->(K w.params).In h)
 (F:∀(w:Xo)(mg:Xk->Option WU)(h:Yd),(K w.params).In h->h.Ns Yl mg->TX (K w.params) mg):PySem.W.WalkO q loose XP YP l.row.toRowW d [] (λf vs=>PySem.call f vs) :=
 L2.vY (n:=63) (k:=50) (x:="script") (tn:="earliest") (CX:=λ_=>CX0) (sp:=λw T=>rG (K w.params) T) hn (by decide) FQ ⟨rfl,by decide,by decide⟩ hq hY (λw mg fa h KX G hm=>by
  have T:=F w mg h KX G;obtain⟨_,_,_,_,_,_,_,_,_,e,_⟩:=T.g_53.F.ex;rw[hd]at hm;have e2:T.g_53.f=fa:=(Value.ref.inj (Xp (hm.symm.trans T.g_53.m))).symm;subst e2;exact⟨_,_,_,λs v=>by rw[e];exact .of_eq rfl,T.g_44.t,T.g_44.u,λbase _ _ L=>aau T L⟩) (λ_ _ _ a ns hl hS hT=>⟨a,ns,rfl,hS,hl,hT,λ_=>rfl⟩) λ_ _ _ _ _ z=>z
end LAW
open PySem PySem.W PyProof.Rows
set_option maxRecDepth 100000 in
theorem PySem.Challenge.cw_boughbook_k66_nothing_sure_is_left_holds : PySem.Challenge.rw_boughbook_k66_nothing_sure_is_left.Holds := by
 w_on;(refine holds_law LAW.ws λV2=>?_);(refine holds_open (q:=LAW.vw) (N:=90000) (loose:=[]) (XP:=XL LAW.vw []) (Yf:=Hook.obs (kHook LAW.d0.heap_1 LAW.ks LAW.ke)) (Ya:=Hook.val (kHook LAW.d0.heap_1 LAW.ks LAW.ke)) (YP:=Hook.says (kHook LAW.d0.heap_1 LAW.ks LAW.ke)) (Xt:=LAW.xt) (HD.uV (by kernel_rfl) (by kernel_rfl) (λ_=>by kernel_rfl) LAW.lk0 LAW.lk1 LAW.lk2 LAW.lk3 LAW.lk4 LAW.lk5 (HD.Pc.k LAW.kp)) (Hook.of (kHook LAW.d0.heap_1 LAW.ks LAW.ke)) (Hook.keeps (kHook LAW.d0.heap_1 LAW.ks LAW.ke)) (λs e=>xl_of s (Bool.and_eq_true_iff.mp e).1) XL.keeps (by rfl) (by rfl) (by rfl) (λs e=>recFacts_of (Bool.and_eq_true_iff.mp e).2) (by rfl) (by assumption) (by decide +kernel) ⟨rfl,rfl,rfl,rfl,rfl,by decide +kernel⟩ ?_ ?_);w_witness2
 k_fill
 exact LAW.walk (l:=PySem.Challenge.rw_boughbook_k66_nothing_sure_is_left) rfl rfl rfl (by rfl) (λw h Y=>PySem.W.kIn_of Y) λw mg h x g=>by constructor <;> first|exact LAW.fx x g|exact LAW.bn x g|exact LAW.ci x g|exact LAW.fm|exact LAW.na|exact LAW.cs x g|exact LAW.ck1 x g|exact LAW.ft x g|exact LAW.gn x g|exact⟨by k_is,by k_is,by k_is,by k_is⟩|exact⟨by k_is,by k_is⟩
