import PyProof.Rows.All
import Wide.All
import OpenK.AllK
import Wide.FinOn
import Lean
import PyProof.EqAt
import PyProof.EqKinds
import PyProof.TupleCall
import KE.KRevIter
import PyProof.ListNew
import PyProof.Draws
import PyProof.EnumMake
import PyProof.Rows.EnumRows
import PyProof.ZipIter
import PyProof.ConsumeWalk
import KE.LcSums
import PyProof.AttrMissHeap
import KE.KDictOf
import PyProof.DictWalks
import PyProof.ListMulRoad
import PyProof.FactsAll.tuple
import PyProof.NeKinds
import KE.RegKTryMore
import KE.RegKIsAll
import PyProof.StrWalks
import PyProof.Rows.SetFrom
import PyProof.FString5
import Wide.Txt
import PyProof.Rows.SeqMore
import PyProof.StrOps2
import KE.KEqDict
import PyProof.CollectIter
import PyProof.JoinWalk
import PyProof.CallStr
import PyProof.DictRoadsH
import PyProof.MeetsDictList
import PyProof.DictTruth
import PyProof.StrLawsChain
import PyProof.StrCalls6
import PyProof.ToksMono
import PyProof.StrCalls2
import KE.KWords
import PyProof.MeetsStr2
import KE.KLam
import KE.KDictLaws
import PyProof.DictItems
import PyProof.DictValues
import PyProof.DictItemsLoops
import PyProof.ListRange
import PySem.Challenge.RW_boughbook_k67_written_early
set_option maxHeartbeats 0
set_option Elab.async false
set_option linter.all false
set_option maxRecDepth 100000
set_option genInjectivity false
set_option genSizeOf false
open List renaming length_map->WM,getElem?_eq_getElem->WR,mem_of_getElem?->WS,getElem?_map->WY,length_cons->W0,size_toArray->W3,mem_cons->W8,mem_singleton->W9,map_append->Xa,length_append->Xd,mem_cons_of_mem->Xe,mem_cons_self->Xh,length_range->Xi,mem_iff_getElem?->Xj,mem_map->Xx,mem_append->Xz,append_nil->XA,map_cons->XB,range->XD,length_take->XF,mem_append_right->XH,getElem?_range->XJ,append_assoc->XO,mem_append_left->XT,take_add_one->XU,take_of_length_le->XZ,getElem?_append_left->X0,filter_cons->X1,cons_append->X7,reverse_cons->Yb,length_eq_zero_iff->Yk,take_length->Yo,getElem?_append_right->Yq,length_reverse->Yt,getElem?_eq_some_iff->Yw,reverse_append->YD,lookup_cons->YI,getElem?_cons_succ->YN,take_append_drop->YV,mem_range->YW,nil_append->YY,mem_filter->YZ,map_nil->Y0,dropLast_concat_getLast->Y1,reverse_reverse->Y4,map_map->Y9,getElem?_zip_eq_some->Zd,length->Zm,zip_cons_cons->ZA,take_zero->ZC,filter_append->ZD,length_filter_le->ZE,getElem?_eq_none->ZF,drop_eq_getElem_cons->ZK,nodup_cons->ZM,find?_cons->ZN,lookup->ZT,filterMap_cons->Z3,length_drop->Z5,drop_zero->Z6
open PySem renaming wpAny_bind->WN,Addr->WQ,Value->WT,wpAny_pure->WW,Shared->WX,Program->W5,wpAny->W7,sizeLine->Xf,Paired->Xk,Str->Xp,World->Xq,model->Xw,boot_len->XE,starEach->XG,Around->XI,wpAny_field->XY,wpAny_callSpecial?_slot->X4,wpAny_call_entry->X8,Expr->X9,Heap->Yh,wpAny_newObj_type->Yi,mem_of_lookup->Yl,wpAny_Call_Name_kw->Ym,mainGlobals->Yn,wpAny_specialOf->Yr,builtinLookup_eq_fast->Yv,wpAny_holding->Yy,wpAny_seqItems->YC,cLine->YK,sysModules->YO,wpAny_updateSeq->YS,tupleKeyHash->YU,eval->Y2,typeLookup_type->Y5,wpAny_mono->Y6,rawInt->Y7,Obj->Zb,IsPair->Zk,Builtin->Zs,wpAny_rule->Zx,NameKind->Zz,wpAny_typeOf->ZG,wpAny_isInstance->ZJ,wpAny_setField_rec->ZP,wpAny_pyIter_tuple->ZQ,FuncData->ZU,backTo->Z0,Pos->Z2,Scope->Z4,wpAny_attempt->Z8,pyNext->Z9
open PySem.W renaming Frag->WO,kia_one->YX,emptyDict->Y8,findIn->Zl,instObj->ZL,boot_heap->ZR
open PySem.Heap renaming get?_push_of_some->WU,get?_push_size->W4,lt_size->Xb,get?_update_self->XQ,get?_update_other->XW,size_push->X5,SameBut->YF
open Nat renaming le_refl->WV,zero_le->Xg,le_trans->Xs,ne_of_lt->XC,lt_of_lt_of_le->XN,lt_irrefl->Ys,mul_le_mul_right->Y3,not_lt_zero->Zc,le_add_right->Zj,add_assoc->Zv,le_of_lt->ZS
open PySem.Paired renaming length->WZ
open Bool renaming false_ne_true->W6,false_eq_true->Ye,and_eq_true->Yg,eq_false_iff->YA
open PySem.F renaming plainAttrs_list->Xc,type_list_append->Xu,slot_list_append->Xv,plain_extend_loop->YG,type_list_pop->Zf,slot_list_pop->Zg,slot_dict_setdefault->Zp,slot_tuple_hash->Zw,slot_dict_keyiterator_next->Zy,type_list_extend->ZW,slot_list_extend->ZX
open PySem.Value renaming ref->Xl,none->Yp,type->Zn
open PySem.Str renaming ofString->Xm
open Option.some renaming inj->Xn
open Sum renaming inl->Xo,inr->Zu
open PySem.PassesOwn renaming never->Xr
open Int renaming toNat_natCast->Xy,zero_add->X6,toNat_of_nonneg->Yu,emod_nonneg->Yx,emod_lt_of_pos->YB
open Option renaming map_eq_some_iff->XM,isSome_iff_exists->ZY
open PyProof.Rows renaming slot_tuple_getitem->XR,boot_tuple->XX,callWith_type1->X2
open Array renaming length_toList->XS,getElem?_eq_getElem->Ze
open PySem.Builtin.SmallTypes renaming nextOf->X3,ownedTupleIsFree->Yc
open PySem.Builtin.Tuple renaming tupleHashOf->Yd,tupleExact->YM,tupleItemsOf->ZV
open PySem.Obj renaming mapSeq->Yj,data_mapFields->Zo
open PySem.NameKind renaming free->Yz
open False renaming elim->YE
open PySem.Builtin.Slice renaming slicePlaces->YH,sliceAdjust->Z1
open PySem.Calls renaming spliced_cons->YJ,spliced_nil->Zh
open Sum.inl renaming inj->YL
open Ne renaming symm->YQ
open PySem.Value.type renaming inj->YR
open True renaming intro->YT
open PySem.Builtin.List renaming listExtendWith->Za,listTooLong->Zq,listSameRef->Zr,listLengthHint->ZH,listItems->ZI
open PySem.Heap.SameBut renaming update->Zi
open PySem.AutoSeq1 renaming wpAny_loadPart'->Zt
open ForInStep renaming yield->ZO
open PySem.Around renaming under_plainId->Z7
open Option renaming some->A?,none->B?
open Bool renaming true->C?,false->Cf
theorem D?.{u}{α:Sort u}{a:α}:a=a:=rfl
variable{p a f b it c sl d I z tp l1 l2 i1 i2 la:WQ}{w:Xq}{m ns pre:List Int}{h base h':Yh}{α β γ:Type}{loose N ps:List Xp}{as ch fp:List WQ}{K:WO}{e tg iter elt:X9}{i t' j n B W:Nat}{x qual p1 p2 p3:Xp}{us its:List WT}{u oc vl vu:WT}{F:α->β->Prop}{P prog:W5}{M:Model}{A:XI}{E Q:WT->WX->Prop}{s:WX}{pos pos':Z2}{pins:List (WQ×Zb)}{op:CmpOp}{es ifs elts:List X9}{body:List Stmt}{R:Result->WX->Prop}{lo hi:Option Int}{C S S':Int}{kw:List (Xp×WT)}{env:Env}{mg:Xp->Option WT}{fd:ZU}{kindOf:Xp->Option Zz}{sc scope:Z4}{params:Arguments}{od:Option WQ}{items ys:Array WT}{XP:(Xp->Option WT)->Yh->Prop}{YP:Xq->Yh->Prop}{js:List (Option Nat)}{cl:List (Xp×WQ)}{ins outs EN:List (Xp×Int)}
def a!:=@if_neg
def b!:=@if_pos
def c!:=@decide_eq_false
def d!:=@decide_eq_true
def e!:=@of_decide_eq_true
def g!:=@absurd
def h!:=@congrArg
namespace HD
open PySem PySem.W PySem.Calls PyProof.Rows
def kM(tb:String->Option Zs)(p:W5)(w:Xq)(m:Nat)(ann:Option WT):Nat->SharedT->Thread->Option SharedT
 |0,_,_=>B?
 | n+1,s,t=>match through t with
   |true=>A? s
   | false=>match stepOk m ann t with
     |false=>B?
     | true=>match stepT (denote tb) p w s t with
       |some (s',t')=>kM tb p w m ann n s' t'
       |none=>B?
theorem lZ{tb:String->Option Zs}{p:W5}{m:Nat}{ann:Option WT}:∀{n:Nat}{s s':SharedT}{t:Thread},kM tb p w m ann n s t=A? s'->topRun tb p w m ann n s.abs t=A? s'.abs
 |0,_,_,_,h=>by cases h
 | n+1,s,s',t,h=>by
   unfold kM at h;unfold topRun;cases he:through t with
   |true=>rw[he]at h;cases h;rfl
   | false =>
     rw[he]at h;cases hk:stepOk m ann t with
     |false=>rw[hk]at h;cases h
     | true =>
       rw[hk]at h;cases hs:stepT (denote tb) p w s t with
       |none=>rw[hs]at h;cases h
       | some r =>
         obtain⟨s2,t2⟩:=r;rw[hs]at h;rw[stepT_spec hs];exact lZ h
def vO:List Zb->Nat->BT->BT
 | [],_,t=>t
 |o::l,n,t=>vO l (n+1) (t.ins n o)
def xE:List Zb->Nat->BT->Bool
 | [],_,_=>C?
 |o::l,n,t=>((t.ins n o).get n).isSome && xE l (n+1) (t.ins n o)
theorem nq:∀(l:List Zb)(n:Nat)(t:BT),xE l n t=C?->(vO l n t).list (n+l.length)=t.list n++l
 | [],n,t,_=>by rw[XA];rfl
 | o::l,n,t,h=>by
   obtain⟨h1,h2⟩:=Bool.and_eq_true_iff.mp h;have e:=absHeap_ins (life:=default) h1
   have e2:(t.ins n o).list (n+1)=t.list n++[o]:=by
    have:=h! (λx:Yh=>x.objs.toList) e;simpa[absHeap,Heap.push]using this
   have ih:=nq l (n+1) (t.ins n o) h2;rw[e2,XO]at ih;rw[W0,show n+(l.length+1)=n+1+l.length by lia];exact ih
theorem aaa(ok:xE h.objs.toList 0 .nil=C?):absHeap (vO h.objs.toList 0 .nil) h.objs.size h.life=h:=by
 have e:=nq _ _ _ ok;rw[Nat.zero_add]at e;unfold absHeap;rw[<-XS,e];rfl
noncomputable abbrev o7(p:W5)(N:Nat)(w:Xq)(os:OsState):Option SharedT :=
 kM treeTable p w 11 (A? (.ref 6)) N ⟨vO (ZR w.params).objs.toList 0 .nil,11,(ZR w.params).life,Array.mk [],boot_drawn,boot_toks,os⟩ (topStub p)
theorem yt(P:Params):(xE (ZR P).objs.toList 0 .nil,(ZR P).isNs Yn,(ZR P).objs.size,(ZR P).nsMap Yn "__annotations__")=(C?,C?,11,A? (.ref 6)):=by kernel_rfl
theorem map_some{o:Option α}{a:α}{f:α->β}{b:β}(h:o=A? a)(e:o.map f=A? b):f a=b:=by rw[h]at e;exact Xn e
abbrev Tr0(p q:W5)(loose:List Xp)(Xt:WX->Bool)(N:Nat)(g0:Bool):Prop:=∀(w:Xq)(os:OsState),((o7 p N w os).map λs=>(staticsOk (importedModules p.main.body) (ZR w.params) s.abs.heap && namesBound p s.abs.heap && gensDone s.abs && laidKept (ZR w.params) s.abs.heap,s.abs.heap.bltView,pinSeenD q (drecsOf q) s.abs,plainSeenD q loose s.abs,clsSeenW q loose s.abs,(s.abs.heap.accountedOkI (importedModules p.main.body),s.abs.heap.isNs Yn,s.abs.heap.isNs builtinsNs,tablesOk q s.abs.heap,Xt s.abs,(if g0 then s.abs.gens.size == 0 else !leftWithCleanup s.abs.gens))))=A? (C?,bltViewBooted,pinGoodD (drecsOf q),plainGoodD q loose,clsGoodW q loose,(C?,C?,C?,C?,C?,C?))
abbrev Tr1(p q:W5)(N:Nat):Prop:=∀(w:Xq)(os:OsState),((o7 p N w os).map λs=>seen ((recsOf q).map (·.name)) (ownsOf q) [] {s.abs with gens:=#[]})=A? (expectedOf q)
abbrev Tr2(p q:W5)(loose:List Xp)(N:Nat):Prop:=∀(w:Xq)(os:OsState),((o7 p N w os).map λs=>s.abs.heap.keysOk (looseW q loose) ((recsOf q).map (·.name)) ((litsOf q).map (·.1)) ((clssOf q (looseW q loose)).map (·.name)))=A? C?
abbrev Tr3(p q:W5)(N:Nat):Prop:=∀(w:Xq)(os:OsState),((o7 p N w os).map λs=>tabsOk q s.abs)=A? C?
abbrev Tr4(p q:W5)(loose:List Xp)(N:Nat):Prop:=∀(w:Xq)(os:OsState),((o7 p N w os).map λs=>plainSeenE q (looseW q loose) s.abs)=A? (plainGoodE q (looseW q loose))
abbrev Tr5(p q:W5)(N:Nat):Prop:=∀(w:Xq)(os:OsState),((o7 p N w os).map λs=>wideSeen q s.abs)=A? (wideGood q)
theorem u9{p q:W5}{Xt:WX->Bool}{Yf:WX->α}{Ya:Xq->α}{N:Nat}{g0:Bool}
 (e:opening p=plainProg p.main.scope.names) (hN:Nat.ble 600 N=C?) (f:∀s,fenceModules? p s=A? s)
 (r0:Tr0 p q loose Xt N g0)
 (r1:Tr1 p q N)
 (r2:Tr2 p q loose N)
 (r3:Tr3 p q N)
 (r4:Tr4 p q loose N)
 (r5:Tr5 p q N)
 (rY:∀(w:Xq)(os:OsState),((o7 p N w os).map λs=>Yf s.abs)=A? (Ya w)) :
 LeftO p q loose Xt Yf Ya N g0:=λw=>by
 obtain⟨⟨h,gs,d,k,os⟩,e1,e'⟩:=XM.mp (boot_open e hN f w);obtain⟨rfl,rfl,rfl,rfl⟩:h=ZR w.params/\gs=Array.mk []/\d=boot_drawn/\k=boot_toks:=by simpa using e'
 have MH:=yt w.params;have z0:=h! Prod.fst MH;have z1:=h! (λx=>x.2.1) MH;have z2:=h! (λx=>x.2.2.1) MH;have z3:=h! (λx=>x.2.2.2) MH;dsimp only at z0 z1 z2 z3;obtain⟨s1,Hn,hY⟩:=XM.mp (rY w os);have q0:=map_some Hn (r0 w os);have q1:=map_some Hn (r1 w os);have q2:=map_some Hn (r2 w os);have q3:=map_some Hn (r3 w os);have q4:=map_some Hn (r4 w os);have q5:=map_some Hn (r5 w os);have rr:=lZ Hn
 have NK:SharedT.abs ⟨vO (ZR w.params).objs.toList 0 .nil,11,(ZR w.params).life,Array.mk [],boot_drawn,boot_toks,os⟩=⟨ZR w.params,Array.mk [],boot_drawn,boot_toks,os⟩:=by
  unfold SharedT.abs;dsimp only;rw[<-z2,aaa z0]
 rw[NK]at rr;have a0:=h! Prod.fst q0;have a1:=h! (λx=>x.2.1) q0;have a2:=h! (λx=>x.2.2.1) q0;have a3:=h! (λx=>x.2.2.2.1) q0;have a4:=h! (λx=>x.2.2.2.2.1) q0;have b0:=h! (λx=>x.2.2.2.2.2.1) q0;have b1:=h! (λx=>x.2.2.2.2.2.2.1) q0;have b2:=h! (λx=>x.2.2.2.2.2.2.2.1) q0;have b3:=h! (λx=>x.2.2.2.2.2.2.2.2.1) q0;have b4:=h! (λx=>x.2.2.2.2.2.2.2.2.2.1) q0;have b5:=h! (λx=>x.2.2.2.2.2.2.2.2.2.2) q0;dsimp only at a0 a1 a2 a3 a4 b0 b1 b2 b3 b4 b5
 have l2:openSeen q loose (importedModules p.main.body) Xt g0 s1.abs=openGood q loose:=by
  unfold openSeen openGood;rw[q1,a1,q2,b0,b1,b2,b3,b4,b5,q3,a2,q4,a3,q5,a4];rfl
 have t:topFrom treeTable p w N ⟨ZR w.params,Array.mk [],boot_drawn,boot_toks,os⟩=A? s1.abs:=by
  unfold topFrom;dsimp only;rw[z1,z2,z3,rr];show(match staticsOk (importedModules p.main.body) (ZR w.params) s1.abs.heap && namesBound p s1.abs.heap && gensDone s1.abs && laidKept (ZR w.params) s1.abs.heap with|true=>_|false=>_)=_;rw[a0]
 unfold openEnds;rw[e1];show(topFrom treeTable p w N _).map _=_;rw[t];exact h! A? (Prod.ext l2 hY)
def p0:Params:={strHash:=λ_=>0,shareClass:=λ_=>0,mergeTok:=λt=>t,idOf:=λ_=>0,idOfShared:=λ_ _=>0,followText:=λ_=>Cf,idOfImm:=λ_=>0}
structure Pc(p:W5)(N:Nat)(as:List WQ)(vs:Xq->List (Option Zb)):Prop where
 out:∀(w:Xq)(os:OsState),((o7 p N w os).map λs=>as.map s.abs.heap.get?)=A? (vs w)
theorem Pc.cut{p:W5}{N:Nat}{vs:Xq->List (Option Zb)}(n:Nat)(h1:Pc p N (as.take n) λw=>(vs w).take n)(h2:Pc p N (as.drop n) λw=>(vs w).drop n):Pc p N as vs:=⟨λw os=>by
 obtain⟨s,e,a1⟩:=XM.mp (h1.out w os);have a2:=map_some e (h2.out w os);rw[e];refine h! A? ?_;have:=congr (h! HAppend.hAppend a1) a2;rw[<-Xa,YV,YV]at this;exact this⟩
theorem Pc.k{p:W5}{N:Nat}{K:Params->Frag}{e:∀P,as=(K P).map (·.1)}(h:Pc p N as λw=>(K w.params).map λp=>A? p.2):∀(w:Xq)(os:OsState),((o7 p N w os).map λs=>(kHook K as e).obs s.abs)=A? ((kHook K as e).val w):=h.out
end HD
section
open PySem PySem.W PyProof.Rows
def LAW.vw:W5:=PySem.W.view PySem.Challenge.pw_boughbook_k67_written_early [1,2,3,4,6,7,8,9,10,11,12,13,14,15,16,18,19,20,21,22,23,24,25,26,27,28,29,30,31,32,34,35,36,37,38,39,40,41,42,43,44,46,47,48,49,50,51,52,53,54,56,57,59,60,61,63,64,65,66,67,68,69,70,71,72,73,74,75,76,77,78,79]
def LAW.xt(s:WX):Bool:=xlAt LAW.vw [] s && recOk (RowW.records (OpenRow.toRowW (OpenLaw.row PySem.Challenge.rw_boughbook_k67_written_early))) s
theorem LAW.ws:OpenLaw.wellSaid PySem.Challenge.rw_boughbook_k67_written_early=true:=by kernel_rfl
theorem LAW.lk0:HD.Tr0 PySem.Challenge.pw_boughbook_k67_written_early LAW.vw [] LAW.xt 90000 true:=λ_ _=>by kernel_rfl
theorem LAW.lk1:HD.Tr1 PySem.Challenge.pw_boughbook_k67_written_early LAW.vw 90000:=λ_ _=>by kernel_rfl
theorem LAW.lk2:HD.Tr2 PySem.Challenge.pw_boughbook_k67_written_early LAW.vw [] 90000:=λ_ _=>by kernel_rfl
theorem LAW.lk3:HD.Tr3 PySem.Challenge.pw_boughbook_k67_written_early LAW.vw 90000:=λ_ _=>by kernel_rfl
theorem LAW.lk4:HD.Tr4 PySem.Challenge.pw_boughbook_k67_written_early LAW.vw [] 90000:=λ_ _=>by kernel_rfl
theorem LAW.lk5:HD.Tr5 PySem.Challenge.pw_boughbook_k67_written_early LAW.vw 90000:=λ_ _=>by kernel_rfl
section
local macro_rules | `(tactic| o_head $_H) => `(tactic| assumption)
theorem LAW.d0(h:OpenRow.Holds (OpenLaw.row PySem.Challenge.rw_boughbook_k67_written_early)):OpenRow.Holds (OpenLaw.row PySem.Challenge.rw_boughbook_k67_written_early):=by
 k_head
end
noncomputable def LAW.ks:List WQ:=(LAW.d0.heap_1 HD.p0).map (·.1)
theorem LAW.ke:∀P,LAW.ks=(LAW.d0.heap_1 P).map (·.1):=λ_=>by kernel_rfl
theorem LAW.kp:HD.Pc PySem.Challenge.pw_boughbook_k67_written_early 90000 LAW.ks λw=>(LAW.d0.heap_1 w.params).map λp=>A? p.2:=⟨λ_ _=>by kernel_rfl⟩
end
namespace L2
open PySem PySem.Spec PyProof.Rows
theorem gmE{f:α->β}{l:List α}{x:α}(h:l[i]?=A? x):(l.map f)[i]?=A? (f x):=by rw[WY,h];rfl
theorem glE{l:List α}{x:α}(h:l[i]?=A? x):i<l.length:=(Yw.mp h).1
abbrev Key:=Sum Int Xp
def im:Key->WT->Bool
 |.inl k,v=>Value.isInt k v
 |.inr x,v=>Value.isStrOf x v
def abm(w:Xq):Key->Int
 |.inl k=>hashInt k
 |.inr x=>hashStr w x
theorem bv:∀{k:Key}{v:WT},im k v=C?->(∃i t,k=Xo i/\v=Value.int i t)\/(∃x t,k=Zu x/\v=Value.str x t)
 | .inl i,v,h=>by
   obtain⟨t,e⟩:=Value.isInt_shape (k:=i) (v:=v) h;exact .inl ⟨i,t,rfl,e⟩
 | .inr x,v,h=>by
   obtain⟨t,e⟩:=Value.isStrOf_shape (x:=x) (v:=v) h;exact .inr ⟨x,t,rfl,e⟩
theorem uJ(i:Int)(t:Tok):im (.inl i) (.int i t)=true:=by simp[im,Value.isInt]
theorem u7(x:Xp)(t:Tok):im (.inr x) (.str x t)=true:=by simp[im,Value.isStrOf]
theorem z9(a b:Int):decide ((Xo a:Key)=Xo b)=(a == b):=by
 by_cases e:a=b
 .subst e;simp
 .have h:¬(Xo a:Key)=Xo b:=λq=>e (YL q);rw[c! h];exact(beq_eq_false_iff_ne.mpr e).symm
theorem z8(a b:Xp):decide ((Zu a:Key)=Zu b)=decide (a=b):=by
 by_cases e:a=b
 .subst e;simp
 .have h:¬(Zu a:Key)=Zu b:=λq=>e (Sum.inr.inj q);rw[c! h,c! e]
theorem aam(a:Int)(b:Xp):decide ((Xo a:Key)=Zu b)=false:=c! (λq=>nomatch q)
theorem zS(a:Xp)(b:Int):decide ((Zu a:Key)=Xo b)=false:=c! (λq=>nomatch q)
def au(prog:W5)(w:Xq):PySem.KeyKind prog w Key where
 is:=im
 hash:=abm w
 inj:=λv a b ha hb=>by
  rcases bv ha with⟨i,t,rfl,rfl⟩|⟨x,t,rfl,rfl⟩
  .rcases bv hb with⟨j,u,rfl,e⟩|⟨y,u,rfl,e⟩
   .injection e with e1 _;rw[e1]
   .exact nomatch e
  .rcases bv hb with⟨j,u,rfl,e⟩|⟨y,u,rfl,e⟩
   .exact nomatch e
   .injection e with e1 _;rw[e1]
 byValue:=λk v h=>by
  rcases bv h with⟨i,t,rfl,rfl⟩|⟨x,t,rfl,rfl⟩ <;> rfl
 pyHash:=λhv h=>by
  rcases bv hv with⟨i,t,rfl,rfl⟩|⟨x,t,rfl,rfl⟩
  .exact wpAny_pyHash_int h
  .exact wpAny_pyHash_str h
 eqBool:=λhu hv h=>by
  rcases bv hu with⟨i,t,rfl,rfl⟩|⟨x,t,rfl,rfl⟩
  .rcases bv hv with⟨j,u,rfl,rfl⟩|⟨y,u,rfl,rfl⟩
   .rw[z9]at h;exact wpAny_eqBool_int h
   .rw[aam]at h;exact SeqAt.EqAt.int_str i t y u _ _ _ _ h
  .rcases bv hv with⟨j,u,rfl,rfl⟩|⟨y,u,rfl,rfl⟩
   .rw[zS]at h;exact SeqAt.EqAt.str_int x t j u _ _ _ _ h
   .rw[z8]at h;exact wpAny_eqBool_str h
 «strs»:=λk x t v h=>by
  rcases bv h with⟨i,u,rfl,e⟩|⟨y,u,rfl,e⟩
  .exact nomatch e
  .injection e with e1 _;subst e1;cases v <;> rfl
theorem qV(prog:W5)(w:Xq)(i:Int)(t:Tok):(au prog w).is (.inl i) (.int i t)=true:=uJ i t
theorem p6(prog:W5)(w:Xq)(x:Xp)(t:Tok):(au prog w).is (.inr x) (.str x t)=true:=u7 x t
set_option genInjectivity true in
inductive V where
 |non|bl (b:Bool)|int (i:Int)|str (x:Xp)|byt (b:Array UInt8)|flt (b:UInt64)|ref (a:WQ)|ty (n:String)
 deriving DecidableEq
def RelV:V->WT->Prop
 |.non,u=>u=Yp
 |.bl b,u=>u=Value.bool b
 |.int i,u=>∃t,u=Value.int i t
 |.str x,u=>∃t,u=Value.str x t
 |.byt b,u=>∃t,u=Value.bytes b t
 |.flt b,u=>∃t,u=Value.float b t
 |.ref a,u=>u=Xl a
 |.ty n,u=>u=Zn n
abbrev Vals:List V->List WT->Prop:=Xk RelV
theorem Vals.length{xs:List V}(r:Vals xs us):xs.length=us.length:=WZ r
theorem Vals.get:∀{xs:List V}{us:List WT}{i:Nat}{x:V},Vals xs us->xs[i]?=A? x->∃u,us[i]?=A? u/\RelV x u
 |_,_,_,_,.nil,e=>by simp at e
 |_,_,0,_,.cons r _,e=>by simp at e;subst e;exact⟨_,D?,r⟩
 | _,_,i+1,x,.cons _ t,e=>by
   obtain⟨u,h1,h2⟩:=Vals.get (i:=i) (x:=x) t (by simpa using e);exact⟨u,by simpa using h1,h2⟩
theorem Vals.set{x:V}(r:RelV x u):∀{xs:List V}{us:List WT}(i:Nat),Vals xs us->Vals (xs.set i x) (us.set i u)
 |_,_,_,.nil=>.nil
 |_,_,0,.cons _ t=>.cons r t
 |_,_,i+1,.cons q t=>.cons q (Vals.set r i t)
theorem Vals.append:∀{xs ys:List V}{us ws:List WT},Vals xs us->Vals ys ws->Vals (xs++ys) (us++ws)
 |_,_,_,_,.nil,s=>s
 |_,_,_,_,.cons r t,s=>.cons r (Vals.append t s)
theorem Vals.take:∀{xs:List V}{us:List WT}(n:Nat),Vals xs us->Vals (xs.take n) (us.take n)
 |_,_,0,_=>.nil
 |_,_,_+1,.nil=>.nil
 |_,_,n+1,.cons r t=>.cons r (Vals.take n t)
theorem Vals.drop:∀{xs:List V}{us:List WT}(n:Nat),Vals xs us->Vals (xs.drop n) (us.drop n)
 |_,_,0,r=>r
 |_,_,_+1,.nil=>.nil
 |_,_,n+1,.cons _ t=>Vals.drop n t
def RelO:Option V->Option WT->Prop
 |some v,A? u=>RelV v u
 |none,B?=>True
 |_,_=>False
def KV{κ:Type}:List (κ×V)->List (κ×WT)->Prop:=Xk λ(p:κ×V)(q:κ×WT)=>p.1=q.1/\RelV p.2 q.2
def kV:Key->V
 |.inl i=>.int i
 |.inr x=>.str x
inductive HO where
 |lst (xs:List V)
 |tup (xs:List V)
 |dK (f':List (Key×V))|dT (f':List (List Key×V))
 |set (S:Int->Bool) (n:Nat)
 |ins (C dx:WQ) (fs:List (Xp×V))
 |own (x:WQ)
 |xd (fs:List (Xp×V))
 |met (f x:WQ)
 |rng (lo hi:Int)
 |frz (o:Zb) (u:HO)
 |tbl (ps:Array WT)
 |ext (φ:Yh->Prop)
abbrev Hp:=WQ->Option HO
def upd(H:Hp)(a:WQ)(o:HO):Hp:=λb=>if b=a then A? o else H b
theorem ac{H:Hp}{o:HO}:upd H a o a=A? o:=by unfold upd;rw[b! rfl]
theorem ai{H:Hp}{o:HO}(h:b≠a):upd H a o b=H b:=by unfold upd;rw[a! h]
theorem kN{H:Hp}{o u:HO}:upd (upd H a o) a u=upd H a u:=by
 funext b;unfold upd;split <;> rfl
theorem cp{H:Hp}{o u:HO}(h:H a=A? o)(h':H b=A? u)(d:o≠u):a≠b:=by
 intro e;subst e;rw[h]at h';exact d (Xn h')
theorem av{H:Hp}{o:HO}(h:H a=A? o)(h':H b=B?):a≠b:=by
 intro e;subst e;rw[h]at h';cases h'
section
variable(P:W5)(w:Xq)
def ObjOk(H:Hp)(h:Yh)(a:WQ):HO->Prop
 |.lst xs=>xs.length<=Xf/\∃(its:List WT)(n:Nat),Vals xs its/\h.get? a=A? {cls:=.type "list",data:=.seq its.toArray n}
 |.tup xs=>xs.length<=Xf/\∃(its:List WT)(n:Nat),Vals xs its/\h.get? a=A? {cls:=.type "tuple",data:=.seq its.toArray n}
 |.dK f'=>f'.length<=Xf/\(a == YO)=Cf/\∃vs,KV f' vs/\h.DictOf (au P w) a vs
 |.dT f'=>f'.length<=Xf/\(a == YO)=Cf/\∃xs:List (List Key×WQ×WT),
  Xk (λ(p:List Key×V)(q:List Key×WQ×WT)=>p.1=q.1/\H q.2.1=A? (.tup (p.1.map kV))/\RelV p.2 q.2.2) f' xs /\
  ∃o es ep,h.get? a=A? o/\o.ExactDict/\o.data=.dict es ep/\es.toList=xs.map (entryOfKey (tupleKind (au P w)))/\(xs.map (·.1)).Nodup
 |.set S n=>h.SetOf (intKind P w) a S n
 |.ins C dx fs=>H dx=A? (.own a)/\fs.length<=1000/\dx≠a/\h.get? a=A? (ZL C dx) /\
  ∃mA,h.Ns1 dx mA/\(∀f,RelO (fs.lookup f) (mA f))/\PySem.Within mA (fs.map (·.1))
 |.own _=>∃o,h.get? a=A? o
 |.xd fs=>∃mA,h.Ns1 a mA/\∀f,RelO (fs.lookup f) (mA f)
 |.rng lo hi=>∃t u v,h.get? a=A? {cls:=.type "range",data:=.fields #[.int lo t,.int hi u,.int 1 v]}
 |.frz o u=>h.get? a=A? o/\ObjOk H h a u
 |.tbl ps=>h.get? a=A? {cls:=.none,data:=.fields ps}
 |.met f x=>h.get? a=A? (PySem.W.methodObj (.ref f) (.ref x))
 |.ext φ=>φ h/\(∃o,h.get? a=A? o)/\∀h1 h2:Yh,φ h1->(∀o,h1.get? a=A? o->h2.get? a=A? o)->φ h2
def HOk(H:Hp)(h:Yh):Prop:=∀a o,H a=A? o->ObjOk P w H h a o
end
section
variable{H H':Hp}{o:HO}
theorem ObjOk.lt(x:ObjOk P w H h a o):a<h.objs.size:=by
 cases o with
 |lst xs=>obtain⟨_,_,_,_,e⟩:=x;exact Xb e
 |tup xs=>obtain⟨_,_,_,_,e⟩:=x;exact Xb e
 |dK f'=>obtain⟨_,_,_,_,o,_,_,e,_⟩:=x;exact Xb e
 |dT f'=>obtain⟨_,_,_,_,o,_,_,e,_⟩:=x;exact Xb e
 |set S n=>obtain⟨o,_,_,_,e,_⟩:=x;exact Xb e
 |ins C dx fs=>obtain⟨_,_,_,e,_⟩:=x;exact Xb e
 |own y=>obtain⟨_,e⟩:=x;exact Xb e
 |xd fs=>obtain⟨_,⟨_,_,_,e,_⟩,_⟩:=x;exact Xb e
 |rng lo hi=>obtain⟨_,_,_,e⟩:=x;exact Xb e
 |frz ob u=>obtain⟨e,_⟩:=x;exact Xb e
 |tbl ps=>exact Xb (show h.get? a=A? _ from x)
 |met f y=>exact Xb (show h.get? a=A? _ from x)
 |ext φ=>obtain⟨_,⟨_,e⟩,_⟩:=x;exact Xb e
theorem Xk.mapP{G:α->β->Prop}:∀{JI:List α}{JJ:List β},Xk F JI JJ->(∀a b,F a b->G a b)->Xk G JI JJ
 |_,_,.nil,_=>.nil
 |_,_,.cons r t,f=>.cons (f _ _ r) (Xk.mapP t f)
theorem ObjOk.stay(x:ObjOk P w H h a o)(k:∀b u,(b=a\/H b=A? (.own a))->h.get? b=A? u->h'.get? b=A? u)
 (ho:∀b,H b=A? (.own a)->H' b=A? (.own a)) (ht:∀b xs,H b=A? (.tup xs)->H' b=A? (.tup xs)):ObjOk P w H' h' a o:=by
 induction o with
 |lst xs=>obtain⟨z,its,n,r,e⟩:=x;exact⟨z,its,n,r,k _ _ (.inl rfl) e⟩
 |tup xs=>obtain⟨z,its,n,r,e⟩:=x;exact⟨z,its,n,r,k _ _ (.inl rfl) e⟩
 |dK f'=>obtain⟨z,y,vs,r,ob,es,ep,e,c⟩:=x;exact⟨z,y,vs,r,ob,es,ep,k _ _ (.inl rfl) e,c⟩
 | dT f' =>
   obtain⟨z,y,xs,r,ob,es,ep,e,c⟩:=x;exact⟨z,y,xs,Xk.mapP r λp q z=>⟨z.1,ht _ _ z.2.1,z.2.2⟩,ob,es,ep,k _ _ (.inl rfl) e,c⟩
 |set S n=>obtain⟨ob,es,ep,t,e,c⟩:=x;exact⟨ob,es,ep,t,k _ _ (.inl rfl) e,c⟩
 | ins C dx fs =>
   obtain⟨d,z,ne,e,mA,⟨od,es,ep,e2,c⟩,r⟩:=x;exact⟨ho _ d,z,ne,k _ _ (.inl rfl) e,mA,⟨od,es,ep,k _ _ (.inr d) e2,c⟩,r⟩
 |own y=>obtain⟨ob,e⟩:=x;exact⟨ob,k _ _ (.inl rfl) e⟩
 |xd fs=>obtain⟨mA,⟨od,es,ep,e,c⟩,r⟩:=x;exact⟨mA,⟨od,es,ep,k _ _ (.inl rfl) e,c⟩,r⟩
 |rng lo hi=>obtain⟨t,u,v,e⟩:=x;exact⟨t,u,v,k _ _ (.inl rfl) e⟩
 |frz ob u ih=>obtain⟨e,q⟩:=x;exact⟨k _ _ (.inl rfl) e,ih q⟩
 | tbl ps =>
   have e:h.get? a=A? {cls:=.none,data:=.fields ps}:=x;show h'.get? a=A? {cls:=.none,data:=.fields ps};exact k a _ (.inl rfl) e
 | met f y =>
   have e:h.get? a=A? (PySem.W.methodObj (.ref f) (.ref y)):=x;show h'.get? a=A? (PySem.W.methodObj (.ref f) (.ref y));exact k a _ (.inl rfl) e
 |ext φ=>obtain⟨p,⟨o,e⟩,st⟩:=x;exact⟨st _ _ p λo q=>k _ _ (.inl rfl) q,⟨o,k _ _ (.inl rfl) e⟩,st⟩
theorem HOk.lt(x:HOk P w H h)(e:H a=A? o):a<h.objs.size:=(x a o e).lt
theorem HOk.fresh(x:HOk P w H h)(e:h.objs.size<=a):H a=none:=by
 cases q:H a with
 |none=>rfl
 |some u=>exact g! (XN (x.lt q) e) (Ys _)
theorem HOk.kept(x:HOk P w H h)(k:∀b u,h.get? b=A? u->h'.get? b=A? u):HOk P w H h':=λa o e =>
 (x a o e).stay (λb u _ q=>k b u q) (λ_ q=>q) λ_ _ q=>q
theorem HOk.laid(x:HOk P w H h)(k:∀b u,h.get? b=A? u->h'.get? b=A? u)(hp:h.objs.size<=a)(new:ObjOk P w (upd H a o) h' a o):HOk P w (upd H a o) h':=λb u e=>by
 have hn:=x.fresh hp;by_cases hb:b=a
 .subst hb;rw[ac]at e;cases e;exact new
 .rw[ai hb]at e;exact(x b u e).stay (λc v _ q=>k c v q) (λc q=>by rw[ai (av q hn)];exact q) λc xs q=>by rw[ai (av q hn)];exact q
end
def Rd(H:Hp)(a:WQ)(u:HO):Prop:=H a=A? u\/∃o,H a=A? (.frz o u)
theorem Rd.ok{H:Hp}{u:HO}(r:Rd H a u)(x:HOk P w H h):ObjOk P w H h a u:=by
 rcases r with r|⟨o,r⟩
 .exact x a u r
 .obtain⟨_,q⟩:=x a _ r;exact q
def Mut:Option HO->Prop
 |some (.lst _)=>True
 |some (.dK _)=>True
 |some (.dT _)=>True
 |some (.set _ _)=>True
 |some (.ins _ _ _)=>True
 |some (.ext _)=>True
 |_=>False
section
variable{H:Hp}{x e:WQ}{o':HO}
theorem HOk.write(ok:HOk P w H h)(mu:Mut (H x))(he:e=x\/H e=A? (.own x))(k:∀b u,b≠e->h.get? b=A? u->h'.get? b=A? u)(Je:∃u,h'.get? e=A? u)
 (new:ObjOk P w (upd H x o') h' x o'):HOk P w (upd H x o') h':=λb u q=>by
 have JK:∀c y,H c=A? (.own y)->c≠x:=λc y r z=>by subst z;rw[r]at mu;exact mu
 have NL:∀c xs,H c=A? (.tup xs)->c≠x:=λc xs r z=>by subst z;rw[r]at mu;exact mu
 by_cases hb:b=x
 .subst hb;rw[ac]at q;cases q;exact new
 .rw[ai hb]at q;by_cases DT:b=e
  .have q':H b=A? (.own x):=by
    rcases he with z|z
    .exact g! (DT.trans z) hb
    .rw[DT];exact z
   rw[q]at q';cases q';obtain⟨v,hv⟩:=Je;exact⟨v,by rw[DT];exact hv⟩
  .refine(ok b u q).stay (λc v hc r=>k c v ?_ r) (λc r=>by rw[ai (JK c b r)];exact r) λc xs r=>by rw[ai (NL c xs r)];exact r
   rcases hc with rfl|hc
   .exact DT
   .rintro rfl;rcases he with z|z
    .exact JK c b hc z
    .rw[hc]at z;cases z;exact hb rfl
end
structure Un(fs ex:List WQ)(H H':Hp)(h h':Yh):Prop where
 keep:∀b o,h.get? b=A? o->H b=B?->b∉fs->b∉ex->h'.get? b=A? o
 slot:∀b o,h.get? b=A? o->H b=B?->b∈fs->b∉ex->∃sl,h'.get? b=A? {o with slots:=sl}
 free:∀b o,h.get? b=A? o->H b=B?->b∉ex->H' b=B?
 there:∀b o,h.get? b=A? o->b∉ex->∃o',h'.get? b=A? o'
 tups:∀b xs,H b=A? (.tup xs)->H' b=A? (.tup xs)
 frzs:∀b o u,H b=A? (.frz o u)->H' b=A? (.frz o u)
 tbls:∀b ps,H b=A? (.tbl ps)->∃more,H' b=A? (.tbl (ps++more))
section
variable{fs Jf ex MI:List WQ}{H H1 H2:Hp}{h1 h2:Yh}{x e:WQ}{o:HO}
theorem Un.any(u:Un fs ex H H1 h h1){ob:Zb}(q:h.get? b=A? ob)(n:H b=B?)(hx:b∉ex):∃sl,h1.get? b=A? {ob with slots:=sl}:=by
 by_cases hb:b∈fs
 .exact u.slot b ob q n hb hx
 .exact⟨ob.slots,u.keep b ob q n hb hx⟩
theorem Un.kept(k:∀b u,h.get? b=A? u->h'.get? b=A? u):Un fs ex H H h h' :=
 ⟨λb ob q _ _ _=>k b ob q,λb ob q _ _ _=>⟨ob.slots,k b ob q⟩,λ_ _ _ n _=>n,λb ob q _=>⟨ob,k b ob q⟩,λ_ _ q=>q,λ_ _ _ q=>q,λ_ ps q=>⟨#[],by rw[q];simp⟩⟩
theorem Un.refl:Un fs ex H H h h:=Un.kept λ_ _ q=>q
theorem Un.laid(k:∀b u,h.get? b=A? u->h'.get? b=A? u)(hp:h.objs.size<=a)(hn:H a=B?):Un fs ex H (upd H a o) h h' where
 keep:=λb u q _ _ _=>k b u q
 slot:=λb u q _ _ _=>⟨u.slots,k b u q⟩
 free:=λb u q n _=>by rw[ai (XC (XN (Xb q) hp))];exact n
 there:=λb u q _=>⟨u,k b u q⟩
 tups:=λb xs q=>by rw[ai (av q hn)];exact q
 frzs:=λb u xs q=>by rw[ai (av q hn)];exact q
 tbls:=λb ps q=>⟨#[],by rw[ai (av q hn),q];simp⟩
theorem Un.write(mu:Mut (H x))(he:e=x\/H e=A? (.own x))(k:∀b u,b≠e->h.get? b=A? u->h'.get? b=A? u)(Je:∃u,h'.get? e=A? u):Un fs ex H (upd H x o) h h':=by
 have hx:∀b,H b=B?->b≠x:=λb n z=>by subst z;rw[n]at mu;exact mu
 have hb:∀b,H b=B?->b≠e:=λb n z=>by
  subst z;rcases he with r|r
  .exact hx b n r
  .rw[n]at r;cases r
 have hm:∀b u,H b=A? u->¬Mut (A? u)->b≠x:=λb u q nm z=>by subst z;rw[q]at mu;exact nm mu
 refine⟨λb u q n _ _=>k b u (hb b n) q,λb u q n _ _=>⟨u.slots,k b u (hb b n) q⟩,λb u q n _=>by rw[ai (hx b n)];exact n,λb u q _=>?_,
  λb xs q=>by rw[ai (hm b _ q λz=>z)];exact q,λb u xs q=>by rw[ai (hm b _ q λz=>z)];exact q,λb ps q=>⟨#[],by rw[ai (hm b _ q λz=>z),q];simp⟩⟩
 by_cases DT:b=e
 .subst DT;exact Je
 .exact⟨u,k b u DT q⟩
end
def trk(h:Yh)(H:Hp):List WQ:=(XD h.objs.size).filter λa=>(H a).isSome
def mP(h:Yh)(H:Hp):Yh:=PySem.W.hideAll h (trk h H)
theorem uU(h:Yh)(H:Hp):(mP h H).objs.size=h.objs.size:=PySem.W.hideAll_size _ _
theorem vF{H:Hp}{o:Zb}(e:h.get? b=A? o)(n:H b=B?):(mP h H).get? b=A? o :=
 PySem.W.hideAll_get _ e λhm=>by
  have q:(H b).isSome=true:=(YZ.mp hm).2;rw[n]at q;simp at q
theorem yd{H:Hp}{o:Zb}(e:(mP h H).get? b=A? o):h.get? b=A? o/\H b=none:=by
 have e':h.get? b=A? o:=PySem.W.of_hideAll (trk h H) e;refine⟨e',?_⟩;cases q:H b with
 |none=>rfl
 | some x =>
   have hm:b∈trk h H:=YZ.mpr ⟨YW.mpr (Xb e'),by simp[q]⟩;have z:(mP h H).get? b=none:=PySem.W.hideAll_none (trk h H) hm;rw[z]at e;cases e
end L2
open L2.V renaming ref->i!,int->q!,str->N!
variable{o:L2.HO}{vs xs:List L2.V}{H H' H1 H2:L2.Hp}{v y:L2.V}{fin:WQ->L2.Hp->Prop}
namespace L2
open PySem PySem.Spec PyProof.Rows
structure Mod(K:WO)(mg:Xp->Option WT)(base:Yh):Prop where
 kin:K.In base
 glob:base.Ns Yn mg
 blt:∃mb,base.Ns builtinsNs mb/\∀x:Xp,x≠"__name__"->mb x=bootBuiltins x
 nolimit:base.NoLimit
set_option genInjectivity true in
structure Cx where
 prog:W5
 w:Xq
 K:WO
 mg:Xp->Option WT
 base:Yh
 A:XI
 N:List Xp
 s₀:WX
 H₀:Hp
 env:Env
 outer:List Env
 stack:List Env
 ex:List WQ
 fn:Xp->Bool
 calm:Bool
 pn:List (WQ×Zb)
 xe:WT->WX->Prop
def frs(l:List Env):List WQ:=l.filterMap (·.frame)
abbrev Cx.fs(X:Cx):List WQ:=frs X.outer
def Vis(sc:Z4)(x:Xp):Prop:=sc.names.lookup x=A? .local\/sc.names.lookup x=A? .cell\/sc.names.lookup x=A? .free
def Loc(sc:Z4)(x:Xp):Prop:=sc.names.lookup x=A? .local\/sc.names.lookup x=A? .cell
def Look(env:Env)(h:Yh)(m:Xp->Option WT)(x:Xp)(u:WT):Prop :=
 (env.kindOf x=A? .local/\m x=A? u)\/((env.kindOf x=A? .cell\/env.kindOf x=A? .free)/\∃c,env.cells.lookup x=A? c/\h.IsCell c (A? u))
structure Cx.Ok(X:Cx):Prop where
 mod:Mod X.K X.mg X.base
 kind:X.env.scope.kind=.function
 glob:X.env.globals=Yn
 blt:X.env.builtins=builtinsNs
 above:X.s₀.heap.1.size<=X.env.locals
 inj:∀x y c,X.env.cells.lookup x=A? c->X.env.cells.lookup y=A? c->x=y
 has:∀x,(X.env.kindOf x=A? .cell\/X.env.kindOf x=A? .free)->∃c,X.env.cells.lookup x=A? c
 cab:∀x c,X.fn x=C?->X.env.cells.lookup x=A? c->X.s₀.heap.1.size<=c
 hd:X.calm=C?->X.A.handled=B?
 frames:X.A.frames=A? X.stack
 stk:X.stack=X.outer\/(X.stack=X.env::X.outer/\X.env.frame=A? X.env.locals)
 exf:∀b∈X.ex,b≠X.env.locals/\∀x c,X.env.cells.lookup x=A? c->c≠b
 bs:∀b o,X.base.get? b=A? o->X.s₀.heap.get? b=A? o/\X.H₀ b=B?
 bsz:X.base.objs.size<=X.s₀.heap.1.size
 noex:∀b o,X.base.get? b=A? o->b∉X.ex
 exfs:∀b∈X.ex,b∉X.fs
 funs:X.s₀.heap.FunFrames X.base X.outer
 frf:∀b∈X.fs,X.H₀ b=B?
structure Inv(X:Cx)(U:List (WQ×Zb))(Z:List (Option V))(H:Hp)(s:WX):Prop where
 ok:X.Ok
 os:s.os=X.s₀.os
 bare:AllBare s.gens
 base:Un X.fs X.ex X.H₀ H X.s₀.heap s.1
 loc:∃m,s.1.Ns X.env.locals m/\∀(i:Nat)(x:Xp)(v:V),X.N[i]?=A? x->Z[i]?=A? (A? v)->Vis X.env.scope x->∃u,RelV v u/\Look X.env s.1 m x u
 cell:∀x c,X.env.cells.lookup x=A? c->∃v,s.1.IsCell c v
 free:H X.env.locals=B?
 freeC:∀x c,X.env.cells.lookup x=A? c->H c=B?
 pin:∀p∈X.pn++U,s.1.get? p.1=A? p.2/\H p.1=B?/\p.1≠X.env.locals/\p.1∉X.fs/\∀v,p.2.data≠.cell v
 hok:HOk X.prog X.w H s.1
 len:Z.length=X.N.length
section
variable{X:Cx}{Z:List (Option V)}
theorem Cx.Ok.nofr(ok:X.Ok){o:Zb}(e:X.base.get? b=A? o):b∉X.fs:=λhb=>by
 have:=(ok.funs.mem hb).1;rw[e]at this;cases this
theorem Inv.bs(I:Inv X U Z H s):∀b o,X.base.get? b=A? o->s.1.get? b=A? o/\H b=none:=λb o e =>
 ⟨I.base.keep b o (I.ok.bs b o e).1 (I.ok.bs b o e).2 (I.ok.nofr e) (I.ok.noex b o e),I.base.free b o (I.ok.bs b o e).1 (I.ok.bs b o e).2 (I.ok.noex b o e)⟩
theorem Inv.bk(I:Inv X U Z H s):∀b o,X.base.get? b=A? o->s.1.get? b=A? o:=λb o e=>(I.bs b o e).1
theorem Inv.mod(I:Inv X U Z H s):Mod X.K X.mg X.base:=I.ok.mod
theorem Inv.kIn(I:Inv X U Z H s):X.K.In s.1:=I.ok.mod.kin.keeps I.bk
theorem Inv.lt(I:Inv X U Z H s):X.env.locals<s.1.1.size:=let⟨_,hn,_⟩:=I.loc;hn.lt
theorem Inv.sz(I:Inv X U Z H s):X.s₀.heap.1.size<=s.1.1.size:=Xs I.ok.above (ZS I.lt)
theorem Inv.nofs(I:Inv X U Z H s)(h:s.1.1.size<=a):a∉X.fs:=λhb=>by
 obtain⟨_,o,ho,_⟩:=I.ok.funs.mem hb;exact g! (XN (Xb ho) (Xs I.sz h)) (Ys _)
theorem Inv.cne(I:Inv X U Z H s):∀x c,X.env.cells.lookup x=A? c->c≠X.env.locals:=λx c e z=>by
 obtain⟨v,o,ho,hd⟩:=I.cell x c e;obtain⟨m,⟨o',es,ep,BG,BH,_⟩,_⟩:=I.loc;rw[z,BG]at ho;cases ho;rw[BH]at hd;cases hd
theorem Inv.funs(I:Inv X U Z H s):s.1.FunFrames X.base X.outer:=by
 have all:∀(l:List Env),(∀b∈frs l,b∈X.fs)->X.s₀.heap.FunFrames X.base l->s.1.FunFrames X.base l:=by
  intro l;induction l with
  |nil=>intro _ _;trivial
  | cons env r ih =>
    intro hs hl;obtain⟨hk,⟨L,o,hf,hn,ho,hd⟩,hr⟩:=hl;have hL:L∈X.fs:=hs L (by unfold frs;rw[Z3,hf];exact Xh);obtain⟨sl,e⟩:=I.base.slot L o ho (I.ok.frf L hL) hL λz=>I.ok.exfs L z hL;exact⟨hk,⟨L,_,hf,hn,e,hd⟩,ih (λb hb=>hs b (by unfold frs;rw[Z3,hf];exact Xe _ hb)) hr⟩
 exact all X.outer (λ_ hb=>hb) I.ok.funs
theorem Inv.stack(I:Inv X U Z H s):s.1.FunFrames X.base X.stack:=by
 rcases I.ok.stk with e|⟨e,hf⟩
 .rw[e];exact I.funs
 .rw[e];obtain⟨m,hn,_⟩:=I.loc;refine .cons (by rw[I.ok.kind];decide) hf hn ?_ I.funs;exact Heap.get?_none_of_le (Xs I.ok.bsz I.ok.above)
theorem Inv.stkSub(I:Inv X U Z H s):∀b∈frs X.stack,b∈X.env.locals::X.fs:=λb hb=>by
 rcases I.ok.stk with e|⟨e,hf⟩
 .rw[e]at hb;exact Xe _ hb
 .rw[e]at hb;unfold frs at hb;rw[Z3,hf]at hb;exact hb
theorem Inv.stkFree(I:Inv X U Z H s):∀b∈frs X.stack,H b=none:=λb hb=>by
 rcases W8.mp (I.stkSub b hb)with e|hb
 .rw[e];exact I.free
 .obtain⟨_,o,ho,_⟩:=I.ok.funs.mem hb;exact I.base.free b o ho (I.ok.frf b hb) λz=>I.ok.exfs b z hb
theorem Inv.step{g':Array GenState}{d':Drawn}(I:Inv X U Z H s)
 (Fg:∀b∈ch,(b∈X.ex\/X.s₀.heap.1.size<=b)/\b≠X.env.locals/\(∀x c,X.env.cells.lookup x=A? c->c≠b)/\∀p∈X.pn++U,p.1≠b)
 (keep:∀b o,b≠X.env.locals->b∉X.fs->b∉ch->s.1.get? b=A? o->H b=B?->h'.get? b=A? o)
 (slot:∀b o,b≠X.env.locals->b∈X.fs->b∉ch->s.1.get? b=A? o->H b=B?->∃sl,h'.get? b=A? {o with slots:=sl}) (free:∀b o,b∉ch->s.1.get? b=A? o->H b=B?->H' b=B?)
 (there:∀b o,b∉ch->s.1.get? b=A? o->∃o',h'.get? b=A? o')
 (tups:∀b xs,H b=A? (.tup xs)->H' b=A? (.tup xs)) (frzs:∀b o u,H b=A? (.frz o u)->H' b=A? (.frz o u)) (tbls:∀b ps,H b=A? (.tbl ps)->∃more,H' b=A? (.tbl (ps++more)))
 (ns:∀m,s.1.Ns X.env.locals m->h'.Ns X.env.locals m) (hok:HOk X.prog X.w H' h') (hg:AllBare g') :
 Inv X U Z H' {s with heap:=h',gens:=g',drawn:=d',toks:=t'}:=by
 have Ro:∀b o,X.s₀.heap.get? b=A? o->b≠X.env.locals:=λb o e=>XC (XN (Xb e) I.ok.above)
 have MJ:∀b o,X.s₀.heap.get? b=A? o->b∉X.ex->b∉ch:=λb o e hx hb=>by
  rcases(Fg b hb).1 with z|z
  .exact hx z
  .exact g! (XN (Xb e) z) (Ys _)
 have cellK:∀x c,X.env.cells.lookup x=A? c->∀v,s.1.IsCell c v->h'.IsCell c v:=λx c e v⟨o,ho,hd⟩=>by
  have JL:c∉ch:=λz=>(Fg c z).2.2.1 x c e rfl;by_cases hc:c∈X.fs
  .obtain⟨sl,q⟩:=slot c o (I.cne x c e) hc JL ho (I.freeC x c e);exact⟨_,q,hd⟩
  .exact⟨o,keep c o (I.cne x c e) hc JL ho (I.freeC x c e),hd⟩
 refine⟨I.ok,I.os,hg,⟨λb o e n hb hx=>?_,λb o e n hb hx=>?_,λb o e n hx=>?_,λb o e hx=>?_,λb xs e=>tups b xs (I.base.tups b xs e),λb o xs e=>frzs b o xs (I.base.frzs b o xs e),λb ps e=>?_⟩,?_,λx c e=>?_,?_,λx c e=>?_,λp hp=>?_,hok,I.len⟩
 .exact keep b o (Ro b o e) hb (MJ b o e hx) (I.base.keep b o e n hb hx) (I.base.free b o e n hx)
 .obtain⟨sl,e1⟩:=I.base.slot b o e n hb hx;obtain⟨TU,e2⟩:=slot b _ (Ro b o e) hb (MJ b o e hx) e1 (I.base.free b o e n hx);exact⟨TU,e2⟩
 .obtain⟨o',e1⟩:=I.base.there b o e hx;exact free b o' (MJ b o e hx) e1 (I.base.free b o e n hx)
 .obtain⟨o',e1⟩:=I.base.there b o e hx;exact there b o' (MJ b o e hx) e1
 .obtain⟨m1,e1⟩:=I.base.tbls b ps e;obtain⟨m2,e2⟩:=tbls b _ e1;exact⟨m1++m2,by rw[e2,Array.append_assoc]⟩
 .obtain⟨m,hn,hl⟩:=I.loc;refine⟨m,ns m hn,λi x v e1 e2 e3=>?_⟩;obtain⟨u,r,l⟩:=hl i x v e1 e2 e3;refine⟨u,r,?_⟩;rcases l with l|⟨k,c,e,z⟩
  .exact .inl l
  .exact .inr ⟨k,c,e,cellK x c e _ z⟩
 .obtain⟨v,z⟩:=I.cell x c e;exact⟨v,cellK x c e v z⟩
 .obtain⟨m,⟨o,_,_,ho,_⟩,_⟩:=I.loc;exact free _ o (λz=>(Fg _ z).2.1 rfl) ho I.free
 .obtain⟨v,o,ho,hd⟩:=I.cell x c e;exact free c o (λz=>(Fg c z).2.2.1 x c e rfl) ho (I.freeC x c e)
 .obtain⟨e,n,ne,nf,d⟩:=I.pin p hp;have JL:p.1∉ch:=λz=>(Fg p.1 z).2.2.2 p hp rfl;exact⟨keep p.1 p.2 ne nf JL e n,free p.1 p.2 JL e n,ne,nf,d⟩
theorem Inv.un(I:Inv X U Z H s)(u:Un X.fs [] H H' s.1 h')(hok:HOk X.prog X.w H' h'):Inv X U Z H' {s with heap:=h',toks:=t'}:=by
 obtain⟨m,⟨o,es,ep,ho,r⟩,_⟩:=id I.loc;obtain⟨sl,hL⟩:=u.any ho I.free (by simp)
 exact I.step (g':=s.gens) (d':=s.drawn) (ch:=[]) (λ_ z=>nomatch z) (λb o _ hb _ e n=>u.keep b o e n hb (by simp)) (λb o _ hb _ e n=>u.slot b o e n hb (by simp)) (λb o _ e n=>u.free b o e n (by simp)) (λb o _ e=>u.there b o e (by simp)) u.tups u.frzs u.tbls (λm' hm=>by
  obtain⟨o',NM,NN,BG,r'⟩:=hm;rw[ho]at BG;cases BG;exact⟨_,NM,NN,hL,r'⟩) hok I.bare
theorem Inv.call{g':Array GenState}{d':Drawn}(I:Inv X U Z H s)(u:Un (frs X.stack) ch H H' s.1 h')(hok:HOk X.prog X.w H' h')(hg:AllBare g')
 (Fg:∀b∈ch,(b∈X.ex\/X.s₀.heap.1.size<=b)/\b≠X.env.locals/\(∀x c,X.env.cells.lookup x=A? c->c≠b)/\∀p∈X.pn++U,p.1≠b) :
 Inv X U Z H' {s with heap:=h',gens:=g',drawn:=d',toks:=t'}:=by
 obtain⟨m,⟨o,es,ep,ho,r⟩,_⟩:=id I.loc;obtain⟨sl,hL⟩:=u.any ho I.free λz=>(Fg _ z).2.1 rfl
 exact I.step (ch:=ch) Fg (λb o hL hb hc e n=>u.keep b o e n (λz=>(W8.mp (I.stkSub b z)).elim hL hb) hc) (λb o _ _ hc e n=>u.any e n hc) (λb o hc e n=>u.free b o e n hc) (λb o hc e=>u.there b o e hc) u.tups u.frzs u.tbls (λm' hm=>by
  obtain⟨o',NM,NN,BG,r'⟩:=hm;rw[ho]at BG;cases BG;exact⟨_,NM,NN,hL,r'⟩) hok hg
theorem Inv.turned(I:Inv X U Z H s)(k:∀b o,b≠it->s.1.get? b=A? o->h'.get? b=A? o)(hn:H it=B?)(hL:it≠X.env.locals)
 (h1:it∈X.ex\/X.s₀.heap.1.size<=it) (h2:∀x c,X.env.cells.lookup x=A? c->c≠it) (h3:∀p∈X.pn++U,p.1≠it):Inv X U Z H {s with heap:=h',toks:=t'}:=by
 have JM:∀b u,H b=A? u->b≠it:=λb u e z=>by rw[z,hn]at e;cases e
 refine I.step (g':=s.gens) (d':=s.drawn) (ch:=[it]) (λb hb=>?_) (λb o _ _ hc e _=>k b o (λz=>hc (by simp[z])) e) (λb o _ _ hc e _=>⟨o.slots,k b o (λz=>hc (by simp[z])) e⟩) (λ_ _ _ _ n=>n)
  (λb o hc e=>⟨o,k b o (λz=>hc (by simp[z])) e⟩) (λ_ _ e=>e) (λ_ _ _ e=>e) (λb ps e=>⟨#[],by rw[e];simp⟩) (λm hm=>?_) (λb u e=>?_) I.bare
 .have e:b=it:=by simpa using hb
  subst e;exact⟨h1,hL,h2,h3⟩
 .obtain⟨o,es,ep,ho,r⟩:=hm;exact⟨o,es,ep,k _ o (YQ hL) ho,r⟩
 .refine(I.hok b u e).stay (λc v hc q=>k c v ?_ q) (λ_ q=>q) λ_ _ q=>q;rcases hc with z|z
  .rw[z];exact JM b u e
  .exact JM c _ z
theorem Inv.tok(I:Inv X U Z H s)(t:Nat):Inv X U Z H {s with toks:=t}:=I.un (h':=s.1) (t':=t) Un.refl I.hok
theorem Inv.kept(I:Inv X U Z H s)(k:∀b u,s.1.get? b=A? u->h'.get? b=A? u):Inv X U Z H {s with heap:=h',toks:=t'}:=I.un (Un.kept k) (I.hok.kept k)
theorem Inv.laid(I:Inv X U Z H s)(k:∀b u,s.1.get? b=A? u->h'.get? b=A? u)(hp:s.1.1.size<=a)(new:ObjOk X.prog X.w (upd H a o) h' a o) :
 Inv X U Z (upd H a o) {s with heap:=h',toks:=t'}:=I.un (Un.laid k hp (I.hok.fresh hp)) (I.hok.laid k hp new)
theorem Inv.write{x e:WQ}(I:Inv X U Z H s)(mu:Mut (H x))(he:e=x\/H e=A? (.own x))(k:∀b u,b≠e->s.1.get? b=A? u->h'.get? b=A? u)(Je:∃u,h'.get? e=A? u)
 (new:ObjOk X.prog X.w (upd H x o) h' x o):Inv X U Z (upd H x o) {s with heap:=h',toks:=t'}:=I.un (Un.write mu he k Je) (I.hok.write mu he k Je new)
theorem Inv.weak{Ab:List (Option V)}(I:Inv X U Z H s)(hl:Ab.length=Z.length)(w:∀(i:Nat)v,Ab[i]?=A? (A? v)->Z[i]?=A? (A? v)):Inv X U Ab H s :=
 ⟨I.ok,I.os,I.bare,I.base,let⟨m,hn,Ho⟩:=I.loc;⟨m,hn,λi x v e1 e2 e3=>Ho i x v e1 (w i v e2) e3⟩,I.cell,I.free,I.freeC,I.pin,I.hok,hl.trans I.len⟩
theorem Inv.pins_of{Gy:List (WQ×Zb)}(I:Inv X U Z H s)(h:∀p∈Gy,s.1.get? p.1=A? p.2/\H p.1=B?/\p.1≠X.env.locals/\p.1∉X.fs/\∀v,p.2.data≠.cell v):Inv X Gy Z H s :=
 ⟨I.ok,I.os,I.bare,I.base,I.loc,I.cell,I.free,I.freeC,λp hp=>(Xz.mp hp).elim (λz=>I.pin p (XT _ z)) (h p),I.hok,I.len⟩
theorem qS(hN:N.Nodup)(a:N[i]?=A? x)(b:N[j]?=A? x):i=j:=by
 obtain⟨h1,e1⟩:=Yw.mp a;obtain⟨h2,e2⟩:=Yw.mp b;exact(List.getElem_inj hN).mp (e1.trans e2.symm)
theorem nR{Q:Unit->WX->Prop}(I:Inv X U Z H s)(hN:X.N.Nodup)(hi:X.N[i]?=A? x)(hx:Loc X.env.scope x)(r:RelV v u)
 (h:∀s',Inv X U (Z.set i (A? v)) H s'->(∃a,YF a s.1 s'.1/\(a=X.env.locals\/X.env.cells.lookup x=A? a))->Q () s') (hf:X.fn x=C?\/X.env.scope.names.lookup x=A? .local:=by first|exact .inl rfl|exact .inr rfl|assumption):W7 M A (storeName X.env x u) Q E s:=by
 obtain⟨m,hn,hl⟩:=id I.loc;have NO:(X.env.scope.kind == .class ||(X.env.scope.kind == .module && X.env.locals != X.env.globals))=false:=by rw[I.ok.kind];rfl
 have JN:i<Z.length:=by rw[I.len];exact(glE hi)
 have cne:=I.cne
 have tracked:∀{a:WQ}{h':Yh},(∃o,s.1.get? a=A? o/\H a=B?)->YF a s.1 h'->HOk X.prog X.w H h':=λ{a h'}ha hs b ob e=>by
  obtain⟨_,_,CH⟩:=ha;refine(I.hok b ob e).stay (λc w' hc q=>(hs.2 c ?_).trans q) (λ_ q=>q) λ_ _ q=>q;rintro rfl;rcases hc with rfl|hc
  .rw[CH]at e;cases e
  .rw[CH]at hc;cases hc
 rcases hx with hk|hk
 .refine wpAny_storeName_local hk hn (λh' TV hs=>?_) NO;obtain⟨oL,_,_,TY,_⟩:=id hn;refine h _ ⟨I.ok,I.os,I.bare,⟨λb o e n hb hx=>?_,λb o e n hb hx=>?_,I.base.free,λb o e hx=>?_,I.base.tups,I.base.frzs,I.base.tbls⟩,⟨_,TV,λj y v' e1 e2 e3=>?_⟩,λy c e=>?_,I.free,I.freeC,λp hp=>?_,tracked ⟨oL,TY,I.free⟩ hs,by simpa using I.len⟩ ⟨_,hs,.inl rfl⟩
  .exact(hs.2 b (XC (XN (Xb e) I.ok.above))).trans (I.base.keep b o e n hb hx)
  .obtain⟨sl,e1⟩:=I.base.slot b o e n hb hx;exact⟨sl,(hs.2 b (XC (XN (Xb e) I.ok.above))).trans e1⟩
  .obtain⟨o',e1⟩:=I.base.there b o e hx;exact⟨o',(hs.2 b (XC (XN (Xb e) I.ok.above))).trans e1⟩
  .by_cases hj:j=i
   .subst hj;rw[hi]at e1;cases e1;rw[List.getElem?_set_self JN]at e2;cases e2;exact⟨u,r,.inl ⟨hk,by simp⟩⟩
   .rw[List.getElem?_set_ne (YQ hj)]at e2;obtain⟨u',r',q⟩:=hl j y v' e1 e2 e3;refine⟨u',r',?_⟩;rcases q with⟨k,e⟩|⟨k,c,e,z⟩
    .refine .inl ⟨k,?_⟩;have:y≠x:=λe=>hj (qS hN e1 (e ▸ hi));simp[this,e]
    .exact .inr ⟨k,c,e,z.sameBut hs (cne y c e)⟩
  .obtain⟨w',z⟩:=I.cell y c e;exact⟨w',z.sameBut hs (cne y c e)⟩
  .obtain⟨e,n,ne,nf,d⟩:=I.pin p hp;exact⟨(hs.2 p.1 ne).trans e,n,ne,nf,d⟩
 .have NP:X.fn x=true:=by
   rcases hf with z|z
   .exact z
   .rw[z]at hk;cases hk
  obtain⟨c,hc⟩:=I.ok.has x (.inl hk);obtain⟨w',z⟩:=I.cell x c hc;refine wpAny_storeName_cell I.ok.kind hk hc z (λh' AQ hs=>?_);obtain⟨oc,Rp,NQ⟩:=id z;refine h {s with heap:=h'} ⟨I.ok,I.os,I.bare,⟨λb o e n hb hx=>?_,λb o e n hb hx=>?_,I.base.free,λb o e hx=>?_,I.base.tups,I.base.frzs,I.base.tbls⟩,⟨m,hn.sameBut hs (YQ (cne x c hc)),λj y v' e1 e2 e3=>?_⟩,λy c' e=>?_,I.free,I.freeC,λp hp=>?_,tracked ⟨oc,Rp,I.freeC x c hc⟩ hs,by simpa using I.len⟩ ⟨c,hs,.inr hc⟩
  .exact(hs.2 b (XC (XN (Xb e) (I.ok.cab x c NP hc)))).trans (I.base.keep b o e n hb hx)
  .obtain⟨sl,e1⟩:=I.base.slot b o e n hb hx;exact⟨sl,(hs.2 b (XC (XN (Xb e) (I.ok.cab x c NP hc)))).trans e1⟩
  .obtain⟨o',e1⟩:=I.base.there b o e hx;exact⟨o',(hs.2 b (XC (XN (Xb e) (I.ok.cab x c NP hc)))).trans e1⟩
  .by_cases hj:j=i
   .subst hj;rw[hi]at e1;cases e1;rw[List.getElem?_set_self JN]at e2;cases e2;exact⟨u,r,.inr ⟨.inl hk,c,hc,AQ⟩⟩
   .rw[List.getElem?_set_ne (YQ hj)]at e2;obtain⟨u',r',q⟩:=hl j y v' e1 e2 e3;refine⟨u',r',?_⟩;rcases q with q|⟨k,c',e,z'⟩
    .exact .inl q
    .refine .inr ⟨k,c',e,z'.sameBut hs ?_⟩;rintro rfl;exact hj (qS hN e1 (I.ok.inj _ _ _ e hc ▸ hi))
  .by_cases Dh:c'=c
   .subst Dh;exact⟨_,AQ⟩
   .obtain⟨w2,z2⟩:=I.cell y c' e;exact⟨w2,z2.sameBut hs Dh⟩
  .obtain⟨e,n,ne,nf,d⟩:=I.pin p hp;refine⟨(hs.2 p.1 ?_).trans e,n,ne,nf,d⟩;intro q;rw[q,Rp]at e;have q':oc=p.2:=Xn e;exact d w' (by rw[<-q'];exact NQ)
theorem gy{Q:Unit->WX->Prop}(I:Inv X U Z H s)(hN:X.N.Nodup)(hi:X.N[i]?=A? x)(hx:Loc X.env.scope x)(r:RelV v u)
 (h:∀s',Inv X U (Z.set i (A? v)) H s'->Q () s') (hf:X.fn x=C?\/X.env.scope.names.lookup x=A? .local:=by first|exact .inl rfl|exact .inr rfl|assumption):W7 M A (storeName X.env x u) Q E s :=
 nR I hN hi hx r (λs' I' _=>h s' I') hf
theorem Inv.call'{s':WX}(I:Inv X U Z H s)(ho:s'.os=s.os)(u:Un (frs X.stack) ch H H' s.1 s'.1)(hok:HOk X.prog X.w H' s'.1)(hg:AllBare s'.gens)
 (Fg:∀b∈ch,(b∈X.ex\/X.s₀.heap.1.size<=b)/\b≠X.env.locals/\(∀x c,X.env.cells.lookup x=A? c->c≠b)/\∀p∈X.pn++U,p.1≠b):Inv X U Z H' s':=by
 obtain⟨h',g',d',t',o'⟩:=s';have e:o'=s.os:=ho;subst e;exact I.call (g':=g') (t':=t') (d':=d') u hok hg Fg
end
abbrev XK:=WT->Option WQ->Hp->Prop
abbrev St:=List (Option V)
abbrev VK:=V->Hp->Prop
abbrev TE:=St->Hp->VK->Prop
abbrev TT:=St->Hp->(Bool->Hp->Prop)->Prop
abbrev TA:=St->Hp->(List V->Hp->Prop)->Prop
structure Ends where
 nx:St->Hp->Prop
 rt:VK
 bk:St->Hp->Prop:=λ_ _=>False
 ct:St->Hp->Prop:=λ_ _=>False
abbrev TS:=Ends->St->Hp->Prop
def EP(X:Cx)(U:List (WQ×Zb))(Z:St)(Q:VK)(u:WT)(s':WX):Prop:=∃v H',Inv X U Z H' s'/\RelV v u/\Q v H'
def TP(X:Cx)(U:List (WQ×Zb))(Z:St)(Q:Bool->Hp->Prop)(b:Bool)(s':WX):Prop:=∃H',Inv X U Z H' s'/\Q b H'
def AP(X:Cx)(U:List (WQ×Zb))(Z:St)(Q:List V->Hp->Prop)(us:List WT)(s':WX):Prop:=∃vs H',Inv X U Z H' s'/\Vals vs us/\Q vs H'
def SP(X:Cx)(U:List (WQ×Zb))(D:Ends)(f:Flow)(s':WX):Prop :=
 match f with
 |.next=>∃Ab H',Inv X U Ab H' s'/\D.nx Ab H'
 |.brk=>∃Ab H',Inv X U Ab H' s'/\D.bk Ab H'
 |.cont=>∃Ab H',Inv X U Ab H' s'/\D.ct Ab H'
 |.ret u=>∃v Ab H',Inv X U Ab H' s'/\RelV v u/\D.rt v H'
def PE(X:Cx)(e:X9)(t:TE):Prop :=
 ∀(U:List (WQ×Zb))(s:WX)(Z:St)(H:Hp)(Q:VK),Inv X U Z H s->t Z H Q->W7 (Xw X.prog X.w) X.A (Y2 e X.env) (EP X U Z Q) X.xe s
def PT(X:Cx)(e:X9)(t:TT):Prop :=
 ∀(U:List (WQ×Zb))(s:WX)(Z:St)(H:Hp)(Q:Bool->Hp->Prop),Inv X U Z H s->t Z H Q->W7 (Xw X.prog X.w) X.A (isTrue e X.env (Y2 e X.env)) (TP X U Z Q) X.xe s
def PW(X:Cx)(e:X9)(t:TT):Prop :=
 ∀(whole:Sem WT)(U:List (WQ×Zb))(s:WX)(Z:St)(H:Hp)(Q:Bool->Hp->Prop),Inv X U Z H s->t Z H Q->W7 (Xw X.prog X.w) X.A (isTrue e X.env whole) (TP X U Z Q) X.xe s
theorem PW.pt{X:Cx}{t:TT}(h:PW X e t):PT X e t:=h _
def PA(X:Cx)(es:List X9)(t:TA):Prop :=
 ∀(pos:Z2)(U:List (WQ×Zb))(s:WX)(Z:St)(H:Hp)(Q:List V->Hp->Prop),Inv X U Z H s->t Z H Q->W7 (Xw X.prog X.w) X.A (spliced (Z0 pos (XG es X.env))) (AP X U Z Q) X.xe s
def PS(X:Cx)(st:Stmt)(t:TS):Prop :=
 ∀(U:List (WQ×Zb))(s:WX)(Z:St)(H:Hp)(D:Ends),Inv X U Z H s->t D Z H->W7 (Xw X.prog X.w) X.A (exec st X.env) (SP X U D) X.xe s
def PSs(X:Cx)(st:List Stmt)(t:TS):Prop :=
 ∀(U:List (WQ×Zb))(s:WX)(Z:St)(H:Hp)(D:Ends),Inv X U Z H s->t D Z H->W7 (Xw X.prog X.w) X.A (execs st X.env) (SP X U D) X.xe s
theorem thn{t:Sem α}{Q Q':α->WX->Prop}(h:W7 M A t Q E s)(hQ:∀a s,Q a s->Q' a s):W7 M A t Q' E s:=Y6 h hQ λ_ _ x=>x
end L2
variable{tb:L2.TS}{Z:L2.St}{D:L2.Ends}{te tl:L2.TE}{tt:L2.TT}
namespace L2
open PySem PySem.Spec PyProof.Rows
section
variable{X:Cx}
inductive zf(i:Nat)(Z:St)(H:Hp)(Q:VK):Prop
 |mk (v:_) (CI:Z[i]?=A? (A? v)) (CJ:Q v H):zf i Z H Q
def aR(i:Nat):TE:=zf i
def tC(v:V):TE:=λ_ H Q=>Q v H
theorem wu(hN:X.N[i]?=A? x)(hv:Vis X.env.scope x)(hd:(x == ("__debug__":Xp))=false:=by decide)(Cg:(x == ("__classdict__":Xp))=false:=by decide):PE X (.Name x pos) (aR i):=by
 intro U s Z H Q I h;obtain⟨v,e,h⟩:=h;obtain⟨m,hn,hl⟩:=I.loc;obtain⟨u,r,l⟩:=hl i x v hN e hv;have fin:EP X U Z Q u s:=⟨v,H,I,r,h⟩;rcases l with⟨hk,hm⟩|⟨hk,c,hc,Bp⟩
 .exact wpAny_Name (wpAny_loadName_local I.ok.kind hk hn hm fin) hd
 .rcases hk with hk|hk
  .exact wpAny_Name (wpAny_loadName_cell I.ok.kind hk hc Bp fin) hd
  .exact wpAny_Name (wpAny_loadName_free I.ok.kind hk hc Bp fin Cg) hd
theorem ag{i j pos}:PE X (.Constant (.int i) j pos) (tC (.int i)):=λ_ _ _ H _ I h=>wpAny_Constant_int ⟨.int i,H,I.tok _,⟨_,rfl⟩,h⟩
theorem xq{b j pos}:PE X (.Constant (.bool b) j pos) (tC (.bl b)):=λ_ _ _ H _ I h=>Constant_bool ⟨.bl b,H,I,rfl,h⟩
theorem dr{x j pos}:PE X (.Constant (.str x) j pos) (tC (.str x)):=λ_ _ _ H _ I h=>Calls.Constant_str ⟨.str x,H,I.tok _,⟨_,rfl⟩,h⟩
def Gl(X:Cx)(x:Xp):Prop:=X.env.kindOf x=A? .globalImplicit
theorem kT(I:Inv X U Z H s)(hg:Gl X x)(hm:X.mg x=A? u)(h:Q u s)
 (hd:(x == ("__debug__":Xp))=false:=by decide):W7 (Xw X.prog X.w) X.A (Y2 (.Name x pos) X.env) Q E s :=
 Calls.Name_function_global I.ok.kind hg (Calls.loadGlobal_global (by rw[I.ok.glob];exact I.mod.glob.keeps I.bk) hm h) hd
theorem dh(I:Inv X U Z H s)(hg:Gl X x)(hm:X.mg x=B?)(hv:bootBuiltins x=A? u)(h:Q u s)
 (hn:x≠"__name__":=by decide) (hd:(x == ("__debug__":Xp))=false:=by decide):W7 (Xw X.prog X.w) X.A (Y2 (.Name x pos) X.env) Q E s:=by
 obtain⟨mb,h1,h2⟩:=I.mod.blt;exact Calls.Name_function_global I.ok.kind hg (Calls.loadGlobal_builtin (by rw[I.ok.glob];exact I.mod.glob.keeps I.bk) hm (by rw[I.ok.blt];exact h1.keeps I.bk) ((h2 x hn).trans hv) h) hd
theorem cH(hg:Gl X x)(hm:X.mg x=A? u)(r:RelV v u)(hd:(x == ("__debug__":Xp))=false:=by decide):PE X (.Name x pos) (tC v) :=
 λ_ _ _ H _ I h=>kT I hg hm ⟨v,H,I,r,h⟩ hd
theorem ut(hg:Gl X x)(hm:X.mg x=B?)(hv:bootBuiltins x=A? u)(r:RelV v u)(hn:x≠"__name__":=by decide)(hd:(x == ("__debug__":Xp))=false:=by decide):PE X (.Name x pos) (tC v) :=
 λ_ _ _ H _ I h=>dh I hg hm hv ⟨v,H,I,r,h⟩ hn hd
variable{a b:X9}{ta tb:TE}
def PC(X:Cx)(op:CmpOp)(a b:X9)(t:TE):Prop :=
 ∀(U:List (WQ×Zb))(s:WX)(Z:St)(H:Hp)(Q:VK),Inv X U Z H s->t Z H Q ->
   W7 (Xw X.prog X.w) X.A (Y2 a X.env) (λv Ac=>W7 (Xw X.prog X.w) X.A (Y2 b X.env) (λu AI=>W7 (Xw X.prog X.w) X.A (compareOp op v u) (EP X U Z Q) X.xe AI) X.xe Ac) X.xe s
def tB(t:TE):TT:=λZ H Q=>t Z H λx H1=>∃c,x=.bl c/\Q c H1
theorem ss{t:TE}(h:PC X op a b t)(h1:behindInMarks op b=false:=by first|exact JO _ (by decide) (by decide)|rfl):PT X (.Compare a [op] [b] pos) (tB t):=by
 intro U s Z H Q I hw;refine wpAny_isTrue_Compare1 (thn (h U s Z H _ I hw) λv s1 h1=>thn h1 λu s2 h2=>thn h2 λc s3⟨x,H1,I1,r1,q1⟩=>?_) h1;obtain⟨d,rfl,q⟩:=q1;cases r1;exact wpAny_truthy_bool ⟨H1,I1,q⟩
variable{tA MK:TT}{rest:List X9}
def abg(t u:TT):TT:=λZ H Q=>t Z H λc H1=>if c=C? then u Z H1 Q else Q Cf H1
def tOr(t u:TT):TT:=λZ H Q=>t Z H λc H1=>if c=C? then Q C? H1 else u Z H1 Q
def abt(t:TT):TT:=λZ H Q=>t Z H λc H1=>Q (!c) H1
theorem yi(ha:PT X a tA):PW X (.BoolOp .And [a] pos) tA:=by
 intro wh U s Z H Q I h;refine isTrue_and (thn (ha U s Z H Q I h) λc s1 e=>?_);cases c with
 |true=>exact isTrue_and_nil e
 |false=>exact e
theorem o9(ha:PT X a tA):PW X (.BoolOp .Or [a] pos) tA:=by
 intro wh U s Z H Q I h;refine isTrue_or (thn (ha U s Z H Q I h) λc s1 e=>?_);cases c with
 |false=>exact isTrue_or_nil e
 |true=>exact e
theorem aah(ha:PT X a tA)(hb:PW X (.BoolOp .And (b::rest) pos) MK):PW X (.BoolOp .And (a::b::rest) pos) (abg tA MK):=by
 intro wh U s Z H Q I h;refine isTrue_and (thn (ha U s Z H _ I h) λc s1⟨H1,I1,q1⟩=>?_);cases c with
 |true=>exact hb wh U s1 Z H1 Q I1 q1
 |false=>exact⟨H1,I1,q1⟩
theorem tz(ha:PT X a tA)(hb:PW X (.BoolOp .Or (b::rest) pos) MK):PW X (.BoolOp .Or (a::b::rest) pos) (tOr tA MK):=by
 intro wh U s Z H Q I h;refine isTrue_or (thn (ha U s Z H _ I h) λc s1⟨H1,I1,q1⟩=>?_);cases c with
 |true=>exact⟨H1,I1,q1⟩
 |false=>exact hb wh U s1 Z H1 Q I1 q1
theorem rM(ha:PT X a tA):PT X (.UnaryOp .Not a pos) (abt tA):=by
 intro U s Z H Q I h;exact isTrue_not (ha U s Z H (λc H1=>Q (!c) H1) I h)
def aaR(ta tb:TE):TE:=λZ H Q=>ta Z H λx H1=>∃c,x=.bl c/\if c=C? then tb Z H1 Q else Q (.bl Cf) H1
def aaq(ta:TE):TE:=λZ H Q=>ta Z H λx H1=>∃c,x=.bl c/\Q (.bl (!c)) H1
theorem jF{op}{t:TE}(h:PE X a t):PE X (.BoolOp op [a] pos) t:=λU s Z H Q I hw=>BoolOp_one (h U s Z H Q I hw)
theorem gI(ha:PE X a ta)(hb:PE X (.BoolOp .And (b::rest) pos) tb):PE X (.BoolOp .And (a::b::rest) pos) (aaR ta tb):=by
 intro U s Z H Q I h;refine BoolOp_and (thn (ha U s Z H _ I h) λv s1⟨x,H1,I1,r1,q1⟩=>?_);obtain⟨c,rfl,q1⟩:=q1;cases r1;refine wpAny_truthy_bool ?_;cases c with
 |true=>exact hb U s1 Z H1 Q I1 q1
 |false=>exact⟨.bl Cf,H1,I1,D?,q1⟩
theorem rS(ha:PE X a ta):PE X (.UnaryOp .Not a pos) (aaq ta):=by
 intro U s Z H Q I h;refine UnaryOp_ (thn (ha U s Z H _ I h) λv s1⟨x,H1,I1,r1,q1⟩=>?_);obtain⟨c,rfl,q1⟩:=q1;cases r1;exact not_of (wpAny_truthy_bool ⟨.bl (!c),H1,I1,rfl,q1⟩)
end
def SqL(K:WO)(H:Hp)(a:WQ)(xs:List V):Prop :=
 Rd H a (.lst xs) \/
  ∃(o:Zb)(its:Array WT)(n:Nat),K.lookup a=A? o/\o.cls=.type "list"/\o.dict=B?/\o.data=.seq its n/\its.size<=Xf/\Vals xs its.toList
def SqT(K:WO)(H:Hp)(a:WQ)(xs:List V):Prop :=
 Rd H a (.tup xs) \/
  ∃(o:Zb)(its:Array WT)(n:Nat),K.lookup a=A? o/\o.cls=.type "tuple"/\o.data=.seq its n/\its.size<=Xf/\Vals xs its.toList
def abu:WT->Option V
 |.none=>A? .non
 |.bool b=>A? (.bl b)
 |.int i _=>A? (.int i)
 |.str x _=>A? (.str x)
 |.bytes b _=>A? (.byt b)
 |.float b _=>A? (.flt b)
 |.ref a=>A? (.ref a)
 |.type n=>A? (.ty n)
 |_=>B?
theorem RelV.abs{x:V}(r:RelV x u):abu u=A? x:=by
 cases x with
 |non=>cases r;rfl
 |bl _=>cases r;rfl
 |int _=>obtain⟨t,rfl⟩:=r;rfl
 |str _=>obtain⟨t,rfl⟩:=r;rfl
 |byt _=>obtain⟨t,rfl⟩:=r;rfl
 |flt _=>obtain⟨t,rfl⟩:=r;rfl
 |ref _=>cases r;rfl
 |ty _=>cases r;rfl
theorem RelV.inj{x:V}(r:RelV x u)(q:RelV y u):x=y:=Xn (r.abs.symm.trans q.abs)
theorem Vals.inj:∀{xs ys:List V}{us:List WT},Vals xs us->Vals ys us->xs=ys
 |_,_,_,.nil,.nil=>rfl
 |_,_,_,.cons r t,.cons r' t'=>by rw[r.inj r',Vals.inj t t']
section
variable{X:Cx}{ys:List V}
theorem SqL.of(h:H a=A? (.lst xs)):SqL K H a xs:=.inl (.inl h)
theorem SqT.of(h:H a=A? (.tup xs)):SqT K H a xs:=.inl (.inl h)
theorem Inv.list(I:Inv X U Z H s)(h:SqL X.K H a xs):∃its:List WT,Vals xs its/\PlainL s.1 a its.toArray/\xs.length<=Xf:=by
 rcases h with h|⟨o,its,n,hk,hc,hd,hs,hz,r⟩
 .obtain⟨z,its,n,r,e⟩:=h.ok I.hok;exact⟨its,r,⟨_,n,e,D?,D?,D?⟩,z⟩
 .refine⟨its.toList,r,⟨o,n,I.kIn a o hk,hc,hd,by simpa using hs⟩,?_⟩;have e:=r.length;simp only[XS]at e;lia
theorem Inv.tuple(I:Inv X U Z H s)(h:SqT X.K H a xs):∃its:List WT,Vals xs its/\IsTup s.1 a its.toArray/\xs.length<=Xf:=by
 rcases h with h|⟨o,its,n,hk,hc,hs,hz,r⟩
 .obtain⟨z,its,n,r,p⟩:=h.ok I.hok;exact⟨its,r,⟨_,p,D?,n,D?⟩,z⟩
 .refine⟨its.toList,r,⟨o,I.kIn a o hk,hc,n,by simpa using hs⟩,?_⟩;have e:=r.length;simp only[XS]at e;lia
theorem Inv.list_inj(I:Inv X U Z H s)(h:SqL X.K H a xs)(h':SqL X.K H a ys):xs=ys:=by
 obtain⟨its,r,⟨o,n,e,_,_,d⟩,_⟩:=I.list h;obtain⟨its',r',⟨o',n',e',_,_,d'⟩,_⟩:=I.list h';rw[e]at e';cases e';rw[d]at d';injection d' with d1 _;have:its=its':=by simpa using h! Array.toList d1
 subst this;exact r.inj r'
theorem Inv.tuple_inj(I:Inv X U Z H s)(h:SqT X.K H a xs)(h':SqT X.K H a ys):xs=ys:=by
 obtain⟨its,r,⟨o,e,_,n,d⟩,_⟩:=I.tuple h;obtain⟨its',r',⟨o',e',_,n',d'⟩,_⟩:=I.tuple h';rw[e]at e';cases e';rw[d]at d';injection d' with d1 _;have:its=its':=by simpa using h! Array.toList d1
 subst this;exact r.inj r'
end
abbrev Cx.wish(X:Cx)(E:WT->WX->Prop):Cx:={X with xe:=E}
abbrev Cx.nox(X:Cx):Cx:=X.wish λ_ _=>False
theorem Cx.Ok.wish{X:Cx}(ok:X.Ok)(E:WT->WX->Prop):(X.wish E).Ok :=
 ⟨ok.mod,ok.kind,ok.glob,ok.blt,ok.above,ok.inj,ok.has,ok.cab,ok.hd,ok.frames,ok.stk,ok.exf,ok.bs,ok.bsz,ok.noex,ok.exfs,ok.funs,ok.frf⟩
theorem Cx.Ok.unwish{X:Cx}(ok:(X.wish E).Ok):X.Ok :=
 ⟨ok.mod,ok.kind,ok.glob,ok.blt,ok.above,ok.inj,ok.has,ok.cab,ok.hd,ok.frames,ok.stk,ok.exf,ok.bs,ok.bsz,ok.noex,ok.exfs,ok.funs,ok.frf⟩
section
variable{X:Cx}
theorem Inv.wish(I:Inv X U Z H s)(E:WT->WX->Prop):Inv (X.wish E) U Z H s:=⟨I.ok.wish E,I.os,I.bare,I.base,I.loc,I.cell,I.free,I.freeC,I.pin,I.hok,I.len⟩
theorem Inv.unwish(I:Inv (X.wish E) U Z H s):Inv X U Z H s:=⟨I.ok.unwish,I.os,I.bare,I.base,I.loc,I.cell,I.free,I.freeC,I.pin,I.hok,I.len⟩
theorem SP.unwish{f:Flow}{s':WX}(h:SP (X.wish E) U D f s'):SP X U D f s':=by
 cases f with
 |next=>obtain⟨Ab,H',I,q⟩:=h;exact⟨Ab,H',I.unwish,q⟩
 |brk=>obtain⟨Ab,H',I,q⟩:=h;exact⟨Ab,H',I.unwish,q⟩
 |cont=>obtain⟨Ab,H',I,q⟩:=h;exact⟨Ab,H',I.unwish,q⟩
 |ret u=>obtain⟨v,Ab,H',I,r,q⟩:=h;exact⟨v,Ab,H',I.unwish,r,q⟩
theorem PSs.nox{st:List Stmt}{t:TS}(h:PSs X.nox st t):PSs X st t:=λU s Z H D I hw =>
 Y6 (h U s Z H D (I.wish _) hw) (λ_ _ q=>q.unwish) λ_ _ z=>YE z
end
section
variable{X:Cx}{st:Stmt}{rest:List Stmt}{t u:TS}
def nE:TS:=λD Z H=>D.nx Z H
def wM(t u:TS):TS:=λD Z H=>t {D with nx:=u D} Z H
theorem bB:PSs X [] nE:=λ_ _ Z H _ I h=>wpAny_execs_nil ⟨Z,H,I,h⟩
theorem ad(h1:PS X st t)(h2:PSs X rest u):PSs X (st::rest) (wM t u):=by
 intro U s Z H D I h;refine wpAny_execs_cons (thn (h1 U s Z H {D with nx:=u D} I h) λf s1 q=>?_);cases f with
 | next =>
   obtain⟨Ab,H',I',q⟩:=q;exact h2 U s1 Ab H' D I' q
 |ret v=>exact q
 |brk=>exact q
 |cont=>exact q
theorem af(h1:PS X st t):PSs X [st] t:=by
 intro U s Z H D I h;refine wpAny_execs_cons (thn (h1 U s Z H D I h) λf s1 q=>?_);cases f with
 |next=>exact wpAny_execs_nil q
 |ret v=>exact q
 |brk=>exact q
 |cont=>exact q
def vZ:TS:=λD Z H=>D.bk Z H
theorem wf:PS X (.Break pos) vZ:=λ_ _ Z H _ I h=>wpAny_Break ⟨Z,H,I,h⟩
theorem Inv.quiet(I:Inv X U Z H s):interactive X.env=false:=by simp[interactive,I.ok.kind]
def aao(te:TE):TS:=λD Z H=>te Z H λ_ H1=>D.nx Z H1
theorem aS(he:PE X e te)(hs:swapsWith e B? pos.line X.env=pure false:=by rfl):PS X (.Expr e pos) (aao te):=by
 intro U s Z H D I h;exact wpAny_Expr_any (thn (he U s Z H _ I h) λv s1⟨x,H1,I1,r1,q1⟩=>⟨Z,H1,I1,q1⟩) I.quiet hs
def abH(te:TE):TS:=λD Z H=>te Z H D.rt
theorem ax(he:PE X e te):PS X (.Return (A? e) pos) (abH te):=by
 intro U s Z H D I h;exact wpAny_Return_some (thn (he U s Z H _ I h) λv s1⟨x,H1,I1,r1,q1⟩=>⟨x,Z,H1,I1,r1,q1⟩)
def aaz(c:TT)(t u:TS):TS:=λD Z H=>c Z H λb H1=>if b=C? then t D Z H1 else u D Z H1
theorem bZ{c:X9}{a b:List Stmt}{tc:TT}(hc:PT X c tc)(ha:PSs X a t)(hb:PSs X b u):PS X (.If c a b pos) (aaz tc t u):=by
 intro U s Z H D I h;refine wpAny_If (thn (hc U s Z H _ I h) λd s1⟨H1,I1,q1⟩=>?_);cases d with
 |true=>exact ha U s1 Z H1 D I1 q1
 |false=>exact hb U s1 Z H1 D I1 q1
def aae:TS:=λ_ _ _=>False
theorem l5:PS X st aae:=λ_ _ _ _ _ _ h=>h.elim
end
abbrev TG:=V->St->Hp->(St->Hp->Prop)->Prop
abbrev TGs:=List V->St->Hp->(St->Hp->Prop)->Prop
def PG(X:Cx)(target:X9)(t:TG):Prop :=
 ∀(U:List (WQ×Zb))(s:WX)(Z:St)(H:Hp)(v:V)(u:WT)(Q:St->Hp->Prop),Inv X U Z H s->RelV v u->t v Z H Q ->
   W7 (Xw X.prog X.w) X.A (assign target X.env u) (λ_ s'=>∃Ab H',Inv X U Ab H' s'/\Q Ab H') X.xe s
def PGs(X:Cx)(ts:List X9)(t:TGs):Prop :=
 ∀(U:List (WQ×Zb))(s:WX)(Z:St)(H:Hp)(vs:List V)(us:List WT)(Q:St->Hp->Prop),Inv X U Z H s->Vals vs us->t vs Z H Q ->
   W7 (Xw X.prog X.w) X.A (assignInOrder ((assignEach ts X.env).map (·.2)) us) (λ_ s'=>∃Ab H',Inv X U Ab H' s'/\Q Ab H') X.xe s
abbrev zw:=V->V->V->Hp->(Hp->Prop)->Prop
def aat(X:Cx)(t:zw):Prop :=
 ∀(U:List (WQ×Zb))(s:WX)(Z:St)(H:Hp)(o i v:V)(ov iv u:WT)(Q:Hp->Prop),Inv X U Z H s->RelV o ov->RelV i iv->RelV v u->t o i v H Q ->
   W7 (Xw X.prog X.w) X.A (setItem ov iv u) (λ_ s'=>∃H',Inv X U Z H' s'/\Q H') X.xe s
abbrev TIp:=V->V->Hp->VK->Prop
def PIp(X:Cx)(op:Operator)(t:TIp):Prop :=
 ∀(U:List (WQ×Zb))(s:WX)(Z:St)(H:Hp)(x y:V)(v u:WT)(Q:VK),Inv X U Z H s->RelV x v->RelV y u->t x y H Q ->
   W7 (Xw X.prog X.w) X.A (inplaceOp op v u) (EP X U Z Q) X.xe s
section
variable{X:Cx}
def ak(i:Nat):TG:=λv Z H Q=>Q (Z.set i (A? v)) H
theorem yJ(hN:X.N.Nodup)(hi:X.N[i]?=A? x)(hx:Loc X.env.scope x)(hf:X.fn x=C?\/X.env.scope.names.lookup x=A? .local:=by first|exact .inl rfl|exact .inr rfl|assumption):PG X (.Name x pos) (ak i):=by
 intro U s Z H v u Q I r h;exact wpAny_assign_Name (gy I hN hi hx r (λs' I'=>⟨_,H,I',h⟩) hf)
def mM:TGs:=λvs Z H Q=>vs=[]/\Q Z H
def dg(t:TG)(u:TGs):TGs:=λvs Z H Q=>∃v r,vs=v::r/\t v Z H λAb H'=>u r Ab H' Q
theorem aU:PGs X [] mM:=by
 intro U s Z H vs us Q I r h;obtain⟨e,h⟩:=h;subst e;cases r;exact assignInOrder_nil ⟨Z,H,I,h⟩
theorem am{t:TG}{u:TGs}(h1:PG X e t)(h2:PGs X es u)
 (hs:(assignEach (e::es) X.env).map (·.2)=assign e X.env::(assignEach es X.env).map (·.2):=by rfl):PGs X (e::es) (dg t u):=by
 intro U s Z H vs us Q I r h;obtain⟨v,vr,e1,h⟩:=h;subst e1;cases r with
 | cons r rr =>
   rw[hs];refine assignInOrder_cons (thn (h1 U s Z H _ _ _ I r h) λ_ s1⟨B4,H1,I1,q1⟩=>?_);exact h2 U s1 B4 H1 _ _ Q I1 rr q1
def mQ(K:WO)(n:Nat)(t:TGs):TG:=λv Z H Q=>∃a xs,v=.ref a/\SqT K H a xs/\xs.length=n/\t xs Z H Q
theorem bx{k:Nat}{t:TGs}(hc:X.calm=C?)(h:PGs X es t)
 (hn:(assignEach es X.env).length=n:=by rfl) (AX:(assignEach es X.env).findIdx? (·.1)=none:=by rfl):PG X (.Tuple es k pos) (mQ X.K n t):=by
 intro U s Z H v u Q I r hw;obtain⟨a,xs,e1,hq,hl,hw⟩:=hw;subst e1;cases r;obtain⟨its,rv,ht,hz⟩:=I.tuple hq;refine assign_Tuple_tuple (I.ok.hd hc) ht (by simp[hn,<-hl,rv.length]) AX λh' hx=>?_;have I1:Inv X U Z H {s with heap:=h'}:=I.kept (t':=s.toks) λb o e=>hx b o (XC (Xb e)) e;exact h U _ Z H xs _ Q I1 (by simpa using rv) hw
def abn(to ti:TE)(t:zw):TG:=λv Z H Q=>to Z H λo H1=>ti Z H1 λi H2=>t o i v H2 λH3=>Q Z H3
theorem vm{o i:X9}{to ti:TE}{t:zw}(ho:PE X o to)(hi:PE X i ti)(hs:aat X t)
 (ha:∀v,assign (.Subscript o i pos) X.env v=(do
  let ov <-holding [v] (Y2 o X.env)
  let iv <-holding [v,ov] (Y2 i X.env)
  standAt pos
  holding [v,ov,iv] (setItem ov iv v)
  release [v,ov,iv] []):=by intro _;rfl):PG X (.Subscript o i pos) (abn to ti t):=by
 intro U s Z H v u Q I r h;rw[ha];refine WN (Yy (thn (ho U s Z H _ I h) λov s1⟨x,H1,I1,r1,q1⟩=>?_));refine WN (Yy (thn (hi U s1 Z H1 _ I1 q1) λiv s2⟨y,H2,I2,r2,q2⟩=>?_));refine WN (wpAny_standAt (WN (Yy (thn (hs U s2 Z H2 x y v ov iv u _ I2 r1 r2 r q2) λ_ s3⟨H3,I3,q3⟩=>?_))));exact wpAny_release ⟨Z,H3,I3,q3⟩
def wT(te:TE)(g:TG):TS:=λD Z H=>te Z H λx H1=>g x Z H1 D.nx
theorem fB{g:TG}(he:PE X e te)(hg:PG X tg g)(hs:swapsWithSole [tg] e pos.line X.env=pure false:=by rfl)(hw:swappedStores [tg] e X.env=pure none:=by rfl)
 (h1:(assignEach [tg] X.env).map (·.2)=[assign tg X.env]:=by rfl):PS X (.Assign [tg] e pos) (wT te g):=by
 intro U s Z H D I h;refine wpAny_Assign_stores (thn (he U s Z H _ I h) λv s1⟨x,H1,I1,r1,q1⟩=>?_) hs hw;rw[h1];exact thn (hg U s1 Z H1 x v _ I1 r1 q1) λ_ s2 q=>q
theorem wN(hN:X.N.Nodup)(hi:X.N[i]?=A? x)(hx:Loc X.env.scope x)(he:PE X e te)(hs:swapsWith e (A? (.Name x pos')) pos.line X.env=pure false:=by rfl)(hf:X.fn x=C?\/X.env.scope.names.lookup x=A? .local:=by first|exact .inl rfl|exact .inr rfl|assumption) :
 PS X (.Assign [.Name x pos'] e pos) (wT te (ak i)):=by
 intro U s Z H D I h;refine wpAny_Assign_Name (thn (he U s Z H _ I h) λv s1⟨y,H1,I1,r1,q1⟩=>?_) hs;exact gy I1 hN hi hx r1 (λs2 I2=>⟨_,H1,I2,q1⟩) hf
def aa9(i:Nat)(te:TE)(ti:TIp):TS:=λD Z H=>∃x,Z[i]?=A? (A? x)/\te Z H λy H1=>ti x y H1 λz H2=>D.nx (Z.set i (A? z)) H2
theorem wV{op:Operator}{ti:TIp}(hN:X.N.Nodup)(hi:X.N[i]?=A? x)(hx:Loc X.env.scope x)(he:PE X e te)(ho:PIp X op ti)(hf:X.fn x=C?\/X.env.scope.names.lookup x=A? .local:=by first|exact .inl rfl|exact .inr rfl|assumption) :
 PS X (.AugAssign (.Name x pos') op e pos) (aa9 i te ti):=by
 intro U s Z H D I h;obtain⟨v,e1,h⟩:=h;obtain⟨m,hn,hl⟩:=I.loc;have Rq:Vis X.env.scope x:=by rcases hx with k|k;exact .inl k;exact .inr (.inl k)
 obtain⟨u,r,l⟩:=hl i x v hi e1 Rq;refine wpAny_AugAssign_Name ?_
 have go:W7 (Xw X.prog X.w) X.A (Y2 e X.env) (λw AI=>W7 (Xw X.prog X.w) X.A (inplaceOp op u w) (λr Ci=>W7 (Xw X.prog X.w) X.A (storeName X.env x r) (λ_=>SP X U D .next) X.xe Ci) X.xe AI) X.xe s:=by
  refine thn (he U s Z H _ I h) λw s1⟨y,H1,I1,r1,q1⟩=>?_;refine thn (ho U s1 Z H1 v y u w _ I1 r r1 q1) λz s2⟨zv,H2,I2,r2,q2⟩=>?_;exact gy I2 hN hi hx r2 (λs3 I3=>⟨_,H2,I3,q2⟩) hf
 rcases l with⟨hk,hm⟩|⟨hk,c,hc,Bp⟩
 .exact wpAny_loadName_local I.ok.kind hk hn hm go
 .rcases hk with hk|hk
  .exact wpAny_loadName_cell I.ok.kind hk hc Bp go
  .rcases hx with k|k
   .have:X.env.scope.names.lookup x=A? .free:=hk;rw[k]at this;cases this
   .have:X.env.scope.names.lookup x=A? .free:=hk;rw[k]at this;cases this
def ipI(f:Int->Int->Int):TIp:=λx y H Q=>∃i j,x=.int i/\y=.int j/\Q (.int (f i j)) H
theorem wt:PIp X .Add (ipI λi j=>i+j):=by
 intro U s Z H x y v u Q I r1 r2 h;obtain⟨i,j,e1,e2,q⟩:=h;subst e1;subst e2;obtain⟨t,rfl⟩:=r1;obtain⟨t',rfl⟩:=r2;exact iadd_int ⟨.int _,H,I.tok _,⟨_,rfl⟩,q⟩
end
section
variable{X:Cx}
def zr(c:TT)(tb:TS):TS:=λD Z H=>∃W:Nat->St->Hp->Prop,(∃m,W m Z H)/\∀m Z H,W m Z H ->
 c Z H λb H1=>if b=C? then∃N:St->Hp->Prop,(∀Ab H',N Ab H'->∃m',m'<m/\W m' Ab H')/\tb {D with nx:=N,ct:=N,bk:=D.nx} Z H1 else D.nx Z H1
theorem dO{c:X9}{tc:TT}(hp:PassesOwn (Xw X.prog X.w) X.A X.env X.xe)(hc:PT X c tc)(hb:PSs X body tb):PS X (.While c body [] pos) (zr tc tb):=by
 intro U s Z H D I h;obtain⟨W,⟨m0,w0⟩,turn⟩:=h;refine wpAny_While (codeAny_whileLoop (λn s'=>∃Ab H',Inv X U Ab H' s'/\W n Ab H') ?_ m0 ⟨Z,H,I,w0⟩);rintro n s1 ⟨B4,H1,I1,w1⟩;refine wpAny_passesOwn hp (thn (hc U s1 B4 H1 _ I1 (turn n B4 H1 w1)) λb s2⟨H2,I2,q2⟩=>?_);cases b with
 | true =>
   obtain⟨N,hN,q2⟩:=q2;rw[b! rfl];refine wpAny_passesOwn hp (thn (hb U s2 B4 H2 _ I2 q2) λf s3 q3=>?_);cases f with
   | next =>
     obtain⟨Er,H3,I3,n3⟩:=q3;obtain⟨m',hm,w3⟩:=hN Er H3 n3;exact⟨m',hm,Er,H3,I3,w3⟩
   | cont =>
     obtain⟨Er,H3,I3,n3⟩:=q3;obtain⟨m',hm,w3⟩:=hN Er H3 n3;exact⟨m',hm,Er,H3,I3,w3⟩
   |brk=>exact q3
   |ret v=>exact q3
 | false =>
   rw[a! W6];exact wpAny_execs_nil ⟨B4,H2,I2,q2⟩
end
structure It where
 go:Nat->Hp->Prop
 yld:Nat->Hp->V->Hp->Prop
 stop:Nat->Hp->Prop
def jn(X:Cx)(U:List (WQ×Zb))(H:Hp)(b:WQ):Prop :=
 H b=B?/\b≠X.env.locals/\b∉X.fs/\(b∈X.ex\/X.s₀.heap.1.size<=b)/\(∀x c,X.env.cells.lookup x=A? c->c≠b)/\∀p∈X.pn++U,p.1≠b
theorem Inv.fpOk{X:Cx}(I:Inv X U Z H s)(hb:s.1.1.size<=b)(hn:H' b=B?):jn X U H' b:=by
 refine⟨hn,Nat.ne_of_gt (XN I.lt hb),I.nofs hb,.inr (Xs I.sz hb),λx c e z=>?_,λp hp z=>?_⟩
 .obtain⟨v,q⟩:=I.cell x c e;exact g! (XN q.lt (by rw[z];exact hb)) (Ys _)
 .exact g! (XN (Xb (I.pin p hp).1) (by rw[z];exact hb)) (Ys _)
structure Turn(P:W5)(w:Xq)(K:WO)(tg:X9)(J:It)(fp:List WQ)(it:WQ)(tn:Nat->Yh->Prop):Prop where
 mem:it∈fp
 obj:∀i h,tn i h->∀b∈fp,∃o,h.get? b=A? o/\∀v,o.data≠.cell v
 keep:∀i h h',tn i h->(∀b∈fp,∀o,h.get? b=A? o->h'.get? b=A? o)->tn i h'
 item:∀(X:Cx),X.prog=P->X.w=w->X.K=K->X.calm=C?->∀(i:Nat)(U:List (WQ×Zb))(s:WX)(Z:St)(H:Hp)(E:WT->WX->Prop),Inv X U Z H s->(∀b∈fp,jn X U H b)->tn i s.1->J.go i H ->
  W7 (Xw P w) X.A (Z9 (.ref it)) (λr s1=>∃u,r=A? u /\
   W7 (Xw P w) X.A (letOwnedTupleGo tg (.ref it) u) (λ_ s2=>∃x H',Inv X U Z H' s2/\RelV x u/\J.yld i H x H'/\tn (i+1) s2.1/\∀b∈fp,H' b=B?) E s1) E s
 done:∀(X:Cx),X.prog=P->X.w=w->X.K=K->X.calm=C?->∀(i:Nat)(U:List (WQ×Zb))(s:WX)(Z:St)(H:Hp)(E:WT->WX->Prop),Inv X U Z H s->(∀b∈fp,jn X U H b)->tn i s.1->J.stop i H ->
  W7 (Xw P w) X.A (Z9 (.ref it)) (λr s1=>r=B?/\Inv X U Z H s1) E s
 self:∀(A:XI)(i:Nat)(s:WX)(Q:WT->WX->Prop)(E:WT->WX->Prop),tn i s.1->Q (.ref it) s->W7 (Xw P w) A (pyIter (.ref it)) Q E s
abbrev TI:=St->Hp->(It->Hp->Prop)->Prop
def PIE(X:Cx)(U:List (WQ×Zb))(Z:St)(tg:X9)(R:It->Hp->Prop)(ML:WT)(s2:WX):Prop :=
 ∃(it:WQ)(fp:List WQ)(tn:Nat->Yh->Prop)(J:It)(H':Hp),ML=.ref it/\Inv X U Z H' s2/\Turn X.prog X.w X.K tg J fp it tn/\tn 0 s2.1/\(∀b∈fp,jn X U H' b)/\R J H'
def PI(X:Cx)(tg iter:X9)(wi:TI):Prop :=
 ∀(U:List (WQ×Zb))(s:WX)(Z:St)(H:Hp)(R:It->Hp->Prop),Inv X U Z H s->wi Z H R ->
   W7 (Xw X.prog X.w) X.A (Y2 iter X.env) (λv s1=>W7 (Xw X.prog X.w) X.A (pyIter v) (PIE X U Z tg R) X.xe s1) X.xe s
theorem tS{o:Zb}{n:String}{vs:Array WT}{Q:Unit->WX->Prop}(ho:s.1.get? it=A? o)(hc:o.cls=.type n)(hd:o.data=.fields vs)
 (hn:["enumerate","zip","dict_itemiterator","dict_reverseitemiterator","odict_iterator","itertools.zip_longest","itertools.pairwise"].contains n=Cf) (hQ:Q () s):W7 M A (letOwnedTupleGo tg (.ref it) u) Q E s:=by
 unfold letOwnedTupleGo
 cases tg <;> first
  |exact WW hQ
  |(cases u <;> first
   |exact WW hQ
   | (refine WN (wpAny_load ho ?_)
      rw[hc,hd];show W7 M A (if(["enumerate","zip","dict_itemiterator","dict_reverseitemiterator","odict_iterator","itertools.zip_longest","itertools.pairwise"].contains n && vs[0]? == A? (Y7 _))=C? then _ else _) Q E s;rw[a! (by intro h;rw[hn,Bool.false_and]at h;cases h)];exact WW hQ))
def Itl(K:WO)(a:WQ):It :=
 ⟨λi H=>∃xs x,SqL K H a xs/\xs[i]?=A? x,λi H x H'=>H'=H/\∀xs,SqL K H a xs->xs[i]?=A? x,λi H=>∃xs,SqL K H a xs/\xs.length<=i⟩
def Itt(K:WO)(a:WQ):It :=
 ⟨λi H=>∃xs x,SqT K H a xs/\xs[i]?=A? x,λi H x H'=>H'=H/\∀xs,SqT K H a xs->xs[i]?=A? x,λi H=>∃xs,SqT K H a xs/\xs.length<=i⟩
def Itr(lo:Int)(n:Nat):It:=⟨λi _=>i<n,λi H x H'=>H'=H/\x=.int (lo+i),λi _=>n<=i⟩
theorem og(a it:WQ):Turn P w K tg (Itl K a) [it] it (λi h=>h.IsListIter it a i) where
 mem:=by simp
 obj:=λi h st b hb=>by
  have e:b=it:=by simpa using hb
  subst e;obtain⟨o,e,c,d⟩:=st;exact⟨o,e,λv z=>by rw[d]at z;cases z⟩
 keep:=λi h h' st k=>st.at λo e=>k it (by simp) o e
 item:=by
  intro X hP hw hK hc i U s Z H E I hf st hg;subst hP hw hK;obtain⟨xs,x,hq,hx⟩:=hg;obtain⟨its,rv,p,hz⟩:=I.list hq;obtain⟨u,hu,ru⟩:=rv.get hx;obtain⟨f0,f1,f2,f3,f4,f5⟩:=hf it (by simp);refine wpAny_pyNext_list_item st p.isList (x:=u) (by simpa using hu) λh' Eg sb=>?_;have I1:Inv X U Z H {s with heap:=h'}:=I.turned (t':=s.toks) (λb o hb e=>(sb.2 b hb).trans e) f0 f1 f3 f4 f5;obtain⟨o,e,c,d⟩:=id Eg;exact⟨u,D?,tS (s:={s with heap:=h'}) e c d (by decide) ⟨x,H,I1,ru,⟨D?,λys hy=>by rw[I.list_inj hy hq];exact hx⟩,Eg,λb hb=>(hf b hb).1⟩⟩
 done:=by
  intro X hP hw hK hc i U s Z H E I hf st hg;subst hP hw hK;obtain⟨xs,hq,hx⟩:=hg;obtain⟨its,rv,p,hz⟩:=I.list hq;obtain⟨f0,f1,f2,f3,f4,f5⟩:=hf it (by simp);have hl:=rv.length;exact wpAny_pyNext_list_end (I.ok.hd hc) st p.isList (by simp;lia) λh' eb=>⟨rfl,I.turned (t':=s.toks) (λb o hb e=>eb b o hb e) f0 f1 f3 f4 f5⟩
 self:=λ_ _ _ _ _ st h=>wpAny_pyIter_listiter st h
theorem lj(a it:WQ):Turn P w K tg (Itt K a) [it] it (λi h=>h.IsTupleIter it a i) where
 mem:=by simp
 obj:=λi h st b hb=>by
  have e:b=it:=by simpa using hb
  subst e;obtain⟨o,e,c,d⟩:=st;exact⟨o,e,λv z=>by rw[d]at z;cases z⟩
 keep:=λi h h' st k=>st.at λo e=>k it (by simp) o e
 item:=by
  intro X hP hw hK hc i U s Z H E I hf st hg;subst hP hw hK;obtain⟨xs,x,hq,hx⟩:=hg;obtain⟨its,rv,p,hz⟩:=I.tuple hq;obtain⟨u,hu,ru⟩:=rv.get hx;obtain⟨f0,f1,f2,f3,f4,f5⟩:=hf it (by simp);refine wpAny_pyNext_tuple_item st (show s.1.IsTuple a its.toArray from p) (x:=u) (by simpa using hu) λh' Eg sb=>?_;have I1:Inv X U Z H {s with heap:=h'}:=I.turned (t':=s.toks) (λb o hb e=>(sb.2 b hb).trans e) f0 f1 f3 f4 f5;obtain⟨o,e,c,d⟩:=id Eg;exact⟨u,D?,tS (s:={s with heap:=h'}) e c d (by decide) ⟨x,H,I1,ru,⟨D?,λys hy=>by rw[I.tuple_inj hy hq];exact hx⟩,Eg,λb hb=>(hf b hb).1⟩⟩
 done:=by
  intro X hP hw hK hc i U s Z H E I hf st hg;subst hP hw hK;obtain⟨xs,hq,hx⟩:=hg;obtain⟨its,rv,p,hz⟩:=I.tuple hq;obtain⟨f0,f1,f2,f3,f4,f5⟩:=hf it (by simp);have hl:=rv.length;exact wpAny_pyNext_tuple_end (I.ok.hd hc) st (show s.1.IsTuple a its.toArray from p) (by simp;lia) λh' eb=>⟨rfl,I.turned (t':=s.toks) (λb o hb e=>eb b o hb e) f0 f1 f3 f4 f5⟩
 self:=λ_ _ _ _ _ st h=>wpAny_pyIter_tupleiter st h
theorem sN(it:WQ)(lo:Int)(n:Nat):Turn P w K tg (Itr lo n) [it] it (λi h=>IsRangeIter h it (lo+(i:Nat) * 1) ((n:Int) - (i:Nat)) 1) where
 mem:=by simp
 obj:=λi h st b hb=>by
  have e:b=it:=by simpa using hb
  subst e
  exact⟨_,st,λv z=>by
   have z':Data.fields _=Data.cell v:=z;cases z'⟩
 keep:=λi h h' st k=>k it (by simp) _ st
 item:=by
  intro X hP hw hK hc i U s Z H E I hf st hg;subst hP hw hK;obtain⟨f0,f1,f2,f3,f4,f5⟩:=hf it (by simp);have W:=Walks.range (prog:=X.prog) (w:=X.w) (I.ok.hd hc) it lo 1 n;refine W.item i s _ _ hg st λv h' tk hv Eg kk=>?_;obtain⟨t,rfl⟩:=hv;have I1:Inv X U Z H {s with heap:=h',toks:=tk}:=I.turned (λb o hb e=>kk b o (by simpa using hb) e) f0 f1 f3 f4 f5;refine⟨_,D?,tS (s:={s with heap:=h',toks:=tk}) (n:="range_iterator") Eg rfl rfl (by decide) ⟨.int (lo+i),H,I1,⟨t,?_⟩,⟨D?,D?⟩,Eg,λb hb=>(hf b hb).1⟩⟩;rw[Int.mul_one]
 done:=by
  intro X hP hw hK hc i U s Z H E I hf st hg;subst hP hw hK;obtain⟨f0,f1,f2,f3,f4,f5⟩:=hf it (by simp);exact wpAny_pyNext_range_end (I.ok.hd hc) st (by have:n<=i:=hg;lia) λh' eb=>⟨rfl,I.turned (t':=s.toks) (λb o hb e=>eb b o hb e) f0 f1 f3 f4 f5⟩
 self:=λ_ _ _ _ _ st h=>wpAny_pyIter_rangeiter st h
end L2
open L2.SqL renaming of->l!
open L2.SqT renaming of->n!
variable{g:L2.TG}{wi:L2.TI}
namespace L2
open PySem PySem.Spec PyProof.Rows
section
variable{X:Cx}
def yZ(K:WO)(tl:TE):TI:=λZ H R=>tl Z H λx H1=>∃a,x=.ref a/\(∃xs,SqL K H1 a xs)/\R (Itl K a) H1
def abl(K:WO)(tl:TE):TI:=λZ H R=>tl Z H λx H1=>∃a,x=.ref a/\(∃xs,SqT K H1 a xs)/\R (Itt K a) H1
theorem bQ{l:X9}(hl:PE X l tl):PI X tg l (yZ X.K tl):=by
 intro U s Z H R I h;refine thn (hl U s Z H _ I h) λv s1⟨x,H1,I1,r1,q1⟩=>?_;obtain⟨a,e,⟨xs,hq⟩,q⟩:=q1;subst e;cases r1;obtain⟨its,rv,p,hz⟩:=I1.list hq;refine wpAny_pyIter_list p.isList ?_;refine⟨s1.1.1.size,[s1.1.1.size],_,_,H1,D?,I1.kept (t':=s1.toks) λb o e=>WU _ e,og a _,⟨_,W4 _ rfl,D?,D?⟩,λb hb=>?_,q⟩;have e:b=s1.1.1.size:=by simpa using hb
 subst e;exact I1.fpOk (WV _) (I1.hok.fresh (WV _))
theorem di{l:X9}(hl:PE X l tl):PI X tg l (abl X.K tl):=by
 intro U s Z H R I h;refine thn (hl U s Z H _ I h) λv s1⟨x,H1,I1,r1,q1⟩=>?_;obtain⟨a,e,⟨xs,hq⟩,q⟩:=q1;subst e;cases r1;obtain⟨its,rv,p,hz⟩:=I1.tuple hq;refine ZQ (show s1.1.IsTuple a its.toArray from p) ?_;refine⟨s1.1.1.size,[s1.1.1.size],_,_,H1,D?,I1.kept (t':=s1.toks) λb o e=>WU _ e,lj a _,⟨_,W4 _ rfl,D?,D?⟩,λb hb=>?_,q⟩;have e:b=s1.1.1.size:=by simpa using hb
 subst e;exact I1.fpOk (WV _) (I1.hok.fresh (WV _))
theorem qK{R:It->Hp->Prop}{lo hi:Int}{t u v:Tok}{tk:Nat}(I:Inv X U Z H s)(h1:-(2 ^ 62)<=lo)(h2:lo<2 ^ 62)(h3:-(2 ^ 62)<=hi)(h4:hi<2 ^ 62)
 (q:R (Itr lo (hi - lo).toNat) H):W7 (Xw X.prog X.w) X.A (pyIter (.ref s.1.1.size)) (PIE X U Z tg R) E {s with heap:=s.1.push {cls:=.type "range",data:=.fields #[.int lo t,.int hi u,.int 1 v]},toks:=tk}:=by
 refine wpAny_pyIter_range (IsRange.new ..) (small_one h1 h2 h3 h4) ?_;have I1:Inv X U Z H {s with heap:=s.1.push {cls:=.type "range",data:=.fields #[.int lo t,.int hi u,.int 1 v]},toks:=tk}:=I.kept λb o e=>WU _ e
 refine⟨(s.1.push {cls:=.type "range",data:=.fields #[.int lo t,.int hi u,.int 1 v]}).objs.size,[(s.1.push {cls:=.type "range",data:=.fields #[.int lo t,.int hi u,.int 1 v]}).objs.size],_,_,H,D?,
  I1.kept (t':=tk) λb o e=>WU _ e,sN _ lo (hi - lo).toNat,?_,λb hb=>?_,q⟩
 .have e1:lo+((0:Nat):Int) * 1=lo:=by simp
  have e2:(((hi - lo).toNat:Nat):Int) - ((0:Nat):Int)=Builtin.Range.rangeSize lo hi 1:=by rw[rangeSize_one];split <;> lia
  show IsRangeIter _ _ (lo+((0:Nat):Int) * 1) ((((hi - lo).toNat:Nat):Int) - ((0:Nat):Int)) 1;rw[e1,e2];exact W4 _ rfl
 .have e:b=(s.1.push {cls:=.type "range",data:=.fields #[.int lo t,.int hi u,.int 1 v]}).objs.size:=by simpa using hb
  subst e;exact I1.fpOk (WV _) (I1.hok.fresh (WV _))
def aaV(ta:TA):TI:=λZ H R=>ta Z H λvs H1=>∃j:Int,vs=[.int j]/\-(2 ^ 62)<=j/\j<2 ^ 62/\R (Itr 0 j.toNat) H1
def aau(ta:TA):TI:=λZ H R=>ta Z H λvs H1=>∃i j:Int,vs=[.int i,.int j]/\(-(2 ^ 62)<=i/\i<2 ^ 62/\-(2 ^ 62)<=j/\j<2 ^ 62)/\R (Itr i (j - i).toNat) H1
theorem bu{a:X9}{ta:TA}{p:Z2}(hg:Gl X "range")(hm:X.mg "range"=B?)(ha:PA X [a] ta)(hs:XG [a] X.env=[(Cf,Y2 a X.env)]:=by rfl):PI X tg (.Call (.Name "range" p) [a] [] pos) (aaV ta):=by
 intro U s Z H R I h;refine Call_ (dh I hg hm boot_range (X2 (thn (ha pos U s Z H _ I h) λus s1⟨vs,H1,I1,r1,q1⟩=>?_) hs rfl));obtain⟨j,e,q1,q2,q⟩:=q1;subst e;cases r1 with
 | cons r rr =>
   cases rr;obtain⟨t,rfl⟩:=r;exact call_range_1 (qK I1 (by lia) (by lia) q1 q2 (by simpa using q))
theorem n9{a b:X9}{ta:TA}{p:Z2}(hg:Gl X "range")(hm:X.mg "range"=B?)(ha:PA X [a,b] ta)(hs:XG [a,b] X.env=[(Cf,Y2 a X.env),(Cf,Y2 b X.env)]:=by rfl)(JP:XG [b] X.env=[(Cf,Y2 b X.env)]:=by rfl) :
 PI X tg (.Call (.Name "range" p) [a,b] [] pos) (aau ta):=by
 intro U s Z H R I h;refine Call_ (dh I hg hm boot_range (X2 (thn (ha pos U s Z H _ I h) λus s1⟨vs,H1,I1,r1,q1⟩=>?_) (by rw[hs,JP]) (by rw[JP];rfl)));obtain⟨i,j,e,⟨q1,q2,q3,q4⟩,q⟩:=q1;subst e;cases r1 with
 | cons r rr =>
   cases rr with
   | cons r' rr =>
     cases rr;obtain⟨t,rfl⟩:=r;obtain⟨t',rfl⟩:=r';exact call_range_2 (qK I1 q1 q2 q3 q4 q)
def abD(wi:TI)(g:TG)(tb:TS):TS:=λD Z H=>wi Z H λJ H1=>∃W:Nat->Nat->St->Hp->Prop,(∃m,W 0 m Z H1)/\∀i m Z H,W i m Z H ->
 (J.stop i H/\D.nx Z H)\/(J.go i H/\∃N:St->Hp->Prop,(∀Ab H',N Ab H'->∃m',m'<m/\W (i+1) m' Ab H')/\∀x H',J.yld i H x H'->g x Z H' λAx H2=>tb {D with nx:=N,ct:=N,bk:=D.nx} Ax H2)
def mG(fp:List WQ)(h:Yh):List (WQ×Zb):=fp.filterMap λb=>(h.get? b).map λo=>(b,o)
theorem fY{o:Zb}(hb:b∈fp)(e:h.get? b=A? o):(b,o)∈mG fp h:=List.mem_filterMap.mpr ⟨b,hb,by rw[e];rfl⟩
theorem uB{p:WQ×Zb}(hp:p∈mG fp h):p.1∈fp/\h.get? p.1=A? p.2:=by
 obtain⟨b,hb,e⟩:=List.mem_filterMap.mp hp;cases q:h.get? b with
 |none=>rw[q]at e;cases e
 | some o =>
   rw[q]at e;have e':(b,o)=p:=Xn e;subst e';exact⟨hb,q⟩
theorem Inv.pinned(I:Inv X U Z H s)(hf:∀b∈fp,jn X U H b)(ho:∀b∈fp,∃o,s.1.get? b=A? o/\∀v,o.data≠.cell v):Inv X (U++mG fp s.1) Z H s :=
 I.pins_of λp hp=>(Xz.mp hp).elim (λz=>I.pin p (XH _ z)) λz=>by
  obtain⟨hb,e⟩:=uB z;obtain⟨f0,f1,f2,_⟩:=hf p.1 hb;obtain⟨o,e',d⟩:=ho p.1 hb;rw[e]at e';cases e';exact⟨e,f0,f1,f2,d⟩
theorem Inv.unpinned{pl:List (WQ×Zb)}(I:Inv X (U++pl) Z H s):Inv X U Z H s:=I.pins_of λp hp=>I.pin p (XH _ (XT _ hp))
theorem bq(hp:PassesOwn (Xw X.prog X.w) X.A X.env X.xe)(hc:X.calm=C?)(hi:PI X tg iter wi)(hg:PG X tg g)(hb:PSs X body tb)
 (hs:∀x,foldedSetIterable iter X.env x=pure x:=by intro _;rfl):PS X (.For tg iter body [] pos) (abD wi g tb):=by
 intro U s Z H D I h;refine wpAny_For (thn (hi U s Z H _ I h) λv s1 h1=>thn h1 λML s2 h2=>?_) hs;obtain⟨it,fp,tn,J,H2,e,I2,T,Di,f2,W,⟨m0,w0⟩,turn⟩:=h2;subst e
 have Dj:∀{H':Hp},(∀b∈fp,H' b=B?)->∀b∈fp,jn X U H' b:=λhn b hb=>⟨hn b hb,(f2 b hb).2⟩;refine codeAny_forLoop_any (λn s'=>∃i Ab H',Inv X U Ab H' s'/\tn i s'.1/\(∀b∈fp,H' b=B?)/\W i n Ab H') ?_ m0 ⟨0,Z,H2,I2,Di,λb hb=>(f2 b hb).1,w0⟩;rintro n s3 ⟨i,Er,H3,I3,Rr,Rt,w3⟩;rcases turn i n Er H3 w3 with⟨stop,qn⟩|⟨go,N,hN,step⟩
 .refine wpAny_passesOwn hp (thn (T.done X rfl rfl rfl hc i U s3 Er H3 X.xe I3 (Dj Rt) Rr stop) λr s4⟨hr,I4⟩=>?_);subst hr;exact wpAny_execs_nil ⟨Er,H3,I4,qn⟩
 .refine wpAny_passesOwn hp (thn (T.item X rfl rfl rfl hc i U s3 Er H3 X.xe I3 (Dj Rt) Rr go) λr s4⟨u,hr,h4⟩=>?_);subst hr;refine wpAny_passesOwn hp (thn h4 λ_ s5⟨x,H5,I5,r5,y5,Jg,MM⟩=>?_);have TZ:=I5.pinned (Dj MM) (T.obj _ _ Jg);refine wpAny_passesOwn hp (thn (hg _ s5 Er H5 x u _ TZ r5 (step x H5 y5)) λ_ s6⟨T1,H6,I6,q6⟩=>?_);refine wpAny_passesOwn hp (thn (hb _ s6 T1 H6 _ I6 q6) λf s7 q7=>?_)
  have again:∀{Es:St}{H7:Hp},Inv X (U++mG fp s5.1) Es H7 s7->N Es H7->∃m,m<n/\∃i Ab H',Inv X U Ab H' s7/\tn i s7.1/\(∀b∈fp,H' b=B?)/\W i m Ab H':=λ{Es H7}I7 n7=>by
   obtain⟨m',hm,w7⟩:=hN Es H7 n7;refine⟨m',hm,i+1,Es,H7,I7.unpinned,T.keep _ _ _ Jg λb hb o e=>(I7.pin (b,o) (XH _ (XH _ (fY hb e)))).1,λb hb=>?_,w7⟩;obtain⟨o,e,d⟩:=T.obj _ _ Jg b hb;exact(I7.pin (b,o) (XH _ (XH _ (fY hb e)))).2.1
  cases f with
  |next=>obtain⟨Es,H7,I7,n7⟩:=q7;exact again I7 n7
  |cont=>obtain⟨Es,H7,I7,n7⟩:=q7;exact again I7 n7
  |brk=>obtain⟨Es,H7,I7,q7⟩:=q7;exact⟨Es,H7,I7.unpinned,q7⟩
  |ret v=>obtain⟨x7,Es,H7,I7,r7,q7⟩:=q7;exact⟨x7,Es,H7,I7.unpinned,r7,q7⟩
end
theorem cE(Pv:Nat->St->Hp->Prop)(h0:Pv 0 Z H)(hl:∀i Z H,i<=xs.length->Pv i Z H->SqL K H a xs)
 (hs:∀i x Z H,xs[i]?=A? x->Pv i Z H->g x Z H λAx H2=>tb {D with nx:=Pv (i+1),ct:=Pv (i+1),bk:=D.nx} Ax H2) (hd:∀Z H,Pv xs.length Z H->D.nx Z H) :
 ∃W:Nat->Nat->St->Hp->Prop,(∃m,W 0 m Z H)/\∀i m Z H,W i m Z H ->
   ((Itl K a).stop i H/\D.nx Z H)\/((Itl K a).go i H/\∃N:St->Hp->Prop,(∀Ab H',N Ab H'->∃m',m'<m/\W (i+1) m' Ab H')/\∀x H',(Itl K a).yld i H x H'->g x Z H' λAx H2=>tb {D with nx:=N,ct:=N,bk:=D.nx} Ax H2):=by
 refine⟨λi m Z H=>m=xs.length - i/\i<=xs.length/\Pv i Z H,⟨xs.length,by simp,Xg _,h0⟩,?_⟩;rintro i m Z H ⟨rfl,hi,p⟩;have q:=hl i Z H hi p;by_cases Ai:i<xs.length
 .refine .inr ⟨⟨xs,xs[i],q,by simp[Ai]⟩,Pv (i+1),λAb H' p'=>⟨xs.length - (i+1),by lia,rfl,Ai,p'⟩,λx H' y=>?_⟩;obtain⟨e,y⟩:=y;subst e;exact hs i x Z _ (y xs q) p
 .have e:i=xs.length:=by lia
  subst e;exact .inl ⟨⟨xs,q,WV _⟩,hd Z H p⟩
theorem oG(Pv:Nat->St->Hp->Prop)(h0:Pv 0 Z H)(hl:∀i Z H,i<=xs.length->Pv i Z H->SqT K H a xs)
 (hs:∀i x Z H,xs[i]?=A? x->Pv i Z H->g x Z H λAx H2=>tb {D with nx:=Pv (i+1),ct:=Pv (i+1),bk:=D.nx} Ax H2) (hd:∀Z H,Pv xs.length Z H->D.nx Z H) :
 ∃W:Nat->Nat->St->Hp->Prop,(∃m,W 0 m Z H)/\∀i m Z H,W i m Z H ->
   ((Itt K a).stop i H/\D.nx Z H)\/((Itt K a).go i H/\∃N:St->Hp->Prop,(∀Ab H',N Ab H'->∃m',m'<m/\W (i+1) m' Ab H')/\∀x H',(Itt K a).yld i H x H'->g x Z H' λAx H2=>tb {D with nx:=N,ct:=N,bk:=D.nx} Ax H2):=by
 refine⟨λi m Z H=>m=xs.length - i/\i<=xs.length/\Pv i Z H,⟨xs.length,by simp,Xg _,h0⟩,?_⟩;rintro i m Z H ⟨rfl,hi,p⟩;have q:=hl i Z H hi p;by_cases Ai:i<xs.length
 .refine .inr ⟨⟨xs,xs[i],q,by simp[Ai]⟩,Pv (i+1),λAb H' p'=>⟨xs.length - (i+1),by lia,rfl,Ai,p'⟩,λx H' y=>?_⟩;obtain⟨e,y⟩:=y;subst e;exact hs i x Z _ (y xs q) p
 .have e:i=xs.length:=by lia
  subst e;exact .inl ⟨⟨xs,q,WV _⟩,hd Z H p⟩
theorem cw{lo:Int}(Pv:Nat->St->Hp->Prop)(h0:Pv 0 Z H)
 (hs:∀i Z H,i<n->Pv i Z H->g (.int (lo+i)) Z H λAx H2=>tb {D with nx:=Pv (i+1),ct:=Pv (i+1),bk:=D.nx} Ax H2) (hd:∀Z H,Pv n Z H->D.nx Z H) :
 ∃W:Nat->Nat->St->Hp->Prop,(∃m,W 0 m Z H)/\∀i m Z H,W i m Z H ->
   ((Itr lo n).stop i H/\D.nx Z H)\/((Itr lo n).go i H/\∃N:St->Hp->Prop,(∀Ab H',N Ab H'->∃m',m'<m/\W (i+1) m' Ab H')/\∀x H',(Itr lo n).yld i H x H'->g x Z H' λAx H2=>tb {D with nx:=N,ct:=N,bk:=D.nx} Ax H2):=by
 refine⟨λi m Z H=>m=n - i/\i<=n/\Pv i Z H,⟨n,by simp,Xg _,h0⟩,?_⟩;rintro i m Z H ⟨rfl,hi,p⟩;by_cases Ai:i<n
 .refine .inr ⟨Ai,Pv (i+1),λAb H' p'=>⟨n - (i+1),by lia,rfl,Ai,p'⟩,λx H' y=>?_⟩;obtain⟨e,y⟩:=y;subst e y;exact hs i Z _ Ai p
 .have e:i=n:=by lia
  subst e;exact .inl ⟨WV _,hd Z H p⟩
abbrev R2:=V->V->Hp->VK->Prop
def OpR(X:Cx)(f:WT->WT->Sem WT)(r:R2):Prop :=
 ∀(U:List (WQ×Zb))(s:WX)(Z:St)(H:Hp)(x y:V)(v u:WT)(Q:VK),Inv X U Z H s->RelV x v->RelV y u->r x y H Q ->
   W7 (Xw X.prog X.w) X.A (f v u) (EP X U Z Q) X.xe s
def UnR(X:Cx)(f:WT->Sem WT)(r:V->Hp->VK->Prop):Prop :=
 ∀(U:List (WQ×Zb))(s:WX)(Z:St)(H:Hp)(x:V)(v:WT)(Q:VK),Inv X U Z H s->RelV x v->r x H Q ->
   W7 (Xw X.prog X.w) X.A (f v) (EP X U Z Q) X.xe s
def fH(X:Cx)(f:WT)(r:List V->Hp->VK->Prop):Prop :=
 ∀(U:List (WQ×Zb))(s:WX)(Z:St)(H:Hp)(xs:List V)(us:List WT)(Q:VK),Inv X U Z H s->Vals xs us->r xs H Q ->
   W7 (Xw X.prog X.w) X.A (call f us) (EP X U Z Q) X.xe s
def abj(X:Cx)(r:V->Hp->(Bool->Hp->Prop)->Prop):Prop :=
 ∀(U:List (WQ×Zb))(s:WX)(Z:St)(H:Hp)(x:V)(v:WT)(Q:Bool->Hp->Prop),Inv X U Z H s->RelV x v->r x H Q ->
   W7 (Xw X.prog X.w) X.A (truthy v) (TP X U Z Q) X.xe s
def tOp(r:R2)(ta tb:TE):TE:=λZ H Q=>ta Z H λx H1=>tb Z H1 λy H2=>r x y H2 Q
def tUn(r:V->Hp->VK->Prop)(ta:TE):TE:=λZ H Q=>ta Z H λx H1=>r x H1 Q
inductive IrI(C:Int->Int->Prop)(g:Int->Int->V)(x:V)(y:V)(H:Hp)(Q:VK):Prop
 |mk (i:_) (j:_) (CI:x=.int i) (CJ:y=.int j) (Eh:C i j) (Fh:Q (g i j) H):IrI C g x y H Q
def rI(C:Int->Int->Prop)(g:Int->Int->V):R2:=IrI C g
inductive aaT(g:Int->Int->V)(x:V)(y:V)(H:Hp)(Q:VK):Prop
 |mk (i:_) (j:_) (CI:x=.int i) (CJ:y=.int j) (Eh:Q (g i j) H):aaT g x y H Q
def rI0(g:Int->Int->V):R2:=aaT g
inductive IrU(g:Int->V)(x:V)(H:Hp)(Q:VK):Prop
 |mk (i:_) (CI:x=.int i) (CJ:Q (g i) H):IrU g x H Q
def rU(g:Int->V):V->Hp->VK->Prop:=IrU g
section
variable{X:Cx}{a b c:X9}{ta tb tc:TE}
theorem zq(ha:PE X a ta)(hb:PE X b tb){R:V->V->Hp->Prop}(I:Inv X U Z H s)
 (h:ta Z H λx H1=>tb Z H1 λy H2=>R x y H2) {f:WT->WT->Sem WT}
 (hf:∀v u s2 x y H2,Inv X U Z H2 s2->RelV x v->RelV y u->R x y H2->W7 (Xw X.prog X.w) X.A (f v u) Q X.xe s2) :
 W7 (Xw X.prog X.w) X.A (Y2 a X.env) (λv Ac=>W7 (Xw X.prog X.w) X.A (Y2 b X.env) (λu AI=>W7 (Xw X.prog X.w) X.A (f v u) Q X.xe AI) X.xe Ac) X.xe s:=by
 refine thn (ha U s Z H _ I h) λv s1⟨x,H1,I1,r1,q1⟩=>?_;refine thn (hb U s1 Z H1 _ I1 q1) λu s2⟨y,H2,I2,r2,q2⟩=>?_;exact hf v u s2 x y H2 I2 r1 r2 q2
theorem aB{op:Operator}{r:R2}(ho:OpR X (binaryOp op) r)(ha:PE X a ta)(hb:PE X b tb):PE X (.BinOp a op b pos) (tOp r ta tb):=by
 intro U s Z H Q I h;exact wpAny_BinOp (zq ha hb I h λv u s2 x y H2 I2 rx ry q=>ho U s2 Z H2 x y v u Q I2 rx ry q)
theorem aaK{op:UnaryOp}{r:V->Hp->VK->Prop}(ho:UnR X (unaryOp op) r)(ha:PE X a ta):PE X (.UnaryOp op a pos) (tUn r ta):=by
 intro U s Z H Q I h;exact UnaryOp_ (thn (ha U s Z H _ I h) λv s1⟨x,H1,I1,r1,q1⟩=>ho U s1 Z H1 x v Q I1 r1 q1)
theorem opI{f:WT->WT->Sem WT}{C:Int->Int->Prop}{g:Int->Int->Int}
 (rule:∀(i j:Int)(t u:Tok)(s:WX)(Q:WT->WX->Prop)(E:WT->WX->Prop),C i j->Q (.int (g i j) s.toks) {s with toks:=s.toks+1}->W7 (Xw X.prog X.w) X.A (f (.int i t) (.int j u)) Q E s) :
 OpR X f (rI C λi j=>.int (g i j)):=by
 intro U s Z H x y v u Q I rx ry h;obtain⟨i,j,rfl,rfl,hc,q⟩:=h;obtain⟨t,rfl⟩:=rx;obtain⟨t',rfl⟩:=ry;exact rule i j t t' s _ _ hc ⟨.int (g i j),H,I.tok _,⟨_,rfl⟩,q⟩
theorem aan{f:WT->WT->Sem WT}{g:Int->Int->Int}
 (rule:∀(i j:Int)(t u:Tok)(s:WX)(Q:WT->WX->Prop)(E:WT->WX->Prop),Q (.int (g i j) s.toks) {s with toks:=s.toks+1}->W7 (Xw X.prog X.w) X.A (f (.int i t) (.int j u)) Q E s) :
 OpR X f (rI0 λi j=>.int (g i j)):=by
 intro U s Z H x y v u Q I rx ry h;obtain⟨i,j,rfl,rfl,q⟩:=h;obtain⟨t,rfl⟩:=rx;obtain⟨t',rfl⟩:=ry;exact rule i j t t' s _ _ ⟨.int (g i j),H,I.tok _,⟨_,rfl⟩,q⟩
theorem zG{f:WT->WT->Sem WT}{g:Int->Int->Bool}
 (rule:∀(i j:Int)(t u:Tok)(s:WX)(Q:WT->WX->Prop)(E:WT->WX->Prop),Q (.bool (g i j)) s->W7 (Xw X.prog X.w) X.A (f (.int i t) (.int j u)) Q E s) :
 OpR X f (rI0 λi j=>.bl (g i j)):=by
 intro U s Z H x y v u Q I rx ry h;obtain⟨i,j,rfl,rfl,q⟩:=h;obtain⟨t,rfl⟩:=rx;obtain⟨t',rfl⟩:=ry;exact rule i j t t' s _ _ ⟨.bl (g i j),H,I,rfl,q⟩
def abG(i j:Int):Prop:=0<j/\j<1073741824
def CMul(i j:Int):Prop:=(-(2 ^ 64)<i/\i<2 ^ 64)\/(-(2 ^ 64)<j/\j<2 ^ 64)
theorem CMul.ok{i j:Int}(h:CMul i j):IntMulOk i j:=by
 rcases h with⟨h1,h2⟩|⟨h1,h2⟩
 .exact .of_left (intBits_le_64 h1 h2)
 .exact .of_right (intBits_le_64 h1 h2)
theorem dk:OpR X (binaryOp .Add) (rI0 λi j=>.int (i+j)):=aan λ_ _ _ _ _ _ _ q=>add_int q
theorem pA:OpR X (binaryOp .Sub) (rI0 λi j=>.int (i - j)):=aan λ_ _ _ _ _ _ _ q=>sub_int q
theorem eK:OpR X (binaryOp .Mult) (rI CMul λi j=>.int (i * j)):=opI λ_ _ _ _ _ _ _ hc q=>mul_int q hc.ok
theorem de:OpR X (binaryOp .FloorDiv) (rI abG λi j=>.int (i / j)):=opI λi j _ _ _ _ _ hc q=>by
 have h1:(0:Int)<j:=hc.1;have h2:j<1073741824:=hc.2;exact floordiv_int (by lia) (by rw[Int.fdiv_eq_ediv_of_nonneg i (by lia)];exact q) (.inl (PyProof.noPylong_small (by lia)))
theorem b8:OpR X (binaryOp .Mod) (rI (λ_ j=>0<j) λi j=>.int (i%j)):=opI λi j _ _ _ _ _ hc q=>by
 have h1:(0:Int)<j:=hc;exact mod_int' (by lia) (by rw[Int.fmod_eq_emod_of_nonneg i (by lia)];exact q)
theorem unI{f:WT->Sem WT}{g:Int->Int}
 (rule:∀(i:Int)(t:Tok)(s:WX)(Q:WT->WX->Prop)(E:WT->WX->Prop),Q (.int (g i) s.toks) {s with toks:=s.toks+1}->W7 (Xw X.prog X.w) X.A (f (.int i t)) Q E s) :
 UnR X f (rU λi=>.int (g i)):=by
 intro U s Z H x v Q I rx h;obtain⟨i,rfl,q⟩:=h;obtain⟨t,rfl⟩:=rx;exact rule i t s _ _ ⟨.int (g i),H,I.tok _,⟨_,rfl⟩,q⟩
theorem aai:UnR X (unaryOp .USub) (rU λi=>.int (-i)):=unI λ_ _ _ _ _ q=>neg_int q
end
def abJ:V->V->Bool
 |.non,.non=>C?|.non,.int _=>C?|.int _,.non=>C?|.non,.bl _=>C?|.bl _,.non=>C?|.non,.str _=>C?|.str _,.non=>C?
 |.int _,.int _=>C?|.bl _,.bl _=>C?|.str _,.str _=>C?|.byt _,.byt _=>C?
 |.int _,.str _=>C?|.str _,.int _=>C?|.bl _,.str _=>C?|.str _,.bl _=>C?
 |_,_=>Cf
inductive aaA(x:V)(y:V)(H:Hp)(Q:VK):Prop
 |mk  (CI:abJ x y=C?) (CJ:Q (.bl (decide (x=y))) H):aaA  x y H Q
def rEq:R2:=aaA
theorem yo{i j:Int}:decide (q! i=q! j)=(i == j):=by
 rw[Bool.eq_iff_iff];simp
theorem zH{i j:Bool}:decide (V.bl i=V.bl j)=(i == j):=by
 rw[Bool.eq_iff_iff];simp
theorem xU{i j:Xp}:decide (N! i=N! j)=(i == j):=by
 rw[Bool.eq_iff_iff];simp
theorem xK{i j:Array UInt8}:decide (V.byt i=V.byt j)=(i.toList == j.toList):=by
 rw[Bool.eq_iff_iff];cases i;cases j;simp
section
variable{X:Cx}{a b c:X9}{ta tb tc:TE}
theorem cT{Q:VK}{k k':Bool}(I:Inv X U Z H s)(q:Q (.bl k) H)(e:k=k'):EP X U Z Q (.bool k') s:=by
 subst e;exact⟨.bl k,H,I,D?,q⟩
theorem eJ:OpR X (compareOp .Eq) rEq:=by
 intro U s Z H x y v u Q I rx ry h;obtain⟨hs,q⟩:=h;cases x with
 | non =>
   cases rx;cases y with
   |non=>cases ry;exact PySem.EqNone.eq_none_none (cT I q (by simp))
   |bl j=>cases ry;exact PySem.EqNone.eq_none_bool (cT I q (by simp))
   |int j=>obtain⟨t',rfl⟩:=ry;exact PySem.EqNone.eq_none_int (cT I q (by simp))
   |str j=>obtain⟨t',rfl⟩:=ry;exact PySem.EqNone.eq_none_str (cT I q (by simp))
   |_=>exact g! (show Cf=C? from hs) W6
 | bl i =>
   cases rx;cases y with
   |non=>cases ry;exact PySem.EqNone.eq_bool_none (cT I q (by simp))
   |bl j=>cases ry;exact eq_bool (cT I q zH)
   |str j=>obtain⟨t',rfl⟩:=ry;exact PySem.EqMixed.eq_bool_str (cT I q (by simp))
   |_=>exact g! (show Cf=C? from hs) W6
 | int i =>
   obtain⟨t,rfl⟩:=rx;cases y with
   |non=>cases ry;exact PySem.EqNone.eq_int_none (cT I q (by simp))
   |int j=>obtain⟨t',rfl⟩:=ry;exact eq_int (cT I q yo)
   |str j=>obtain⟨t',rfl⟩:=ry;exact PySem.EqMixed.eq_int_str (cT I q (by simp))
   |_=>exact g! (show Cf=C? from hs) W6
 | str i =>
   obtain⟨t,rfl⟩:=rx;cases y with
   |non=>cases ry;exact PySem.EqNone.eq_str_none (cT I q (by simp))
   |bl j=>cases ry;exact PySem.EqMixed.eq_str_bool (cT I q (by simp))
   |int j=>obtain⟨t',rfl⟩:=ry;exact PySem.EqMixed.eq_str_int (cT I q (by simp))
   |str j=>obtain⟨t',rfl⟩:=ry;exact eq_str (cT I q xU)
   |_=>exact g! (show Cf=C? from hs) W6
 | byt i =>
   obtain⟨t,rfl⟩:=rx;cases y with
   |byt j=>obtain⟨t',rfl⟩:=ry;exact PySem.W.eq_bytes (cT I q xK)
   |_=>exact g! (show Cf=C? from hs) W6
 |_=>cases y <;> exact g! (show Cf=C? from hs) W6
theorem li:OpR X (compareOp .Lt) (rI0 λi j=>.bl (decide (i<j))):=zG λ_ _ _ _ _ _ _ q=>lt_int q
theorem tV:OpR X (compareOp .LtE) (rI0 λi j=>.bl (decide (i<=j))):=zG λ_ _ _ _ _ _ _ q=>le_int q
theorem qy:OpR X (compareOp .Gt) (rI0 λi j=>.bl (decide (j<i))):=zG λ_ _ _ _ _ _ _ q=>gt_int q
theorem aZ(b:X9)(h:op≠.In:=by decide)(h2:op≠.NotIn:=by decide):behindInMarks op b=false:=by
 have e1:(op == CmpOp.In)=false:=by cases op <;> first|rfl|exact g! rfl h
 have e2:(op == CmpOp.NotIn)=false:=by cases op <;> first|rfl|exact g! rfl h2
 cases b <;> simp[behindInMarks,e1,e2]
theorem dB{r:R2}(ho:OpR X (compareOp op) r)(ha:PE X a ta)(hb:PE X b tb)(hm:behindInMarks op b=Cf):PE X (.Compare a [op] [b] pos) (tOp r ta tb):=by
 intro U s Z H Q I h;exact wpAny_Compare1 (zq ha hb I h λv u s2 x y H2 I2 rx ry q=>ho U s2 Z H2 x y v u Q I2 rx ry q) hm
inductive zh(x:V)(Q:Bool->Hp->Prop)(H':Hp):Prop
 |mk (k:Bool) (CI:x=.bl k) (CJ:Q k H'):zh x Q H'
def m3(t:TE):TT:=λZ H Q=>t Z H λx H'=>zh x Q H'
theorem bh{r:R2}(ho:OpR X (compareOp op) r)(ha:PE X a ta)(hb:PE X b tb)(hm:behindInMarks op b=Cf):PT X (.Compare a [op] [b] pos) (m3 (tOp r ta tb)):=by
 intro U s Z H Q I h
 refine wpAny_isTrue_Compare1 (thn (ha U s Z H _ I h) λv s1⟨x,H1,I1,r1,q1⟩=>thn (hb U s1 Z H1 _ I1 q1) λu s2⟨y,H2,I2,r2,q2⟩ =>
  thn (ho U s2 Z H2 x y v u _ I2 r1 r2 q2) λc s3⟨z,H3,I3,r3,k,e,q3⟩=>?_) hm
 subst e;cases r3;exact wpAny_truthy_bool ⟨H3,I3,q3⟩
def aaf(r r':R2)(ta tb tc:TE):TE:=λZ H Q=>ta Z H λx H1=>tb Z H1 λy H2=>r x y H2 λz H3=>∃k,z=.bl k /\
 (if k=C? then tc Z H3 λw' H4=>r' y w' H4 Q else Q (.bl Cf) H3)
theorem ww{NR:CmpOp}{r r':R2}(ho:OpR X (compareOp op) r)(BG:OpR X (compareOp NR) r')(ha:PE X a ta)(hb:PE X b tb)(hc:PE X c tc)
 (hm:lastMarks [op,NR] [b,c]=false:=by with_unfolding_all rfl):PE X (.Compare a [op,NR] [b,c] pos) (aaf r r' ta tb tc):=by
 intro U s Z H Q I h
 refine Compare_chain (thn (ha U s Z H _ I h) λv s1⟨x,H1,I1,r1,q1⟩=>chain_link (thn (hb U s1 Z H1 _ I1 q1) λu s2⟨y,H2,I2,r2,q2⟩ =>
  thn (ho U s2 Z H2 x y v u _ I2 r1 r2 q2) λd s3⟨z,H3,I3,r3,k,e,q3⟩=>?_)) hm
 subst e;cases r3;refine wpAny_truthy_bool ?_;cases k with
 |false=>exact ite_ff ⟨.bl Cf,H3,I3,rfl,q3⟩
 |true=>exact ite_tt (chain_last (thn (hc U s3 Z H3 _ I3 q3) λw' s4⟨z',H4,I4,r4,q4⟩=>BG U s4 Z H4 y z' u w' Q I4 r2 r4 q4))
def we(K:WO)(x:V)(H:Hp)(k:Bool):Prop :=
 match x with
 |.non=>k=Cf
 |.bl b=>k=b
 |.int i=>k=(i != 0)
 |.str y=>y.length<=Xf/\k=((y.length:Int) != 0)
 |.byt y=>y.size<=Xf/\k=((y.size:Int) != 0)
 |.ref p=>(∃xs,SqL K H p xs/\k=!xs.isEmpty)\/(∃xs,SqT K H p xs/\k=!xs.isEmpty)\/∃f',H p=A? (.dK f')/\k=!f'.isEmpty
 |_=>False
theorem rK{κ:Type}{f':List (κ×V)}{vs:List (κ×WT)}(r:KV f' vs):(!vs.isEmpty)=!f'.isEmpty:=by
 cases r <;> rfl
theorem mw(r:Vals xs its):(!its.toArray.isEmpty)=!xs.isEmpty:=by
 cases r <;> simp
theorem gb:(Xf:Nat)<2 ^ 63:=by rw[sizeLine_eq];decide
theorem zM:abj X (λx H Q=>∃k,we X.K x H k/\Q k H):=by
 intro U s Z H x v Q I rx h;obtain⟨k,e,q⟩:=h;have hl:=gb;have hs:Xf=16777216:=sizeLine_eq;cases x with
 | non =>
   cases rx;have e':k=false:=e;subst e';exact truthy_none ⟨H,I,q⟩
 | bl b =>
   cases rx;have e':k=b:=e;subst e';exact wpAny_truthy_bool ⟨H,I,q⟩
 | int i =>
   obtain⟨t,rfl⟩:=rx;have e':k=(i != 0):=e;subst e';exact PySem.P.truthy_int ⟨H,I,q⟩
 | str y =>
   obtain⟨t,rfl⟩:=rx;obtain⟨hy,e'⟩:y.length<=Xf/\k=((y.length:Int) != 0):=e;subst e';exact PySem.P.truthy_str (by lia) ⟨H,I.tok _,q⟩
 | byt y =>
   obtain⟨t,rfl⟩:=rx;obtain⟨hy,e'⟩:y.size<=Xf/\k=((y.size:Int) != 0):=e;subst e';exact PySem.W.truthy_bytes (by lia) ⟨H,I.tok _,q⟩
 | ref p =>
   cases rx;have e':(∃xs,SqL X.K H p xs/\k=!xs.isEmpty)\/(∃xs,SqT X.K H p xs/\k=!xs.isEmpty)\/∃f',H p=A? (.dK f')/\k=!f'.isEmpty:=e;rcases e' with⟨xs,hx,e'⟩|⟨xs,hx,e'⟩|⟨f',hx,e'⟩
   .subst e';obtain⟨its,r,pl,hz⟩:=I.list hx;have hlen:=r.length;exact wpAny_truthy_list pl.isList (by simp only[W3];lia) ⟨H,I.tok _,by rw[mw r];exact q⟩
   .subst e';obtain⟨its,r,pl,hz⟩:=I.tuple hx;have hlen:=r.length;exact truthy_tuple pl (by simp only[W3];lia) ⟨H,I.tok _,by rw[mw r];exact q⟩
   .subst e';obtain⟨hz,hS,vs,r,m⟩:f'.length<=Xf/\(p == YO)=Cf/\∃vs,KV f' vs/\s.1.DictOf (au X.prog X.w) p vs:=I.hok p _ hx;have hlen:f'.length=vs.length:=WZ r;exact wpAny_truthy_dict hS m (by lia) ⟨H,I.tok _,by rw[rK r];exact q⟩
 |_=>exact(show False from e).elim
theorem bz(ha:PE X a ta)(he:∀whole,isTrue a X.env whole=(do let v <-whole;standAt a.pos;holding [v] (truthy v))) :
 PT X a (λZ H Q=>ta Z H λx H'=>∃k,we X.K x H' k/\Q k H'):=by
 intro U s Z H Q I h;exact isTrue_plain (thn (ha U s Z H _ I h) λv s1⟨x,H1,I1,r1,q1⟩=>zM U s1 Z H1 x v Q I1 r1 q1) (he _)
theorem sO:OpR X (binaryOp .Add) (λx y H Q=>∃i j,x=.str i/\y=.str j/\i.length+j.length<=Xf/\Q (.str (i++j)) H):=by
 intro U s Z H x y v u Q I rx ry h;obtain⟨i,j,rfl,rfl,hz,q⟩:=h;obtain⟨t,rfl⟩:=rx;obtain⟨t',rfl⟩:=ry;exact add_str (λt' tk=>⟨.str (i++j),H,I.tok _,⟨_,rfl⟩,q⟩) hz
theorem vals1{x:V}(r:Vals [x] us):∃u,us=[u]/\RelV x u:=by
 cases r with
 |cons r1 r2=>cases r2;exact⟨_,D?,r1⟩
theorem vals2{x:V}(r:Vals [x,y] us):∃u w',us=[u,w']/\RelV x u/\RelV y w':=by
 cases r with
 | cons r1 r2 =>
   cases r2 with
   |cons r3 r4=>cases r4;exact⟨_,_,D?,r1,r3⟩
theorem uK(hc:X.calm=C?):fH X (.builtin "min") (λxs H Q=>∃i j,xs=[.int i,.int j]/\Q (.int (if j<i then j else i)) H):=by
 intro U s Z H xs us Q I r h;obtain⟨i,j,rfl,q⟩:=h;obtain⟨u,w',rfl,⟨t,rfl⟩,⟨t',rfl⟩⟩:=vals2 r;refine min_two_ints (I.ok.hd hc) λh' tk k=>⟨_,H,I.kept k,?_,q⟩;by_cases hj:j<i
 .rw[b! hj,b! hj];exact⟨_,D?⟩
 .rw[a! hj,a! hj];exact⟨_,D?⟩
theorem uC:fH X (.type "int") (λxs H Q=>(∃i,xs=[.int i]/\Q (.int i) H)\/∃k,xs=[.bl k]/\Q (.int (if k then 1 else 0)) H):=by
 intro U s Z H xs us Q I r h;rcases h with⟨i,rfl,q⟩|⟨k,rfl,q⟩
 .obtain⟨u,rfl,t,rfl⟩:=vals1 r;exact call_int_int ⟨.int i,H,I,⟨_,rfl⟩,q⟩
 .obtain⟨u,rfl,r1⟩:=vals1 r;cases r1;exact call_int_bool ⟨.int (if k then 1 else 0),H,I.tok _,⟨_,rfl⟩,q⟩
end
structure ObjM(h:Yh)(x dx C:WQ)(mA:Xp->Option WT):Prop where
 obj:h.get? x=A? (ZL C dx)
 ns:h.Ns1 dx mA
 ne:dx≠x
theorem uW{dx:WQ}{mA:Xp->Option WT}(n:h.Ns1 dx mA):∃od,h.get? dx=A? od/\∀name,PySem.W.lookIn name od=A? (mA name):=by
 obtain⟨o,es,ep,ho,hd,hk,_,hm⟩:=n;refine⟨o,ho,λname=>?_⟩;have e:=hm name;unfold nsFind findBy at e;rw[<-Array.find?_toList]at e;unfold PySem.W.lookIn;rw[hd];dsimp only;split
 .rename_i y q
  rw[q]at e;exact h! A? e
 .rename_i q
  rw[q]at e
  have a:es.toList.any (·.refKey)=false:=by
   rw[List.any_eq_false];intro y hy;obtain⟨z,t,Dm⟩:=hk y (Array.mem_toList_iff.mp hy);simp[DictEntry.refKey,Dm]
  have a':¬es.toList.any (·.refKey)=true:=by rw[a];exact W6
  rw[a! a'];exact h! A? e
theorem ObjM.look{x dx C:WQ}{mA:Xp->Option WT}(I:ObjM h x dx C mA):∃od,PySem.W.InstAt h x (ZL C dx) C (A? od)/\∀name,PySem.W.lookIn name od=A? (mA name) :=
 let⟨od,ho,hl⟩:=uW I.ns
 ⟨od,⟨I.obj,rfl,rfl,ho⟩,hl⟩
section
variable{x dx C:WQ}{mA:Xp->Option WT}{name:Xp}{v:WT}
theorem get_map{expr:Bool}(X:K.In s.1)(I:ObjM s.1 x dx C mA)(hg:PySem.W.plainGet K C name=C?)(hh:PySem.W.hasDictIn K C=C?)
 (ha:Zl K (.ref C) name=A? B?) (hv:mA name=A? v) (Bj:PySem.W.handedIn v=C?) (h:Q v {s with toks:=s.toks+1}) :
 W7 (Xw prog w) A (getAttr (.ref x) name expr) Q E s:=by
 obtain⟨od,J,hl⟩:=I.look;exact PySem.W.get_value X J (PySem.W.plainGet_of hg).1 (PySem.W.findObj_own hh ha rfl (by rw[hl,hv])) Bj h
theorem wI{pl:Sem Bool}{Q:WT×List WT->WX->Prop}(X:K.In s.1)(I:ObjM s.1 x dx C mA)(hg:PySem.W.plainGet K C name=C?)
 (hf:Zl K (.ref C) name=A? (A? (.ref f))) (ht:PySem.W.isFn K (.ref f)=C?) (hv:mA name=B?) (h:Q (.ref f,[.ref x]) s) :
 W7 (Xw prog w) A (getMethod (.ref x) name pl) Q E s:=by
 obtain⟨od,J,hl⟩:=I.look;exact PySem.W.method_fn X J (PySem.W.plainGet_of hg).1 (PySem.W.plainGet_of hg).2 hf (beq_iff_eq.mp ht) (by show(PySem.W.lookIn name od).map (·.isSome)=A? Cf;rw[hl,hv];rfl) h
theorem ym{ns:List Xp}{Q:Unit->WX->Prop}(X:K.In s.1)(I:ObjM s.1 x dx C mA)
 (hs:Zl K (.ref C) "__setattr__"=A? (A? (.builtin "object.__setattr__"))) (hp:PySem.W.plainOver K C=C?) (ht:PySem.W.takerIn K C name=A? B?) (hh:PySem.W.hasDictIn K C=C?)
 (hw:PySem.Within mA ns) (hsz:ns.length<=Xf)
 (h:∀h',ObjM h' x dx C (λy=>if y=name then A? v else mA y)->YF dx s.1 h'->Q () {s with heap:=h',toks:=s.toks+2}) :
 W7 (Xw prog w) A (setAttr (.ref x) name v) Q E s:=by
 obtain⟨od,J,hl⟩:=I.look;refine PySem.W.set_plain X J hs (PySem.W.osa_open (s:={s with toks:=s.toks+1}) (r:=B?) X J hp ht λb=>?_);obtain⟨cd,hc,BH⟩:=PySem.W.any_some hh;have hx:s.1.get? x=A? ⟨.ref C,A? dx,.plain,#[]⟩:=I.obj;refine WN (WW (WN (WN (wpAny_loadPart hx (WN (PySem.W.Looks.here (s:={s with toks:=s.toks+1}) (PySem.W.looks_clsIn X hc) ?_))))));rw[BH];refine WW (a:=A? dx) (WN (WW (WN ?_)));refine wpAny_nsSet1 (s:={s with toks:=s.toks+1}) I.ns λh' JQ JP=>?_;obtain⟨oD,esD,epD,T2,T3,T4⟩:=JQ.count (PySem.Within.cons name v hw);refine WN (wpAny_lookBehind T2 (by rw[T3];exact pastItsLine_dict (Xs T4 (by rw[W0];lia))) ?_);exact WW (h _ ⟨(JP.2 _ (YQ I.ne)).trans I.obj,JQ,I.ne⟩ JP)
theorem xB{vs:List WT}(X:K.In s.1)(hm:PySem.W.makesIn K C=C?)
 (hi:Zl K (.ref C) "__init__"=A? (A? (.ref f))) (hf:PySem.W.typeIn K (.ref f)=A? (.type "function"))
 (h:codeAny (Xw prog w) (A.under (.builtin "type.__call__" ⟨.ref C::vs,kw⟩)) (.call (.ref f) ⟨.ref (s.1.1.size+1)::vs,kw⟩) (PySem.W.InitBack (s.1.1.size+1) R)
  {s with heap:=(s.1.push Y8).push (ZL C s.1.1.size)}) :
 codeAny (Xw prog w) A (.call (.ref C) ⟨vs,kw⟩) R s:=by
 obtain⟨hh,g,d,t,os⟩:=s;exact PySem.W.make_core (PySem.W.makes_of X hm) (PySem.W.looks_findIn X hi) (λself=>PySem.W.bind_fn X self hf) (.inl rfl) h
end
def dN(f:Xp)(v:V):List (Xp×V)->List (Xp×V)
 | []=>[(f,v)]
 |(g,x)::r=>if g=f then(g,v)::r else(g,x)::dN f v r
theorem kc(f g:Xp)(v:V):∀fs:List (Xp×V),(dN f v fs).lookup g=if g=f then A? v else fs.lookup g
 | []=>by
   show ZT g [(f,v)]=_;by_cases h:g=f
   .have hb:(g == f)=true:=beq_iff_eq.mpr h;simp only[ZT,hb,b! h]
   .have hb:(g == f)=false:=beq_eq_false_iff_ne.mpr h;simp only[ZT,hb,a! h]
 | (k,x)::r=>by
   have ih:=kc f g v r;rw[show dN f v ((k,x)::r)=(if k=f then(k,v)::r else(k,x)::dN f v r)from rfl];by_cases hk:k=f
   .rw[b! hk];by_cases h:g=k
    .have hb:(g == k)=true:=beq_iff_eq.mpr h;simp only[ZT,hb,b! (h.trans hk)]
    .have hb:(g == k)=false:=beq_eq_false_iff_ne.mpr h;simp only[ZT,hb,a! (λe:g=f=>h (e.trans hk.symm))]
   .rw[a! hk];by_cases h:g=k
    .have hb:(g == k)=true:=beq_iff_eq.mpr h;simp only[ZT,hb,a! (λe:g=f=>hk (h.symm.trans e))]
    .have hb:(g == k)=false:=beq_eq_false_iff_ne.mpr h;simp only[ZT,hb];exact ih
theorem jC(f:Xp)(v:V):∀fs:List (Xp×V),f∈(dN f v fs).map (·.1)/\∀g,g∈fs.map (·.1)->g∈(dN f v fs).map (·.1)
 | []=>⟨by simp[dN],λg h=>by simp at h⟩
 | (k,x)::r=>by
   obtain⟨i1,i2⟩:=jC f v r;rw[show dN f v ((k,x)::r)=(if k=f then(k,v)::r else(k,x)::dN f v r)from rfl];by_cases hk:k=f
   .rw[b! hk];subst hk;exact⟨by simp,λg h=>by simpa using h⟩
   .rw[a! hk];refine⟨?_,λg h=>?_⟩
    .rw[XB];exact Xe _ i1
    .rw[XB]at h |-;rcases W8.mp h with e|e
     .exact W8.mpr (.inl e)
     .exact Xe _ (i2 g e)
theorem ku(f:Xp)(v:V):∀fs:List (Xp×V),(dN f v fs).length<=fs.length+1
 | []=>by simp[dN]
 | (k,x)::r=>by
   have ih:=ku f v r;rw[show dN f v ((k,x)::r)=(if k=f then(k,v)::r else(k,x)::dN f v r)from rfl];by_cases hk:k=f
   .rw[b! hk,W0,W0];lia
   .rw[a! hk,W0,W0];lia
theorem RelO.some_of{o:Option WT}(r:RelO (A? v) o):∃u,o=A? u/\RelV v u:=by
 cases o with
 |none=>exact(show False from r).elim
 |some u=>exact⟨u,D?,r⟩
theorem RelO.none_of{o:Option WT}(r:RelO B? o):o=none:=by
 cases o with
 |none=>rfl
 |some u=>exact(show False from r).elim
theorem uQ(r:RelV v u):PySem.W.handedIn u=true:=by
 cases v with
 |non=>cases(show u=Yp from r);rfl
 |bl b=>cases(show u=Value.bool b from r);rfl
 |int i=>obtain⟨t,e⟩:=(show∃t,u=Value.int i t from r);cases e;rfl
 |str x=>obtain⟨t,e⟩:=(show∃t,u=Value.str x t from r);cases e;rfl
 |byt b=>obtain⟨t,e⟩:=(show∃t,u=Value.bytes b t from r);cases e;rfl
 |flt b=>obtain⟨t,e⟩:=(show∃t,u=Value.float b t from r);cases e;rfl
 |ref a=>cases(show u=Xl a from r);rfl
 |ty n=>cases(show u=Zn n from r);rfl
section
variable{C dx:WQ}{fs Jf:List (Xp×V)}
theorem kQ(hok:HOk P w H h)(e:H a=A? (.ins C dx fs)):∃mA,ObjM h a dx C mA/\(∀f,RelO (fs.lookup f) (mA f))/\PySem.Within mA (fs.map (·.1))/\fs.length<=1000/\H dx=A? (.own a):=by
 obtain⟨d,z,ne,ob,mA,n,r,q⟩:=(show ObjOk P w H h a (.ins C dx fs)from hok a _ e);exact⟨mA,⟨ob,n,ne⟩,r,q,z,d⟩
end
structure Cls(K:WO)(C:WQ):Prop where
 pg:PySem.W.plainGet K C Str.empty=C?
 hd:PySem.W.hasDictIn K C=C?
 po:PySem.W.plainOver K C=C?
 sa:Zl K (.ref C) "__setattr__"=A? (A? (.builtin "object.__setattr__"))
theorem Cls.get{C:WQ}(c:Cls K C)(f:Xp):PySem.W.plainGet K C f=true:=c.pg
def NoAttr(K:WO)(C:WQ)(f:Xp):Prop:=Zl K (.ref C) f=A? B?
theorem NoAttr.taker{C:WQ}{f:Xp}(n:NoAttr K C f):PySem.W.takerIn K C f=A? none:=by
 unfold PySem.W.takerIn;rw[show Zl K (.ref C) f=A? B? from n];rfl
structure Meth(K:WO)(C:WQ)(m:Xp)(f:WQ):Prop where
 at_:Zl K (.ref C) m=A? (A? (.ref f))
 fn:PySem.W.isFn K (.ref f)=C?
 kp:PySem.W.keepIn K (.ref f)=C?
section
variable{X:Cx}{C dx:WQ}{fs:List (Xp×V)}{f:Xp}
theorem lg{b:Bool}(I:Inv X U Z H s)(e:H a=A? (.ins C dx fs))(c:Cls X.K C)(n:NoAttr X.K C f)(l:fs.lookup f=A? v)
 (h:∀u s',Inv X U Z H s'->RelV v u->Q u s'):W7 (Xw X.prog X.w) A (getAttr (.ref a) f b) Q E s:=by
 obtain⟨mA,O,r,_,_,_⟩:=kQ I.hok e;obtain⟨u,hu,ru⟩:=RelO.some_of (v:=v) (o:=mA f) (by rw[<-l];exact r f);exact get_map I.kIn O (c.get f) c.hd n hu (uQ ru) (h u _ (I.tok _) ru)
theorem rZ{m:Xp}{g:WQ}{pl:Sem Bool}{Q:WT×List WT->WX->Prop}(I:Inv X U Z H s)(e:H a=A? (.ins C dx fs))(c:Cls X.K C)(k:Meth X.K C m g)(l:fs.lookup m=B?)
 (h:Q (.ref g,[.ref a]) s):W7 (Xw X.prog X.w) A (getMethod (.ref a) m pl) Q E s:=by
 obtain⟨mA,O,r,_,_,_⟩:=kQ I.hok e;have hn:mA m=none:=RelO.none_of (by rw[<-l];exact r m);exact wI I.kIn O (c.get m) k.at_ k.fn hn h
theorem kX{Q:Unit->WX->Prop}(I:Inv X U Z H s)(e:H a=A? (.ins C dx fs))(c:Cls X.K C)(n:NoAttr X.K C f)(hl:fs.length<1000)(ry:RelV y u)
 (h:∀s',Inv X U Z (upd H a (.ins C dx (dN f y fs))) s'->Q () s'):W7 (Xw X.prog X.w) A (setAttr (.ref a) f u) Q E s:=by
 obtain⟨mA,O,r,wi,_,ho⟩:=kQ I.hok e;have hz:(fs.map (·.1)).length<=Xf:=by rw[WM,sizeLine_eq];lia
 refine ym I.kIn O c.sa c.po n.taker c.hd wi hz λh' O' sb=>h _ ?_;have hd:∃o,h'.get? dx=A? o:=let⟨o,_,_,e',_⟩:=O'.ns;⟨o,e'⟩
 refine I.write (x:=a) (e:=dx) (by rw[e];exact YT) (.inr ho) (λb q hb z=>(sb.2 b hb).trans z) hd ?_;refine⟨by rw[ai O.ne];exact ho,?_,O.ne,O'.obj,_,O'.ns,λg=>?_,λg hg=>?_⟩
 .have:=ku f y fs;lia
 .show RelO ((dN f y fs).lookup g) (if g=f then A? u else mA g);rw[kc];by_cases q:g=f
  .rw[b! q,b! q];exact ry
  .rw[a! q,a! q];exact r g
 .by_cases q:g=f
  .rw[q];exact(jC f y fs).1
  .refine(jC f y fs).2 g (wi g λz=>hg ?_);show(if g=f then A? u else mA g)=B?;rw[a! q];exact z
theorem Inv.made(I:Inv X U Z H s):Inv X U Z (upd (upd H s.1.1.size (.own (s.1.1.size+1))) (s.1.1.size+1) (.ins C s.1.1.size []))
 {s with heap:=(s.1.push Y8).push (ZL C s.1.1.size)}:=by
 have e1:(s.1.push Y8).get? s.1.1.size=A? Y8:=W4 s.1 rfl
 have e2:((s.1.push Y8).push (ZL C s.1.1.size)).get? (s.1.1.size+1)=A? (ZL C s.1.1.size):=by
  have:=W4 (s.1.push Y8) (o:=ZL C s.1.1.size) rfl
  rwa [X5]at this
 have e3:(s.1.push Y8).Ns s.1.1.size (λ_=>B?):=⟨Y8,#[],_,e1,rfl,(λe he=>g! he (by simp)),λ_=>rfl⟩;have I1:=I.laid (a:=s.1.1.size) (o:=.own (s.1.1.size+1)) (h':=s.1.push Y8) (t':=s.toks) (λb u q=>WU _ q) (WV _) ⟨_,e1⟩;refine I1.laid (a:=s.1.1.size+1) (o:=.ins C s.1.1.size []) (t':=s.toks) (λb u q=>WU _ q) (Nat.le_of_eq (X5 _ _)) ?_;have ne:s.1.1.size≠s.1.1.size+1:=XC (Nat.lt_succ_self _);refine⟨by rw[ai ne,ac],Xg _,ne,e2,λ_=>B?,(Heap.Ns1.of_empty e3).at λo q=>WU _ q,λ_=>YT,λy hy=>g! rfl hy⟩
theorem xR{f:Xp}(hb:attributeBase e f env (Y2 e env)=Y2 e env)
 (h:W7 (Xw prog w) A (Y2 e env) (λo Ac=>W7 (Xw prog w) A (getAttr o f C?) Q E Ac) E s):W7 (Xw prog w) A (Y2 (.Attribute e f pos) env) Q E s :=
 Attribute_any_ h (by rw[arm_eval_Attribute,hb])
end
def aa8(K:WO)(ta:TE)(f:Xp):TE:=λZ H Q=>ta Z H λx H1=>∃a C dx fs v,x=.ref a/\H1 a=A? (.ins C dx fs)/\Cls K C/\NoAttr K C f/\fs.lookup f=A? v/\Q v H1
def abI(K:WO)(ta tv:TE)(f:Xp):TS:=λD Z H=>tv Z H λy H1=>ta Z H1 λx H2=>∃a C dx fs,x=.ref a/\H2 a=A? (.ins C dx fs)/\Cls K C/\NoAttr K C f/\fs.length<1000 /\
 D.nx Z (upd H2 a (.ins C dx (dN f y fs)))
def aaC(X:Cx)(op:Operator)(rd:V->V->Hp->VK->Prop):Prop :=
 ∀(U:List (WQ×Zb))(s:WX)(Z:St)(H:Hp)(x y:V)(u v:WT)(Q:VK),Inv X U Z H s->RelV x u->RelV y v->rd x y H Q->W7 (Xw X.prog X.w) X.A (inplaceOp op u v) (EP X U Z Q) X.xe s
def yA(K:WO)(ta tv:TE)(rd:V->V->Hp->VK->Prop)(f:Xp):TS:=λD Z H=>ta Z H λx H1=>∃a C dx fs v,x=.ref a/\H1 a=A? (.ins C dx fs)/\Cls K C/\NoAttr K C f/\fs.lookup f=A? v /\
 tv Z H1 λy H2=>rd v y H2 λz H3=>∃NS Jf,H3 a=A? (.ins C NS Jf)/\Jf.length<1000/\D.nx Z (upd H3 a (.ins C NS (dN f z Jf)))
section
variable{X:Cx}{o value:X9}{f:Xp}{JR:Z2}{ta tv:TE}
theorem vK(he:PE X e ta)(hb:attributeBase e f X.env (Y2 e X.env)=Y2 e X.env):PE X (.Attribute e f pos) (aa8 X.K ta f):=by
 intro U s Z H Q I h;refine xR hb (thn (he U s Z H _ I h) λu s1⟨x,H1,I1,rx,a,C,dx,fs,v,ex,ea,c,n,l,q⟩=>?_);subst ex;obtain rfl:u=Xl a:=rx;exact lg I1 ea c n l λu' s2 I2 ru=>⟨v,H1,I2,ru,q⟩
theorem wn(ha:PE X o ta)(hv:PE X value tv)(hs:swapsWith value (A? (.Attribute o f pos')) pos.line X.env=pure Cf):PS X (.Assign [.Attribute o f pos'] value pos) (abI X.K ta tv f):=by
 intro U s Z H D I h;refine plainObj_wpAny_Assign_Attribute (thn (hv U s Z H _ I h) λu s1⟨y,H1,I1,ry,q⟩=>thn (ha U s1 Z H1 _ I1 q) λov s2⟨x,H2,I2,rx,a,C,dx,fs,ex,ea,c,n,l,q2⟩=>?_) hs;subst ex;obtain rfl:ov=Xl a:=rx;exact kX I2 ea c n l ry λs3 I3=>⟨Z,_,I3,q2⟩
theorem nu{op:Operator}{rd:V->V->Hp->VK->Prop}(ha:PE X o ta)(hv:PE X value tv)(T5:aaC X op rd):PS X (.AugAssign (.Attribute o f JR) op value pos) (yA X.K ta tv rd f):=by
 intro U s Z H D I h;refine wpAny_AugAssign_AttributeAny (thn (ha U s Z H _ I h) λov s1⟨x,H1,I1,rx,a,C,dx,fs,v,ex,ea,c,n,l,q⟩=>?_);subst ex;obtain rfl:ov=Xl a:=rx;refine lg I1 ea c n l λu s2 I2 ru=>thn (hv U s2 Z H1 _ I2 q) λw3 s3⟨y,H2,I3,ry,q3⟩=>thn (T5 U s3 Z H2 v y u w3 _ I3 ru ry q3) λw4 s4⟨z,H3,I4,rz,NS,Jf,NT,l',q4⟩=>?_;exact kX I4 NT c n l' rz λs5 I5=>⟨Z,_,I5,q4⟩
def abv:V->V->Hp->VK->Prop:=λx y H Q=>∃i j,x=.int i/\y=.int j/\Q (.int (i+j)) H
theorem vI:aaC X .Add abv:=by
 rintro U s Z H x y u v Q I rx ry ⟨i,j,rfl,rfl,q⟩;obtain⟨t,rfl⟩:=(show∃t,u=Value.int i t from rx);obtain⟨t',rfl⟩:=(show∃t',v=Value.int j t' from ry);exact PyProof.Rows.iadd_int ⟨.int (i+j),H,I.tok _,⟨_,rfl⟩,q⟩
end
section
variable{X:Cx}{c:WT}{b:Bool}
inductive iV(K:WO)(H:Hp):V->WT->Prop where
 |non:iV K H .non (.type "NoneType")
 |bl (x:Bool):iV K H (.bl x) (.type "bool")
 |int (i:Int):iV K H (.int i) (.type "int")
 |str (x:Xp):iV K H (.str x) (.type "str")
 |flt (x:UInt64):iV K H (.flt x) (.type "float")
 |lst {a:WQ} {xs:List V} (e:H a=A? (.lst xs)):iV K H (.ref a) (.type "list")
 |frz {a:WQ} {o:Zb} {xs:List V} (e:H a=A? (.frz o (.lst xs))):iV K H (.ref a) (.type "list")
 |tup {a:WQ} {xs:List V} (e:H a=A? (.tup xs)):iV K H (.ref a) (.type "tuple")
 |dK {a:WQ} {f':List (Key×V)} (e:H a=A? (.dK f')):iV K H (.ref a) (.type "dict")
 |dT {a:WQ} {f':List (List Key×V)} (e:H a=A? (.dT f')):iV K H (.ref a) (.type "dict")
 |ins {a C dx:WQ} {fs:List (Xp×V)} (e:H a=A? (.ins C dx fs)) (cl:Cls K C) (ha:Zl K (.ref C) "__class__"=A? (A? (.builtin "object.__class__")))
  (hn:PySem.W.specialIn K (.builtin "object.__class__") "__get__"=A? (A? (.builtin "getset_descriptor.__get__"))) (AR:PySem.W.takesIn K (.builtin "object.__class__")=A? C?)
  (hm:PySem.W.mroIn K C (.type "object")=A? C?):iV K H (.ref a) (.ref C)
theorem uP{x:V}{t:WT}(I:Inv X U Z H s)(rx:RelV x u)(ty:iV X.K H x t)(e:PySem.W.kitOne X.K t c=A? b)(h:∀tk,Q (.bool b) {s with toks:=tk}) :
 W7 (Xw X.prog X.w) A (call (.builtin "isinstance") [u,c]) Q E s:=by
 cases ty with
 |non=>cases(show u=Yp from rx);exact YX PySem.W.kitx_none I.kIn YT e (λz=>nomatch z) h
 |bl y=>cases(show u=Value.bool y from rx);exact YX PySem.W.kitx_bool I.kIn YT e (λz=>nomatch z) h
 |int i=>obtain⟨t,q⟩:=(show∃t,u=Value.int i t from rx);cases q;exact YX PySem.W.kitx_int I.kIn YT e (λz=>nomatch z) h
 |str y=>obtain⟨t,q⟩:=(show∃t,u=Value.str y t from rx);cases q;exact YX PySem.W.kitx_str I.kIn YT e (λz=>nomatch z) h
 |flt y=>obtain⟨t,q⟩:=(show∃t,u=Value.float y t from rx);cases q;exact YX PySem.W.kitx_float I.kIn YT e (λz=>nomatch z) h
 | @lst a xs ea =>
   cases(show u=Xl a from rx);obtain⟨_,_,n,_,h1⟩:=(show ObjOk X.prog X.w H s.1 a (.lst xs)from I.hok a _ ea);exact YX PySem.W.kitx_list I.kIn ⟨_,h1,rfl⟩ e (λz=>nomatch z) h
 | @frz a ob xs ea =>
   cases(show u=Xl a from rx);obtain⟨_,_,_,n,_,h1⟩:=(show ObjOk X.prog X.w H s.1 a (.frz ob (.lst xs))from I.hok a _ ea);exact YX PySem.W.kitx_list I.kIn ⟨_,h1,rfl⟩ e (λz=>nomatch z) h
 | @tup a xs ea =>
   cases(show u=Xl a from rx);obtain⟨_,_,_,_,h1⟩:=(show ObjOk X.prog X.w H s.1 a (.tup xs)from I.hok a _ ea);exact YX PySem.W.kitx_tuple I.kIn ⟨_,h1,rfl⟩ e (λz=>nomatch z) h
 | @dK a f' ea =>
   cases(show u=Xl a from rx);obtain⟨_,_,vs,_,p⟩:=(show ObjOk X.prog X.w H s.1 a (.dK f')from I.hok a _ ea);obtain⟨o,es,ep,h1,h2,_⟩:=p;exact YX PySem.W.kitx_dict I.kIn ⟨o,h1,h2.1⟩ e (λz=>nomatch z) h
 | @dT a f' ea =>
   cases(show u=Xl a from rx);obtain⟨_,_,xs,_,o,es,ep,h1,h2,_⟩:=(show ObjOk X.prog X.w H s.1 a (.dT f')from I.hok a _ ea);exact YX PySem.W.kitx_dict I.kIn ⟨o,h1,h2.1⟩ e (λz=>nomatch z) h
 | @ins a C dx fs ea cl ha hn AR hm =>
   cases(show u=Xl a from rx);obtain⟨mA,O,_⟩:=kQ I.hok ea;obtain⟨od,J,_⟩:=O.look;exact YX (PySem.W.kitx_own (cl.get _) cl.hd ha hn AR hm) I.kIn J e (λz=>nomatch z) h
end
structure Room(k:Nat)(A:XI):Prop where
 hd:A.handled=B?
 dp:A.depth+3 * k+5<recursionLimit
 un:A.units+16 * k+200<YK
theorem Room.mono{k:Nat}(r:Room k A)(h:j<=k):Room j A:=⟨r.hd,by have:=r.dp;lia,by have:=r.un;lia⟩
theorem Room.deeper{k:Nat}(r:Room (k+1) A)(env:Env):Room k (A.deeper env) :=
 ⟨r.hd,by have:=r.dp;show A.depth+1+3 * k+5<_;lia,by have:=r.un;show A.units+3+16 * k+200<_;lia⟩
theorem sQ{C:WQ}:(A.under (.builtin "type.__call__" ⟨.ref C::us,kw⟩)).depth=A.depth+1:=by
 first|rfl|simp[Around.under,Code.weight,Code.isCreation,Code.isGuard,Code.isCaller,Code.frames,Code.isFrame,guardIds]
theorem sr{C:WQ}:(A.under (.builtin "type.__call__" ⟨.ref C::us,kw⟩)).units=A.units+1:=by
 first|rfl|simp[Around.under,Code.cUnits,Code.frames,Code.isFrame]
theorem Room.make{k:Nat}(r:Room (k+1) A)(C:WQ)(us:List WT)(kw:List (Xp×WT)):Room k (A.under (.builtin "type.__call__" ⟨.ref C::us,kw⟩)) :=
 ⟨r.hd,by have:=r.dp;rw[sQ];lia,by have:=r.un;rw[sr];lia⟩
theorem Room.depth{k:Nat}(r:Room k A):A.depth<recursionLimit:=by have:=r.dp;lia
theorem Room.units{k:Nat}(r:Room k A):A.units+64<YK:=by have:=r.un;lia
def bY:TA:=λ_ H Q=>Q [] H
def aD(ta:TE)(tr:TA):TA:=λZ H Q=>ta Z H λx H1=>tr Z H1 λxs H2=>Q (x::xs) H2
section
variable{X:Cx}{t:TA}
theorem ab:PA X [] bY:=λ_ _ _ _ H Q I h=>Zh ⟨[],H,I,.nil,h⟩
theorem aa(ha:PE X e te)(hr:PA X es t)(hs:XG (e::es) X.env=(Cf,Y2 e X.env)::XG es X.env:=by rfl):PA X (e::es) (aD te t):=by
 intro pos U s Z H Q I h;rw[hs];show W7 _ _ (spliced ((Cf,Y2 e X.env)::Z0 pos (XG es X.env))) _ _ s;refine YJ (thn (ha U s Z H _ I h) λu s1⟨x,H1,I1,r1,q1⟩=>?_);exact thn (hr pos U s1 Z H1 _ I1 q1) λus s2⟨xs,H2,I2,r2,q2⟩=>⟨x::xs,H2,I2,.cons r1 r2,q2⟩
def iz(t:TA):TE:=λZ H Q=>t Z H λxs H1=>xs.length<=Xf/\∀p,H1 p=B?->Q (.ref p) (upd H1 p (.tup xs))
def wP(t:TA):TE:=λZ H Q=>t Z H λxs H1=>xs.length<=Xf/\∀p,H1 p=B?->Q (.ref p) (upd H1 p (.lst xs))
theorem az{x1}(h:PA X es t):PE X (.Tuple es x1 pos) (iz t):=by
 intro U s Z H Q I hq;refine wpAny_Tuple_spliced (thn (h pos U s Z H _ I hq) λus s1⟨xs,H1,I1,r,z,q⟩=>⟨by rw[<-r.length];exact z,?_⟩);have hf:H1 s1.1.1.size=none:=I1.hok.fresh (WV _);refine⟨.ref s1.1.1.size,upd H1 s1.1.1.size (.tup xs),I1.laid (t':=s1.toks) (λb u e=>WU _ e) (WV _) ?_,D?,q _ hf⟩;exact⟨z,us,0,r,W4 _ rfl⟩
theorem bp(h:PA X es t):PE X (.List es pos) (wP t):=by
 intro U s Z H Q I hq;refine wpAny_List_spliced (thn (h pos U s Z H _ I hq) λus s1⟨xs,H1,I1,r,z,q⟩=>⟨by rw[<-r.length];exact z,?_⟩);have hf:H1 s1.1.1.size=none:=I1.hok.fresh (WV _);refine⟨.ref s1.1.1.size,upd H1 s1.1.1.size (.lst xs),I1.laid (t':=s1.toks) (λb u e=>WU _ e) (WV _) ?_,D?,q _ hf⟩;exact⟨z,us,0,r,W4 _ rfl⟩
end
abbrev Sp:=List V->Hp->VK->XK->Prop
abbrev CXT:=List Env->Hp->WX->XK->WT->WX->Prop
structure Env0(P:W5)(w:Xq)(K:WO)(mg:Xp->Option WT)(base:Yh)(A:XI)(outer:List Env)(s:WX)(H:Hp):Prop where
 frames:A.frames=A? outer
 mod:Mod K mg base
 bs:∀b o,base.get? b=A? o->s.1.get? b=A? o/\H b=B?
 bsz:base.objs.size<=s.1.1.size
 funs:s.1.FunFrames base outer
 frf:∀b∈frs outer,H b=B?
 hok:HOk P w H s.1
 bare:AllBare s.gens
def CE(outer:List Env)(P:W5)(w:Xq)(H:Hp)(s:WX)(Q:VK)(u:WT)(s':WX):Prop :=
 ∃v H',s'.os=s.os/\AllBare s'.gens/\Un (frs outer) [] H H' s.1 s'.1/\HOk P w H' s'.1/\RelV v u/\Q v H'
def CR(CX:CXT)(outer:List Env)(P:W5)(w:Xq)(H:Hp)(s:WX)(Q:VK)(E:XK)(r:Result)(s':WX):Prop :=
 match r with
 |.ok (.ret u)=>CE outer P w H s Q u s'
 |.ok _=>False
 |.error e=>CX outer H s E e s'
structure aT(P:W5)(w:Xq)(K:WO)(mg:Xp->Option WT)(base:Yh)(CX:CXT)(k:Nat)(f:WQ)(fd:ZU)(ps:List Xp)(sp:Sp):Prop where
 len:∀vs H Q E,sp vs H Q E->vs.length=ps.length
 run:∀(A:XI)(outer:List Env)(s:WX)(H:Hp)(args:Args)(us:List WT)(vs:List V)(Q:VK)(E:XK),Room k A->Env0 P w K mg base A outer s H->BindsTo s fd args (ps.zip us)->Vals vs us->sp vs H Q E ->
  codeAny (Xw P w) A (.call (.ref f) args) (CR CX outer P w H s Q E) s
theorem Env0.make{outer:List Env}(e:Env0 P w K mg base A outer s H)(C:WQ)(us:List WT)(kw:List (Xp×WT)) :
 Env0 P w K mg base (A.under (.builtin "type.__call__" ⟨.ref C::us,kw⟩)) outer s H:=⟨by first|exact e.frames|(simpa[Around.under,Code.envs,Code.isFrame,pushEnvs]using e.frames),e.mod,e.bs,e.bsz,e.funs,e.frf,e.hok,e.bare⟩
section
variable{X:Cx}{s':WX}
theorem Inv.env0(I:Inv X U Z H s):Env0 X.prog X.w X.K X.mg X.base X.A X.stack s H :=
 ⟨I.ok.frames,I.ok.mod,I.bs,Xs I.ok.bsz I.sz,I.stack,I.stkFree,I.hok,I.bare⟩
theorem Inv.after{Q:VK}(I:Inv X U Z H s)(h:CE X.stack X.prog X.w H s Q u s'):EP X U Z Q u s':=by
 obtain⟨v,H',os,bare,un,hok,r,q⟩:=h;obtain⟨hh,g,d,t,T6⟩:=s';obtain rfl:T6=s.os:=os;exact⟨v,H',I.call (h':=hh) (g':=g) (d':=d) (t':=t) (ch:=[]) un hok bare (λb z=>g! z (by simp)),r,q⟩
end
def cx(sp:Sp)(dvs:List V)(E:XK)(t:TA):TE:=λZ H Q=>t Z H λvs H1=>sp (vs++dvs) H1 Q E
def aaW(C:WQ)(m:Xp)(sp:Sp)(dvs:List V)(E:XK)(ta:TE)(t:TA):TE:=λZ H Q=>ta Z H λx H1=>∃a dx fs,x=.ref a/\H1 a=A? (.ins C dx fs)/\fs.lookup m=B? /\
 t Z H1 λvs H2=>sp (x::(vs++dvs)) H2 Q E
def aaE(C:WQ)(sp:Sp)(dvs:List V)(E:XK)(t:TA):TE:=λZ H Q=>t Z H λvs H1=>∀x dx,H1 x=B?->H1 dx=B?->dx≠x ->
 sp (.ref x::(vs++dvs)) (upd (upd H1 dx (.own x)) x (.ins C dx [])) (λv H2=>v=.non/\Q (.ref x) H2) E
def Binds(K:WO)(fd:ZU)(ps:List Xp)(ds:List WT):Prop :=
 ∀(s:WX)(us:List WT),K.In s.1->(us++ds).length=ps.length->BindsTo s fd ⟨us,[]⟩ (ps.zip (us++ds))
theorem Binds.all(h:∀us:List WT,us.length=ps.length->bindArgs fd ⟨us,[]⟩=pure (ps.zip us)):Binds K fd ps []:=λs us _ hl=>by
 rw[XA]at hl |-;exact .of_eq (h us hl)
def Passes(CX:CXT)(X:Cx)(E:XK):Prop:=∀(U:List (WQ×Zb))(Z:St)(H:Hp)(s:WX)(e:WT)(s':WX),Inv X U Z H s->CX X.stack H s E e s'->X.xe e s'
section
variable{X:Cx}{CX:CXT}{k:Nat}{C:WQ}{sp:Sp}{dvs:List V}{ds:List WT}{E:XK}{m:Xp}{p apos:Z2}{o:X9}{ta:TE}{t:TA}
theorem vQ{Q:VK}(F:aT X.prog X.w X.K X.mg X.base CX k f fd ps sp)(hr:Room k X.A)(hb:Binds X.K fd ps ds)(hd:Vals dvs ds)(hx:Passes CX X E)
 (I:Inv X U Z H s) (r:Vals vs us) (h:sp (vs++dvs) H Q E):W7 (Xw X.prog X.w) X.A (call (.ref f) us) (EP X U Z Q) X.xe s:=by
 have r2:Vals (vs++dvs) (us++ds):=r.append hd;have hl:(us++ds).length=ps.length:=by rw[<-r2.length];exact F.len _ _ _ _ h
 refine wpAny_call (codeAny_mono (F.run X.A X.stack s H ⟨us,[]⟩ (us++ds) (vs++dvs) Q E hr I.env0 (hb s us I.kIn hl) r2 h) λr s' hq=>?_);cases r with
 |error e=>exact hx U Z H s e s' I hq
 | ok fl =>
   cases fl with
   |ret u=>exact I.after hq
   |next=>exact YE hq
   |brk=>exact YE hq
   |cont=>exact YE hq
theorem cR(F:aT X.prog X.w X.K X.mg X.base CX k f fd ps sp)(hr:Room k X.A)(hg:Gl X x)(hm:X.mg x=A? (.ref f))(hk:PySem.W.keepIn X.K (.ref f)=C?)(hb:Binds X.K fd ps ds)(hd:Vals dvs ds)(hx:Passes CX X E)
 (ha:PA X (e::es) t) (DU:(x == ("__debug__":Xp))=false:=by decide) (he:XG (e::es) X.env=(Cf,Y2 e X.env)::XG es X.env:=by rfl) (AU:(Z0 pos (XG es X.env)).any (·.1)=false:=by rfl) :
 PE X (.Call (.Name x p) (e::es) [] pos) (cx sp dvs E t):=by
 intro U s Z H Q I h;refine Ym (kT I hg hm ?_ DU);refine PySem.W.callWith_K (h₀:=X.base) I.ok.mod.kin hk (thn (ha pos U s Z H _ I h) λus s1⟨vs,H1,I1,r,q⟩=>⟨I1.kIn,?_⟩) he AU;exact vQ F hr hb hd hx I1 r q
theorem yb{pl:Sem Bool}(he:PE X o ta)(c:Cls X.K C)(hm:Meth X.K C m f)(F:aT X.prog X.w X.K X.mg X.base CX k f fd ps sp)(hr:Room k X.A)(hb:Binds X.K fd ps ds)(hd:Vals dvs ds)(hx:Passes CX X E)(ha:PA X (e::es) t)
 (AX:XG (e::es) X.env=(Cf,Y2 e X.env)::XG es X.env:=by rfl) (AU:(Z0 pos (XG es X.env)).any (·.1)=false:=by rfl)
 (ht:Y2 (.Call (.Attribute o m apos) (e::es) [] pos) X.env=(do
  let ov <-Y2 o X.env
  standAt apos.atName
  let(f,first) <-holding [ov] (getMethod ov m pl)
  callWith pos f first (Z0 pos (XG (e::es) X.env)) (backToKw pos (keywordEach [] X.env))):=by rfl) :
 PE X (.Call (.Attribute o m apos) (e::es) [] pos) (aaW C m sp dvs E ta t):=by
 intro U s Z H Q I h;refine PySem.W.methodCall_KW (pl:=pl) (thn (he U s Z H _ I h) λu s1⟨x,H1,I1,rx,a,dx,fs,ex,ea,l,q⟩=>?_) ht;subst ex;obtain rfl:u=Xl a:=rx;refine rZ I1 ea c hm l ?_;refine PySem.W.callWith_K (first:=[.ref a]) (h₀:=X.base) I.ok.mod.kin hm.kp (thn (ha pos U s1 Z H1 _ I1 q) λus s2⟨vs,H2,I2,r,q2⟩=>⟨I2.kIn,?_⟩) AX AU;exact vQ (us:=.ref a::us) (vs:=.ref a::vs) F hr hb hd hx I2 (.cons rfl r) q2
structure Mk(K:WO)(C f:WQ):Prop where
 makes:PySem.W.makesIn K C=C?
 init:Zl K (.ref C) "__init__"=A? (A? (.ref f))
 fn:PySem.W.isFn K (.ref f)=C?
 kp:PySem.W.keepIn K (.ref C)=C?
theorem vU{Q:VK}(M:Mk X.K C f)(F:aT X.prog X.w X.K X.mg X.base CX k f fd ps sp)(hr:Room (k+1) X.A)(hb:Binds X.K fd ps ds)(hd:Vals dvs ds)
 (hx:Passes CX X E) (I:Inv X U Z H s) (r:Vals vs us)
 (h:∀x dx,H x=B?->H dx=B?->dx≠x->sp (.ref x::(vs++dvs)) (upd (upd H dx (.own x)) x (.ins C dx [])) (λv H2=>v=.non/\Q (.ref x) H2) E) :
 W7 (Xw X.prog X.w) X.A (call (.ref C) us) (EP X U Z Q) X.xe s:=by
 have hq:=h (s.1.1.size+1) s.1.1.size (I.hok.fresh (Nat.le_succ _)) (I.hok.fresh (WV _)) (XC (Nat.lt_succ_self _));have I2:=Inv.made (C:=C) I;have r2:Vals (i! (s.1.1.size+1)::(vs++dvs)) (Xl (s.1.1.size+1)::(us++ds)):=.cons rfl (r.append hd)
 have hl:(Xl (s.1.1.size+1)::us++ds).length=ps.length:=by
  have e:=r2.length;rw[F.len _ _ _ _ hq]at e;exact e.symm
 refine wpAny_call (xB (f:=f) I.kIn M.makes M.init (beq_iff_eq.mp M.fn) (codeAny_mono (F.run _ X.stack _ _ ⟨Xl (s.1.1.size+1)::us,[]⟩ (Xl (s.1.1.size+1)::(us++ds)) _ _ E (hr.make C us [])
  (I2.env0.make C us []) (hb _ (Xl (s.1.1.size+1)::us) I2.kIn hl) r2 hq) λr s' FH=>?_))
 cases r with
 |error e=>exact hx U Z _ _ e s' I2 FH
 | ok fl =>
   cases fl with
   | ret u =>
     obtain⟨v,H',I3,rv,ev,q3⟩:=I2.after FH;subst ev;exact⟨rv,⟨i! (s.1.1.size+1),H',I3,D?,q3⟩⟩
   |next=>exact YE FH
   |brk=>exact YE FH
   |cont=>exact YE FH
theorem wb(M:Mk X.K C f)(F:aT X.prog X.w X.K X.mg X.base CX k f fd ps sp)(hr:Room (k+1) X.A)(hg:Gl X x)(hm:X.mg x=A? (.ref C))(hb:Binds X.K fd ps ds)(hd:Vals dvs ds)(hx:Passes CX X E)
 (DU:(x == ("__debug__":Xp))=false:=by decide):PE X (.Call (.Name x p) [] [] pos) (aaE C sp dvs E bY):=by
 intro U s Z H Q I h;refine Ym (kT I hg hm ?_ DU);exact PySem.W.callWith_K0 I.kIn M.kp (vU (us:=[]) M F hr hb hd hx I .nil h)
end
section
variable{X:Cx}{CX:CXT}{k:Nat}{C:WQ}{ks:List Xp}{sp:Sp}{E:XK}{m:Xp}{p apos T7:Z2}{o:X9}{kws:List Keyword}{ta:TE}{t tk:TA}{nm:Option Xp}
variable{g:List WT->List WT->List WT}{gV:List V->List V->List V}
end
structure dX(N P:List Xp)(sc:Z4):Prop where
 kind:sc.kind=.function
 co:sc.isCoroutine=Cf
 gen:sc.isGenerator=Cf
 nd:N.Nodup
 pre:N.take P.length=P
 par:∀x∈P,sc.names.lookup x=A? .local\/sc.names.lookup x=A? .cell
 nofree:∀y∈sc.names,y.2≠.free
theorem np:∀{binds:List (Xp×WT)}{m:Xp->Option WT},(∀v,(x,v)∉binds)->bindL kindOf binds m x=m x
 | [],_,_=>rfl
 | (n,v)::r,m,h=>by
   unfold bindL;rw[np λw hw=>h w (Xe _ hw)];split
   .have:x≠n:=by rintro rfl;exact h v Xh
    simp[this]
   .rfl
theorem oh:∀{binds:List (Xp×WT)}{m:Xp->Option WT},(∀v,(x,v)∉binds)->bindC kindOf binds m x=m x
 | [],_,_=>rfl
 | (n,v)::r,m,h=>by
   unfold bindC;rw[oh λw hw=>h w (Xe _ hw)];split
   .rfl
   .have:x≠n:=by rintro rfl;exact h v Xh
    simp[this]
theorem nU{v:WT}:∀{P:List Xp}{vs:List WT}{i:Nat}{m:Xp->Option WT},P.Nodup->P[i]?=A? x->vs[i]?=A? v->kindOf x=A? .local ->
 bindL kindOf (P.zip vs) m x=A? v
 | [],_,_,_,_,h,_,_=>by simp at h
 |_::_,[],_,_,_,_,h,_=>by simp at h
 | p::P,w::vs,0,m,nd,h1,h2,hk=>by
   simp at h1 h2;subst h1;subst h2;show bindL kindOf ((p,w)::P.zip vs) m p=_;unfold bindL;rw[np λv hv=>(ZM.mp nd).1 (List.of_mem_zip hv).1,b! hk];simp
 | p::P,w::vs,i+1,m,nd,h1,h2,hk=>by
   show bindL kindOf ((p,w)::P.zip vs) m x=_;unfold bindL;exact nU (i:=i) (ZM.mp nd).2 (by simpa using h1) (by simpa using h2) hk
theorem nn{v:WT}:∀{P:List Xp}{vs:List WT}{i:Nat}{m:Xp->Option WT},P.Nodup->P[i]?=A? x->vs[i]?=A? v->kindOf x≠A? .local ->
 bindC kindOf (P.zip vs) m x=A? v
 | [],_,_,_,_,h,_,_=>by simp at h
 |_::_,[],_,_,_,_,h,_=>by simp at h
 | p::P,w::vs,0,m,nd,h1,h2,hk=>by
   simp at h1 h2;subst h1;subst h2;show bindC kindOf ((p,w)::P.zip vs) m p=_;unfold bindC;rw[oh λv hv=>(ZM.mp nd).1 (List.of_mem_zip hv).1,a! hk];simp
 | p::P,w::vs,i+1,m,nd,h1,h2,hk=>by
   show bindC kindOf ((p,w)::P.zip vs) m x=_;unfold bindC;exact nn (i:=i) (ZM.mp nd).2 (by simpa using h1) (by simpa using h2) hk
def start(N:List Xp)(vs:List V):St:=vs.map A?++List.replicate (N.length - vs.length) B?
def pU(CX:CXT)(P:W5)(w:Xq)(K:WO)(mg:Xp->Option WT)(base:Yh)(N:List Xp)(qual:Xp)(scope:Z4)(f:WQ)(cd:WT)(A:XI)(outer:List Env)(s:WX)(H:Hp)(E:XK):Cx where
 prog:=P
 w:=w
 K:=K
 mg:=mg
 base:=base
 A:=A.deeper (envOfC qual scope s.1.1.size f cd)
 N:=N
 s₀:=s
 H₀:=H
 env:=envOfC qual scope s.1.1.size f cd
 outer:=outer
 stack:=envOfC qual scope s.1.1.size f cd::outer
 ex:=[]
 calm:=C?
 fn:=λ_=>C?
 pn:=[]
 xe:=λe s'=>W7 (Xw P w) (A.deeper (envOfC qual scope s.1.1.size f cd)) (leaving (envOfC qual scope s.1.1.size f cd) e) (λ_ NU=>CX outer H s E e NU) (λe' NU=>CX outer H s E e' NU) s'
theorem pR(h:sc.names.lookup x=A? .cell):∃c,(cellsFrom n sc.names []).lookup x=A? c:=by
 have q:=PySem.W.cellsFrom_some sc.names n [] (.inl h);exact ZY.mp q
theorem uZ{CX:CXT}{cd:WT}{outer:List Env}{s1:WX}{E:XK}
 (S:dX N ps scope) (hd:A.handled=B?) (e0:Env0 P w K mg base A outer s H) (hl:vs.length=ps.length) (r:Vals vs us)
 (x:InCallC s s.1.1.size (bindL (envOfC qual scope s.1.1.size f cd).kindOf (ps.zip us) λ_=>B?) (cellsFrom (s.1.1.size+1) scope.names []) (bindC (envOfC qual scope s.1.1.size f cd).kindOf (ps.zip us) λ_=>B?) s1) :
 Inv (pU CX P w K mg base N qual scope f cd A outer s H E) [] (start N vs) H s1:=by
 have AU:ps.length<=N.length:=by have:=h! Zm S.pre;rw[XF]at this;lia
 obtain⟨h1,tk,rfl,hk⟩:=x.done;have NV:∀b:WQ,b∉(pU CX P w K mg base N qual scope f cd A outer s H E).ex:=λb z=>g! (show b∈([]:List WQ)from z) (by simp)
 refine⟨⟨e0.mod,S.kind,D?,D?,WV _,λy z c h1 h2=>?_,λy hy=>?_,λy c _ h=>?_,λ_=>hd,Around.frames_deeper e0.frames,.inr ⟨D?,D?⟩,λb z=>g! z (NV b),e0.bs,e0.bsz,λb _ _=>NV b,λb z=>g! z (NV b),e0.funs,e0.frf⟩,
  rfl,e0.bare,Un.kept hk,⟨_,x.toInCall.ns,λi y v h1 h2 h3=>?_⟩,λy c h=>⟨_,x.cell y c h⟩,e0.hok.fresh (WV _),λy c h=>?_,λp hp=>g! (show p∈([]:List (WQ×Zb))from hp) (by simp),e0.hok.kept hk,?_⟩
 .exact name_of_addr x.apart (Yl h1) (Yl h2)
 .have hy:scope.names.lookup y=A? .cell\/scope.names.lookup y=A? .free:=hy;rcases hy with hy|hy
  .exact pR hy
  .exact g! rfl (S.nofree _ (Yl hy))
 .exact ZS (x.above y c (Yl h))
 .have hi:i<vs.length:=by
   unfold start at h2;by_cases hi:i<vs.length
   .exact hi
   .rw[Yq (by simpa using hi)]at h2;rw[List.getElem?_replicate]at h2;split at h2 <;> cases h2
  have ha:vs[i]?=A? v:=by
   unfold start at h2;rw[X0 (by simpa using hi),WY]at h2;cases e:vs[i]? with
   |none=>rw[e]at h2;cases h2
   |some a=>rw[e]at h2;cases h2;rfl
  obtain⟨u,hu,rv⟩:=r.get ha
  have hp:ps[i]?=A? y:=by
   rw[<-S.pre,List.getElem?_take_of_lt (by lia)];exact h1
  have ndP:ps.Nodup:=by rw[<-S.pre];exact S.nd.sublist (List.take_sublist _ _)
  refine⟨u,rv,?_⟩;rcases S.par y (WS hp)with k|k
  .exact .inl ⟨k,nU ndP hp hu k⟩
  .obtain⟨c,e⟩:=pR (n:=s.1.1.size+1) k;refine .inr ⟨.inl k,c,e,?_⟩;have q:=x.cell y c e;rw[nn ndP hp hu (by show scope.names.lookup y≠_;rw[k];decide)]at q;exact q
 .exact e0.hok.fresh (ZS (x.above y c (Yl h)))
 .unfold start;show _=N.length;rw[Xd,WM,List.length_replicate];lia
theorem yY{CX:CXT}{k:Nat}{name:Xp}{dV kV doc pm Ag ct:WT}{an:Option WQ}
 {Fi:Array (Option WT)} {sp:Sp} (lk:K.lookup f=A? ⟨oc,od,.func (PySem.W.fnOf name qual params body scope dV kV doc pm an Ag ct),Fi⟩) (Cg:PySem.W.codeIn K Ag qual=C?) (S:dX N ps scope)
 (len:∀vs H Q E,sp vs H Q E->vs.length=ps.length)
 (Bd:∀(A:XI)(outer:List Env)(s:WX)(H:Hp)(vs:List V)(Q:VK)(E:XK),Room k (A.deeper (envOfC qual scope s.1.1.size f Ag))->sp vs H Q E ->
  ∃t,PSs (pU CX P w K mg base N qual scope f Ag A outer s H E) body t/\t {nx:=λ_ H'=>Q .non H',rt:=Q} (start N vs) H) :
 aT P w K mg base CX (k+1) f (PySem.W.fnOf name qual params body scope dV kV doc pm an Ag ct) ps sp:=by
 refine⟨len,λA outer s H args us vs Q E hr e0 hb r BZ=>?_⟩;have hl:=len _ _ _ _ BZ;have KX:K.In s.1:=e0.mod.kin.keeps λb o e=>(e0.bs b o e).1;have lim:s.1.NoLimit:=e0.mod.nolimit.keeps λb o e=>(e0.bs b o e).1
 have JS:∀y∈ps.zip us,scope.names.lookup y.1=A? .local\/(scope.names.lookup y.1=A? .cell/\((cellsFrom (s.1.1.size+1) scope.names []).lookup y.1).isSome=C?):=λ⟨n,v⟩hy=>by
  rcases S.par n (List.of_mem_zip hy).1 with q|q
  .exact .inl q
  .exact .inr ⟨q,PySem.W.cellsFrom_some _ _ _ (.inl q)⟩
 refine codeAny_call_function hr.depth (KX _ _ lk) rfl S.co S.gen rfl (PySem.W.codeRec_of KX Cg) (hb _ _ _ _ ?_);refine wpAny_newFunctionEnv_cells S.kind JS λenv he s1 x=>?_;subst he;refine⟨lim.keeps x.toInCall.keep,codeAny_func ?_⟩;obtain⟨t,ht,hq⟩:=Bd A outer s H vs Q E (hr.deeper _) BZ;have I:Inv (pU CX P w K mg base N qual scope f Ag A outer s H E) [] (start N vs) H s1:=uZ S hr.hd e0 hl r x;refine Y6 (ht [] s1 (start N vs) H _ I hq) (λfl s' hs=>?_) λe s' hs=>hs
 have fin:∀{Ab:St}{H':Hp}{v:V}{u:WT},Inv (pU CX P w K mg base N qual scope f Ag A outer s H E) [] Ab H' s'->RelV v u->Q v H'->CE outer P w H s Q u s' :=
  λ{Ab H' v u}J rv q=>⟨v,H',J.os,J.bare,J.base,J.hok,rv,q⟩
 cases fl with
 | ret u =>
   obtain⟨v,Ab,H',J,rv,q⟩:=hs;exact fin J rv q
 | next =>
   obtain⟨Ab,H',J,q⟩:=hs;exact fin (v:=V.non) (u:=Yp) J rfl q
 | brk =>
   obtain⟨_,_,_,q⟩:=hs;exact YE q
 | cont =>
   obtain⟨_,_,_,q⟩:=hs;exact YE q
end L2
variable{CX:L2.CXT}{sp:L2.Sp}
namespace L2
open PySem PySem.Spec PyProof.Rows
section
variable{X:Cx}{p:Z2}{t:TA}{id T:String}{r:List V->Hp->VK->Prop}
def tCB(r:List V->Hp->VK->Prop)(t:TA):TE:=λZ H Q=>t Z H λvs H1=>r vs H1 Q
theorem aA(hc:fH X (.builtin id) r)(hg:Gl X x)(hm:X.mg x=B?)(hv:bootBuiltins x=A? (.builtin id))(ha:PA X (e::es) t)(hn:x≠"__name__":=by decide)(DU:(x == ("__debug__":Xp))=false:=by decide)
 (he:XG (e::es) X.env=(Cf,Y2 e X.env)::XG es X.env:=by rfl) (AU:(Z0 pos (XG es X.env)).any (·.1)=false:=by rfl):PE X (.Call (.Name x p) (e::es) [] pos) (tCB r t):=by
 intro U s Z H Q I h;refine Ym (dh I hg hm hv ?_ hn DU);exact PyProof.Rows.callWith_builtin1 (thn (ha pos U s Z H _ I h) λus s1⟨vs,H1,I1,r1,q1⟩=>hc U s1 Z H1 vs us Q I1 r1 q1) he AU
theorem bd(hc:fH X (.type T) r)(hg:Gl X x)(hm:X.mg x=B?)(hv:bootBuiltins x=A? (.type T))(ha:PA X (e::es) t)(hn:x≠"__name__":=by decide)(DU:(x == ("__debug__":Xp))=false:=by decide)
 (he:XG (e::es) X.env=(Cf,Y2 e X.env)::XG es X.env:=by rfl) (AU:(Z0 pos (XG es X.env)).any (·.1)=false:=by rfl):PE X (.Call (.Name x p) (e::es) [] pos) (tCB r t):=by
 intro U s Z H Q I h;refine Ym (dh I hg hm hv ?_ hn DU);exact X2 (thn (ha pos U s Z H _ I h) λus s1⟨vs,H1,I1,r1,q1⟩=>hc U s1 Z H1 vs us Q I1 r1 q1) he AU
end
end L2
namespace HT
open PySem PyProof.Rows
section
open PySem.SeqAt
open PySem.AutoSeq1 (wpAny_loadPart')
open PySem.MeetsSeq PySem.MeetsSeq2 PySem.MeetsSeq3
end
theorem cat_tup{t:WQ}{vs ws:List WT}(ht:IsTup s.1 t vs.toArray)(hb:IsTup s.1 b ws.toArray)(hv:vs≠[])
 (h1:ws=[]->Q (.ref t) s) (h2:ws≠[]->Q (.ref s.1.1.size) {s with heap:=s.1.push {cls:=.type "tuple",data:=.seq (vs++ws).toArray}})
 (hsz:vs.length+ws.length<=Xf):W7 (Xw prog w) A (binaryOp .Add (.ref t) (.ref b)) Q E s:=by
 obtain⟨⟨cls,dd,data,sl⟩,ho,hc,n,hd⟩:=id ht;obtain⟨⟨JT,Jh,data2,Ji⟩,FI,B5,n2,hd2⟩:=id hb;simp only at hc hd B5 hd2;subst hc hd B5 hd2;have e:vs.toArray++ws.toArray=(vs++ws).toArray:=by simp
 by_cases hw:ws=[]
 .exact concat_meets ⟨_,ho,rfl⟩ ⟨_,FI,rfl⟩ noFill_tuple_add seq_tuple_add PySem.F.slot_tuple_add PySem.F.entry_tuple_add (PySem.F.args_tuple_add_2 _ _)
   (tuple_addW1 t b vs.toArray ws.toArray n n2 dd Jh sl Ji (by simpa using hv) (by simp[hw])) ⟨ho,FI,h1 hw⟩
 .refine concat_meets ⟨_,ho,rfl⟩ ⟨_,FI,rfl⟩ noFill_tuple_add seq_tuple_add PySem.F.slot_tuple_add PySem.F.entry_tuple_add (PySem.F.args_tuple_add_2 _ _)
   (tuple_addW2 t b vs.toArray ws.toArray n n2 dd Jh sl Ji (by simpa using hv) (by simpa using hw) (by rw[W3,W3];exact hsz)) ⟨ho,FI,?_⟩
  rw[e];exact h2 hw
def sIx(n d:Nat):Option Int->Nat
 |none=>d
 |some v=>if v<0 then(v+(n:Int)).toNat else min v.toNat n
theorem sIx_none(n d:Nat):sIx n d B?=d:=rfl
theorem sIx_nat(n d k:Nat):sIx n d (A? (k:Int))=min k n:=by
 show(if(k:Int)<0 then((k:Int)+(n:Int)).toNat else min (k:Int).toNat n)=min k n;rw[a! (by lia),Xy]
theorem sIx_le(n d:Nat)(hd:d<=n)(o:Option Int):sIx n d o<=n:=by
 cases o with
 |none=>exact hd
 | some v =>
   show(if v<0 then(v+(n:Int)).toNat else min v.toNat n)<=n;by_cases hv:v<0
   .rw[b! hv];lia
   .rw[a! hv];exact Nat.min_le_right _ _
theorem clip_eq(v:Int)(n d:Nat):(if v<0 then max (v+(n:Int)) 0 else min v (n:Int))=((sIx n d (A? v):Nat):Int):=by
 show(if v<0 then max (v+(n:Int)) 0 else min v (n:Int))=(((if v<0 then(v+(n:Int)).toNat else min v.toNat n):Nat):Int);by_cases hv:v<0
 .simp only[b! hv];lia
 .simp only[a! hv];lia
theorem adjust_gen(lo hi:Option Int)(n:Nat):Z1 lo hi 1 (n:Int)=(((sIx n 0 lo:Nat):Int),((sIx n n hi:Nat):Int)):=by
 have h1:¬((1:Int)<0):=by lia
 unfold Z1;simp only[h1,if_false];refine Prod.ext ?_ ?_
 .cases lo with
  |none=>rfl
  |some v=>exact clip_eq v n 0
 .cases hi with
  |none=>rfl
  |some v=>exact clip_eq v n n
theorem places_gen(i j:Nat):YH (i:Int) (j:Int) 1=j - i:=by
 unfold YH;have h1:(1:Int) > 0:=by lia
 simp only[h1,if_true,Int.ediv_one];split <;> lia
theorem slicePart_{v:WT}{o:Option Int}{Q:Option Int->WX->Prop}(p:IsPart v o)(h:Q o s):W7 (Xw prog w) A (Builtin.Slice.slicePartIndex v) Q E s:=by
 cases p with
 |none=>exact slicePart_none h
 |int i t=>exact slicePart_int h
theorem sliceApplied_gen{Q:Int×Int×Nat->WX->Prop}(hs:s.1.IsSliceOf sl vl vu .none)(pl:IsPart vl lo)(pu:IsPart vu hi)
 (h:Q (((sIx n 0 lo:Nat):Int),1,sIx n n hi - sIx n 0 lo) s):W7 (Xw prog w) A (Builtin.Slice.sliceApplied (.ref sl) (pure (n:Int))) Q E s:=by
 obtain⟨os,DV,CK,Bl⟩:=id hs;unfold Builtin.Slice.sliceApplied Builtin.Slice.sliceFields;refine WN (WN (XY DV Bl (x:=vl) rfl (WN (XY DV Bl (x:=vu) rfl (WN (XY DV Bl (x:=.none) rfl (WW ?_)))))));refine WN (slicePart_none ?_);show W7 _ _ (if((1:Int) == 0)=C? then _ else _) _ _ s;rw[a! (by decide)];refine WN (slicePart_ pl (WN (slicePart_ pu (WN (WW ?_)))));show W7 _ _ (match Z1 lo hi 1 (n:Int)with|(lo,hi)=>pure (lo,(1:Int),YH lo hi 1)) _ _ s;rw[adjust_gen lo hi n];show W7 _ _ (pure (((sIx n 0 lo:Nat):Int),(1:Int),YH ((sIx n 0 lo:Nat):Int) ((sIx n n hi:Nat):Int) 1)) _ _ s;rw[places_gen];exact WW h
theorem pick_gen(xs:Array WT)(i k:Nat):((XD k).filterMap λ(m:Nat)=>xs[((i:Int)+(m:Int) * 1).toNat]?).toArray=((xs.toList.drop i).take k).toArray:=by
 have e:(λ(m:Nat)=>xs[((i:Int)+(m:Int) * 1).toNat]?)=λm=>xs[i+m]?:=by
  funext m;have:((i:Int)+(m:Int) * 1).toNat=i+m:=by lia
  rw[this]
 rw[e];have:=pick_run xs i k;rw[List.filterMap_map]at this;have e2:((λx=>xs[x]?) ∘ λx=>i+x)=λm=>xs[i+m]?:=rfl;rw[e2]at this;rw[this]
theorem getItem_tuple_cut{t:WQ}(ht:IsTup s.1 t items)(hs:s.1.IsSliceOf sl vl vu .none)(pl:IsPart vl lo)(pu:IsPart vu hi)
 (hw:¬(sIx items.size 0 lo=0/\sIx items.size items.size hi=items.size))
 (h:Q (.ref s.1.1.size) {s with heap:=s.1.push {cls:=.type "tuple",data:=.seq ((items.toList.drop (sIx items.size 0 lo)).take (sIx items.size items.size hi - sIx items.size 0 lo)).toArray}})
 (hsz:items.size<=Xf):W7 (Xw prog w) A (getItem (.ref t) (.ref sl)) Q E s:=by
 have Be:sizeOk (.seq ((items.toList.drop (sIx items.size 0 lo)).take (sIx items.size items.size hi - sIx items.size 0 lo)).toArray):=by
  show((items.toList.drop (sIx items.size 0 lo)).take (sIx items.size items.size hi - sIx items.size 0 lo)).toArray.size<=Xf;rw[W3,XF,Z5,XS];lia
 have hj:sIx items.size items.size hi<=items.size:=sIx_le _ _ (WV _) hi;obtain⟨os,DV,CK,Bl⟩:=id hs;have JU:s.TypeIs (.ref sl) "slice":=⟨os,DV,CK⟩;unfold getItem
 try with_reducible refine Yy ?_
 first|refine WN (WW ?_)|skip
 refine WN (wpAny_sequenceKey ht.typeIs (by decide) ?_)
 refine WN (X4 (name:=Xm "__getitem__") ht.typeIs XR
  (X8 XR ht.typeIs entry_tuple_getitem ?_ (args_tuple_getitem _ _)))
 show W7 _ _ (ZV (.ref t) >>= _) _ _ s;refine WN (tupleItemsOf_ ht ?_);refine WN (ZG JU ?_);rw[b! (by decide)];refine WN (sliceApplied_gen hs pl pu ?_)
 have Dn:¬((((sIx items.size 0 lo:Nat):Int) == 0 && (1:Int) == 1 && (sIx items.size items.size hi - sIx items.size 0 lo) == items.size)=C?):=by
  intro q;rw[Yg,Yg]at q;have q1:((sIx items.size 0 lo:Nat):Int)=0:=eq_of_beq q.1.1;have q2:sIx items.size items.size hi - sIx items.size 0 lo=items.size:=eq_of_beq q.2;exact hw ⟨by lia,by lia⟩
 show W7 _ _ (if(((sIx items.size 0 lo:Nat):Int) == 0 && (1:Int) == 1 && (sIx items.size items.size hi - sIx items.size 0 lo) == items.size)=C? then _ else _) _ _ s;rw[a! Dn,pick_gen]
 first
  |exact WN (m:=YM _) (Yi (WW ⟨_,rfl,WW h⟩) Be)
  |exact WN (m:=YM _) (Yi (WN (WW (WW ⟨_,rfl,WW h⟩))) Be)
  |exact WN (WN (m:=YM _) (Yi (WW (WW ⟨_,rfl,WW h⟩)) Be))
  |exact WN (WN (m:=YM _) (Yi (WW ⟨_,rfl,WW h⟩) Be))
end HT
open HT renaming sIx->I!,sIx_nat->M!
namespace L2
open PySem PySem.Spec PyProof.Rows
abbrev TO:=St->Hp->(Option Int->Hp->Prop)->Prop
def PO(X:Cx)(e:Option X9)(t:TO):Prop :=
 ∀(U:List (WQ×Zb))(s:WX)(Z:St)(H:Hp)(Q:Option Int->Hp->Prop),Inv X U Z H s->t Z H Q ->
   W7 (Xw X.prog X.w) X.A (evalPart e X.env) (λu s'=>∃o H',Inv X U Z H' s'/\IsPart u o/\Q o H') X.xe s
def yq:TO:=λ_ H Q=>Q B? H
inductive zg(x:V)(Q:Option Int->Hp->Prop)(H1:Hp):Prop
 |mk (i:Int) (CI:x=.int i) (CJ:Q (A? i) H1):zg x Q H1
def yO(t:TE):TO:=λZ H Q=>t Z H λx H1=>zg x Q H1
theorem intsAre_of:∀{us:List WT},Vals (ns.map q!) us->IntsAre us ns:=by
 induction ns with
 |nil=>intro us r;rw[Y0]at r;cases r;exact .nil
 | cons n ns ih =>
   intro us r;rw[XB]at r;cases r with
   | cons r1 r2 =>
     obtain⟨t,e⟩:=r1;subst e;exact .cons n t (ih r2)
section
variable{X:Cx}{lo hi:Option X9}{tl th:TO}{p2:Z2}
theorem dG:PO X B? yq:=by
 intro U s Z H Q I h;rw[evalPart_none];exact WW ⟨B?,H,I,.none,h⟩
theorem cW(h:PE X e te):PO X (A? e) (yO te):=by
 intro U s Z H Q I hw;rw[evalPart_some];refine thn (h U s Z H _ I hw) λu s1⟨x,H1,I1,r1,q1⟩=>?_;obtain⟨i,rfl,q⟩:=q1;obtain⟨t,rfl⟩:=r1;exact⟨A? i,H1,I1,.int i t,q⟩
def SlR(X:Cx)(r:V->Option Int->Option Int->Hp->VK->Prop):Prop :=
 ∀(U:List (WQ×Zb))(s:WX)(Z:St)(H:Hp)(x:V)(v vl vu:WT)(lo hi:Option Int)(sl:WQ)(Q:VK),Inv X U Z H s->RelV x v->s.1.IsSliceOf sl vl vu .none->IsPart vl lo->IsPart vu hi->r x lo hi H Q ->
   ∃T id,typeLookup (.type T) "__getitem__"=pure (A? (.builtin id))/\s.TypeIs v T/\W7 (Xw X.prog X.w) X.A (getItem v (.ref sl)) (EP X U Z Q) X.xe s
def tSl(r:V->Option Int->Option Int->Hp->VK->Prop)(te:TE)(tl th:TO):TE:=λZ H Q=>te Z H λx H1=>tl Z H1 λl H2=>th Z H2 λu H3=>r x l u H3 Q
theorem cK{r:V->Option Int->Option Int->Hp->VK->Prop}(hr:SlR X r)(he:PE X e te)(hl:PO X lo tl)(hu:PO X hi th):PE X (.Subscript e (.Slice lo hi B? p2) pos) (tSl r te tl th):=by
 intro U s Z H Q I h;refine Subscript_ (thn (he U s Z H _ I h) λv s1⟨x,H1,I1,r1,q1⟩=>?_);refine wpAny_Slice (thn (hl U s1 Z H1 _ I1 q1) λvl s2⟨l,H2,I2,pl,q2⟩=>thn (hu U s2 Z H2 _ I2 q2) λvu s3⟨u,H3,I3,pu,q3⟩=>?_);rw[evalPart_none];refine WW ?_;have I4:Inv X U Z H3 {s3 with heap:=s3.1.push {cls:=.type "slice",data:=.fields #[vl,vu,.none]}}:=I3.kept (t':=s3.toks) λb ob q=>WU _ q;obtain⟨T,id,hT,ht,hg⟩:=hr U {s3 with heap:=s3.1.push {cls:=.type "slice",data:=.fields #[vl,vu,.none]}} Z H3 x v vl vu l u s3.1.1.size Q I4 r1 (Heap.IsSliceOf.new ..) pl pu q3;show W7 (Xw X.prog X.w) X.A (subscriptTail e (.Slice lo hi B? p2) v (.ref s3.1.1.size)) (EP X U Z Q) X.xe {s3 with heap:=s3.1.push {cls:=.type "slice",data:=.fields #[vl,vu,.none]}};exact tail_any (ops:=[.ref s3.1.1.size,v]) ht hT hg (by with_unfolding_all rfl)
def jO(xs:List V)(lo hi:Option Int):List V:=(xs.drop (I! xs.length 0 lo)).take (I! xs.length xs.length hi - I! xs.length 0 lo)
theorem pX(xs:List V)(lo hi:Option Int):(jO xs lo hi).length<=xs.length:=by
 unfold jO;rw[XF,Z5];lia
inductive y9(K:WO)(x:V)(lo:Option Int)(hi:Option Int)(H:Hp)(Q:VK):Prop
 |mk (a:_) (xs:_) (CI:x=.ref a) (CJ:SqT K H a xs) (Eh:¬(I! xs.length 0 lo=0/\I! xs.length xs.length hi=xs.length)) (Fh:∀p,H p=B?->Q (.ref p) (upd H p (.tup (jO xs lo hi)))):y9 K x lo hi H Q
def aby(K:WO):V->Option Int->Option Int->Hp->VK->Prop:=y9 K
theorem fR:SlR X (aby X.K):=by
 intro U s Z H x v vl vu lo hi sl Q I rx hs pl pu h;obtain⟨a,xs,rfl,hx,hw,q⟩:=h;cases rx;obtain⟨its,r,ht,hz⟩:=I.tuple hx;have hlen:its.toArray.size=xs.length:=by rw[W3];exact r.length.symm
 refine⟨"tuple",_,XR.lookup,ht.typeIs,?_⟩;refine HT.getItem_tuple_cut ht hs pl pu (by rw[hlen];exact hw) ?_ (by rw[hlen];exact hz);rw[hlen];refine⟨.ref s.1.1.size,_,I.laid (t':=s.toks) (o:=.tup (jO xs lo hi)) (λb ob q=>WU _ q) (WV _) ?_,D?,q _ (I.hok.fresh (WV _))⟩;exact⟨Xs (pX xs lo hi) hz,_,0,(r.drop (I! xs.length 0 lo)).take (I! xs.length xs.length hi - I! xs.length 0 lo),W4 _ rfl⟩
def aaY(K:WO):R2:=λx y H Q=>∃a b xs ys,x=.ref a/\y=.ref b/\SqT K H a xs/\SqT K H b ys/\xs≠[]/\xs.length+ys.length<=Xf /\
 (ys=[]->Q (.ref a) H)/\(ys≠[]->∀p,H p=B?->Q (.ref p) (upd H p (.tup (xs++ys))))
theorem Vals.nil_iff(r:Vals xs us):us=[]↔xs=[]:=by
 cases r with
 |nil=>simp
 |cons _ _=>simp
theorem xH:OpR X (binaryOp .Add) (aaY X.K):=by
 intro U s Z H x y v u Q I rx ry h;obtain⟨a,b,xs,ys,rfl,rfl,ha,hb,hx,hz,q1,q2⟩:=h;cases rx;cases ry;obtain⟨its,r1,p1,_⟩:=I.tuple ha;obtain⟨Am,r2,p2,_⟩:=I.tuple hb;refine HT.cat_tup p1 p2 (λz=>hx (r1.nil_iff.mp z)) (λz=>⟨.ref a,H,I,rfl,q1 (r2.nil_iff.mp z)⟩) (λz=>?_) (by rw[<-r1.length,<-r2.length];exact hz);refine⟨.ref s.1.1.size,_,I.laid (t':=s.toks) (o:=.tup (xs++ys)) (λb ob q=>WU _ q) (WV _) ?_,D?,q2 (λw=>z (r2.nil_iff.mpr w)) _ (I.hok.fresh (WV _))⟩;exact⟨by rw[Xd];exact hz,_,0,r1.append r2,W4 _ rfl⟩
end
def ixN(n:Nat)(i:Int):Option Nat:=if 0<=i then(if i<n then A? i.toNat else B?)else if -(n:Int)<=i then A? (i+n).toNat else B?
def atI{α:Type}(xs:List α)(i:Int):Option α:=(ixN xs.length i).bind λj=>xs[j]?
theorem pz{i:Int}(h:ixN n i=A? j):seqIndex? i n=A? j/\j<n/\-(n:Int)<=i/\i<n:=by
 unfold ixN at h;by_cases h0:0<=i
 .rw[b! h0]at h;by_cases h1:i<n
  .rw[b! h1]at h;have e:i.toNat=j:=Xn h;exact⟨by rw[seqIndex_of h0 h1,e],by lia,by lia,h1⟩
  .rw[a! h1]at h;cases h
 .rw[a! h0]at h;by_cases h1:-(n:Int)<=i
  .rw[b! h1]at h;have e:(i+n).toNat=j:=Xn h;exact⟨by rw[seqIndex_neg (by lia) h1,e],by lia,h1,by lia⟩
  .rw[a! h1]at h;cases h
theorem oB{xs:List α}{i:Int}{v:α}(h:atI xs i=A? v):∃j,seqIndex? i xs.length=A? j/\xs[j]?=A? v/\j<xs.length/\-(xs.length:Int)<=i/\i<xs.length:=by
 unfold atI at h;cases e:ixN xs.length i with
 |none=>rw[e]at h;cases h
 | some j =>
   rw[e]at h;obtain⟨h1,h2,h3,h4⟩:=pz e;exact⟨j,h1,h,h2,h3,h4⟩
theorem cP{xs:List α}{v:α}(h:xs[j]?=A? v):atI xs (j:Int)=A? v:=by
 have hj:j<xs.length:=(glE h)
 have e:ixN xs.length (j:Int)=A? j:=by
  unfold ixN;rw[b! (by lia),b! (by lia)];simp
 unfold atI;rw[e];exact h
def t6(b:X9):Prop:=∀o i,subscripted b Cf o i=operate [o,i] (getItem o i)
def IxR(X:Cx)(r:R2):Prop :=
 ∀(value slice:X9)(U:List (WQ×Zb))(s:WX)(Z:St)(H:Hp)(x y:V)(v u:WT)(Q:VK),Inv X U Z H s->RelV x v->RelV y u->r x y H Q ->
   subscripted slice Cf v u=operate [v,u] (getItem v u)->W7 (Xw X.prog X.w) X.A (subscriptTail value slice v u) (EP X U Z Q) X.xe s
def MtR(X:Cx)(id:String)(r:V->List V->Hp->VK->Prop):Prop :=
 ∀(U:List (WQ×Zb))(s:WX)(Z:St)(H:Hp)(x:V)(xs:List V)(v:WT)(us:List WT)(Q:VK),Inv X U Z H s->RelV x v->Vals xs us->r x xs H Q ->
   W7 (Xw X.prog X.w) X.A (call (.builtin id) (v::us)) (EP X U Z Q) X.xe s
section
variable{X:Cx}{a b:X9}{ta tb:TE}
theorem aC{r:R2}(hr:IxR X r)(ha:PE X a ta)(hb:PE X b tb)(hs:t6 b):PE X (.Subscript a b pos) (tOp r ta tb):=by
 intro U s Z H Q I h;exact Subscript_ (zq ha hb I h λv u s2 x y H2 I2 rx ry q=>hr a b U s2 Z H2 x y v u Q I2 rx ry q (hs _ _))
inductive yP(K:WO)(x:V)(y:V)(H:Hp)(Q:VK):Prop
 |mk (p:_) (xs:_) (i:_) (v:_) (CI:x=.ref p) (CJ:y=.int i) (Eh:SqL K H p xs) (Fh:atI xs i=A? v) (Hr:Q v H):yP K x y H Q
def uI(K:WO):R2:=yP K
inductive yR(K:WO)(x:V)(y:V)(H:Hp)(Q:VK):Prop
 |mk (p:_) (xs:_) (i:_) (v:_) (CI:x=.ref p) (CJ:y=.int i) (Eh:SqT K H p xs) (Fh:atI xs i=A? v) (Hr:Q v H):yR K x y H Q
def vC(K:WO):R2:=yR K
inductive zj(x:V)(y:V)(H:Hp)(Q:VK):Prop
 |mk (z:_) (i:_) (c:_) (CI:x=.str z) (CJ:y=.int i) (Eh:z.length<=Xf) (Fh:atI z.cps.toList i=A? c) (Hr:Q (.str ⟨#[c]⟩) H):zj  x y H Q
def abz:R2:=zj
theorem bj:IxR X (uI X.K):=by
 intro value slice U s Z H x y v u Q I rx ry h hs;obtain⟨p,xs,i,z,rfl,rfl,hq,he,q⟩:=h;cases rx;obtain⟨t,rfl⟩:=ry;obtain⟨its,r,pl,hz⟩:=I.list hq;obtain⟨j,h1,h2,h3,h4,h5⟩:=oB he;obtain⟨w,ew,Cj⟩:=r.get h2;have hl:=r.length;have hn:=gb;have fin:EP X U Z Q w s:=⟨z,H,I,Cj,q⟩;by_cases h0:0<=i
 .have hj:i.toNat=j:=by
   rw[seqIndex_of h0 h5]at h1;exact Xn h1
  exact item_listR pl.isList h0 (by lia) (by rw[hj];simpa using ew) fin hs
 .have hj:(i+(its.toArray.size:Int)).toNat=j:=by
   rw[seqIndex_neg (by lia) h4]at h1;rw[W3,<-hl];exact Xn h1
  exact subscriptTail_builtinR (x:=w) pl.isList.typeIs slot_list_getitem.lookup
   (wpAny_getItem_list_neg (Q:=λr s'=>r=w/\EP X U Z Q r s') pl.isList (by lia) (by rw[W3] <;> lia) (by lia) (by rw[hj];simpa using ew) ⟨rfl,fin⟩) hs
theorem aF:IxR X (vC X.K):=by
 intro value slice U s Z H x y v u Q I rx ry h hs;obtain⟨p,xs,i,z,rfl,rfl,hq,he,q⟩:=h;cases rx;obtain⟨t,rfl⟩:=ry;obtain⟨its,r,pl,hz⟩:=I.tuple hq;obtain⟨j,h1,h2,h3,h4,h5⟩:=oB he;obtain⟨w,ew,Cj⟩:=r.get h2;have hl:=r.length;have hn:=gb;have fin:EP X U Z Q w s:=⟨z,H,I,Cj,q⟩
 exact subscriptTail_builtinR (x:=w) pl.typeIs slot_tuple_getitem.lookup
  (getItem_tuple (j:=j) (Q:=λr s'=>r=w/\EP X U Z Q r s') pl (by lia) (by lia) (by rw[W3,<-hl];exact h1) (by simpa using ew) ⟨rfl,fin⟩) hs
theorem zL:IxR X abz:=by
 intro value slice U s Z H x y v u Q I rx ry h hs;obtain⟨z,i,c,rfl,rfl,hz,he,q⟩:=h;obtain⟨t,rfl⟩:=rx;obtain⟨t',rfl⟩:=ry;obtain⟨j,h1,h2,h3,h4,h5⟩:=oB he;have hl:z.cps.toList.length=z.length:=by simp[Str.length]
 rw[hl]at h1 h4 h5;have hn:=gb
 exact tail_any (typeIs_str s z t) slot_str_getitem.lookup (getItem_str (c:=c) (by
  have e1:decide (i < -(2 ^ 63:Int))=false:=c! (by lia);have e2:decide (i >= 2 ^ 63)=false:=c! (by lia);rw[e1,e2,Bool.or_false]) (by rw[h1];simpa using h2) ⟨.str ⟨#[c]⟩,H,I.tok _,⟨_,rfl⟩,q⟩) hs
theorem rF(its:List WT)(n j:Nat)(u:WT):Yj (·.setIfInBounds j u) {cls:=.type "list",data:=.seq its.toArray n}={cls:=.type "list",data:=.seq (its.set j u).toArray n}:=by
 simp[Yj]
theorem Inv.lst(I:Inv X U Z H s)(h:H p=A? (.lst xs)) :
 ∃(its:List WT)(n:Nat),Vals xs its/\s.1.get? p=A? {cls:=.type "list",data:=.seq its.toArray n}/\xs.length<=Xf:=by
 obtain⟨z,its,n,r,e⟩:=I.hok p _ h;exact⟨its,n,r,e,z⟩
theorem Inv.lstUpd{ys:List V}{its':List WT}{n':Nat}{f:Zb->Zb}(I:Inv X U Z H s)(h:H p=A? (.lst xs))
 (ho:s.1.get? p=A? {cls:=.type "list",data:=.seq its.toArray n}) (hf:f {cls:=.type "list",data:=.seq its.toArray n}={cls:=.type "list",data:=.seq its'.toArray n'}) (r:Vals ys its') (hz:ys.length<=Xf) (t:Nat) :
 Inv X U Z (upd H p (.lst ys)) {s with heap:=s.1.update p f,toks:=t}:=by
 have e:(s.1.update p f).get? p=A? {cls:=.type "list",data:=.seq its'.toArray n'}:=by
  rw[XQ f ho (by rw[hf] <;> rfl),hf]
 refine I.write (x:=p) (e:=p) (by rw[h];trivial) (.inl rfl) (λb u hb q=>(XW _ _ (YQ hb)).trans q) ⟨_,e⟩ ?_;exact⟨hz,its',n',r,e⟩
def aa5:V->V->V->Hp->(Hp->Prop)->Prop:=λo i v H Q=>∃p xs k j,o=.ref p/\i=.int k/\H p=A? (.lst xs)/\ixN xs.length k=A? j/\Q (upd H p (.lst (xs.set j v)))
theorem set_list:aat X aa5:=by
 intro U s Z H o i v ov iv u Q I ro ri rv h;obtain⟨p,xs,k,j,rfl,rfl,hp,hj,q⟩:=h;cases ro;obtain⟨t,rfl⟩:=ri;obtain⟨its,n,r,ho,hz⟩:=I.lst hp;obtain⟨h1,h2,h3,h4⟩:=pz hj;have hl:=r.length;have hn:=gb
 have I':Inv X U Z (upd H p (.lst (xs.set j v))) {s with heap:=s.1.update p (Yj (·.setIfInBounds j u))} :=
  I.lstUpd hp ho (rF its n j u) (r.set rv j) (by rw[List.length_set];exact hz) s.toks
 by_cases h0:0<=k
 .have hk:k.toNat=j:=by
   rw[seqIndex_of h0 h4]at h1;exact Xn h1
  exact PySem.W.ki_setAt ho h0 (by lia) (by rw[W3,<-hl];exact h4) (by rw[hk];exact⟨_,I',q⟩)
 .have hk:(k+(its.toArray.size:Int)).toNat=j:=by
   rw[seqIndex_neg (by lia) h3]at h1;rw[W3,<-hl];exact Xn h1
  exact PySem.W.ki_setBack ho (by lia) (by rw[W3,<-hl];exact h3) (by lia) (by rw[hk];exact⟨_,I',q⟩)
inductive yW(K:WO)(xs:List V)(H:Hp)(Q:VK):Prop
 |mk (p:WQ) (ys:List V) (CI:xs=[.ref p]) (CJ:SqL K H p ys\/SqT K H p ys) (Eh:Q (.int ys.length) H):yW K xs H Q
theorem aw:fH X (.builtin "len") (yW X.K):=by
 intro U s Z H xs us Q I r h;obtain⟨p,ys,rfl,hq,q⟩:=h;obtain⟨u,rfl,rx⟩:=vals1 r;cases rx;have hn:=gb;rcases hq with hq|hq
 .obtain⟨its,r',pl,hz⟩:=I.list hq;have hlen:=r'.length;exact Calls.call_len_list pl.isList (by simp only[W3] <;> lia) ⟨.int ys.length,H,I.tok _,⟨s.toks+1,by rw[W3,hlen]⟩,q⟩
 .obtain⟨its,r',pl,hz⟩:=I.tuple hq;have hlen:=r'.length;exact len_tuple pl (by simp only[W3] <;> lia) ⟨.int ys.length,H,I.tok _,⟨s.toks+1,by rw[W3,hlen]⟩,q⟩
theorem aP:fH X (.type "tuple") (λxs H Q=>∃p ys,xs=[.ref p]/\((SqL X.K H p ys/\∀l,H l=B?->Q (.ref l) (upd H l (.tup ys)))\/(SqT X.K H p ys/\Q (.ref p) H))):=by
 intro U s Z H xs us Q I r h;obtain⟨p,ys,rfl,h⟩:=h;obtain⟨u,rfl,rx⟩:=vals1 r;cases rx;rcases h with⟨hq,q⟩|⟨hq,q⟩
 .obtain⟨its,r',pl,hz⟩:=I.list hq;have hlen:=r'.length;refine call_tuple_list pl.isList (λh' kp=>?_) (by simp only[W3] <;> lia);have I1:Inv X U Z H {s with heap:=h'}:=I.kept (t':=s.toks) kp
  have I2:Inv X U Z (upd H h'.objs.size (.tup ys)) {s with heap:=h'.push {cls:=.type "tuple",data:=.seq its.toArray}} :=
   I1.laid (t':=s.toks) (λb o e=>WU _ e) (WV _) (show ObjOk X.prog X.w _ _ _ (.tup ys)from⟨hz,its,0,r',W4 _ rfl⟩)
  exact⟨.ref h'.objs.size,_,I2,D?,q _ (I1.hok.fresh (WV _))⟩
 .obtain⟨its,r',pl,hz⟩:=I.tuple hq;exact call_tuple_same pl ⟨.ref p,H,I,rfl,q⟩
def tyV(K:WO)(T:String)(x:V)(H:Hp):Prop:=match x with
 |.str _=>T="str"
 |.int _=>T="int"
 |.ref p=>(T="list"/\∃xs,SqL K H p xs)\/(T="tuple"/\∃o,K.lookup p=A? o/\o.cls=.type "tuple"/\o.dict=B?) \/
  (T="dict"/\((∃f',H p=A? (.dK f'))\/∃f',H p=A? (.dT f')))\/(T="set"/\∃S n,H p=A? (.set S n))
 |_=>False
theorem xw{T:String}{x:V}{v:WT}(I:Inv X U Z H s)(r:RelV x v)(ty:tyV X.K T x H) :
 s.TypeIs v T/\∀a,v=.ref a->∃ob,s.1.get? a=A? ob/\ob.dict=none:=by
 cases x with
 | str z =>
   obtain⟨t,rfl⟩:=r;cases(show T="str" from ty);exact⟨typeIs_str s z t,λ_ e=>nomatch e⟩
 | int i =>
   obtain⟨t,rfl⟩:=r;cases(show T="int" from ty);exact⟨typeIs_int s i t,λ_ e=>nomatch e⟩
 | ref p =>
   cases r;rcases ty with⟨rfl,xs,hq⟩|⟨rfl,o,hk,hc,hd⟩|⟨rfl,hk⟩|⟨rfl,S,n,hk⟩
   .obtain⟨its,_,pl,_⟩:=I.list hq;refine⟨pl.isList.typeIs,λa e=>?_⟩;cases e;obtain⟨o,n,e,c,hd,_⟩:=pl;exact⟨o,e,hd⟩
   .refine⟨⟨o,I.kIn p o hk,hc⟩,λa e=>?_⟩;cases e;exact⟨o,I.kIn _ o hk,hd⟩
   .have z:∃o,s.1.get? p=A? o/\o.ExactDict:=by
     rcases hk with⟨f',hk⟩|⟨f',hk⟩
     .obtain⟨_,_,_,_,o,_,_,e,ex,_⟩:=I.hok p _ hk;exact⟨o,e,ex⟩
     .obtain⟨_,_,_,_,o,_,_,e,ex,_⟩:=I.hok p _ hk;exact⟨o,e,ex⟩
    obtain⟨o,e,ex⟩:=z;refine⟨⟨o,e,ex.1⟩,λa e2=>?_⟩;cases e2;exact⟨o,e,ex.2.1⟩
   .obtain⟨o,_,_,_,e,ex,_⟩:=I.hok p _ hk;refine⟨⟨o,e,ex.1⟩,λa e2=>?_⟩;cases e2;exact⟨o,e,ex.2.1⟩
 |_=>exact YE ty
def aaG(K:WO)(T:String)(r:V->List V->Hp->VK->Prop)(to:TE):TE:=λZ H Q=>to Z H λx H1=>tyV K T x H1/\r x [] H1 Q
def tBM(K:WO)(T:String)(r:V->List V->Hp->VK->Prop)(to:TE)(t:TA):TE:=λZ H Q=>to Z H λx H1=>tyV K T x H1/\t Z H1 λxs H2=>r x xs H2 Q
variable{o:X9}{to:TE}{t:TA}{name:Xp}{apos Ar:Z2}{T id:String}{r:V->List V->Hp->VK->Prop}
theorem jz(pa:PlainAttrs T)(slot:Slot T name id)(JV:typeOf (.builtin id)=pure (.type "method_descriptor"))(hm:MtR X id r)(ho:PE X o to)
 (BN:attributeBase o name X.env (Y2 o X.env)=Y2 o X.env:=by rfl) (CL:(apos.endLine == Ar.line)=true:=by rfl):PE X (.Call (.Attribute o name apos) [] [] Ar) (aaG X.K T r to):=by
 intro U s Z H Q I h;refine wpAny_Call_method0_late BN CL (thn (ho U s Z H _ I h) λv s1⟨x,H1,I1,r1,ty,q1⟩=>?_);obtain⟨h1,h2⟩:=xw I1 r1 ty;exact⟨T,id,pa,slot,JV,h1,h2,Calls.callWith_builtin rfl (PySem.evalArgs_none (hm U s1 Z H1 x [] v [] Q I1 r1 .nil q1))⟩
theorem bT(pa:PlainAttrs T)(slot:Slot T name id)(JV:typeOf (.builtin id)=pure (.type "method_descriptor"))(hm:MtR X id r)(ho:PE X o to)(ha:PA X (e::es) t)
 (BN:attributeBase o name X.env (Y2 o X.env)=Y2 o X.env:=by rfl)
 (Ht:((Z0 Ar (XG (e::es) X.env)).all (λx=>!x.1) && (backToKw Ar (keywordEach [] X.env)).all (λx=>x.1.isSome)
  && decide ((e::es).length+([]:List Keyword).length+(if([]:List Keyword).isEmpty then 0 else 1)<30))=true:=by rfl)
 (CL:(apos.endLine == Ar.line)=true:=by rfl) (hs:XG (e::es) X.env=(Cf,Y2 e X.env)::XG es X.env:=by rfl) (BO:(Z0 Ar (XG es X.env)).any (·.1)=false:=by rfl) :
 PE X (.Call (.Attribute o name apos) (e::es) [] Ar) (tBM X.K T r to t):=by
 intro U s Z H Q I h;refine wpAny_Call_method_late BN Ht CL rfl (thn (ho U s Z H _ I h) λv s1⟨x,H1,I1,r1,ty,q1⟩=>?_);obtain⟨h1,h2⟩:=xw I1 r1 ty;refine⟨T,id,pa,slot,JV,h1,h2,?_⟩;have hA:=ha Ar U s1 Z H1 _ I1 q1;rw[hs]at hA |-;refine Calls.callWith_builtin (by show(Cf ||(Z0 Ar (XG es X.env)).any (·.1))=Cf;rw[BO] <;> rfl) (Calls.evalArgs_plain ?_);exact thn hA λus s2⟨vs,H2,I2,r2,q2⟩=>hm U s2 Z H2 x vs v us Q I2 r1 r2 q2
end
def MtM(X:Cx)(id:String)(r:V->List V->Hp->VK->Prop):Prop :=
 ∀(U:List (WQ×Zb))(s:WX)(Z:St)(H:Hp)(x:V)(xs:List V)(v:WT)(us:List WT)(Q:VK),Inv X U Z H s->RelV x v->Vals xs us->r x xs H Q ->
   W7 (Xw X.prog X.w) X.A (call (.builtin id) (v::us)) (EP X U Z Q) X.xe s
theorem Vals.one:∀{x:V}{us:List WT},Vals [x] us->∃u,us=[u]/\RelV x u
 |_,_,.cons r .nil=>⟨_,rfl,r⟩
theorem Vals.zero:∀{us:List WT},Vals [] us->us=[]
 |_,.nil=>rfl
theorem Vals.dropLast(h:Vals xs us):Vals xs.dropLast us.dropLast:=by
 induction h with
 |nil=>exact .nil
 | cons r t ih =>
   cases t with
   |nil=>exact .nil
   |cons q t'=>exact .cons r ih
theorem Vals.eraseIdx:∀{xs:List V}{us:List WT}(i:Nat),Vals xs us->Vals (xs.eraseIdx i) (us.eraseIdx i)
 |_,_,_,.nil=>.nil
 |_,_,0,.cons _ t=>t
 |_,_,i+1,.cons r t=>.cons r (Vals.eraseIdx i t)
theorem Vals.reverse(h:Vals xs us):Vals xs.reverse us.reverse:=by
 induction h with
 |nil=>exact .nil
 |cons r t ih=>rw[Yb,Yb];exact Vals.append ih (.cons r .nil)
theorem sI(l:List α):l.eraseIdx (l.length - 1)=l.dropLast:=by
 induction l with
 |nil=>rfl
 | cons a r ih =>
   cases r with
   |nil=>rfl
   | cons b r =>
     have e:(a::b::r).length - 1=((b::r).length - 1)+1:=by
      have h1:(a::b::r).length=r.length+2:=rfl;have h2:(b::r).length=r.length+1:=rfl;lia
     rw[e,List.eraseIdx_cons_succ,ih]
     all_goals rfl
theorem mV:∀(l:List α)(i:Nat),(l.eraseIdx i).length<=l.length
 | [],_=>WV _
 |_::_,0=>Nat.le_succ _
 |_::r,i+1=>Nat.succ_le_succ (mV r i)
section
variable{X:Cx}{l:WQ}{ys zs:List V}
theorem Inv.lset{its':List WT}{f:Array WT->Array WT}(I:Inv X U Z H s)(hH:H l=A? (.lst xs))
 (e:s.1.get? l=A? {cls:=.type "list",data:=.seq its.toArray n}) (hf:f its.toArray=its'.toArray) (hv:Vals ys its') (hz:ys.length<=Xf) :
 Inv X U Z (upd H l (.lst ys)) {s with heap:=s.1.update l (Yj f),toks:=t'}:=by
 have q:=PySem.IsL.update e f;rw[hf]at q;refine I.write (x:=l) (e:=l) (by rw[hH];exact trivial) (.inl rfl) (λb' u hb hu=>(XW s.1 (Yj f) (YQ hb)).trans hu) ⟨_,q⟩ ?_;exact⟨hz,its',_,hv,q⟩
theorem Inv.lnew(I:Inv X U Z H s)(hv:Vals ys its)(hz:ys.length<=Xf) :
 Inv X U Z (upd H s.1.1.size (.lst ys)) {s with heap:=s.1.push {cls:=.type "list",data:=.seq its.toArray},toks:=t'} :=
 I.laid (λ_ _ q=>WU _ q) (WV _) ⟨hz,its,0,hv,W4 _ rfl⟩
theorem Inv.fresh(I:Inv X U Z H s):H s.1.1.size=none:=I.hok.fresh (WV _)
theorem Inv.lstM(I:Inv X U Z H s)(hH:H l=A? (.lst xs)):xs.length<=Xf/\∃(its:List WT)(n:Nat),Vals xs its/\xs.length=its.length/\s.1.get? l=A? {cls:=.type "list",data:=.seq its.toArray n}:=by
 obtain⟨z,its,n,r,e⟩:=I.hok l _ hH;exact⟨z,its,n,r,r.length,e⟩
theorem lT(h:n<=Xf):Zq n=false:=by
 unfold Zq;exact c! (by lia)
end
section
variable{X:Cx}
inductive pQ(x:V)(vs:List V)(H:Hp)(Q:VK):Prop
 |mk (l:_) (xs:_) (y:_) (CI:x=.ref l) (CJ:vs=[y]) (Eh:H l=A? (.lst xs)) (Fh:xs.length<Xf) (Hr:Q .non (upd H l (.lst (xs++[y])))):pQ  x vs H Q
def ue:V->List V->Hp->VK->Prop:=pQ
theorem aQ:MtM X "list.append" ue:=by
 intro U s Z H x vs v us Q I rx rv h;obtain⟨l,xs,y,rfl,rfl,hH,hz,q⟩:=h;cases rx;obtain⟨u,rfl,ru⟩:=rv.one;obtain⟨z,its,n,r,hl,e⟩:=I.lstM hH;refine call_meets F.slot_list_append ⟨_,e,rfl⟩ F.entry_list_append (F.args_list_append_2 _ _) (PySem.list_append l its.toArray n u (by rw[W3];lia)) ⟨e,?_⟩;refine⟨.non,_,I.lset (its':=its++[u]) hH e (by simp) (r.append (.cons ru .nil)) ?_,D?,q⟩;rw[Xd,List.length_singleton];lia
inductive rB(x:V)(vs:List V)(H:Hp)(Q:VK):Prop
 |mk (l:_) (b:_) (xs:_) (zs:_) (CI:x=.ref l) (CJ:vs=[.ref b]) (Eh:H l=A? (.lst xs)) (Fh:H b=A? (.lst zs)) (Hr:xs.length+zs.length<=Xf) (Ru:Q .non (upd H l (.lst (xs++zs)))):rB  x vs H Q
def yg:V->List V->Hp->VK->Prop:=rB
theorem gS:MtM X "list.extend" yg:=by
 intro U s Z H x vs v us Q I rx rv h;obtain⟨l,b,xs,zs,rfl,rfl,hH,hB,hz,q⟩:=h;cases rx;obtain⟨u,rfl,ru⟩:=rv.one;cases ru;obtain⟨z,its,n,r,hl,e⟩:=I.lstM hH;obtain⟨z2,Am,n2,r2,Bz,e2⟩:=I.lstM hB;have hsz:its.toArray.size+Am.toArray.size<=Xf:=by rw[W3,W3];lia
 have Et:¬(!its.toArray.isEmpty && Zq (its.toArray.size+Am.toArray.size))=true:=by
  rw[lT hsz,Bool.and_false];exact W6
 refine call_meets F.slot_list_extend ⟨_,e,rfl⟩ F.entry_list_extend (F.args_list_extend_2 _ _)
  (AutoSeq1.list_extend_list_list_0 l its.toArray n b Am.toArray n2 Et (by rw[W3];lia) (by lia)) ⟨e,e2,?_⟩
 refine⟨.non,_,I.lset (its':=its++Am) hH e (by simp) (r.append r2) ?_,D?,q⟩;rw[Xd];lia
inductive zb(x:V)(vs:List V)(H:Hp)(Q:VK):Prop
 |mk (l:_) (xs:_) (y:_) (CI:x=.ref l) (CJ:vs=[]) (Eh:H l=A? (.lst xs)) (Fh:xs[xs.length - 1]?=A? y) (Hr:Q y (upd H l (.lst xs.dropLast))):zb  x vs H Q
def aaS:V->List V->Hp->VK->Prop:=zb
theorem jt:MtM X "list.pop" aaS:=by
 intro U s Z H x vs v us Q I rx rv h;obtain⟨l,xs,y,rfl,rfl,hH,hy,q⟩:=h;cases rx;have Fj:=rv.zero;subst Fj;obtain⟨z,its,n,r,hl,e⟩:=I.lstM hH;obtain⟨u,hu,ru⟩:=r.get hy
 have Eu:its.toArray[its.toArray.size - 1]?=A? u:=by
  show its.toArray[its.length - 1]?=A? u;rw[<-Array.getElem?_toList,<-hl];exact hu
 refine call_meets F.slot_list_pop ⟨_,e,rfl⟩ F.entry_list_pop (F.args_list_pop_1 _) (MeetsSeq.list_pop_last l its.toArray n u Eu (by rw[W3];lia)) ⟨e,?_⟩;refine⟨y,_,I.lset (its':=its.dropLast) hH e ?_ r.dropLast ?_,ru,q⟩
 .show its.toArray.eraseIdxIfInBounds (its.toArray.size - 1)=its.dropLast.toArray;rw[W3,List.eraseIdxIfInBounds_toArray,sI]
 .rw[List.length_dropLast];lia
def zZ:V->List V->Hp->VK->Prop:=λx vs H Q=>∃l xs i k y,x=.ref l/\vs=[.int i]/\H l=A? (.lst xs)/\-(2 ^ 63)<=i/\i<2 ^ 63/\seqIndex? i xs.length=A? k/\xs[k]?=A? y/\Q y (upd H l (.lst (xs.eraseIdx k)))
theorem xu:MtM X "list.pop" zZ:=by
 intro U s Z H x vs v us Q I rx rv h;obtain⟨l,xs,i,k,y,rfl,rfl,hH,h1,h2,hk,hy,q⟩:=h;cases rx;obtain⟨u,rfl,ru⟩:=rv.one;obtain⟨t,rfl⟩:=ru;obtain⟨z,its,n,r,hl,e⟩:=I.lstM hH;obtain⟨w,hw,Cj⟩:=r.get hy
 refine call_meets F.slot_list_pop ⟨_,e,rfl⟩ F.entry_list_pop (F.args_list_pop_2 _ _)
  (MeetsSeq.list_pop_at l its.toArray n i t k w (fitsIndex_both h1 h2) (by rw[W3,<-hl];exact hk) (by rw[<-Array.getElem?_toList];exact hw) (by rw[W3];lia)) ⟨e,?_⟩
 refine⟨y,_,I.lset (its':=its.eraseIdx k) hH e ?_ (r.eraseIdx k) ?_,Cj,q⟩
 .show its.toArray.eraseIdxIfInBounds k=(its.eraseIdx k).toArray;rw[List.eraseIdxIfInBounds_toArray]
 .have:=mV xs k;lia
inductive zd(x:V)(y:V)(H:Hp)(Q:VK):Prop
 |mk (l:_) (b:_) (xs:_) (zs:_) (CI:x=.ref l) (CJ:y=.ref b) (Eh:H l=A? (.lst xs)) (Fh:H b=A? (.lst zs)) (Hr:xs.length+zs.length<=Xf) (Ru:∀p,H p=B?->Q (.ref p) (upd H p (.lst (xs++zs)))):zd  x y H Q
def abc:R2:=zd
theorem rE:OpR X (binaryOp .Add) abc:=by
 intro U s Z H x y v u Q I rx ry h;obtain⟨l,b,xs,zs,rfl,rfl,hH,hB,hz,q⟩:=h;cases rx;cases ry;obtain⟨z,its,n,r,hl,e⟩:=I.lstM hH;obtain⟨z2,Am,n2,r2,Bz,e2⟩:=I.lstM hB;refine PySem.P.add_list e e2 ?_ (by rw[W3,W3];lia);have ea:its.toArray++Am.toArray=(its++Am).toArray:=by simp
 rw[ea];exact⟨.ref _,_,I.lnew (t':=s.toks) (r.append r2) (by rw[Xd];lia),D?,q _ I.fresh⟩
end
section
variable{X:Cx}
end
end L2
namespace Att
open PySem PySem.W PySem.Calls PyProof.Rows
theorem ints_of_wellAll{P:Params}:∀(ns:List Int)(vs:List WT),WellAll P h vs (ns.map WData.int)->IntsAre vs ns:=by
 intro ns;induction ns with
 | nil =>
   intro vs w;rw[Y0]at w;cases w;exact .nil
 | cons n ns ih =>
   intro vs w;rw[XB]at w;cases w with
   | cons a b =>
     cases a;exact .cons _ _ (ih _ b)
theorem script_of{l:OpenLaw}(hn:l.most=A? n){P:Params}{args:List WData}{vals:List WT}
 (BA:l.row.toRowW.claim.pre args=C?) (Ew:WellAll P h vals args) :
 ∃a vs ns,vals=[Xl a]/\args=[WData.list (ns.map WData.int)]/\h.get? a=A? {cls:=.type "list",data:=.seq vs.toArray}/\IntsAre vs ns/\ns.length<=n:=by
 have T8:WShape.hasAll [] args [.list .int]=true:=(pre_splitW BA).1;have hc:l.pre.holds [] {args:=args}=true:=(pre_splitW BA).2;obtain⟨d,r,rfl,h1,h2⟩:=hasAllW_cons T8;obtain rfl:=hasAllW_nil h2;obtain⟨xs,rfl,h3⟩:=hasW_list h1;obtain⟨ns,rfl⟩:=items_int h3
 have hlen:ns.length<=n:=by
  unfold OpenLaw.pre at hc
  have h4:(WTm.not (.lt (.lit (.int (n:Int))) (.len (.arg 0)))).holds [] {args:=[.list (ns.map .int)]}=true:=by
   have h4:=(holds_andW hc).1;rw[hn]at h4;exact h4
  have h5:=condW_of h4 (w_not (w_lt w_lit (w_len_list (w_arg rfl))));rw[WM]at h5;refine Nat.le_of_not_lt λq=>?_;have q':(n:Int)<((ns.length:Nat):Int):=by lia
  first
   |(rw[d! q']at h5;exact g! h5 (by decide))
   |(simp at h5;lia)
 cases Ew with
 | cons w1 w2 =>
   cases w2;cases w1 with
   |list ho Aa=>exact⟨_,_,ns,D?,D?,ho,ints_of_wellAll ns _ Aa,hlen⟩
theorem post_true(l:OpenLaw)(args:List WData):l.row.toRowW.claim.post args (.bool C?) args=C? :=
 postW_of (r:=l.row.toRowW) (X:=(C? == C?))
  (show WShape.has [] (.bool C?) .bool=C? by first|rfl|decide|simp[WShape.has,WShape.arms,WShape.armsAll])
  (show(WTm.eq .res (.lit (.bool C?))).value [] {args:=args,res:=A? (.bool C?),after:=args}=A? (.bool (C? == C?))from w_eq_bool (w_res rfl) w_lit) rfl
theorem attach_call{l:OpenLaw}{q:W5}{d:DefRec}
 (hn:l.most=A? n) (JW:d.params.defaults=[])
 (call:∀(w:Xq)(s₀ Ac:WX)(mg mb:Xp->Option WT)(fa:WQ)(o:Zb)(pm cd doc:WT)(a:WQ)(vs:List WT)(ns:List Int),
  Ground q loose [] XP w s₀ mg mb Ac.heap->YP w Ac.heap ->
  Ac.heap.get? fa=A? o->o.data=.func (docDef d.name d.params d.body d.scope pm cd doc)->Ac.heap.CodeRec cd d.name->mg d.name=A? (.ref fa) ->
  Ac.heap.get? a=A? {cls:=.type "list",data:=.seq vs.toArray}->IntsAre vs ns->ns.length<=n->Ac.gens=#[] ->
  codeAny (Xw l.prog w) callerA (.call (.ref fa) ⟨[.ref a],[]⟩) (λr s'=>r=.ok (.ret (.bool C?))/\OldK Ac.heap s'.1/\s'.os=Ac.os/\AllBare s'.gens) Ac) :
 WalkO q loose XP YP l.row.toRowW d [] (λf vs=>PySem.call f vs):=by
 intro w s₀ Ac mg mb G Y fa o pm cd doc dV kV ho hd Cg hD NW hg args vals as BA T9 MN Ew hlo;obtain rfl:dV=.none:=Dflts.none hD JW;obtain rfl:kV=.none:=Dflts.noKw hD;obtain⟨a,vs,ns,rfl,rfl,Hu,hints,hlen⟩:=script_of hn BA Ew;refine enter_call (codeAny_mono (call w s₀ Ac mg mb fa o pm cd doc a vs ns G Y ho (fd_plain hd) Cg NW Hu hints hlen hg) λr s' hq=>?_);obtain⟨rfl,h2,h3,h4⟩:=hq;exact⟨.inl ⟨.bool C?,.bool C?,[],D?,λ_=>rfl,.bool C?,post_true l _,λ_=>⟨List.Pairwise.nil,λ_ hm=>(nomatch hm)⟩⟩,h2,h3,h4⟩
section
variable{K:Frag}
end
end Att
namespace L2
open PySem PySem.Spec PyProof.Rows
theorem mX:∀{vs:List WT}{ns:List Int},IntsAre vs ns->Vals (ns.map q!) vs
 |_,_,.nil=>.nil
 |_,_,.cons n t h=>.cons ⟨t,rfl⟩ (mX h)
def inClass(s:Stmt)(j:Nat):Stmt:=match s with
 |.ClassDef _ _ _ body _ _ _ _ _ _ _=>body.getD j (.Pass ⟨0,0,0,0⟩)
 |_=>.Pass ⟨0,0,0,0⟩
def cg(s:Stmt):Arguments:=match s with
 |.FunctionDef _ a _ _ _ _ _ _ _ _=>a
 |_=>{posonlyargs:=[],args:=[],vararg:=B?,kwonlyargs:=[],kw_defaults:=[],kwarg:=B?,defaults:=[]}
def bR(s:Stmt):List Stmt:=match s with
 |.FunctionDef _ _ b _ _ _ _ _ _ _=>b
 |_=>[]
def aO(s:Stmt):Z4:=match s with
 |.FunctionDef _ _ _ _ _ _ sc _ _ _=>sc
 |_=>{kind:=.function,names:=[],isGenerator:=Cf,isCoroutine:=Cf}
abbrev CX0:CXT:=λ_ _ _ _ _ _=>False
abbrev E0:XK:=λ_ _ _=>False
theorem eS{X:Cx}:Passes CX0 X E0:=λ_ _ _ _ _ _ _ h=>h.elim
structure Fun(K:WO)(x qual:Xp)(st:Stmt)(f:WQ)(fd:ZU):Prop where
 ex:∃(oc:WT)(od:Option WQ)(kV doc pm:WT)(an:Option WQ)(Ag ct:WT)(Fi:Array (Option WT)),
  fd=PySem.W.fnOf x qual (cg st) (bR st) (aO st) .none kV doc pm an Ag ct/\K.lookup f=A? ⟨oc,od,.func fd,Fi⟩/\PySem.W.codeIn K Ag qual=C?
 kp:PySem.W.keepIn K (.ref f)=C?
theorem Fun.ok{st:Stmt}{k:Nat}(F:Fun K x qual st f fd)(S:dX N ps (aO st))(len:∀vs H Q E,sp vs H Q E->vs.length=ps.length)
 (Bd:∀(Ag:WT)(A:XI)(outer:List Env)(s:WX)(H:Hp)(vs:List V)(Q:VK)(E:XK),Room k (A.deeper (envOfC qual (aO st) s.1.1.size f Ag))->sp vs H Q E ->
  ∃t,PSs (pU CX0 P w K mg base N qual (aO st) f Ag A outer s H E).nox (bR st) t/\t {nx:=λ_ H'=>Q .non H',rt:=Q} (start N vs) H):aT P w K mg base CX0 (k+1) f fd ps sp:=by
 obtain⟨oc,od,kV,doc,pm,an,Ag,ct,Fi,rfl,lk,Cg⟩:=F.ex;refine yY lk Cg S len λA outer s H vs Q E hr BZ=>?_;obtain⟨t,h,q⟩:=Bd Ag A outer s H vs Q E hr BZ;exact⟨t,h.nox,q⟩
theorem Fun.okA{st:Stmt}{k:Nat}(F:Fun K x qual st f fd)(S:dX N ps (aO st))
 (Bd:∀(Ag:WT)(A:XI)(outer:List Env)(s:WX)(H:Hp)(vs:List V)(Q:VK)(E:XK),Room k (A.deeper (envOfC qual (aO st) s.1.1.size f Ag))->sp vs H Q E ->
  ∃t,PSs (pU CX0 P w K mg base N qual (aO st) f Ag A outer s H E).nox (bR st) t/\t {nx:=λ_ H'=>Q .non H',rt:=Q} (start N vs) H) (len:∀vs H Q E,sp vs H Q E->vs.length=ps.length:=by intro _ _ _ _ h;cases h;subst_vars;rfl):aT P w K mg base CX0 (k+1) f fd ps sp:=F.ok S len Bd
theorem pgN{X:Cx}(i:Nat)(hN:X.N.Nodup)(hi:X.N[i]?=A? x:=by rfl)(hx:Loc X.env.scope x:=by first|exact .inl rfl|exact .inr rfl)(hf:X.fn x=C?\/X.env.scope.names.lookup x=A? .local:=by first|exact .inl rfl|exact .inr rfl|assumption):PG X (.Name x pos) (ak i):=yJ hN hi hx hf
theorem aj{X:Cx}(i:Nat)(hN:X.N.Nodup)(he:PE X e te)(hi:X.N[i]?=A? x:=by rfl)(hx:Loc X.env.scope x:=by first|exact .inl rfl|exact .inr rfl)(hs:swapsWith e (A? (.Name x pos')) pos.line X.env=pure false:=by rfl)(hf:X.fn x=C?\/X.env.scope.names.lookup x=A? .local:=by first|exact .inl rfl|exact .inr rfl|assumption):PS X (.Assign [.Name x pos'] e pos) (wT te (ak i)):=wN hN hi hx he hs hf
theorem Fun.binds{st:Stmt}(F:Fun K x qual st f fd)
 (h:∀(kV doc pm:WT)(an:Option WQ)(Ag ct:WT)(us:List WT),us.length=ps.length->bindArgs (PySem.W.fnOf x qual (cg st) (bR st) (aO st) .none kV doc pm an Ag ct) ⟨us,[]⟩=pure (ps.zip us)):Binds K fd ps []:=by
 obtain⟨oc,od,kV,doc,pm,an,Ag,ct,Fi,rfl,lk,Cg⟩:=F.ex;exact .all (h kV doc pm an Ag ct)
theorem lV{st:Stmt}{an:Option WQ}{Fi:Array (Option WT)}{kV doc pm Ag ct:WT}(l:K.lookup f=A? ⟨oc,od,.func (PySem.W.fnOf x qual (cg st) (bR st) (aO st) .none kV doc pm an Ag ct),Fi⟩)
 (c:PySem.W.codeIn K Ag qual=C?) (k:PySem.W.keepIn K (.ref f)=C?):Fun K x qual st f (PySem.W.fnOf x qual (cg st) (bR st) (aO st) .none kV doc pm an Ag ct):=⟨⟨oc,od,kV,doc,pm,an,Ag,ct,Fi,rfl,l,c⟩,k⟩
theorem gr{k:Nat}(hr:Room k A):A.units+1<YK:=Nat.lt_of_le_of_lt (Nat.add_le_add_left (by decide:1<=64) _) hr.units
section
variable{X:Cx}
theorem pv(i:Nat)(hN:X.N[i]?=A? x:=by rfl)(hv:Vis X.env.scope x:=by first|exact Or.inl rfl|exact Or.inr (Or.inl rfl)|exact Or.inr (Or.inr rfl))(hd:(x == ("__debug__":Xp))=false:=by decide)
 (Cg:(x == ("__classdict__":Xp))=false:=by decide):PE X (.Name x pos) (aR i):=wu hN hv hd Cg
end
theorem yv{A B:Prop}(h:B):if Cf=C? then A else B:=by
 rw[a! W6];exact h
theorem sg{A B:Prop}(h:A):if C?=C? then A else B:=by
 rw[b! rfl];exact h
theorem cy{c A B:Prop}[Decidable c](h1:c->A)(h2:¬c->B):if c then A else B:=by
 by_cases h:c
 .rw[b! h];exact h1 h
 .rw[a! h];exact h2 h
def Same(H H':Hp):Prop:=∀b o,H b=A? o->H' b=A? o
theorem Same.refl(H:Hp):Same H H:=λ_ _ h=>h
theorem Same.trans(a:Same H H1)(b:Same H1 H2):Same H H2:=λc o h=>b c o (a c o h)
theorem Same.free(e:Same H H'){l:WQ}(h:H' l=Option.none):H l=Option.none:=by
 cases q:H l with
 |none=>rfl
 | some o =>
   rw[e l o q]at h;cases h
theorem Same.seq(e:Same H H')(h:SqL K H a xs):SqL K H' a xs:=by
 rcases h with(h|⟨o,h⟩)|h
 .exact .inl (.inl (e _ _ h))
 .exact .inl (.inr ⟨o,e _ _ h⟩)
 .exact .inr h
theorem iC(env:Env):∀(ns:List (Xp×Zz))(acc:List (Xp×WQ)),(∀n,(n,Yz)∈ns->∃c,env.cells.lookup n=A? c) ->
 (∀x c,acc.lookup x=A? c->env.cells.lookup x=A? c) ->
 ∃cl,(forIn ns acc λ(x:Xp×Zz)(cs:List (Xp×WQ))=>(if(x.2 == Yz)=C? then(do let a <-cellOf env x.1;pure (ZO ((x.1,a)::cs)))else pure (ZO cs):Sem _))=pure cl /\
   (∀x c,cl.lookup x=A? c->env.cells.lookup x=A? c)/\(∀n,(n,Yz)∈ns->∃c,cl.lookup n=A? c)/\∀n c,acc.lookup n=A? c->cl.lookup n=A? c
 | [],acc,_,ha=>⟨acc,rfl,ha,λ_ h=>by simp at h,λ_ _ h=>h⟩
 | (n,k)::r,acc,hf,ha=>by
   by_cases hk:k=Yz
   .subst hk;obtain⟨c,hc⟩:=hf n Xh
    have DW:∀x c',((n,c)::acc).lookup x=A? c'->env.cells.lookup x=A? c':=λx c' e=>by
     rw[YI]at e;cases hx:x == n with
     | true =>
       rw[hx]at e;have e1:x=n:=by simpa using hx
       cases e;rw[e1];exact hc
     |false=>rw[hx]at e;exact ha x c' e
    obtain⟨cl,h1,h2,h3,h4⟩:=iC env r ((n,c)::acc) (λm hm=>hf m (Xe _ hm)) DW;have up:∀m c',((n,c)::acc).lookup m=A? c'->cl.lookup m=A? c':=h4;refine⟨cl,?_,h2,?_,?_⟩
    .rw[List.forIn_cons];have e0:cellOf env n=pure c:=by unfold cellOf;rw[hc]
     simp only[beq_self_eq_true,if_true,e0,pure_bind];exact h1
    .intro m hm;rcases W8.mp hm with e|e
     .have:m=n:=by simpa using(Prod.mk.inj e).1
      subst this;exact⟨c,up m c (by rw[YI];simp)⟩
     .exact h3 m e
    .intro m c' e;by_cases hm:m=n
     .subst hm;have:=ha m c' e;rw[hc]at this;cases this;exact up m c (by rw[YI];simp)
     .have Ua:(m == n)=false:=by simpa using hm
      exact up m c' (by rw[YI,Ua];exact e)
   .have hb:(k == Yz)=false:=by simpa using hk
    obtain⟨cl,h1,h2,h3,h4⟩:=iC env r acc (λm hm=>hf m (Xe _ hm)) ha;refine⟨cl,?_,h2,?_,h4⟩
    .rw[List.forIn_cons];simp only[hb,Ye,if_false,pure_bind];exact h1
    .intro m hm;rcases W8.mp hm with e|e
     .exact g! (Prod.mk.inj e).2.symm hk
     .exact h3 m e
theorem mj(hf:∀n,(n,Yz)∈sc.names->∃c,env.cells.lookup n=A? c) :
 ∃cl,closureFor sc env=pure cl/\(∀x c,cl.lookup x=A? c->env.cells.lookup x=A? c)/\∀n,(n,Yz)∈sc.names->∃c,cl.lookup n=A? c:=by
 obtain⟨cl,h1,h2,h3,_⟩:=iC env sc.names [] hf (λx c e=>by simp at e);refine⟨cl,?_,h2,h3⟩;unfold closureFor;have e:(forIn sc.names ([]:List (Xp×WQ)) λ(x:Xp×Zz)(cs:List (Xp×WQ))=>(do if(x.2 == Yz)=C? then(do let a <-cellOf env x.1;pure (ZO ((x.1,a)::cs)))else pure (ZO cs):Sem _))=pure cl:=h1
 first
  |(rw[show(forIn sc.names ([]:List (Xp×WQ)) _:Sem _)=pure cl from h1];rfl)
  |(simp only[h1,pure_bind])
theorem kW{f:Xp×Zz->Xp×Zz}(hf:∀p,(f p).1=p.1):∀{l:List (Xp×Zz)}{x:Xp}{k:Zz},l.lookup x=A? k->(l.map f).lookup x=A? (f (x,k)).2
 | [],_,_,h=>by simp at h
 | (n,k0)::r,x,k,h=>by
   have ih:=@kW f hf r x k;rw[XB];obtain⟨a,b,e⟩:∃a b,f (n,k0)=(a,b):=⟨_,_,rfl⟩;have ea:a=n:=by have:=hf (n,k0);rw[e]at this;exact this
   subst ea;rw[e,YI];cases hx:x == a with
   | true =>
     rw[YI,hx]at h;cases h;have:x=a:=by simpa using hx
     subst this;rw[e]
   |false=>rw[YI,hx]at h;exact ih h
theorem fE{f:Xp×Zz->Xp×Zz}(hf:∀p,(f p).1=p.1):∀{l:List (Xp×Zz)}{x:Xp}{k:Zz},(l.map f).lookup x=A? k->∃k0,(x,k0)∈l/\(f (x,k0)).2=k
 | [],_,_,h=>by simp at h
 | (n,k0)::r,x,k,h=>by
   have ih:=@fE f hf r x k;rw[XB]at h;obtain⟨a,b,e⟩:∃a b,f (n,k0)=(a,b):=⟨_,_,rfl⟩;have ea:a=n:=by have:=hf (n,k0);rw[e]at this;exact this
   subst ea;rw[e,YI]at h;cases hx:x == a with
   | true =>
     rw[hx]at h;cases h;have:x=a:=by simpa using hx
     subst this;exact⟨k0,Xh,by rw[e]⟩
   | false =>
     rw[hx]at h;obtain⟨k1,h1,h2⟩:=ih h;exact⟨k1,Xe _ h1,h2⟩
def rlb(env:Env)(p:Xp×Zz):Xp×Zz:=if(p.2 == Yz && env.scope.kind == .function && env.kindOf p.1 == A? .cell)then(p.1,NameKind.cell)else(p.1,p.2)
theorem oX(env:Env)(p:Xp×Zz):(rlb env p).1=p.1:=by unfold rlb;split <;> rfl
theorem ik(sc:Z4)(env:Env):(relabel sc env).names=sc.names.map (rlb env):=rfl
theorem i7(h:sc.names.lookup x=A? .free):(relabel sc env).names.lookup x=A? .cell\/(relabel sc env).names.lookup x=A? .free:=by
 rw[ik,kW (oX env) h];unfold rlb;split
 .exact .inl rfl
 .exact .inr rfl
theorem mq(hn:∀y∈sc.names,y.2≠NameKind.cell)(h:(relabel sc env).names.lookup x=A? .cell\/(relabel sc env).names.lookup x=A? .free):(x,Yz)∈sc.names:=by
 rw[ik]at h
 have:∃k0,(x,k0)∈sc.names/\((rlb env (x,k0)).2=.cell\/(rlb env (x,k0)).2=.free):=by
  rcases h with h|h
  .obtain⟨k0,a,b⟩:=fE (oX env) h;exact⟨k0,a,.inl b⟩
  .obtain⟨k0,a,b⟩:=fE (oX env) h;exact⟨k0,a,.inr b⟩
 obtain⟨k0,hm,hk⟩:=this;have nc:=hn _ hm;cases k0 with
 |free=>exact hm
 |cell=>exact g! rfl nc
 |_=>simp[rlb]at hk
def cf(X:Cx)(N:List Xp)(sc:Z4)(cl:List (Xp×WQ))(C:WQ)(s:WX)(H:Hp)(fp:List WQ)(U:List (WQ×Zb)):Cx :=
 {X with N:=N,s₀:=s,H₀:=H,env:=compEnvC sc cl C X.env,outer:=X.stack,ex:=fp,fn:=λ_=>Cf,pn:=X.pn++U,xe:=λ_ _=>False}
def cσ(js:List (Option Nat))(Z:St):St:=js.map λo=>o.bind λj=>(Z[j]?).join
structure fK(X:Cx)(sc:Z4)(N:List Xp)(js:List (Option Nat)):Prop where
 kind:sc.kind=.function
 nocell:∀y∈sc.names,y.2≠NameKind.cell
 names:∀y∈sc.names,y.2=NameKind.local->sc.names.lookup y.1=A? .local
 frees:∀y∈sc.names,y.2=Yz->X.env.kindOf y.1=A? .cell\/X.env.kindOf y.1=A? .free
 len:js.length=N.length
 slots:∀(i j:Nat)(x:Xp),js[i]?=A? (A? j)->N[i]?=A? x->X.N[j]?=A? x/\sc.names.lookup x=A? .free/\(X.env.kindOf x=A? .cell\/X.env.kindOf x=A? .free)
theorem bU{X:Cx}(k:sc.kind=.function)(nc:∀y∈sc.names,y.2≠NameKind.cell)(nm:∀y∈sc.names,y.2=NameKind.local->sc.names.lookup y.1=A? .local)
 (fr:(sc.names.all λy=>y.2 != Yz ||X.env.kindOf y.1 == A? NameKind.cell ||X.env.kindOf y.1 == A? Yz)=C?) (ln:js.length=N.length)
 (sl:((js.zip N).all λp=>match p.1 with|none=>C?|some j=>X.N[j]? == A? p.2 && sc.names.lookup p.2 == A? Yz && (X.env.kindOf p.2 == A? NameKind.cell ||X.env.kindOf p.2 == A? Yz))=C?):fK X sc N js:=by
 refine⟨k,nc,nm,λy hy hf=>?_,ln,λi j x e1 e2=>?_⟩
 .have h:=List.all_eq_true.mp fr y hy;rw[hf]at h;simpa using h
 .have hm:(A? j,x)∈js.zip N:=by
   have:(js.zip N)[i]?=A? (A? j,x):=by rw[Zd];exact⟨e1,e2⟩
   exact WS this
  have h:=List.all_eq_true.mp sl _ hm;simp at h;exact⟨h.1.1,h.1.2,h.2⟩
def PTs(X:Cx)(ifs:List X9)(t:TT):Prop :=
 ∀(U:List (WQ×Zb))(s:WX)(Z:St)(H:Hp)(Q:Bool->Hp->Prop),Inv X U Z H s->t Z H Q ->
   W7 (Xw X.prog X.w) X.A (forIn ifs C? λc r=>if r=C? then do let ok <-isTrue c X.env (Y2 c X.env);pure (ZO ok)else pure (ZO r)) (TP X U Z Q) X.xe s
def bi:TT:=λ_ H Q=>Q C? H
theorem bt{X:Cx}:PTs X [] bi:=λ_ _ _ H _ I h=>wpAny_tests_nil ⟨H,I,h⟩
theorem gR{X:Cx}{c:X9}{t:TT}(h:PT X c t):PTs X [c] t:=λU s Z H Q I q=>wpAny_tests_one (h U s Z H Q I q)
def Keep(Z Ab:St):Prop:=Z.length=Ab.length/\∀(i:Nat)(v:V),Z[i]?=A? (A? v)->Ab[i]?=A? (A? v)
def ow(js:List (Option Nat))(g:TG):Prop:=∀(Z B4:St)(x:V)(H:Hp)(Q:St->Hp->Prop),Keep (cσ js Z) B4->g x B4 H Q->g x B4 H λAx H2=>Keep (cσ js Z) Ax/\Q Ax H2
def pB(js:List (Option Nat))(g:TGs):Prop:=∀(Z B4:St)(x:List V)(H:Hp)(Q:St->Hp->Prop),Keep (cσ js Z) B4->g x B4 H Q->g x B4 H λAx H2=>Keep (cσ js Z) Ax/\Q Ax H2
theorem Keep.refl(Z:St):Keep Z Z:=⟨rfl,λ_ _ h=>h⟩
theorem yz(h:js[i]?=A? B?):(cσ js Z)[i]?=A? none:=by
 unfold cσ;rw[WY,h];rfl
theorem aH(h:js[i]?=A? B?):ow js (ak i):=λZ B4 x H Q k q=>by
 refine⟨⟨by rw[List.length_set];exact k.1,λj v e=>?_⟩,q⟩;by_cases hj:i=j
 .subst hj;rw[yz h]at e;cases e
 .rw[List.getElem?_set_ne hj];exact k.2 j v e
theorem gD:pB js mM:=λZ B4 x H Q k⟨e,q⟩=>⟨e,k,q⟩
theorem bW{t:TG}{u:TGs}(mono:∀x Z H(Q Q':St->Hp->Prop),(∀a b,Q a b->Q' a b)->t x Z H Q->t x Z H Q')(h1:ow js t)(h2:pB js u):pB js (dg t u):=λZ B4 x H Q k⟨v,r,e,q⟩ =>
 ⟨v,r,e,mono _ _ _ _ _ (λa b⟨k',q'⟩=>h2 Z a r b Q k' q') (h1 Z B4 v H _ k q)⟩
theorem bc:∀x Z H(Q Q':St->Hp->Prop),(∀a b,Q a b->Q' a b)->ak i x Z H Q->ak i x Z H Q':=λ_ _ _ _ _ h q=>h _ _ q
theorem gG{t:TGs}(h:pB js t):ow js (mQ K n t):=λZ B4 x H Q k⟨a,xs,e,hs,hl,q⟩=>⟨a,xs,e,hs,hl,h Z B4 xs H Q k q⟩
def g8(js:List (Option Nat))(g:TG)(tt:TT)(te:TE)(Z:St)(J:It)(D:WQ)(n:Nat)(W:Nat->Hp->Prop)(fin:Hp->Prop):Prop :=
 ∀i H,W i H->(J.stop i H/\fin H)\/(i<n/\J.go i H/\∀x H1,J.yld i H x H1->g x (cσ js Z) H1 λAx H2=>tt Ax H2 λb H3 =>
   if b=C? then te Ax H3 λv H4=>∃ys,H4 D=A? (.lst ys)/\ys.length<Xf/\W (i+1) (upd H4 D (.lst (ys++[v])))else W (i+1) H3)
def vx(js:List (Option Nat))(wi:TI)(g:TG)(tt:TT)(te:TE):TE:=λZ H Q=>wi Z H λJ H1=>∀D,H1 D=B? ->
 ∃(n:Nat)(W:Nat->Hp->Prop),W 0 (upd H1 D (.lst []))/\g8 js g tt te Z J D n W λH'=>Q (.ref D) H'
section
variable{X:Cx}
theorem vk{h1:Yh}(S:fK X sc N js)(I:Inv X U Z H s)
 (Bm:∀x c,cl.lookup x=A? c->X.env.cells.lookup x=A? c) (Ck:∀n,(n,Yz)∈sc.names->∃c,cl.lookup n=A? c)
 (hf:∀b∈fp,jn X U H b) (Ai:∀b∈fp,b<s.1.1.size) (CM:h1.Ns s.1.1.size λx=>ZT x ([]:List (Xp×WT)))
 (De:∀b o,s.1.get? b=A? o->h1.get? b=A? o) :
 Inv (cf X N sc cl s.1.1.size s H fp U) [] (cσ js Z) H {s with heap:=h1,toks:=t'}:=by
 have hok:(cf X N sc cl s.1.1.size s H fp U).Ok :=
  { mod:=I.ok.mod
    kind:=S.kind
    glob:=I.ok.glob
    blt:=I.ok.blt
    above:=WV _
    inj:=λx y c a b=>I.ok.inj x y c (Bm x c a) (Bm y c b)
    has:=λx h=>Ck x (mq S.nocell h)
    cab:=λx c h=>by cases h
    hd:=I.ok.hd
    frames:=I.ok.frames
    stk:=.inl rfl
    exf:=λb hb=>⟨λe=>g! (Ai b hb) (by rw[e];exact Ys _),λx c e z=>(hf b hb).2.2.2.2.1 x c (Bm x c e) z⟩
    bs:=I.bs
    bsz:=Xs I.ok.bsz I.sz
    noex:=λb o e hb=>by
     rcases(hf b hb).2.2.2.1 with h|h
     .exact I.ok.noex b o e h
     .exact g! (XN (XN (Xb e) I.ok.bsz) h) (Ys _)
    exfs:=λb hb hm=>by
     rcases W8.mp (I.stkSub b hm)with e|e
     .exact(hf b hb).2.1 e
     .exact(hf b hb).2.2.1 e
    funs:=I.stack
    frf:=I.stkFree }
 have hC:H s.1.1.size=none:=I.hok.fresh (WV _);obtain⟨m0,hn0,Fl⟩:=I.loc
 exact
  { ok:=hok
    os:=rfl
    bare:=I.bare
    base:=Un.kept De
    loc:=⟨_,CM,λi x v e1 e2 Rq=>by
     have CA:∃j,js[i]?=A? (A? j)/\Z[j]?=A? (A? v):=by
      unfold cσ at e2;rw[WY]at e2;cases q:js[i]? with
      |none=>rw[q]at e2;cases e2
      | some o =>
        rw[q]at e2;cases o with
        |none=>cases e2
        | some j =>
          refine⟨j,D?,?_⟩;have e3:(Z[j]?).join=A? v:=Xn e2;cases r:Z[j]? with
          |none=>rw[r]at e3;cases e3
          |some z=>rw[r]at e3;exact h! A? e3
     obtain⟨j,q1,q2⟩:=CA;obtain⟨n1,n2,n3⟩:=S.slots i j x q1 e1;obtain⟨u,ru,look⟩:=Fl j x v n1 q2 (by rcases n3 with z|z;exact .inr (.inl z);exact .inr (.inr z));refine⟨u,ru,.inr ⟨i7 n2,?_⟩⟩;have hm:(x,Yz)∈sc.names:=mq (env:=X.env) S.nocell (i7 n2);obtain⟨c,hc⟩:=Ck x hm;refine⟨c,hc,?_⟩;rcases look with⟨k1,_⟩|⟨_,c',AQ,ic⟩
     .rcases n3 with z|z <;> (rw[k1]at z;cases z)
     .have:=Bm x c hc;rw[AQ]at this;cases this;exact ic.keeps De⟩
    cell:=λx c e=>by
     obtain⟨v,q⟩:=I.cell x c (Bm x c e);exact⟨v,q.keeps De⟩
    free:=hC
    freeC:=λx c e=>I.freeC x c (Bm x c e)
    pin:=λp hp=>by
     have BC:p∈X.pn++U:=by simpa[cf]using hp
     obtain⟨a1,a2,a3,a4,a5⟩:=I.pin p BC;refine⟨De _ _ a1,a2,λe=>?_,λhm=>?_,a5⟩
     .have e':p.1=s.1.1.size:=e;exact g! (Xb a1) (by rw[e'];exact Ys _)
     .rcases W8.mp (I.stkSub p.1 hm)with e|e
      .exact a3 e
      .exact a4 e
    hok:=I.hok.kept De
    len:=by
     show(cσ js Z).length=N.length;unfold cσ;rw[WM];exact S.len }
theorem uH{target:X9}{it acc:WT}(J:Nat->WX->Prop)
 (turn:∀n s,J n s->W7 (Xw prog w) A (Z9 it) (λr Ac=>(r=B?/\R (.ok .next) Ac)\/∃v,r=A? v /\
  W7 (Xw prog w) A (letOwnedTupleGo target it v) (λ_ AI=>W7 (Xw prog w) A (assign target env v) (λ_ Ci =>
   W7 (Xw prog w) A (forIn ifs C? λc r=>if r=C? then do let ok <-isTrue c env (Y2 c env);pure (ZO ok)else pure (ZO r)) (λok Ex =>
    (ok=Cf/\∃m,m<n/\J m Ex)\/(ok=C?/\W7 (Xw prog w) A (Y2 elt env) (λx JX=>W7 (Xw prog w) A (call (.builtin "list.append") [acc,x]) (λ_ JY=>∃m,m<n/\J m JY) (λ_ _=>False) JX) (λ_ _=>False) Ex))
    (λ_ _=>False) Ci) (λ_ _=>False) AI) (λ_ _=>False) Ac) (λ_ _=>False) s)
 (n:Nat) (h:J n s):codeAny (Xw prog w) A (.compLoop (.ListComp elt [⟨target,iter,ifs,0⟩] scope pos) 0 it acc env) R s:=by
 refine codeAny_loop rfl J (λn s hJ=>?_) n h;show W7 _ A ((compTurn (.ListComp elt [⟨target,iter,ifs,0⟩] scope pos) 0 it acc env).onRaise _) _ _ s;refine wpAny_noted ?_;rw[compTurn_list];have up:∀{α:Type}{m:Sem α}{Q:α->WX->Prop}{E:WT->WX->Prop}{s:WX},W7 (Xw prog w) A m Q (λ_ _=>False) s->W7 (Xw prog w) A m Q E s:=λq=>Y6 q (λ_ _ z=>z) λ_ _ z=>z.elim;refine WN (wpAny_standAt (WN (Y6 (up (turn n s hJ)) (λr Ac An=>?_) λ_ _ z=>z)));rcases An with⟨rfl,An⟩|⟨v,rfl,An⟩
 .exact WW An
 .refine WN (Y6 (up An) (λ_ AI A7=>?_) λ_ _ z=>z);refine WN (Y6 (up A7) (λ_ Ci CN=>?_) λ_ _ z=>z);refine WN (Y6 (up CN) (λok Ex AJ=>?_) λ_ _ z=>z);rcases AJ with⟨rfl,AJ⟩|⟨rfl,AJ⟩
  .exact WW ⟨rfl,AJ⟩
  .exact WN (WN (Y6 (up AJ) (λx JX AK=>WN (Y6 (up AK) (λ_ JY NX=>WW (WW ⟨rfl,NX⟩)) λ_ _ z=>z)) λ_ _ z=>z))
theorem lh{tn:Nat->Yh->Prop}{J:It}{W:Nat->Hp->Prop}{fin:Hp->Prop}
 {R:WT->WQ->Result->WX->Prop} (hc:X.calm=C?) (S:fK X sc N js) (I:Inv X U Z H s) (T:Turn X.prog X.w X.K tg J fp it tn) (st:tn 0 s.1) (hf:∀b∈fp,jn X U H b)
 (Bm:∀x c,cl.lookup x=A? c->X.env.cells.lookup x=A? c) (Ck:∀n,(n,Yz)∈sc.names->∃c,cl.lookup n=A? c)
 (hg:∀cl C s H fp U,PG (cf X N sc cl C s H fp U) tg g) (gk:ow js g) (ht:∀cl C s H fp U,PTs (cf X N sc cl C s H fp U) ifs tt) (he:∀cl C s H fp U,PE (cf X N sc cl C s H fp U) elt te)
 (w0:W 0 (upd H s.1.1.size (.lst []))) (turn:g8 js g tt te Z J s.1.1.size n W fin)
 (hR:∀C H' s',C≠X.env.locals->s.1.1.size<C->(∃m,s'.1.Ns C m)->H' C=B?->(∀h' t',YF C s'.1 h'->Inv X U Z H' {s' with heap:=h',toks:=t'})->fin H'->R (.ref s.1.1.size) C (.ok .next) s') :
 W7 (Xw X.prog X.w) X.A (newList []) (λacc Ci=>W7 (Xw X.prog X.w) X.A (newFunctionEnv sc X.env.globals cl [] X.env.qual B? .none (A? X.env)) (λJZ Ex =>
  codeAny (Xw X.prog X.w) X.A (.compStart (.ListComp elt [⟨tg,iter,ifs,0⟩] sc pos) 0 (.ref it) acc {JZ with scope:=relabel sc X.env}) (R acc JZ.locals) Ex) E Ci) E s:=by
 refine Yi (wpAny_newFunctionEnv S.nocell (by intro y hy;simp at hy) (λAn Dq Dr=>?_) S.kind);dsimp only at Dq Dr |-;have I3:Inv X U Z (upd H s.1.1.size (.lst [])) {s with heap:=s.1.push {cls:=.type "list",dict:=B?,data:=.seq ([]:List WT).toArray}}:=I.lnew (t':=s.toks) (its:=[]) .nil (by decide)
 have Ai:∀b∈fp,b<s.1.1.size:=λb hb=>by
  obtain⟨o,ho,_⟩:=T.obj _ _ st b hb;exact Xb ho
 have Gz:∀b o,s.1.get? b=A? o->(s.1.push {cls:=.type "list",dict:=B?,data:=.seq ([]:List WT).toArray}).get? b=A? o:=λb o e=>WU _ e;have hsz:(s.1.push {cls:=.type "list",dict:=B?,data:=.seq ([]:List WT).toArray}).objs.size=s.1.1.size+1:=X5 ..;generalize Rv:({s with heap:=s.1.push {cls:=.type "list",dict:=B?,data:=.seq ([]:List WT).toArray}}:WX)=s3 at I3;have J0:s.1.push {cls:=.type "list",dict:=B?,data:=.seq ([]:List WT).toArray}=s3.1:=by rw[<-Rv]
 rw[J0]at Dq Dr Gz hsz;rw[J0];have NY:∀t',({s with heap:=An,toks:=t'}:WX)={s3 with heap:=An,toks:=t'}:=λt'=>by rw[<-Rv]
 rw[NY];have De:∀b o,s3.1.get? b=A? o->An.get? b=A? o:=λb o e=>Dr.extBut b o (XC (Xb e)) (WU _ e);have NZ:∀b∈fp,jn X U (upd H s.1.1.size (.lst [])) b:=λb hb=>⟨by rw[ai (XC (Ai b hb))];exact(hf b hb).1,(hf b hb).2⟩;have I4:=vk (t':=s.toks+([]:List (Xp×WT)).length) S I3 Bm Ck NZ (λb hb=>by rw[hsz];exact Nat.lt_succ_of_lt (Ai b hb)) Dq De;generalize hH3:upd H s.1.1.size (.lst [])=H3 at I3 I4 NZ w0;have AX:tn 0 An:=T.keep _ _ _ st λb hb o e=>De _ _ (Gz _ _ e)
 have Dj:∀{H':Hp},(∀b∈fp,H' b=B?)->∀b∈fp,jn (cf X N sc cl s3.1.1.size s3 H3 fp U) [] H' b:=λ{H'}hn b hb=>by
  obtain⟨f0,f1,f2,f3,f4,f5⟩:=hf b hb;refine⟨hn b hb,λe=>?_,λhm=>?_,.inl hb,λx c e=>f4 x c (Bm x c e),λp hp=>f5 p (by simpa[cf]using hp)⟩
  .have e':b=s3.1.1.size:=e;have h9:b<s.1.1.size:=Ai b hb;rw[e',hsz]at h9;exact g! h9 (Nat.not_lt.mpr (Nat.le_succ _))
  .rcases W8.mp (I.stkSub b hm)with e|e
   .exact f1 e
   .exact f2 e
 have loop:codeAny (Xw X.prog X.w) X.A (.compLoop (.ListComp elt [⟨tg,iter,ifs,0⟩] sc pos) 0 (.ref it) (.ref s.1.1.size) (compEnvC sc cl s3.1.1.size X.env)) (R (.ref s.1.1.size) s3.1.1.size)
  {s3 with heap:=An,toks:=s.toks+([]:List (Xp×WT)).length}:=by
  refine uH (λk s'=>∃i H',Inv (cf X N sc cl s3.1.1.size s3 H3 fp U) [] (cσ js Z) H' s'/\tn i s'.1/\(∀b∈fp,H' b=B?)/\W i H'/\k=n - i) ?_ n ⟨0,H3,I4,AX,λb hb=>(NZ b hb).1,w0,rfl⟩;rintro k s5 ⟨i,H5,I5,Jg,MM,w5,rfl⟩;rcases turn i H5 w5 with⟨stop,qn⟩|⟨B0,go,step⟩
  .refine thn (T.done (cf X N sc cl s3.1.1.size s3 H3 fp U) rfl rfl rfl hc i [] s5 (cσ js Z) H5 _ I5 (Dj MM) Jg stop) λr s6⟨hr,I6⟩=>.inl ⟨hr,?_⟩;have I7:Inv X U Z H5 s6:=I3.call' (ch:=fp) (I6.os.trans rfl) I6.base I6.hok I6.bare λb hb=>⟨(hf b hb).2.2.2.1,(hf b hb).2.1,(hf b hb).2.2.2.2.1,(hf b hb).2.2.2.2.2⟩;have Rw:H5 s3.1.1.size=none:=I6.free;have Rx:s3.1.1.size≠X.env.locals:=Nat.ne_of_gt I3.lt;obtain⟨m6,Ub,_⟩:=I6.loc;refine hR s3.1.1.size H5 s6 Rx (by lia) ⟨m6,Ub⟩ Rw (λh' t' sb=>?_) qn;refine I7.turned (it:=s3.1.1.size) (λb o hb e=>sb.extBut b o hb e) Rw Rx (.inr I3.sz) (λx c e z=>?_) λp hp z=>?_
   .obtain⟨v,q⟩:=I3.cell x c e;exact g! q.lt (by rw[z];exact Ys _)
   .exact g! (Xb (I3.pin p hp).1) (by rw[z];exact Ys _)
  .refine thn (T.item (cf X N sc cl s3.1.1.size s3 H3 fp U) rfl rfl rfl hc i [] s5 (cσ js Z) H5 _ I5 (Dj MM) Jg go) λr s6⟨u,hr,h6⟩=>.inr ⟨u,hr,?_⟩;refine thn h6 λ_ s7⟨x,H7,I7,r7,y7,N0,Uc⟩=>?_;have Ud:=I7.pinned (Dj Uc) (T.obj _ _ N0);refine thn (hg cl s3.1.1.size s3 H3 fp U _ s7 (cσ js Z) H7 x u _ Ud r7 (gk Z (cσ js Z) x H7 _ (.refl _) (step x H7 y7))) λ_ s8⟨N1,H8,I8,k8,q8⟩=>?_;refine thn (ht cl s3.1.1.size s3 H3 fp U _ s8 N1 H8 _ I8 q8) λok s9⟨H9,I9,q9⟩=>?_
   have again:∀{s':WX}{Ab:St}{H':Hp},Keep (cσ js Z) Ab->Inv (cf X N sc cl s3.1.1.size s3 H3 fp U) ([]++mG fp s7.1) Ab H' s'->W (i+1) H'->∃m,m<n - i/\∃i H',Inv (cf X N sc cl s3.1.1.size s3 H3 fp U) [] (cσ js Z) H' s'/\tn i s'.1/\(∀b∈fp,H' b=B?)/\W i H'/\m=n - i:=λ{s' Ab H'}kp I' w'=>by
    refine⟨n - (i+1),by lia,i+1,H',(I'.unpinned).weak kp.1 kp.2,T.keep _ _ _ N0 λb hb o e=>(I'.pin (b,o) (XH _ (XH _ (fY hb e)))).1,λb hb=>?_,w',D?⟩;obtain⟨o,e,d⟩:=T.obj _ _ N0 b hb;exact(I'.pin (b,o) (XH _ (XH _ (fY hb e)))).2.1
   cases ok with
   | false =>
     refine .inl ⟨rfl,again k8 I9 ?_⟩;have Ry:if Cf=C? then _ else W (i+1) H9:=q9
     rw[a! W6]at Ry;exact Ry
   | true =>
     refine .inr ⟨rfl,?_⟩;rw[b! rfl]at q9;refine thn (he cl s3.1.1.size s3 H3 fp U _ s9 N1 H9 _ I9 q9) λvv AS⟨v,BP,Ue,rv,ys,hD,J1,Ug⟩=>?_;refine thn (aQ _ AS N1 BP (.ref s.1.1.size) [v] (.ref s.1.1.size) [vv] (λ_ H'=>W (i+1) H') Ue rfl (.cons rv .nil) ⟨_,ys,v,rfl,rfl,hD,J1,Ug⟩) λ_ B6⟨_,Hv,Uh,_,Ui⟩=>?_;exact again k8 Uh Ui
 exact codeAny_compStart_list loop (T.self X.A 0 _ _ _ AX loop)
theorem bH(hc:X.calm=C?)(S:fK X sc N js)(hi:PI X tg iter wi)
 (hg:∀cl C s H fp U,PG (cf X N sc cl C s H fp U) tg g) (gk:ow js g) (ht:∀cl C s H fp U,PTs (cf X N sc cl C s H fp U) ifs tt) (he:∀cl C s H fp U,PE (cf X N sc cl C s H fp U) elt te)
 (hs:∀x,foldedSetIterable iter X.env x=pure x:=by intro _;rfl):PE X (.ListComp elt [⟨tg,iter,ifs,0⟩] sc pos) (vx js wi g tt te):=by
 intro U s Z H Q I h;obtain⟨cl,e1,e2,e3⟩:=mj (env:=X.env) (sc:=sc) λn hn=>I.ok.has n (S.frees _ hn rfl);rw[eval_ListComp];refine wpAny_comprehension_free (use:=B?) rfl hs e1 S.kind S.names (thn (hi U s Z H _ I h) λv s1 h1=>thn h1 λML s2 h2=>?_);obtain⟨it,fp,tn,J,H2,rfl,I2,T,Di,f2,R2⟩:=h2;obtain⟨n,W,w0,turn⟩:=R2 s2.1.1.size I2.fresh;refine lh (R:=λacc C=>compPost (Xw X.prog X.w) X.A X.xe B? (EP X U Z Q) acc C) hc S I2 T Di f2 e2 e3 hg gk ht he w0 turn λC H' s' _ _ hn _ inv fi=>?_;obtain⟨m,hm⟩:=hn;exact⟨m,hm,λh' sb=>⟨.ref s2.1.1.size,H',inv h' s'.toks sb,D?,fi⟩⟩
theorem du{y:Xp}{J2 py:Z2}(hN:X.N.Nodup)(hy:X.N[i]?=A? y)(Uj:Loc X.env.scope y)(hc:X.calm=C?)(S:fK X sc N js)(hi:PI X tg iter wi)
 (hg:∀cl C s H fp U,PG (cf X N sc cl C s H fp U) tg g) (gk:ow js g) (ht:∀cl C s H fp U,PTs (cf X N sc cl C s H fp U) ifs tt) (he:∀cl C s H fp U,PE (cf X N sc cl C s H fp U) elt te)
 (Uk:swapsWith (.ListComp elt [⟨tg,iter,ifs,0⟩] sc pos) (A? (.Name y py)) J2.line X.env=pure true:=by rfl)
 (hs:∀x,foldedSetIterable iter X.env x=pure x:=by intro _;rfl) (hf:X.fn y=C?\/X.env.scope.names.lookup y=A? .local:=by first|exact .inl rfl|exact .inr rfl|assumption) :
 PS X (.Assign [.Name y py] (.ListComp elt [⟨tg,iter,ifs,0⟩] sc pos) J2) (wT (vx js wi g tt te) (ak i)):=by
 intro U s Z H D I h;obtain⟨cl,e1,e2,e3⟩:=mj (env:=X.env) (sc:=sc) λn hn=>I.ok.has n (S.frees _ hn rfl);rw[exec_Assign_Name_used _ _ _ _ Uk];refine WN (wpAny_standAt (WN ?_));show W7 _ X.A (do let _ <-comprehension (.ListComp elt [⟨tg,iter,ifs,0⟩] sc pos) sc X.env _ (newList []) Cf (Y2 iter X.env) (A? (assign (.Name y py) X.env))) _ _ s;refine WN (Y6 (wpAny_comprehension_free (use:=A? (assign (.Name y py) X.env)) (Q:=λ_ s'=>SP X U D .next s') rfl hs e1 S.kind S.names (thn (hi U s Z H _ I h) λv s1 h1=>thn h1 λML s2 h2=>?_)) (λ_ s' hq=>WW (WW hq)) λ_ _ z=>z);obtain⟨it,fp,tn,J,H2,rfl,I2,T,Di,f2,R2⟩:=h2;obtain⟨n,W,w0,turn⟩:=R2 s2.1.1.size I2.fresh;refine lh (R:=λacc C=>compPost (Xw X.prog X.w) X.A X.xe (A? (assign (.Name y py) X.env)) (λ_ s'=>SP X U D .next s') acc C) hc S I2 T Di f2 e2 e3 hg gk ht he w0 turn λC H' s' Rz hC hn Ul inv fi=>?_;obtain⟨m,hm⟩:=hn
 have I5:Inv X U Z H' s':=by
  have q:=inv s'.1 s'.toks (.refl ..);exact q
 refine wpAny_assign_Name (nR (v:=.ref s2.1.1.size) I5 hN hy Uj rfl (λs6 I6⟨a,sb,ha⟩=>?_) hf)
 have Um:C≠a:=by
  rcases ha with ha|ha
  .rw[ha];exact Rz
  .intro z;obtain⟨v,q⟩:=I2.cell y a ha;exact g! (Nat.lt_trans q.lt hC) (by rw[z];exact Ys _)
 refine⟨m,hm.sameBut sb Um,λh' Uo=>⟨_,H',I6.turned (it:=C) (t':=s6.toks) (λb o hb e=>Uo.extBut b o hb e) Ul Rz (.inr (Xs I2.sz (ZS hC))) (λx c e z=>?_) λp hp z=>?_,fi⟩⟩
 .obtain⟨v,q⟩:=I2.cell x c e;exact g! (Nat.lt_trans q.lt hC) (by rw[z];exact Ys _)
 .exact g! (Nat.lt_trans (Xb (I2.pin p hp).1) hC) (by rw[z];exact Ys _)
end
section
variable{X:Cx}
theorem nI(hc:X.calm=C?):fH X (.builtin "max") (λxs H Q=>∃(p:WQ)(ns:List Int),xs=[.ref p]/\SqL X.K H p (ns.map q!)/\ns≠[]/\∀M,M∈ns->(∀a,a∈ns->a<=M)->Q (.int M) H):=by
 intro U s Z H xs us Q I r h;obtain⟨p,ns,rfl,hl,Aq,q⟩:=h;obtain⟨u,rfl,rx⟩:=vals1 r;cases rx;obtain⟨its,rv,pl,_⟩:=I.list hl;have hi:=intsAre_of rv;have hlen:=hi.length;obtain⟨ys,e⟩:=(hi.allInts).items;have Ho:s.1.IsList p (intItems ys):=by rw[<-e];exact pl.isList
 have hn:ys.toList.map (·.1)=ns:=by rw[<-nums_intItems,<-e];exact hi.numsOf
 have hsz:0<ys.size:=by
  have:ns.length=ys.size:=by rw[<-hn];simp
  have:=List.length_pos_iff.mpr Aq;lia
 refine max_intList (I.ok.hd hc) Ho hsz λv h' tk hv hk=>?_;obtain⟨t,rfl⟩:=intItems_at hv;obtain⟨h1,h2⟩:=argBest_gt (numAt ys) (ys.size - 1);refine⟨.int _,H,I.kept hk,⟨_,D?⟩,q _ ?_ λa ha=>?_⟩
 .rw[numAt_eq,<-hn];exact getD_mem (by rw[WM,XS];lia)
 .rw[<-hn]at ha;obtain⟨j,hj,rfl⟩:=mem_getD ha;rw[WM,XS]at hj;rw[<-numAt_eq];exact h2 j (by lia)
theorem vf{T:String}{b:Bool}{t:WT}:fH X (.builtin "isinstance") (λxs H Q=>∃x,xs=[x,.ty T]/\iV X.K H x t/\PySem.W.kitOne X.K t (.type T)=A? b/\Q (.bl b) H):=by
 intro U s Z H xs us Q I r h;obtain⟨x,rfl,ty,k,q⟩:=h;obtain⟨u,w',rfl,r1,r2⟩:=vals2 r;cases r2;exact uP I r1 ty k λtk=>⟨.bl b,H,I.tok tk,rfl,q⟩
end
end L2
open L2 renaming Same->k!
namespace PySem
namespace F
theorem bb_owner_rev:Manifest.owners.lookup (String.ofList ['d','e','s','r','e','v','e','r'].reverse)=A? Manifest.sig_reversed:=by kernel_rfl
theorem bb_slot_rev_next:Slot "reversed" "__next__" "reversed.__next__" :=
 .of (owner:="reversed") (n:="__next__") (by rw[Y5,Yv];kernel_rfl) (by decide +kernel) (by decide +kernel) (by decide +kernel)
  (by first|exact .inl (by decide +kernel)|exact .inr (by decide +kernel)) (by rw[isSubtype_type];kernel_rfl)
theorem bb_entry_rev_next:entryFor table "reversed.__next__"=A? Zs.«reversed.__next__»:=entryFor_of_tree (by kernel_rfl)
theorem bb_args_rev_next(a:WT):argsOk "reversed.__next__" ⟨[a],[]⟩:=by
 unfold argsOk;rw[signature?_of (id:="reversed.__next__") (n:=['_','_','t','x','e','n','_','_']) (o:=['d','e','s','r','e','v','e','r']) (by kernel_rfl) bb_owner_rev];kernel_rfl
theorem bb_slot_rev_iter:Slot "reversed" "__iter__" "reversed.__iter__" :=
 .of (owner:="reversed") (n:="__iter__") (by rw[Y5,Yv];kernel_rfl) (by decide +kernel) (by decide +kernel) (by decide +kernel)
  (by first|exact .inl (by decide +kernel)|exact .inr (by decide +kernel)) (by rw[isSubtype_type];kernel_rfl)
theorem bb_args_rev_iter(a:WT):argsOk "reversed.__iter__" ⟨[a],[]⟩:=by
 unfold argsOk;rw[signature?_of (id:="reversed.__iter__") (n:=['_','_','r','e','t','i','_','_']) (o:=['d','e','s','r','e','v','e','r']) (by kernel_rfl) bb_owner_rev];kernel_rfl
theorem bb_entry_rev_iter:entryFor table "reversed.__iter__"=A? Zs.«dict_keyiterator.__iter__» :=
 entryFor_alias (id':="dict_keyiterator.__iter__") (by kernel_rfl) (by first|rfl|decide +kernel|(unfold String.splitOn;simp +decide [String.splitOnAux])) (by decide +kernel) (by kernel_rfl)
theorem bb_slot_rev_hint:Slot "reversed" "__length_hint__" "reversed.__length_hint__" :=
 .of (owner:="reversed") (n:="__length_hint__") (by rw[Y5,Yv];kernel_rfl) (by decide +kernel) (by decide +kernel) (by decide +kernel)
  (by first|exact .inl (by decide +kernel)|exact .inr (by decide +kernel)) (by rw[isSubtype_type];kernel_rfl)
theorem bb_entry_rev_hint:entryFor table "reversed.__length_hint__"=A? Zs.«reversed.__length_hint__»:=entryFor_of_tree (by kernel_rfl)
theorem bb_args_rev_hint(a:WT):argsOk "reversed.__length_hint__" ⟨[a],[]⟩:=by
 unfold argsOk;rw[signature?_of (id:="reversed.__length_hint__") (n:=['_','_','t','n','i','h','_','h','t','g','n','e','l','_','_']) (o:=['d','e','s','r','e','v','e','r']) (by kernel_rfl) bb_owner_rev];kernel_rfl
theorem bb_nolen_rev:typeLookup (.type "reversed") "__len__"=pure none:=by rw[Y5,Yv];kernel_rfl
theorem bb_nolen_lri:typeLookup (.type "list_reverseiterator") "__len__"=pure none:=by rw[Y5,Yv];kernel_rfl
theorem bb_hint_lri:typeLookup (.type "list_reverseiterator") "__length_hint__"=pure (A? (.builtin "list_reverseiterator.__length_hint__")):=by rw[Y5,Yv];kernel_rfl
theorem bb_tuple_norev:typeLookup (.type "tuple") "__reversed__"=pure none:=by rw[Y5,Yv];kernel_rfl
theorem bb_sub_rev_rev:isSubtype (.type "reversed") (.type "reversed")=pure true:=by rw[isSubtype_type];kernel_rfl
theorem bb_sub_tuple_dict:isSubtype (.type "tuple") (.type "dict")=pure false:=by rw[isSubtype_type];kernel_rfl
end F
open Sem (wp)
theorem bb_slot_rev_init:Slot "reversed" "__init__" "object.__init__" :=
 .of (owner:="object") (n:="__init__") (by rw[Y5,Yv];kernel_rfl) (by decide +kernel) (by decide +kernel) (by decide +kernel)
  (by first|exact .inl (by decide +kernel)|exact .inr (by decide +kernel)) (by rw[isSubtype_type];kernel_rfl)
theorem bb_called_rev:TypeCalled "reversed" "reversed.__new__" "object.__init__" :=
 ⟨by decide +kernel,by decide +kernel,⟨_,_,F.mro_reversed⟩,F.made_reversed,by decide +kernel,F.bb_sub_rev_rev,bb_slot_rev_init⟩
def revTup(t:WQ)(i:Int):Zb:={cls:=.type "reversed",data:=.fields #[.ref t,Y7 i]}
theorem bb_meets_rev_tuple(t:WQ)(items:Array WT)(hz:(items.size:Int)<2 ^ 63) :
 Meets (Zs.«reversed.__new__» ⟨[.type "reversed",.ref t],[]⟩) (λ_ R s=>PyProof.Rows.IsTup s.1 t items/\∀tk,R (.ok (.ret (.ref s.1.1.size))) {s with heap:=s.1.push (revTup t ((items.size:Int) - 1)),toks:=tk}):=by
 refine .of_wp λprog w A R s h=>?_;obtain⟨ht,h⟩:=h;unfold Zs.«reversed.__new__»;refine WN (wpAny_of_eq (newClass_reversed _) ?_)
 try dsimp only
 refine WN (wpAny_of_eq (a:=()) (by first|rfl|kernel_rfl) ?_);refine WN (wpAny_of_eq (a:=()) (by first|rfl|kernel_rfl) ?_)
 try dsimp only
 refine WN (Yr ht.typeIs F.bb_tuple_norev ?_)
 try dsimp only
 have hsd:=F.bb_sub_tuple_dict;have hgi:=XR.lookup;have hT:s.TypeIs (.ref t) "tuple":=ht.typeIs
 wp_walk using PyProof.Rows.len_tuple ht hz,ZG hT
 exact⟨_,D?,h _⟩
theorem bb_call_rev_tuple{t:WQ}(ht:PyProof.Rows.IsTup s.1 t items)(hz:(items.size:Int)<2 ^ 63)
 (h:∀tk,Q (.ref s.1.1.size) {s with heap:=s.1.push (revTup t ((items.size:Int) - 1)),toks:=tk}):W7 (Xw prog w) A (call (.type "reversed") [.ref t]) Q E s :=
 callType_new bb_called_rev (by decide) (F.typeCall_reversed_1 _) (F.newCall_reversed_1 _) (λobj=>F.args_object_init_2 obj _) F.entry_reversed_new (bb_meets_rev_tuple t items hz)
  ⟨ht,λtk=>⟨⟨_,W4 _ rfl,rfl⟩,h tk⟩⟩
def IsRevT(h:Yh)(a t:WQ)(i:Int):Prop:=∃o,h.get? a=A? o/\o.cls=.type "reversed"/\o.data=.fields #[.ref t,Y7 i]
theorem IsRevT.typeIs{t:WQ}{i:Int}(x:IsRevT s.1 a t i):s.TypeIs (.ref a) "reversed":=let⟨o,ho,hc,_⟩:=x;⟨o,ho,hc⟩
theorem IsRevT.at{t:WQ}{i:Int}(x:IsRevT h a t i)(e:∀o,h.get? a=A? o->h'.get? a=A? o):IsRevT h' a t i:=let⟨o,ho,r⟩:=x;⟨o,e _ ho,r⟩
theorem bb_rev_iter{t:WQ}{i:Int}(hit:IsRevT s.1 it t i)(h:Q (.ref it) s):W7 (Xw prog w) A (pyIter (.ref it)) Q E s:=by
 refine wpAny_pyIter_slot hit.typeIs F.bb_slot_rev_iter (X8 F.bb_slot_rev_iter hit.typeIs F.bb_entry_rev_iter ?_ (F.bb_args_rev_iter _));show W7 _ _ (ret (.ref it)) _ _ s;exact WW ⟨_,rfl,"reversed",_,hit.typeIs,F.bb_slot_rev_next.lookup,h⟩
theorem bb_rev_next{t:WQ}{x:WT}{Q:Option WT->WX->Prop}(hit:IsRevT s.1 it t (i:Int))(ht:PyProof.Rows.IsTup s.1 t items)(hx:items[i]?=A? x)(hz:(items.size:Int)<2 ^ 63)
 (hQ:∀h' tk,IsRevT h' it t ((i:Int) - 1)->YF it s.1 h'->Q (A? x) {s with heap:=h',toks:=tk}):W7 (Xw prog w) A (Z9 (.ref it)) Q E s:=by
 obtain⟨o,ho,hc,hd⟩:=id hit;have hi:i<items.size:=(Array.getElem?_eq_some_iff.mp hx).1;unfold Z9
 refine WN (Z8 (X4 (name:=Xm "__next__") hit.typeIs F.bb_slot_rev_next
  (X8 F.bb_slot_rev_next hit.typeIs F.bb_entry_rev_next ?_ (F.bb_args_rev_next _))))
 unfold Zs.«reversed.__next__»;refine WN (wpAny_of_eq (a:=(Xl it,[])) rfl ?_)
 try dsimp only
 refine WN (XY ho hd (x:=.ref t) rfl ?_);refine WN (XY ho hd (x:=Y7 (i:Int)) rfl ?_);show W7 _ _ (if(i:Int)<0 then _ else _) _ _ s;rw[a! (by lia)];refine WN (Yr ht.typeIs XR.lookup ?_)
 try dsimp only
 rw[a! (by decide)];refine WN (m:=mkInt (i:Int)) (wpAny_mkInt ?_);refine WN (Z8 (PyProof.Rows.getItem_tuple (j:=i) (x:=x) ht (by lia) (by lia) ?_ hx ?_))
 .refine(L2.pz (n:=items.size) (i:=(i:Int)) (j:=i) ?_).1;unfold L2.ixN;rw[b! (by lia),b! (by lia)];simp
 .try dsimp only
  refine WN (XY ho hd (x:=Y7 (i:Int)) rfl ?_)
  try dsimp only
  refine WN (wpAny_setField ho hd (by simp) ?_);refine WW ⟨x,rfl,WW (hQ _ _ ?_ (Zi ..))⟩;exact⟨_,XQ _ ho (Obj.isFreed_of_fields (Zo hd _)),(Obj.cls_mapFields ..).trans hc,by rw[Zo hd];simp⟩
theorem bb_rev_end{t:WQ}{Q:Option WT->WX->Prop}(hh:A.handled=B?)(hit:IsRevT s.1 it t (-1))
 (hQ:∀h' tk,Heap.ExtBut it s.1 h'->Q B? {s with heap:=h',toks:=tk}):W7 (Xw prog w) A (Z9 (.ref it)) Q E s:=by
 obtain⟨o,ho,hc,hd⟩:=id hit;unfold Z9
 refine WN (Z8 (X4 (name:=Xm "__next__") hit.typeIs F.bb_slot_rev_next
  (X8 F.bb_slot_rev_next hit.typeIs F.bb_entry_rev_next ?_ (F.bb_args_rev_next _))))
 unfold Zs.«reversed.__next__»;refine WN (wpAny_of_eq (a:=(Xl it,[])) rfl ?_)
 try dsimp only
 refine WN (XY ho hd (x:=.ref t) rfl ?_);refine WN (XY ho hd (x:=Y7 (-1)) rfl ?_);show W7 _ _ (if(-1:Int)<0 then _ else _) _ _ s;rw[b! (by decide)];refine WN (Zx ?_);refine WN ?_
 wp_delta
 refine WN (wpAny_setField ho hd (by simp) ?_);have FI:=XQ (Obj.mapFields (·.setIfInBounds 1 (Y7 (-1)))) ho (Obj.isFreed_of_fields (Zo hd _));refine wpAny_setField FI (Zo hd _) (by simp) ?_;refine WN ?_
 wp_delta
 refine WN ?_;simp only[newExc,newTuple];refine WN (Yi ?_ (by size_fits));refine WN (m:=firstArgMember _ _) (wpAny_of_eq (a:=Yp) (by first|rfl|(simp only[firstArgMember];rfl)) ?_);refine Yi ?_ (by size_fits);simp only[raiseNew];refine WN (wpAny_handled ?_)
 first|rw[show A.in1.handled=B? from hh]|rw[hh]
 refine WN (WW (wpAny_throw ?_));refine WN (ZJ (T:="StopIteration") (b:=C?) ⟨_,W4 _ rfl,rfl⟩ isSubtype_stop ?_);refine WW (hQ _ _ ?_);refine Heap.ExtBut.push (Heap.ExtBut.push ?_ _) _;intro b o' hb e;rw[XW _ _ (YQ hb),XW _ _ (YQ hb)];exact e
theorem bb_walk_revT(hh:A.handled=B?)(I t:WQ)(Aq:t≠I)(items:Array WT)(hz:(items.size:Int)<2 ^ 63) :
 Walks prog w A I [I,t] [I] items.size (λi v=>items[items.size - 1 - i]?=A? v) (λi h=>i<=items.size/\IsRevT h I t ((items.size:Int) - 1 - (i:Int))/\PyProof.Rows.IsTup h t items) where
 sub:=λb hb=>by simp at hb;simp[hb]
 frame:=λ_ _ _ x hk=>⟨x.1,x.2.1.at λo e=>hk I (by simp) o e,by obtain⟨o,e,r⟩:=x.2.2;exact⟨o,hk t (by simp) o e,r⟩⟩
 item:=λi s Q E hi x hQ=>by
  have e:(items.size:Int) - 1 - (i:Int)=((items.size - 1 - i:Nat):Int):=by lia
  have hit:=x.2.1;rw[e]at hit;have hx:items[items.size - 1 - i]?=A? (items[items.size - 1 - i]'(by lia)):=Ze (by lia);refine bb_rev_next hit x.2.2 hx hz λh' tk FJ DI=>?_;have e2:((items.size - 1 - i:Nat):Int) - 1=(items.size:Int) - 1 - ((i+1:Nat):Int):=by lia
  rw[e2]at FJ;exact hQ _ h' tk hx ⟨hi,FJ,by obtain⟨o,e,r⟩:=x.2.2;exact⟨o,(DI.2 t Aq).trans e,r⟩⟩ λb o hb eo=>DI.extBut b o (λh=>hb (by simp[h])) eo
 done:=λs Q E x hQ=>by
  have e:(items.size:Int) - 1 - (items.size:Int)=-1:=by lia
  have hit:=x.2.1;rw[e]at hit;exact bb_rev_end hh hit λh' tk Up=>hQ h' tk λb o hb eo=>Up b o (λh=>hb (by simp[h])) eo
 self:=λ_ _ _ _ x hQ=>bb_rev_iter x.2.1 hQ
def HintOk(prog:W5)(w:Xq)(A:XI)(I:WQ)(St:Nat->Yh->Prop):Prop :=
 ∀(s:WX)(Q:Bool->WX->Prop)(E:WT->WX->Prop),St 0 s.1->(∀b tk,s.toks<=tk->Q b {s with toks:=tk})->W7 (Xw prog w) A (ZH (.ref I)) Q E s
theorem bb_hint_lri{l:WQ}:HintOk prog w A I (λi h=>i<=items.size/\h.IsRevIter I l ((items.size:Int) - 1 - (i:Int))/\h.IsList l items):=by
 intro s Q E st h;unfold ZH;refine WN (Yr st.2.1.typeIs F.bb_nolen_lri ?_);show W7 _ A (specialOf (Xl I) (Xm "__length_hint__") >>= _) _ _ _;refine WN (Yr st.2.1.typeIs F.bb_hint_lri ?_)
 (generalize hid:("list_reverseiterator.__length_hint__":String)=Hw;(fail_if_success (clear hid Hw));wp_delta;rw[show splitId Hw=A? ("list_reverseiterator","__length_hint__")from by subst hid;decide +kernel];subst hid)
 refine WN (ZJ (b:=C?) st.2.1.typeIs (by rw[isSubtype_type];kernel_rfl) ?_);exact WW (h _ _ (WV _))
theorem bb_len_hint{t:WQ}(hit:IsRevT s.1 I t ((items.size:Int) - 1))(ht:PyProof.Rows.IsTup s.1 t items)(hz:(items.size:Int)<2 ^ 63)
 (h:∀u tk,s.toks<=tk->Q (.int (items.size:Int) u) {s with toks:=tk}):W7 (Xw prog w) A (call (.builtin "reversed.__length_hint__") [.ref I]) Q E s:=by
 obtain⟨o,ho,hc,hd⟩:=id hit;refine X8 F.bb_slot_rev_hint hit.typeIs F.bb_entry_rev_hint ?_ (F.bb_args_rev_hint _);unfold Zs.«reversed.__length_hint__»;refine WN (wpAny_of_eq (a:=Xl I) rfl ?_)
 try dsimp only
 refine WN (XY ho hd (x:=.ref t) rfl ?_);rw[a! (show¬((Xl t == Yp)=C?)from W6)];refine WN (PyProof.Rows.len_tuple ht hz ?_);refine WN (m:=asInt? _) (WW ?_)
 try dsimp only
 refine WN (XY ho hd (x:=Y7 ((items.size:Int) - 1)) rfl ?_);show W7 _ _ (if(items.size:Int)<((items.size:Int) - 1)+1 then _ else _) _ _ _;rw[a! (by lia)];have e:((items.size:Int) - 1)+1=(items.size:Int):=by lia
 rw[e];refine WN (wpAny_mkInt (WW ⟨_,rfl,h _ _ ?_⟩));show s.toks<=s.toks+1+1+1;lia
theorem bb_hint_rev{t:WQ}(hz:items.size<=Xf):HintOk prog w A I (λi h=>i<=items.size/\IsRevT h I t ((items.size:Int) - 1 - (i:Int))/\PyProof.Rows.IsTup h t items):=by
 intro s Q E st h;unfold ZH;refine WN (Yr st.2.1.typeIs F.bb_nolen_rev ?_);show W7 _ A (specialOf (Xl I) (Xm "__length_hint__") >>= _) _ _ _;refine WN (Yr st.2.1.typeIs F.bb_slot_rev_hint.lookup ?_)
 (generalize hid:("reversed.__length_hint__":String)=Hw;(fail_if_success (clear hid Hw));wp_delta;rw[show splitId Hw=A? ("reversed","__length_hint__")from by subst hid;decide +kernel];subst hid)
 refine WN (ZJ (b:=C?) st.2.1.typeIs F.bb_sub_rev_rev ?_)
 have RA:(items.size:Int)<2 ^ 63:=by
  have:=L2.gb;lia
 rw[a! (by decide)]
 try dsimp only
 rw[a! (by decide +kernel)];refine WN (Zx ?_);refine WN (wpAny_of_eq (F.bb_slot_rev_hint.bind _) ?_)
 try dsimp only
 have hit:=st.2.1;rw[show(items.size:Int) - 1 - ((0:Nat):Int)=(items.size:Int) - 1 by lia]at hit;refine WN (Z8 (bb_len_hint hit st.2.2 RA λu tk AR=>?_));have f1:Builtin.List.listFitsIndex (items.size:Int)=true:=fitsIndex_of (Int.natCast_nonneg _) RA;have f2:Zq (items.size:Int).toNat=false:=L2.lT (Xs (Nat.le_of_eq (Xy _)) hz);have f3:¬(items.size:Int)<0:=Int.not_lt.mpr (Int.natCast_nonneg _);generalize(items.size:Int)=k at f1 f2 f3 |-;have fin:W7 (Xw prog w) A (pure (k != 0):Sem Bool) Q E {s with toks:=tk}:=WW (h _ _ AR);simp only[asInt?,pure_bind,f1,f2,f3,Bool.not_true,Ye,if_false];exact fin
theorem bb_list_walk{T:String}{wr:List WQ}{P:Nat->WT->Prop}{St:Nat->Yh->Prop}(W:Walks prog w A.in1.in1 I fp wr n P St)
 (hT:∀i(s:WX),St i s.1->s.TypeIs (.ref I) T) (h2:(Zn T == Zn "list")=Cf) (h3:(Zn T == Zn "tuple")=Cf) (hint:HintOk prog w A.in1.in1 I St)
 (AX:St 0 s.1) (Uq:∀b∈fp,b<s.1.1.size) (hI:I∈fp) (hn:n<=Xf)
 (hQ:∀h' tk acc c,(∀b o,b∉wr->s.1.get? b=A? o->h'.get? b=A? o)->h'.get? s.1.1.size=A? {cls:=.type "list",dict:=B?,data:=.seq acc c,slots:=#[]}->ItemsOf P acc n->Q (.ref s.1.1.size) {s with heap:=h',toks:=tk}) :
 W7 (Xw prog w) A (call (.type "list") [.ref I]) Q E s:=by
 have Jj:s.1.1.size∉fp:=λhm=>Ys _ (Uq _ hm)
 refine callType_codes (Q₁:=λobj Ac=>obj=.ref s.1.1.size/\Ac={s with heap:=s.1.push {cls:=.type "list",data:=.seq #[]}}) F.called_list (F.typeCall_list_1 _) F.entry_list_init
  (code_list_new _ ⟨rfl,rfl⟩) λobj Ac An=>?_
 obtain⟨rfl,rfl⟩:=An;have hS:(s.1.push {cls:=.type "list",data:=.seq #[]}).get? s.1.1.size=A? {cls:=.type "list",data:=.seq #[]}:=W4 _ rfl;have N2:s.1.1.size≠I:=λe=>Jj (e ▸ hI);refine⟨⟨_,hS,D?⟩,F.args_list_init_2 _ _,?_⟩;show W7 _ A.in1.in1 (do let old <-ZI (.ref s.1.1.size);Builtin.List.listUpdate (.ref s.1.1.size) (λ_=>#[]);letGo old.toList.reverse;Za (.ref s.1.1.size) (.ref I) .none) _ _ _;refine WN ?_;unfold ZI;refine WN (YC hS rfl (WW ?_));refine WN (YS hS rfl ?_);have Bq:=XQ (Yj (λ_=>(#[]:Array WT))) hS rfl;refine WN (wpAny_letGo ?_);generalize hH:(s.1.push {cls:=.type "list",data:=.seq #[]}).update s.1.1.size (Yj (λ_=>(#[]:Array WT)))=H2 at Bq |-
 have old:∀b o,s.1.get? b=A? o->H2.get? b=A? o:=λb o e=>by
  rw[<-hH,XW _ _ (YQ (XC (Xb e)))];exact WU _ e
 obtain⟨c2,Ey⟩:∃c,H2.get? s.1.1.size=A? {cls:=.type "list",data:=.seq #[] c}:=⟨_,Bq⟩;have Di:St 0 H2:=W.frame 0 _ _ AX λb _ o e=>old b o e;unfold Za;refine WN (ZG (hT 0 _ Di) ?_);have h1:Zr (.ref s.1.1.size) (.ref I)=false:=by simp[Zr,N2]
 simp only[h1,h2,h3,Bool.or_false,Ye,if_false];refine WN (W.self 0 _ _ _ Di ?_);refine WN (Yy (hint _ _ _ Di λb tk _=>?_))
 have key:∀(h:Yh)(c₁ tk:Nat),St 0 h->(∀b o,b≠s.1.1.size->H2.get? b=A? o->h.get? b=A? o)->h.get? s.1.1.size=A? {cls:=.type "list",data:=.seq #[] c₁} ->
  codeAny (Xw prog w) A.in1 (.builtin "list.extend.loop" ⟨[.ref s.1.1.size,.ref I,.none],[]⟩) (wants (λr AI=>r=.none/\Q (.ref s.1.1.size) AI) E) {s with heap:=h,toks:=tk}:=by
  intro h c₁ tk hs hk CO;refine codeAny_extend_loopS W.toS hn _ Jj .none n 0 _ #[] c₁ rfl (Xg _) hs CO (ItemsOf.nil _) λs' A8 c' hm Ei Ao=>?_;rw[Moved.eq_with hm];refine⟨D?,hQ s'.1 s'.toks A8 c' (λb o hb e=>hm.heap b o (λAE=>?_) (hk b o (XC (Xb e)) (old b o e))) Ei Ao⟩;rcases W8.mp AE with e'|AE
  .exact g! (Xb e) (by rw[e'];exact Ys _)
  .exact hb AE
 refine wpAny_ite_split (λ_=>?_) (λ_=>WW ⟨plainId_quiet YG _,key _ c2 _ Di (λb o _ e=>e) Ey⟩);refine WN (Zx ?_);refine WN ?_;show W7 _ _ (updateSeq s.1.1.size (·.push .none) >>= λ_=>updateSeq s.1.1.size (·.pop)) _ _ _;refine WN (YS Ey rfl ?_);have Br:=XQ (Yj (·.push Yp)) Ey rfl;refine YS (hz:=by seq_fits) Br rfl ?_;have CQ:=XQ (Yj (·.pop)) Br rfl
 have CS:∀b o,b≠s.1.1.size->H2.get? b=A? o->((H2.update s.1.1.size (Yj (·.push Yp))).update s.1.1.size (Yj (·.pop))).get? b=A? o :=
  λb o hb e=>(XW _ _ (YQ hb)).trans ((XW _ _ (YQ hb)).trans e)
 exact WW ⟨plainId_quiet YG _,key _ _ _ (W.frame 0 _ _ Di λb hb o e=>CS b o (λz=>Jj (z ▸ hb)) e) CS CQ⟩
end PySem
namespace L2
open PySem PySem.Spec PyProof.Rows
def SqB(b:Bool)(K:WO)(H:Hp)(a:WQ)(xs:List V):Prop:=if b=C? then SqL K H a xs else SqT K H a xs
theorem SqB.l(h:SqL K H a xs):SqB C? K H a xs:=h
theorem xz{ys:List V}{acc:Array WT}(rv:Vals ys its)(Ao:ItemsOf (λi v=>its.toArray[its.toArray.size - 1 - i]?=A? v) acc its.toArray.size):Vals ys.reverse acc.toList:=by
 have e:acc.toList=its.reverse:=by
  apply List.ext_getElem?;intro i;have hs:acc.size=its.length:=by rw[Ao.1,W3]
  by_cases hi:i<acc.size
  .have h1:acc[i]?=A? acc[i]:=Ze hi;have h2:=Ao.2 i _ h1;rw[W3]at h2;rw[Array.getElem?_toList,h1,List.getElem?_reverse (by lia),<-h2];simp
  .rw[Array.getElem?_toList,Array.getElem?_eq_none (by lia),ZF (by rw[Yt];lia)]
 rw[e];exact rv.reverse
section
variable{X:Cx}{p p2 Ay:Z2}
def v6(K:WO)(te:TE):TE:=λZ H Q=>te Z H λx H1=>∃b a ys,x=.ref a/\SqB b K H1 a ys/\∀l,H1 l=B?->Q (.ref l) (upd H1 l (.lst ys.reverse))
theorem oQ{Q:VK}{b:Bool}{ys:List V}(hc:X.calm=C?)(I:Inv X U Z H s)(hq:SqB b X.K H a ys)(q:∀l,H l=B?->Q (.ref l) (upd H l (.lst ys.reverse))) :
 W7 (Xw X.prog X.w) X.A (call (.type "reversed") [.ref a]) (λu s1=>W7 (Xw X.prog X.w) X.A (call (.type "list") [u]) (EP X U Z Q) X.xe s1) X.xe s:=by
 have hn:=gb;have hh:X.A.in1.in1.handled=none:=I.ok.hd hc
 have fin:∀{its:List WT}{s1:WX}{h':Yh}{tk:Nat}{acc:Array WT}{c:Nat},Vals ys its->ys.length<=Xf->s1.1.1.size=s.1.1.size+1->s1.os=s.os->s1.gens=s.gens->s1.drawn=s.drawn->(∀b o,s.1.get? b=A? o->s1.1.get? b=A? o) ->
  (∀b o,b∉[s.1.1.size]->s1.1.get? b=A? o->h'.get? b=A? o)->h'.get? s1.1.1.size=A? {cls:=.type "list",dict:=B?,data:=.seq acc c,slots:=#[]}->ItemsOf (λi v=>its.toArray[its.toArray.size - 1 - i]?=A? v) acc its.toArray.size ->
  EP X U Z Q (.ref s1.1.1.size) {s1 with heap:=h',toks:=tk}:=λ{its s1 h' tk acc c}rv hz es eo eg ed k1 kp hS Ao=>by
  have NY:({s1 with heap:=h',toks:=tk}:WX)={s with heap:=h',toks:=tk}:=by
   obtain⟨a1,a2,a3,a4,a5⟩:=s1;have e1:a5=s.os:=eo;have e2:a2=s.gens:=eg;have e3:a3=s.drawn:=ed;subst e1;subst e2;subst e3;rfl
  have hp:s.1.1.size<=s1.1.1.size:=by rw[es];exact Nat.le_succ _
  refine⟨.ref s1.1.1.size,upd H s1.1.1.size (.lst ys.reverse),?_,D?,q _ (I.hok.fresh hp)⟩;rw[NY];refine I.laid (t':=tk) (λb o e=>kp b o (λz=>?_) (k1 b o e)) hp ⟨by rw[Yt];exact hz,acc.toList,c,xz rv Ao,hS⟩;exact g! (Xb e) (by rw[W9.mp z];exact Ys _)
 cases b
 .have FH:SqT X.K H a ys:=hq;obtain⟨its,rv,p,hz⟩:=I.tuple FH;have hl:=rv.length;refine bb_call_rev_tuple p (by rw[W3];lia) λtk=>?_;obtain⟨oa,FK,ca,da⟩:=id p;have Aq:a≠s.1.1.size:=XC (Xb FK)
  refine bb_list_walk (T:="reversed") (bb_walk_revT hh s.1.1.size a Aq its.toArray (by rw[W3];lia)) (λi s st=>st.2.1.typeIs) (by decide) (by decide) (bb_hint_rev (by rw[W3];lia))
   ⟨Xg _,?_,⟨oa,WU _ FK,ca,da⟩⟩ (λb hb=>?_) (by simp) (by rw[W3];lia) λh' tk acc c kp hS Ao=>fin rv hz (X5 ..) rfl rfl rfl (λb o e=>WU _ e) kp hS Ao
  .rw[show(its.toArray.size:Int) - 1 - ((0:Nat):Int)=(its.toArray.size:Int) - 1 by lia];exact⟨_,W4 _ rfl,D?,D?⟩
  .show b<(s.1.push _).objs.size;rw[X5];rcases W8.mp hb with e|e
   .rw[e];exact Nat.lt_succ_self _
   .rw[W9.mp e];exact Nat.lt_succ_of_lt (Xb FK)
 .have FH:SqL X.K H a ys:=hq;obtain⟨its,rv,p,hz⟩:=I.list FH;have hl:=rv.length;refine call_reversed_list p.isList ?_;obtain⟨oa,FK,ca,na,da⟩:=id p.isList;have Aq:a≠s.1.1.size:=XC (Xb FK)
  refine bb_list_walk (T:="list_reverseiterator") (Walks.listRev hh s.1.1.size a Aq its.toArray) (λi s st=>st.2.1.typeIs) (by decide) (by decide) bb_hint_lri
   ⟨Xg _,?_,⟨oa,WU _ FK,ca,na,da⟩⟩ (λb hb=>?_) (by simp) (by rw[W3];lia) λh' tk acc c kp hS Ao=>fin rv hz (X5 ..) rfl rfl rfl (λb o e=>WU _ e) kp hS Ao
  .rw[show(its.toArray.size:Int) - 1 - ((0:Nat):Int)=(its.toArray.size:Int) - 1 by lia];exact⟨_,W4 _ rfl,D?,D?⟩
  .show b<(s.1.push _).objs.size;rw[X5];rcases W8.mp hb with e|e
   .rw[e];exact Nat.lt_succ_self _
   .rw[W9.mp e];exact Nat.lt_succ_of_lt (Xb FK)
theorem lI(hc:X.calm=C?)(g1:Gl X "list")(m1:X.mg "list"=B?)(g2:Gl X "reversed")(m2:X.mg "reversed"=B?)(he:PE X e te)
 (h1:XG [.Call (.Name "reversed" p2) [e] [] Ay] X.env=[(Cf,Y2 (.Call (.Name "reversed" p2) [e] [] Ay) X.env)]:=by rfl) (h2:XG [e] X.env=[(Cf,Y2 e X.env)]:=by rfl) :
 PE X (.Call (.Name "list" p) [.Call (.Name "reversed" p2) [e] [] Ay] [] pos) (v6 X.K te):=by
 intro U s Z H Q I h;refine Ym (dh I g1 m1 boot_list (X2 ?_ h1 rfl));rw[h1];show W7 _ _ (spliced ((Cf,Y2 (.Call (.Name "reversed" p2) [e] [] Ay) X.env)::[])) _ _ s;refine YJ ?_;refine Ym (dh I g2 m2 boot_reversed (X2 ?_ h2 rfl));rw[h2];show W7 _ _ (spliced ((Cf,Y2 e X.env)::[])) _ _ s;refine YJ (thn (he U s Z H _ I h) λu s1⟨x,H1,I1,r1,b,a,ys,ex,hq,q⟩=>?_);subst ex;cases r1;refine Zh ?_;refine thn (oQ hc I1 hq q) λv s2 h2=>Zh ?_;exact h2
def Itv(K:WO)(a:WQ)(n:Nat):It:=⟨λi H=>i<n/\∃xs,SqL K H a xs/\xs.length=n,λi H x H'=>H'=H/\∀xs,SqL K H a xs->xs[n - 1 - i]?=A? x,λi _=>i=n⟩
theorem wc(a it:WQ)(n:Nat):Turn P w K tg (Itv K a n) [it] it (λi h=>h.IsRevIter it a ((n:Int) - 1 - (i:Nat))) where
 mem:=by simp
 obj:=λi h st b hb=>by
  have e:b=it:=by simpa using hb
  subst e;obtain⟨o,e,c,d⟩:=st;exact⟨o,e,λv z=>by rw[d]at z;cases z⟩
 keep:=λi h h' st k=>st.at λo e=>k it (by simp) o e
 item:=by
  intro X hP hw hK hc i U s Z H E I hf st hg;subst hP hw hK;obtain⟨hi,xs,hq,hx⟩:=hg;obtain⟨its,rv,p,hz⟩:=I.list hq;have hl:=rv.length;obtain⟨x,AY⟩:∃x,xs[n - 1 - i]?=A? x:=⟨_,WR (by lia)⟩;obtain⟨u,hu,ru⟩:=rv.get AY;obtain⟨f0,f1,f2,f3,f4,f5⟩:=hf it (by simp);have e1:(n:Int) - 1 - (i:Nat)=((n - 1 - i:Nat):Int):=by lia
  rw[e1]at st;refine wpAny_pyNext_rev_item st p.isList (x:=u) (by simpa using hu) λh' Eg sb=>?_;have I1:Inv X U Z H {s with heap:=h'}:=I.turned (t':=s.toks) (λb o hb e=>(sb.2 b hb).trans e) f0 f1 f3 f4 f5;have e2:((n - 1 - i:Nat):Int) - 1=(n:Int) - 1 - ((i+1:Nat):Int):=by lia
  rw[e2]at Eg;obtain⟨o,e,c,d⟩:=id Eg;exact⟨u,D?,tS (s:={s with heap:=h'}) e c d (by decide) ⟨x,H,I1,ru,⟨D?,λys hy=>by rw[I.list_inj hy hq];exact AY⟩,Eg,λb hb=>(hf b hb).1⟩⟩
 done:=by
  intro X hP hw hK hc i U s Z H E I hf st hg;subst hP hw hK;have N3:i=n:=hg;subst N3;obtain⟨f0,f1,f2,f3,f4,f5⟩:=hf it (by simp);rw[show(i:Int) - 1 - (i:Nat)=-1 by lia]at st;exact wpAny_pyNext_rev_end (I.ok.hd hc) st λh' eb=>⟨rfl,I.turned (t':=s.toks) (λb o hb e=>eb b o hb e) f0 f1 f3 f4 f5⟩
 self:=λ_ _ _ _ _ st h=>wpAny_pyIter_revIter st h
def abd(K:WO)(tl:TE):TI:=λZ H R=>tl Z H λx H1=>∃a xs,x=.ref a/\SqL K H1 a xs/\R (Itv K a xs.length) H1
theorem zx(g2:Gl X "reversed")(m2:X.mg "reversed"=B?)(he:PE X e te)(h2:XG [e] X.env=[(Cf,Y2 e X.env)]:=by rfl):PI X tg (.Call (.Name "reversed" p2) [e] [] Ay) (abd X.K te):=by
 intro U s Z H R I h;refine Ym (dh I g2 m2 boot_reversed (X2 ?_ h2 rfl));rw[h2];show W7 _ _ (spliced ((Cf,Y2 e X.env)::[])) _ _ s;refine YJ (thn (he U s Z H _ I h) λu s1⟨x,H1,I1,r1,a,ys,ex,hq,q⟩=>Zh ?_);subst ex;cases r1;obtain⟨its,rv,p,hz⟩:=I1.list hq;have hl:=rv.length;refine call_reversed_list p.isList ?_
 have hit:(s1.1.push (revObj a ((its.toArray.size:Int) - 1))).IsRevIter s1.1.1.size a ((ys.length:Int) - 1 - ((0:Nat):Int)):=by
  rw[hl,show(its.length:Int) - 1 - ((0:Nat):Int)=(its.toArray.size:Int) - 1 by rw[W3];lia];exact⟨_,W4 _ rfl,D?,D?⟩
 refine wpAny_pyIter_revIter (s:={s1 with heap:=s1.1.push (revObj a ((its.toArray.size:Int) - 1))}) hit ?_;refine⟨s1.1.1.size,[s1.1.1.size],_,_,H1,D?,I1.kept (t':=s1.toks) λb o e=>WU _ e,wc a _ ys.length,hit,λb hb=>?_,q⟩;have e:b=s1.1.1.size:=by simpa using hb
 subst e;exact I1.fpOk (WV _) (I1.hok.fresh (WV _))
theorem ye(Pv:Nat->St->Hp->Prop)(h0:Pv 0 Z H)(hl:∀i Z H,i<=xs.length->Pv i Z H->SqL K H a xs)
 (hs:∀i x Z H,i<xs.length->xs[xs.length - 1 - i]?=A? x->Pv i Z H->g x Z H λAx H2=>tb {D with nx:=Pv (i+1),ct:=Pv (i+1),bk:=D.nx} Ax H2) (hd:∀Z H,Pv xs.length Z H->D.nx Z H) :
 ∃W:Nat->Nat->St->Hp->Prop,(∃m,W 0 m Z H)/\∀i m Z H,W i m Z H ->
   ((Itv K a xs.length).stop i H/\D.nx Z H)\/((Itv K a xs.length).go i H/\∃N:St->Hp->Prop,(∀Ab H',N Ab H'->∃m',m'<m/\W (i+1) m' Ab H')/\∀x H',(Itv K a xs.length).yld i H x H'->g x Z H' λAx H2=>tb {D with nx:=N,ct:=N,bk:=D.nx} Ax H2):=by
 refine⟨λi m Z H=>i<=xs.length/\m=xs.length - i/\Pv i Z H,⟨xs.length,Xg _,D?,h0⟩,?_⟩;rintro i m Z H ⟨hi,rfl,p⟩;by_cases h:i=xs.length
 .left;exact⟨h,hd Z H (by rw[<-h];exact p)⟩
 .right;have AF:i<xs.length:=by lia
  refine⟨⟨AF,xs,hl i Z H hi p,D?⟩,Pv (i+1),λAb H' q=>⟨xs.length - (i+1),by lia,by lia,D?,q⟩,?_⟩;rintro x H' ⟨rfl,hx⟩;exact hs i x Z H' AF (hx xs (hl i Z H' hi p)) p
end
end L2
namespace BB
open PySem L2
inductive Th where
 |knot (n:Xp) (ks:List Th)
 |call (s k:Int)
def q:Xp:=Xm "?"
def Th.kids:Th->List Th
 |.knot _ ks=>ks
 |.call _ _=>[]
mutual
def Th.size:Th->Nat
 |.knot _ ks=>aq ks+1
 |.call _ _=>1
def aq:List Th->Nat
 | []=>0
 |t::ts=>t.size+aq ts
end
mutual
def Th.tall:Th->Nat
 |.knot _ ks=>aJ ks+1
 |.call _ _=>1
def aJ:List Th->Nat
 | []=>0
 |t::ts=>max t.tall (aJ ts)
end
mutual
def Th.walk:Th->List Th
 |.knot n ks=>.knot n ks::walks ks
 |.call s k=>[.call s k]
def walks:List Th->List Th
 | []=>[]
 |t::ts=>t.walk++walks ts
end
theorem Th.walk_eq(t:Th):t.walk=t::walks t.kids:=by
 cases t with
 |knot n ks=>rw[Th.walk];rfl
 |call s k=>rw[Th.walk];simp[Th.kids,walks]
theorem Th.size_eq(t:Th):t.size=aq t.kids+1:=by
 cases t with
 |knot n ks=>rw[Th.size];rfl
 |call s k=>rw[Th.size];simp[Th.kids,aq]
theorem Th.tall_eq(t:Th):t.tall=aJ t.kids+1:=by
 cases t with
 |knot n ks=>rw[Th.tall];rfl
 |call s k=>rw[Th.tall];simp[Th.kids,aJ]
theorem i3:∀a b:List Th,walks (a++b)=walks a++walks b
 | [],b=>by simp[walks]
 |t::a,b=>by rw[X7,walks,walks,i3 a b,XO]
theorem bF:∀a b:List Th,aq (a++b)=aq a+aq b
 | [],b=>by simp[aq]
 |t::a,b=>by rw[X7,aq,aq,bF a b,Zv]
mutual
theorem Th.walk_len:∀t:Th,t.walk.length=t.size
 |.knot n ks=>by rw[Th.walk,Th.size,W0,jD ks]
 |.call s k=>by rw[Th.walk,Th.size];rfl
theorem jD:∀ts:List Th,(walks ts).length=aq ts
 | []=>rfl
 |t::ts=>by rw[walks,aq,Xd,t.walk_len,jD ts]
end
theorem Th.size_pos(t:Th):1<=t.size:=by rw[t.size_eq];lia
mutual
def At(H:Hp):Th->WQ->Prop
 |.knot n ks,a=>n≠q/\∃as:List WQ,H a=A? (.tup (.str n::as.map i!))/\Ats H ks as
 |.call s k,a=>H a=A? (.tup [.str q,.int s,.int k])
def Ats(H:Hp):List Th->List WQ->Prop
 | [],as=>as=[]
 |t::ts,as=>∃a r,as=a::r/\At H t a/\Ats H ts r
end
def KT(H H':Hp):Prop:=∀b xs,H b=A? (.tup xs)->H' b=A? (.tup xs)
theorem KT.trans(a:KT H H1)(b:KT H1 H2):KT H H2:=λc o h=>b c o (a c o h)
theorem Same.kt(h:k! H H'):KT H H':=λb xs e=>h b _ e
theorem dR{l:WQ}(h:H l=B?):KT H (upd H l o):=λb xs e=>by rw[ai (av e h)];exact e
theorem aI{l:WQ}(h:H l=A? (.lst xs)):KT H (upd H l o):=λb ys e=>by rw[ai (cp e h (by intro z;cases z))];exact e
mutual
theorem At.mono(k:KT H H'):∀{t:Th}{a:WQ},At H t a->At H' t a
 | .knot n ks,a,h=>by
   rw[At]at h |-;obtain⟨h0,as,h1,h2⟩:=h;exact⟨h0,as,k _ _ h1,Ats.mono k h2⟩
 | .call s c,a,h=>by
   rw[At]at h |-;exact k _ _ h
theorem Ats.mono(k:KT H H'):∀{ts:List Th}{as:List WQ},Ats H ts as->Ats H' ts as
 | [],as,h=>by rw[Ats]at h |-;exact h
 | t::ts,as,h=>by
   rw[Ats]at h |-;obtain⟨a,r,e,h1,h2⟩:=h;exact⟨a,r,e,At.mono k h1,Ats.mono k h2⟩
end
theorem Ats.nil:Ats H [] []:=by rw[Ats]
theorem Ats.cons{t:Th}{ts:List Th}(h1:At H t a)(h2:Ats H ts as):Ats H (t::ts) (a::as):=by rw[Ats];exact⟨a,as,D?,h1,h2⟩
theorem Ats.append:∀{ts us:List Th}{as bs:List WQ},Ats H ts as->Ats H us bs->Ats H (ts++us) (as++bs)
 | [],us,as,bs,h,g=>by rw[Ats]at h;subst h;exact g
 | t::ts,us,as,bs,h,g=>by
   rw[Ats]at h;obtain⟨a,r,rfl,h1,h2⟩:=h;exact .cons h1 (h2.append g)
theorem Ats.length:∀{ts:List Th}{as:List WQ},Ats H ts as->as.length=ts.length
 | [],as,h=>by rw[Ats]at h;subst h;rfl
 | t::ts,as,h=>by
   rw[Ats]at h;obtain⟨a,r,rfl,h1,h2⟩:=h;rw[W0,W0,h2.length]
theorem Ats.get:∀{ts:List Th}{as:List WQ}{i:Nat}{a:WQ},Ats H ts as->as[i]?=A? a->∃t,ts[i]?=A? t/\At H t a
 | [],as,i,a,h,e=>by rw[Ats]at h;subst h;simp at e
 | t::ts,as,i,a,h,e=>by
   rw[Ats]at h;obtain⟨b,r,rfl,h1,h2⟩:=h;cases i with
   |zero=>simp at e;subst e;exact⟨t,D?,h1⟩
   |succ i=>exact h2.get (i:=i) (by simpa using e)
end BB
open BB.Same renaming kt->j!
open BB.Th renaming knot->o!,size->p!,tall->t!,call->x!,walk_len->K!,kids->L!
variable{ts:List BB.Th}{head:BB.Th}{rows:List (List BB.Th)}
namespace BB
open PySem L2
def kO:Xp:=Xm "abcdefghijklmnopqrstuvwxyz"
theorem sE:kO.cps.toList=(XD 26).map (97+·):=by decide +kernel
theorem qG:kO.length=26:=by decide +kernel
theorem at_nonneg{xs:List α}{i:Int}{v:α}(h0:0<=i)(h:xs[i.toNat]?=A? v):atI xs i=A? v:=by
 have e:i=((i.toNat:Nat):Int):=by lia
 rw[e];exact cP h
theorem uL{i:Int}(h0:0<=i)(h1:i<26):atI kO.cps.toList i=A? (97+i.toNat):=by
 refine at_nonneg h0 ?_;rw[sE,WY,XJ (by lia)];rfl
def Low(x:Xp):Prop:=∀c∈x.cps.toList,97<=c/\c<=122
theorem yj{y:Xp}(hx:Low x)(hy:Low y):Low (x++y):=by
 intro c hc;have AQ:c∈(x.cps++y.cps).toList:=hc;rw[Array.toList_append,Xz]at AQ;rcases AQ with h|h
 .exact hx c h
 .exact hy c h
theorem xT{c:Nat}(h1:97<=c)(h2:c<=122):Low ⟨#[c]⟩:=by
 intro d hd;have:d=c:=by simpa using hd
 lia
theorem qH(h:Low x):x≠q:=by
 intro e;subst e;have:=h 63 (by decide +kernel);lia
end BB
namespace L2
open PySem PySem.Spec PyProof.Rows
theorem Same.seqT(e:Same H H')(h:SqT K H a xs):SqT K H' a xs:=by
 rcases h with(h|⟨o,h⟩)|h
 .exact .inl (.inl (e _ _ h))
 .exact .inl (.inr ⟨o,e _ _ h⟩)
 .exact .inr h
theorem ae(h:H p=B?)(o:HO):Same H (upd H p o):=λb u q=>by rw[ai (av q h)];exact q
@[elab_as_elim] theorem gU{G:Hp->Prop}(h:H a=B?)(k:∀H',k! H H'->H' a=A? o->G H'):G (upd H a o):=k _ (ae h _) ac
theorem ao{l:WQ}(h:Same H H1)(n:H l=B?):Same H (upd H1 l o):=λb u e=>by rw[ai (av e n)];exact h b u e
theorem xM{J:It}(zs:List α)(p:α->Bool)(f:α->V)(hz:zs.length=xs.length)(hn:xs.length<=1000000)
 (FL:∀i H2,Same H H2->i<xs.length->J.go i H2) (Bf:∀H2,Same H H2->J.stop xs.length H2) (Cm:∀(i:Nat)H2 x H3,Same H H2->i<xs.length->J.yld i H2 x H3->H3=H2/\xs[i]?=A? x)
 (Jl:∀(i:Nat)x z H2(R:Bool->Hp->Prop),xs[i]?=A? x->zs[i]?=A? z->Same H H2->R (p z) H2->tt ((cσ js Z).set 0 (A? x)) H2 R)
 (J3:∀(i:Nat)x z H2(R:VK),xs[i]?=A? x->zs[i]?=A? z->p z=C?->Same H H2->R (f z) H2->te ((cσ js Z).set 0 (A? x)) H2 R)
 (q:∀D,H D=B?->fin D (upd H D (.lst ((zs.filter p).map f)))) :
 ∀D,H D=B?->∃(n:Nat)(W:Nat->Hp->Prop),W 0 (upd H D (.lst []))/\g8 js (ak 0) tt te Z J D n W λH'=>fin D H':=by
 intro D hD;refine⟨xs.length,λi H2=>i<=xs.length/\H2=upd H D (.lst (((zs.take i).filter p).map f)),⟨Xg _,by simp⟩,?_⟩;rintro i H2 ⟨hi,rfl⟩;have sm:∀o,Same H (upd H D o):=λo=>ae hD o;by_cases h:i=xs.length
 .left;subst h;refine⟨Bf _ (sm _),?_⟩;rw[<-hz,Yo];exact q D hD
 .right;have AF:i<xs.length:=by lia
  refine⟨AF,FL i _ (sm _) AF,λx H1 hy=>?_⟩;obtain⟨rfl,hx⟩:=Cm i _ x H1 (sm _) AF hy;have N4:i<zs.length:=by lia
  have e1:zs[i]?=A? zs[i]:=WR N4
  have e2:(zs.take (i+1)).filter p=(zs.take i).filter p++(if p zs[i]=C? then[zs[i]]else[]):=by
   rw[XU,e1,ZD];show _++List.filter p [zs[i]]=_;rw[X1,List.filter_nil]
  refine Jl i x zs[i] _ _ hx e1 (sm _) ?_
  have hlen:(((zs.take i).filter p).map f).length<=1000000:=by
   rw[WM];have:=ZE p (zs.take i);rw[XF]at this;lia
  by_cases hp:p zs[i]=C?
  .rw[b! hp];refine J3 i x zs[i] _ _ hx e1 hp (sm _) ⟨_,ac,Nat.lt_of_le_of_lt hlen (by decide),AF,?_⟩;rw[kN,e2,b! hp,Xa];rfl
  .rw[a! hp];refine⟨AF,?_⟩;rw[e2,a! hp,XA]
theorem qx(zs:List α)(p:α->Bool)(f:α->V)(hS:SqT K H a xs)(hz:zs.length=xs.length)(hn:xs.length<=1000000)
 (Jl:∀(i:Nat)x z H2(R:Bool->Hp->Prop),xs[i]?=A? x->zs[i]?=A? z->Same H H2->R (p z) H2->tt ((cσ js Z).set 0 (A? x)) H2 R)
 (J3:∀(i:Nat)x z H2(R:VK),xs[i]?=A? x->zs[i]?=A? z->p z=C?->Same H H2->R (f z) H2->te ((cσ js Z).set 0 (A? x)) H2 R)
 (q:∀D,H D=B?->fin D (upd H D (.lst ((zs.filter p).map f)))) :
 ∀D,H D=B?->∃(n:Nat)(W:Nat->Hp->Prop),W 0 (upd H D (.lst []))/\g8 js (ak 0) tt te Z (Itt K a) D n W λH'=>fin D H' :=
 xM zs p f hz hn (λi H2 s hi=>⟨xs,xs[i],s.seqT hS,WR hi⟩) (λH2 s=>⟨xs,s.seqT hS,WV _⟩) (λi H2 x H3 s hi hy=>⟨hy.1,hy.2 xs (s.seqT hS)⟩) Jl J3 q
end L2
namespace BB
open PySem L2
theorem at0{x:α}{xs:List α}:atI (x::xs) 0=A? x:=cP (j:=0) rfl
theorem at1{x y:α}{xs:List α}:atI (x::y::xs) 1=A? y:=cP (j:=1) rfl
theorem at2{x y z:α}{xs:List α}:atI (x::y::z::xs) 2=A? z:=cP (j:=2) rfl
theorem at3{x y z u:α}{xs:List α}:atI (x::y::z::u::xs) 3=A? u:=cP (j:=3) rfl
theorem dP(x:V)(xs:List V):jO (x::xs) (A? 1) B?=xs:=by
 unfold jO;simp[I!]
theorem bI:∀ts:List Th,ts.length<=aq ts
 | []=>Xg _
 | t::ts=>by
   have:=t.size_pos;have:=bI ts;rw[W0,aq];lia
theorem mY(ts:List Th):aq ts.reverse=aq ts:=by
 induction ts with
 |nil=>rfl
 |cons x xs ih=>rw[Yb,bF,ih,aq,aq,aq];lia
theorem bE(h:n<=1000000):n<Xf:=Nat.lt_of_le_of_lt h (by decide)
theorem cQ(h:n<=1000000):n<=Xf:=ZS (bE h)
theorem lnE(h:Nat.ble n 1000000=C?):n<=Xf:=cQ (Nat.le_of_ble_eq_true h)
theorem uAE:(upd H a (.lst (as.map i!++[.ref b]))) a=A? (.lst ((as++[b]).map i!)):=by rw[ac,Xa];rfl
theorem lbE{f:α->β}{l:List α}(h:l.length<=1000000):(l.map f).length<Xf:=bE (by rw[WM];exact h)
theorem int_at{k:Int}(h0:0<=k)(h:k<(ns.length:Int)):atI (ns.map q!) k=A? (.int (ns.getD k.toNat 0)):=by
 refine at_nonneg h0 ?_;have hk:k.toNat<ns.length:=by lia
 rw[WY,WR hk,List.getD_eq_getElem?_getD,WR hk];rfl
section
variable{G:α->β->Prop}
theorem P2.append:∀{a c:List α}{b d:List β},Xk F a b->Xk F c d->Xk F (a++c) (b++d)
 |_,_,_,_,.nil,h=>h
 |_,_,_,_,.cons r t,h=>.cons r (P2.append t h)
theorem P2.get:∀{a:List α}{b:List β}{i:Nat}{x:α},Xk F a b->a[i]?=A? x->∃y,b[i]?=A? y/\F x y
 |_,_,_,_,.nil,e=>by simp at e
 |_,_,0,_,.cons r _,e=>by simp at e;subst e;exact⟨_,D?,r⟩
 | _,_,i+1,x,.cons _ t,e=>by
   obtain⟨u,h1,h2⟩:=P2.get (i:=i) (x:=x) t (by simpa using e);exact⟨u,by simpa using h1,h2⟩
theorem P2.get':∀{a:List α}{b:List β}{i:Nat}{y:β},Xk F a b->b[i]?=A? y->∃x,a[i]?=A? x/\F x y
 |_,_,_,_,.nil,e=>by simp at e
 |_,_,0,_,.cons r _,e=>by simp at e;subst e;exact⟨_,D?,r⟩
 | _,_,i+1,y,.cons _ t,e=>by
   obtain⟨u,h1,h2⟩:=P2.get' (i:=i) (y:=y) t (by simpa using e);exact⟨u,by simpa using h1,h2⟩
theorem P2.drop:∀{a:List α}{b:List β}(n:Nat),Xk F a b->Xk F (a.drop n) (b.drop n)
 |_,_,0,r=>r
 |_,_,_+1,.nil=>.nil
 |_,_,n+1,.cons _ t=>P2.drop n t
theorem P2.mp(f:∀x y,F x y->G x y):∀{a:List α}{b:List β},Xk F a b->Xk G a b
 |_,_,.nil=>.nil
 |_,_,.cons r t=>.cons (f _ _ r) (P2.mp f t)
end
def KAt(H:Hp)(k:Xp×Int)(a:WQ):Prop:=H a=A? (.tup [.str k.1,.int k.2])
def KsAt(H:Hp)(ks:List (Xp×Int))(as:List WQ):Prop:=Xk (KAt H) ks as
theorem KsAt.mono(k:KT H H'){ks:List (Xp×Int)}(h:KsAt H ks as):KsAt H' ks as:=P2.mp (λx y e=>k _ _ e) h
end BB
open BB.P2 renaming append->r!,mp->v!,get'->y!,get->B!
namespace L2
open PySem
theorem cr{t u:TS}(R:St->Hp->Prop)(h1:∀k:St->Hp->Prop,(∀Ab H',R Ab H'->k Ab H')->t {D with nx:=k} Z H)(h2:∀Ab H',R Ab H'->u D Ab H'):wM t u D Z H:=h1 _ h2
theorem cA{c:TT}{t u:TS}(R:Bool->Hp->Prop)(h1:∀k:Bool->Hp->Prop,(∀b H',R b H'->k b H')->c Z H k)(h2:∀H',R C? H'->t D Z H')(h3:∀H',R Cf H'->u D Z H'):aaz c t u D Z H :=
 h1 _ λb H' r=>by
  cases b with
  |true=>rw[b! rfl];exact h2 H' r
  |false=>rw[a! W6];exact h3 H' r
end L2
namespace BB
open PySem L2
section
variable{ext:Th->List V}{t:Th}{es:List WQ}
end
theorem filter_tt(xs:List α):xs.filter (λ_=>C?)=xs:=by
 induction xs with
 |nil=>rfl
 |cons x xs ih=>rw[X1,b! rfl,ih]
theorem bL:∀{ts:List Th}{t:Th},t∈ts->t.tall<=aJ ts
 | u::ts,t,h=>by
   rw[aJ];rcases W8.mp h with rfl|h
   .lia
   .have:=bL h;lia
theorem take_snoc{xs:List α}{x:α}(h:xs[n]?=A? x):xs.take (n+1)=xs.take n++[x]:=by rw[XU,h];rfl
theorem aG{xs:List WQ}{x:V}(h:(xs.map i!)[i]?=A? x):∃a,x=.ref a/\xs[i]?=A? a:=by
 rw[WY]at h;obtain⟨a,h1,h2⟩:=XM.mp h;exact⟨a,h2.symm,h1⟩
end BB
namespace PySem
open Sem (wp)
theorem bb_tupNext{cur:WQ}{x:WT}(g:s.1.IsTupleIter cur tp i)(gt:s.1.IsTuple tp items)(hx:items[i]?=A? x)
 (fin:∀h',h'.IsTupleIter cur tp (i+1)->YF cur s.1 h'->Q x {s with heap:=h'}):W7 (Xw prog w) A (X3 (.ref cur)) Q E s:=by
 obtain⟨ob,e1,e2,e3⟩:=id g;obtain⟨ot,e4,_,nt,e5⟩:=gt;unfold X3;refine WN (X4 (name:=Xm "__next__") g.typeIs F.slot_tuple_iterator_next (X8 F.slot_tuple_iterator_next g.typeIs F.entry_tuple_iterator_next ?_ (F.args_tuple_iterator_next_1 _)));show W7 _ _ (field (.ref cur) 0 >>= _) _ _ s;refine WN (XY e1 e3 (x:=.ref tp) rfl ?_);show W7 _ _ (if(Xl tp == Yp)=C? then _ else _) _ _ s;rw[a! (show¬((Xl tp == Yp)=C?)from W6)];show W7 _ _ (field (.ref cur) 1 >>= _) _ _ s;refine WN (XY e1 e3 (x:=.int i 0) rfl ?_);show W7 _ _ (seqItems? (.ref tp) >>= _) _ _ s;refine WN (YC e4 e5 ?_);simp only[Xy,hx];refine WN (wpAny_setField e1 e3 (by simp) (WW ⟨x,rfl,WW (fin _ ?_ (Zi ..))⟩));exact⟨_,XQ _ e1 (Obj.isFreed_of_fields (Zo e3 _)),(Obj.cls_mapFields ..).trans e2,by rw[Zo e3];simp[Y7]⟩
theorem bb_tupEnd{cur:WQ}(calm:A.handled=B?)(g:s.1.IsTupleIter cur tp i)(gt:s.1.IsTuple tp items)(hx:items[i]?=B?)
 (fin:∀h' e,Heap.ExtBut cur s.1 h'->(∃o,h'.get? e=A? o/\o.cls=.type "StopIteration")->E (.ref e) {s with heap:=h'}):W7 (Xw prog w) A (X3 (.ref cur)) Q E s:=by
 obtain⟨ob,e1,e2,e3⟩:=id g;obtain⟨ot,e4,_,nt,e5⟩:=gt;unfold X3;refine WN (X4 (name:=Xm "__next__") g.typeIs F.slot_tuple_iterator_next (X8 F.slot_tuple_iterator_next g.typeIs F.entry_tuple_iterator_next ?_ (F.args_tuple_iterator_next_1 _)));show W7 _ _ (field (.ref cur) 0 >>= _) _ _ s;refine WN (XY e1 e3 (x:=.ref tp) rfl ?_);show W7 _ _ (if(Xl tp == Yp)=C? then _ else _) _ _ s;rw[a! (show¬((Xl tp == Yp)=C?)from W6)];show W7 _ _ (field (.ref cur) 1 >>= _) _ _ s;refine WN (XY e1 e3 (x:=.int i 0) rfl ?_);show W7 _ _ (seqItems? (.ref tp) >>= _) _ _ s;refine WN (YC e4 e5 ?_);simp only[Xy,hx];refine WN (Zx (WN (wpAny_setField e1 e3 (by simp) ?_)));show W7 _ _ (newExc (.type "StopIteration") [] >>= _) _ _ _;refine WN ?_;simp only[newExc,newTuple];refine WN (Yi ?_ (by size_fits));refine WN (m:=firstArgMember _ _) (wpAny_of_eq (a:=Yp) (by first|rfl|(simp only[firstArgMember];rfl)) ?_);refine Yi ?_ (by size_fits);simp only[raiseNew];refine WN (wpAny_handled ?_)
 first|rw[show A.in1.handled=B? from calm]|rw[calm]
 refine WN (WW (wpAny_throw ?_));exact fin _ _ (((Zi ..).extBut.push _).push _) ⟨_,W4 _ rfl,rfl⟩
theorem bb_drawsT(calm:A.handled=B?)(cur tp:WQ)(ne:tp≠cur)(items:Array WT) :
 Draws prog w A cur [cur,tp] items.size (λi v=>items[i]?=A? v) (λi h=>h.IsTupleIter cur tp i/\h.IsTuple tp items) where
 live:=λ_ _ st=>let⟨o,e,_⟩:=st.1;⟨o,e⟩
 frame:=λ_ _ _ st k=>⟨let⟨o,e,r⟩:=st.1;⟨o,k cur (by simp) o e,r⟩,let⟨o,e,r⟩:=st.2;⟨o,k tp (by simp) o e,r⟩⟩
 item:=λi s Q E hi st q=>by
  refine bb_tupNext st.1 st.2 (x:=items[i]) (by simp[hi]) λh' g' sb=>?_;exact q _ h' s.toks (by simp[hi]) ⟨g',st.2.extBut sb.extBut ne⟩ sb
 done:=λs Q E st e=>bb_tupEnd calm st.1 st.2 (by simp) e
theorem bb_meetsEnumT(tp:WQ)(items:Array WT)(n:Nat)(N5:Option WQ)(sl:Array (Option WT)) :
 Meets (Zs.«enumerate.__new__» ⟨[.type "enumerate",.ref tp],[]⟩) (λ_ R s=>s.1.get? tp=A? {cls:=.type "tuple",dict:=N5,data:=.seq items n,slots:=sl} /\
  R (.ok (.ret (.ref (s.1.push {cls:=.type "tuple_iterator",data:=.fields #[.ref tp,.int 0 0]}).objs.size)))
    {s with heap:=(s.1.push {cls:=.type "tuple_iterator",data:=.fields #[.ref tp,.int 0 0]}).push {cls:=.type "enumerate",data:=.fields #[.none,.bool Cf,.ref s.1.1.size,Y7 0,.none,.none]}}) :=
 .of_wp λprog w A R s h=>by
  obtain⟨hp,g,d,tk,os⟩:=s;obtain⟨gt,fin⟩:=h;have su:=sub_enumerate;have gT:Heap.IsTuple (Shared.heap ⟨hp,g,d,tk,os⟩) tp items:=⟨_,gt,rfl,n,rfl⟩
  wp_walk using Zt gt
  refine wpAny_stack_any λst=>WW ?_;split
  .rename_i c _ _ _ _ _
   cases(c == Zn "enumerate")
   .wp_walk using Zt gt,ZQ gT
    exact⟨_,D?,fin⟩
   .wp_walk using Zt gt,ZQ gT
    exact⟨_,D?,fin⟩
  .wp_walk using Zt gt,ZQ gT
   exact⟨_,D?,fin⟩
theorem bb_callEnumT(gT:s.1.IsTuple tp items)
 (fin:∀h',IsEnum h' (s.1.1.size+1) s.1.1.size 0 .none->h'.IsTupleIter s.1.1.size tp 0->h'.objs.size=s.1.1.size+2 ->
  (∀b o,s.1.get? b=A? o->h'.get? b=A? o)->Q (.ref (s.1.1.size+1)) {s with heap:=h'}):W7 (Xw prog w) A (call (.type "enumerate") [.ref tp]) Q E s:=by
 obtain⟨⟨c,N5,dt,sl⟩,e1,e2,n,e3⟩:=gT;replace e2:c=.type "tuple":=e2;replace e3:dt=.seq items n:=e3;subst e2 e3;refine callType_new F.called_enumerate (by decide) (F.typeCall_enumerate_1 _) (F.newCall_enumerate_1 _) (λobj=>F.args_object_init_2 obj _) F.entry_enumerate_new (bb_meetsEnumT tp items n N5 sl) ⟨e1,?_⟩;have z:(s.1.push {cls:=.type "tuple_iterator",data:=.fields #[.ref tp,.int 0 0]}).objs.size=s.1.1.size+1:=X5 ..;show _/\_;rw[z]
 have ge:IsEnum ((s.1.push {cls:=.type "tuple_iterator",data:=.fields #[.ref tp,.int 0 0]}).push {cls:=.type "enumerate",data:=.fields #[.none,.bool Cf,.ref s.1.1.size,Y7 0,.none,.none]}) (s.1.1.size+1) s.1.1.size 0 .none:=by
  have t:=W4 (s.1.push {cls:=.type "tuple_iterator",data:=.fields #[.ref tp,.int 0 0]}) (o:={cls:=.type "enumerate",data:=.fields #[.none,.bool Cf,.ref s.1.1.size,Y7 0,.none,.none]}) rfl;rw[z]at t;exact t
 exact⟨⟨_,ge,D?⟩,fin _ ge ⟨_,WU _ (W4 _ rfl),D?,D?⟩ (by rw[X5,z]) λb o x=>WU _ (WU _ x)⟩
end PySem
namespace L2
open PySem PySem.Spec PyProof.Rows
theorem Inv.turnedL{X:Cx}(I:Inv X U Z H s)(k:∀b o,b∉fp->s.1.get? b=A? o->h'.get? b=A? o)(hf:∀b∈fp,jn X U H b) :
 Inv X U Z H {s with heap:=h',toks:=t'}:=by
 have JM:∀b u,H b=A? u->b∉fp:=λb u e z=>by rw[(hf b z).1]at e;cases e
 refine I.step (g':=s.gens) (d':=s.drawn) (ch:=fp) (λb hb=>?_) (λb o _ _ hc e _=>k b o hc e) (λb o _ _ hc e _=>⟨o.slots,k b o hc e⟩) (λ_ _ _ _ n=>n)
  (λb o hc e=>⟨o,k b o hc e⟩) (λ_ _ e=>e) (λ_ _ _ e=>e) (λb ps e=>⟨#[],by rw[e];simp⟩) (λm hm=>?_) (λb u e=>?_) I.bare
 .obtain⟨f0,f1,f2,f3,f4,f5⟩:=hf b hb;exact⟨f3,f1,f4,f5⟩
 .obtain⟨o,es,ep,ho,r⟩:=hm;exact⟨o,es,ep,k _ o (λz=>(hf _ z).2.1 rfl) ho,r⟩
 .refine(I.hok b u e).stay (λc v hc q=>k c v ?_ q) (λ_ q=>q) λ_ _ q=>q;rcases hc with z|z
  .rw[z];exact JM b u e
  .exact JM c _ z
def Ite(K:WO)(a:WQ):It:=⟨λi H=>∃xs x,SqT K H a xs/\xs[i]?=A? x,λi H x H'=>∃p y,H p=B?/\x=.ref p/\H'=upd H p (.tup [.int (i:Nat),y])/\∀xs,SqT K H a xs->xs[i]?=A? y,λi H=>∃xs,SqT K H a xs/\xs.length=i⟩
theorem uS{k1}(a e it:WQ):Turn P w K (.Tuple elts k1 pos) (Ite K a) [e,it] e (λi h=>(∃old,IsEnum h e it ((i:Nat):Int) old)/\h.IsTupleIter it a i) where
 mem:=by simp
 obj:=λi h st b hb=>by
  obtain⟨⟨old,he⟩,o,e1,e2,e3⟩:=st;rcases W8.mp hb with rfl|hb
  .exact⟨_,he,λv z=>by cases z⟩
  .have:b=it:=by simpa using hb
   subst this;exact⟨o,e1,λv z=>by rw[e3]at z;cases z⟩
 keep:=λi h h' st k=>by
  obtain⟨⟨old,he⟩,o,e1,e2⟩:=st;exact⟨⟨old,k e (by simp) _ he⟩,o,k it (by simp) _ e1,e2⟩
 item:=by
  intro X hP hw hK hc i U s Z H E I hf st hg;subst hP hw hK;obtain⟨xs,x,hq,hx⟩:=hg;obtain⟨its,rv,p,hz⟩:=I.tuple hq;obtain⟨u,hu,ru⟩:=rv.get hx;obtain⟨⟨old,he⟩,hi⟩:=st
  have HC:e≠it:=by
   rintro rfl;obtain⟨o,e1,e2,_⟩:=hi;rw[he]at e1;cases e1;exact g! (YR e2) (by decide)
  have HE:a≠it:=by
   rintro rfl;obtain⟨o,e1,e2,_⟩:=hi;obtain⟨o',CT,CA,_⟩:=p;rw[CT]at e1;cases e1;rw[CA]at e2;exact g! (YR e2) (by decide)
  have N6:a≠e:=by
   rintro rfl;obtain⟨o',CT,CA,_⟩:=p;rw[he]at CT;cases CT;exact g! (YR CA) (by decide)
  have Ai:i<its.toArray.size:=by
   have:=(glE hu);simpa using this
  have N7:e<s.1.1.size:=Xb he;have CU:it<s.1.1.size:=by obtain⟨o,e1,_⟩:=hi;exact Xb e1
  refine wpAny_pyNext_enum_itemD (bb_drawsT (A:=X.A.in1) (show X.A.in1.handled=B? from I.ok.hd hc) it a HE its.toArray) he ⟨hi,p⟩ Ai HC (by simp[HC,N6.symm]) λy h1 tk hy ho N8 hT hsz hk=>?_
  have N9:y=u:=by
   have:its[i]?=A? y:=by simpa using hy
   rw[hu]at this;exact(Xn this).symm
  subst N9;refine⟨_,D?,wpAny_letOwnedTupleGo_enum ho λh2 N' DX=>?_⟩;replace DX:YF e h1 h2:=DX
  have Aq:∀b∈[e,it],b<s.1.1.size:=λb hb=>by
   rcases W8.mp hb with rfl|hb
   .exact N7
   .have:b=it:=by simpa using hb
    subst this;exact CU
  have J4:H s.1.1.size=none:=I.hok.fresh (WV _)
  have IA:Inv X U Z (upd H s.1.1.size (.tup [.int (i:Nat),x])) {s with heap:=s.1.push {cls:=.type "tuple",data:=.seq #[.int (i:Nat) tk,y]},toks:=tk} :=
   I.laid (o:=.tup [.int (i:Nat),x]) (λb ob q=>WU _ q) (WV _) ⟨by show 2<=Xf;decide,[.int (i:Nat) tk,y],0,.cons ⟨tk,rfl⟩ (.cons ru .nil),W4 _ rfl⟩
  refine⟨.ref s.1.1.size,upd H s.1.1.size (.tup [.int (i:Nat),x]),?_,D?,⟨_,x,J4,D?,D?,λys J1=>by rw[I.tuple_inj J1 hq];exact hx⟩,⟨⟨y,by simpa using N'⟩,?_⟩,λb hb=>?_⟩
  .have IB:Inv X U Z (upd H s.1.1.size (.tup [.int (i:Nat),x])) {s with heap:=h2,toks:=tk+1}:=by
    refine Inv.turnedL (s:={s with heap:=s.1.push {cls:=.type "tuple",data:=.seq #[.int (i:Nat) tk,y]},toks:=tk}) (h':=h2) (fp:=[e,it]) (t':=tk+1) IA (λb o hb q=>?_) λb hb=>?_
    .have DT:b≠e:=λz=>hb (by simp[z]);have Oa:b≠it:=λz=>hb (by simp[z]);rw[DX.2 b DT];by_cases hb2:b=s.1.1.size
     .subst hb2;rw[hT];have q':(s.1.push {cls:=.type "tuple",data:=.seq #[.int (i:Nat) tk,y]}).get? s.1.1.size=A? o:=q;rw[W4 _ rfl]at q';exact q'
     .have AV:b<(s.1.push {cls:=.type "tuple",data:=.seq #[.int (i:Nat) tk,y]}).objs.size:=Xb q;rw[X5]at AV;refine hk b o DT Oa ?_;have q':(s.1.push {cls:=.type "tuple",data:=.seq #[.int (i:Nat) tk,y]}).get? b=A? o:=q;rw[Heap.get?_push_ne _ _ _ hb2]at q';exact q'
    .obtain⟨f0,f1⟩:=hf b hb;exact⟨by rw[ai (XC (Aq b hb))];exact f0,f1⟩
   exact IB
  .obtain⟨o,e1,r⟩:=N8.1;exact⟨o,(DX.2 it (YQ HC)).trans e1,r⟩
  .rw[ai (XC (Aq b hb))];exact(hf b hb).1
 done:=by
  intro X hP hw hK hc i U s Z H E I hf st hg;subst hP hw hK;obtain⟨xs,hq,hx⟩:=hg;obtain⟨its,rv,p,hz⟩:=I.tuple hq;obtain⟨⟨old,he⟩,hi⟩:=st
  have HE:a≠it:=by
   rintro rfl;obtain⟨o,e1,e2,_⟩:=hi;obtain⟨o',CT,CA,_⟩:=p;rw[CT]at e1;cases e1;rw[CA]at e2;exact g! (YR e2) (by decide)
  have hn:its.toArray.size=i:=by
   have:=rv.length;rw[W3];lia
  refine wpAny_pyNext_enum_endD (bb_drawsT (A:=X.A.in1) (show X.A.in1.handled=B? from I.ok.hd hc) it a HE its.toArray) he (by rw[hn];exact⟨hi,p⟩) λh' eb=>⟨rfl,?_⟩;exact I.turnedL (fp:=[e,it]) (t':=s.toks) (λb o hb q=>eb b o (λz=>hb (by simp[z])) q) hf
 self:=λ_ _ _ _ _ st h=>by
  obtain⟨⟨old,he⟩,_⟩:=st;exact wpAny_pyIter_enum he h
section
variable{X:Cx}{p2 Ay:Z2}
def aar(K:WO)(tl:TE):TI:=λZ H R=>tl Z H λx H1=>∃a,x=.ref a/\(∃xs,SqT K H1 a xs)/\R (Ite K a) H1
theorem pf{k1}(g2:Gl X "enumerate")(m2:X.mg "enumerate"=B?)(he:PE X e te)(h2:XG [e] X.env=[(Cf,Y2 e X.env)]:=by rfl):PI X (.Tuple elts k1 pos) (.Call (.Name "enumerate" p2) [e] [] Ay) (aar X.K te):=by
 intro U s Z H R I h;refine Ym (dh I g2 m2 boot_enumerate (X2 ?_ h2 rfl));rw[h2];show W7 _ _ (spliced ((Cf,Y2 e X.env)::[])) _ _ s;refine YJ (thn (he U s Z H _ I h) λu s1⟨x,H1,I1,r1,a,ex,⟨xs,hq⟩,q⟩=>Zh ?_);subst ex;cases r1;obtain⟨its,rv,p,hz⟩:=I1.tuple hq;refine bb_callEnumT (show s1.1.IsTuple a its.toArray from p) λh' g1 g2 g3 g4=>?_;refine wpAny_pyIter_enum (s:={s1 with heap:=h'}) g1 ?_;refine⟨s1.1.1.size+1,[s1.1.1.size+1,s1.1.1.size],_,_,H1,D?,I1.kept (t':=s1.toks) g4,uS a _ _,⟨⟨_,g1⟩,g2⟩,λb hb=>?_,q⟩
 have AB:s1.1.1.size<=b:=by
  rcases W8.mp hb with rfl|hb
  .lia
  .have:b=s1.1.1.size:=by simpa using hb
   exact Nat.le_of_eq this.symm
 exact I1.fpOk AB (I1.hok.fresh AB)
inductive wG(K:WO)(x:V)(y:V)(H:Hp)(Q:VK):Prop
 |mk (a:_) (b:_) (xs:_) (ys:_) (CI:x=.ref a) (CJ:y=.ref b) (Eh:SqT K H a xs) (Fh:SqT K H b ys) (Hr:xs.length+ys.length<=Xf) (Ru:(xs=[]->Q (.ref b) H)) (zz6:(xs≠[]->ys=[]->Q (.ref a) H)) (zz7:(xs≠[]->ys≠[]->∀p,H p=B?->Q (.ref p) (upd H p (.tup (xs++ys))))):wG K x y H Q
def m7(K:WO):R2:=wG K
theorem cY:OpR X (binaryOp .Add) (m7 X.K):=by
 intro U s Z H x y v u Q I rx ry h;obtain⟨a,b,xs,ys,e1,e2,ha,hb,hz,q0,q1,q2⟩:=h;by_cases hx:xs=[]
 .subst e1 e2;cases rx;cases ry;obtain⟨its,r1,p1,_⟩:=I.tuple ha;obtain⟨Am,r2,p2,_⟩:=I.tuple hb;have hi:its=[]:=r1.nil_iff.mpr hx;obtain⟨⟨cls,dd,data,sl⟩,ho,hc,n,hd⟩:=p1;obtain⟨⟨JT,Jh,data2,Ji⟩,FI,B5,n2,hd2⟩:=p2;simp only at hc hd B5 hd2;subst hc hd B5 hd2;exact concat_meets ⟨_,ho,rfl⟩ ⟨_,FI,rfl⟩ noFill_tuple_add seq_tuple_add PySem.F.slot_tuple_add PySem.F.entry_tuple_add (PySem.F.args_tuple_add_2 _ _) (tuple_addW0 a b its.toArray Am.toArray n n2 dd Jh sl Ji (by simp[hi])) ⟨ho,FI,⟨.ref b,H,I,rfl,q0 hx⟩⟩
 .exact xH U s Z H x y v u Q I rx ry ⟨a,b,xs,ys,e1,e2,ha,hb,hx,hz,q1 hx,q2 hx⟩
end
end L2
namespace PySem
open Sem (wp)
abbrev tzH1(h:Yh)(l1:WQ):Yh:=h.push {cls:=.type "tuple_iterator",data:=.fields #[.ref l1,.int 0 0]}
abbrev tzH2(h:Yh)(l1 l2:WQ):Yh:=(tzH1 h l1).push {cls:=.type "tuple_iterator",data:=.fields #[.ref l2,.int 0 0]}
abbrev tzH3(h:Yh)(l1 l2:WQ):Yh:=(tzH2 h l1 l2).push {cls:=.type "tuple",data:=.seq #[.ref h.objs.size,.ref (tzH1 h l1).objs.size]}
abbrev tzH4(h:Yh)(l1 l2:WQ):Yh:=(tzH3 h l1 l2).push {cls:=.type "tuple",data:=.seq #[.none,.none]}
abbrev tzH5(h:Yh)(l1 l2:WQ):Yh:=(tzH4 h l1 l2).push {cls:=.type "zip",data:=.fields #[.none,.bool Cf,.bool Cf,.ref (tzH2 h l1 l2).objs.size,.ref (tzH3 h l1 l2).objs.size]}
theorem IsTuple.push'{l:WQ}{xs:Array WT}(x:h.IsTuple l xs)(o:Zb):(h.push o).IsTuple l xs:=let⟨ob,e,r⟩:=x;⟨ob,WU _ e,r⟩
theorem bb_meets_zip(l1 l2:WQ)(xs ys:Array WT) :
 Meets (Zs.«zip.__new__» ⟨[.type "zip",.ref l1,.ref l2],[]⟩) (λ_ R s=>s.1.IsTuple l1 xs/\s.1.IsTuple l2 ys /\
  R (.ok (.ret (.ref (tzH4 s.1 l1 l2).objs.size))) {s with heap:=tzH5 s.1 l1 l2}) :=
 .of_wp λprog w A R s h=>by
  obtain⟨hp,g,d,tk,os⟩:=s;obtain⟨Cn,Bz,h⟩:=h;have CV:=sub_zip;have Ur:Heap.IsTuple (Shared.heap ⟨hp,g,d,tk,os⟩) l1 xs:=Cn;have Ob:Heap.IsTuple (Shared.heap ⟨hp.push {cls:=.type "tuple_iterator",data:=.fields #[.ref l1,.int 0 0]},g,d,tk,os⟩) l2 ys:=IsTuple.push' Bz _
  wp_walk using ZQ Ur,ZQ Ob
  exact⟨_,D?,h⟩
theorem bb_call_zip{xs:Array WT}(Cn:s.1.IsTuple l1 xs)(Bz:s.1.IsTuple l2 ys)
 (h:∀h',IsZip h' (s.1.1.size+4) (s.1.1.size+2) (s.1.1.size+3) .none->Zk h' (s.1.1.size+2) (.ref s.1.1.size) (.ref (s.1.1.size+1)) ->
  Zk h' (s.1.1.size+3) .none .none->h'.IsTupleIter s.1.1.size l1 0->h'.IsTupleIter (s.1.1.size+1) l2 0->h'.objs.size=s.1.1.size+5 ->
  (∀c o,s.1.get? c=A? o->h'.get? c=A? o)->Q (.ref (s.1.1.size+4)) {s with heap:=h'}) :
 W7 (Xw prog w) A (call (.type "zip") [.ref l1,.ref l2]) Q E s:=by
 refine callType_new F.called_zip (by decide) (F.typeCall_zip_2 _ _) (F.newCall_zip_2 _ _) (λobj=>F.args_object_init_3 obj _ _) F.entry_zip_new
  (bb_meets_zip l1 l2 xs ys) ⟨Cn,Bz,?_⟩
 have z1:(tzH1 s.1 l1).objs.size=s.1.1.size+1:=X5 ..;have z2:(tzH2 s.1 l1 l2).objs.size=s.1.1.size+2:=by rw[X5,z1]
 have z3:(tzH3 s.1 l1 l2).objs.size=s.1.1.size+3:=by rw[X5,z2]
 have z4:(tzH4 s.1 l1 l2).objs.size=s.1.1.size+4:=by rw[X5,z3]
 have z5:(tzH5 s.1 l1 l2).objs.size=s.1.1.size+5:=by rw[X5,z4]
 have g5:(tzH5 s.1 l1 l2).get? (tzH4 s.1 l1 l2).objs.size=A? _:=W4 _ rfl;have g4:(tzH5 s.1 l1 l2).get? (tzH3 s.1 l1 l2).objs.size=A? _:=WU _ (W4 _ rfl);have g3:(tzH5 s.1 l1 l2).get? (tzH2 s.1 l1 l2).objs.size=A? _:=WU _ (WU _ (W4 _ rfl));have g2:(tzH5 s.1 l1 l2).get? (tzH1 s.1 l1).objs.size=A? _:=WU _ (WU _ (WU _ (W4 _ rfl)));have g1:(tzH5 s.1 l1 l2).get? s.1.1.size=A? _:=WU _ (WU _ (WU _ (WU _ (W4 _ rfl))));show _/\_;rw[z2,z3,z4]at g5;rw[z1,z2]at g3;rw[z3]at g4;rw[z1]at g2;rw[z4]
 exact⟨⟨_,g5,D?⟩,h _ g5 g3 g4 ⟨_,g1,D?,D?⟩ ⟨_,g2,D?,D?⟩ z5 λc o x =>
  WU _ (WU _ (WU _ (WU _ (WU _ x))))⟩
structure ZSt(xs ys:Array WT)(z TI TO i1 i2 l1 l2:WQ)(k:Nat)(h:Yh):Prop where
 ap:ZipApart z TI TO i1 i2 l1 l2
 zip:IsZip h z TI TO .none\/∃(T:WQ)(b:Bool)(x y:WT),h.get? z=A? {cls:=.type "zip",data:=.fields #[Y7 T,.bool b,.bool Cf,.ref TI,.ref TO]}/\Zk h T x y/\T≠TO
 hTI:Zk h TI (.ref i1) (.ref i2)
 hTO:∃a b,Zk h TO a b
 h1:h.IsTupleIter i1 l1 k
 h2:h.IsTupleIter i2 l2 k
 t1:h.IsTuple l1 xs
 t2:h.IsTuple l2 ys
theorem ZSt.typeIs{xs:Array WT}{TI TO:WQ}{k:Nat}(x:ZSt xs ys z TI TO i1 i2 l1 l2 k s.1):s.TypeIs (.ref z) "zip":=by
 rcases x.zip with e|⟨T,b,u,v,e,_⟩
 .exact⟨_,e,D?⟩
 .exact⟨_,e,D?⟩
theorem IsTuple.but{l:WQ}{xs:Array WT}(x:h.IsTuple l xs)(e:Heap.ExtBut c h h')(n:l≠c):h'.IsTuple l xs:=let⟨ob,q,r⟩:=x;⟨ob,e _ _ n q,r⟩
theorem IsTupleIter.but{i l:WQ}{k:Nat}(x:h.IsTupleIter i l k)(e:Heap.ExtBut c h h')(n:i≠c):h'.IsTupleIter i l k:=let⟨ob,q,r⟩:=x;⟨ob,e _ _ n q,r⟩
theorem ZSt.frame{xs:Array WT}{TI TO:WQ}{k:Nat}(x:ZSt xs ys z TI TO i1 i2 l1 l2 k h)
 (e:∀b o,o.cls≠.type "list"->h.get? b=A? o->h'.get? b=A? o):ZSt xs ys z TI TO i1 i2 l1 l2 k h':=by
 obtain⟨D,hz,hTI,⟨a,b,hTO⟩,⟨o1,a1,a2,a3⟩,⟨o2,b1,b2,b3⟩,⟨o3,c1,c2,c3⟩,⟨o4,d1,d2,d3⟩⟩:=x;refine⟨D,?_,e _ _ (by simp) hTI,⟨a,b,e _ _ (by simp) hTO⟩,⟨o1,e _ _ (by rw[a2];simp) a1,a2,a3⟩,⟨o2,e _ _ (by rw[b2];simp) b1,b2,b3⟩,⟨o3,e _ _ (by rw[c2];simp) c1,c2,c3⟩,⟨o4,e _ _ (by rw[d2];simp) d1,d2,d3⟩⟩;rcases hz with g|⟨T,b,u,v,g,g2,g3⟩
 .exact .inl (e _ _ (by simp) g)
 .exact .inr ⟨T,b,u,v,e _ _ (by simp) g,e _ _ (by simp) g2,g3⟩
open Sem (wp)
theorem bb_zip_itemA{TI TO:WQ}{k:Nat}{xs:Array WT}{x y a b:WT}(D:ZipApart z TI TO i1 i2 l1 l2)
 (hz:IsZip s.1 z TI TO .none) (hTI:Zk s.1 TI (.ref i1) (.ref i2)) (hTO:Zk s.1 TO a b)
 (h1:s.1.IsTupleIter i1 l1 k) (h2:s.1.IsTupleIter i2 l2 k) (Cn:s.1.IsTuple l1 xs) (Bz:s.1.IsTuple l2 ys) (hx:xs[k]?=A? x) (hy:ys[k]?=A? y)
 (hQ:∀h',IsZip h' z TI TO (Y7 s.1.1.size)->Zk h' TO x y->h'.IsTupleIter i1 l1 (k+1)->h'.IsTupleIter i2 l2 (k+1)->Zk h' s.1.1.size x y->h'.objs.size=s.1.1.size+1 ->
  (∀c o,c≠z->c≠TO->c≠i1->c≠i2->s.1.get? c=A? o->h'.get? c=A? o)->Q (.ref s.1.1.size) {s with heap:=h'}) :
 W7 (Xw prog w) A (Zs.«zip.__next__» ⟨[.ref z],[]⟩) (λfin s'=>∃v,fin=.done (.ret v)/\Q v s') E s:=by
 show W7 _ _ (field (.ref z) 2 >>= _) _ _ _;refine WN (XY hz rfl (x:=.bool Cf) rfl ?_);show W7 _ _ (field (.ref z) 3 >>= _) _ _ _;refine WN (XY hz rfl (x:=.ref TI) rfl ?_);refine WN (YC hTI rfl ?_);show W7 _ _ (Yc (.ref z) >>= _) _ _ _;refine WN ?_;unfold Yc;refine WN (XY hz rfl (x:=.none) rfl (WW ?_));simp only[if_true];refine WN (Zx ?_);refine WN (XY hz rfl (x:=.ref TO) rfl ?_);refine WN (ZP hz (by simp) λAn AH Ae=>?_);replace AH:IsZip An z TI TO .ellipsis:=AH;refine WN ?_;simp only[List.zipIdx_cons,List.zipIdx_nil,List.forIn_cons,List.forIn_nil];refine WN (WN (wpAny_onRaise ?_));show W7 _ _ (X3 (.ref i1) >>= _) _ _ _;refine WN (bb_tupNext (IsTupleIter.but h1 Ae.extBut D.i1z) (IsTuple.but Cn Ae.extBut D.l1z) hx λA7 CW Aj=>WW ?_);have BQ:Zk A7 TO a b:=Aj.extBut _ _ D.TOi1 (Ae.extBut _ _ D.TOz hTO);refine WN (YC BQ rfl ?_);refine WN (wpAny_updateSeq_pair BQ λCN Co AD=>?_);replace Co:Zk CN TO x b:=Co;refine WN (wpAny_letGo (WW ?_));refine WN (WN (wpAny_onRaise ?_));show W7 _ _ (X3 (.ref i2) >>= _) _ _ _
 refine WN (bb_tupNext (IsTupleIter.but (IsTupleIter.but (IsTupleIter.but h2 Ae.extBut D.i2z) Aj.extBut D.i12.symm) AD.extBut D.TOi2.symm)
  (IsTuple.but (IsTuple.but (IsTuple.but Bz Ae.extBut D.l2z) Aj.extBut D.l2i1) AD.extBut D.l2TO) hy λAJ Ez AA=>WW ?_)
 have EA:Zk AJ TO x b:=AA.extBut _ _ D.TOi2 Co;refine WN (YC EA rfl ?_);refine WN (wpAny_updateSeq_pair EA λAK Cp Bs=>?_);replace Cp:Zk AK TO x y:=Cp;refine WN (wpAny_letGo (WW (WW ?_)));refine WN (YC Cp rfl ?_);refine WN (wpAny_newTuple ?_);have hsz:AK.objs.size=s.1.1.size:=by rw[Bs.1,AA.1,AD.1,Aj.1,Ae.1]
 have GA:IsZip AK z TI TO .ellipsis:=Bs.extBut _ _ D.TOz.symm (AA.extBut _ _ D.i2z.symm (AD.extBut _ _ D.TOz.symm (Aj.extBut _ _ D.i1z.symm AH)))
 have J5:∀c o,c≠z->c≠TO->c≠i1->c≠i2->s.1.get? c=A? o->AK.get? c=A? o:=λc o c1 c2 c3 c4 e =>
  Bs.extBut _ _ c2 (AA.extBut _ _ c4 (AD.extBut _ _ c2 (Aj.extBut _ _ c3 (Ae.extBut _ _ c1 e))))
 have J6:AK.IsTupleIter i1 l1 (k+1):=IsTupleIter.but (IsTupleIter.but (IsTupleIter.but CW AD.extBut D.TOi1.symm) AA.extBut D.i12) Bs.extBut D.TOi1.symm;have J7:AK.IsTupleIter i2 l2 (k+1):=IsTupleIter.but Ez Bs.extBut D.TOi2.symm;have J8:z<AK.objs.size:=Xb GA;show W7 _ _ (Builtin.SmallTypes.ownedTupleHandOut (.ref z) (.ref AK.objs.size) >>= _) _ _ _;refine WN ?_;unfold Builtin.SmallTypes.ownedTupleHandOut;have J9:IsZip (AK.push {cls:=.type "tuple",data:=.seq #[x,y]}) z TI TO .ellipsis:=WU _ GA;refine WN (ZP J9 (by simp) λOc EB EC=>?_);replace EB:IsZip Oc z TI TO (Y7 AK.objs.size):=EB;refine ZP EB (by simp) λED DJ EE=>?_;replace DJ:IsZip ED z TI TO (Y7 AK.objs.size):=DJ;have up:∀c o,c≠z->AK.get? c=A? o->ED.get? c=A? o:=λc o c1 e=>EE.extBut _ _ c1 (EC.extBut _ _ c1 (WU _ e));have GB:Zk ED AK.objs.size x y:=EE.extBut _ _ (Nat.ne_of_gt J8) (EC.extBut _ _ (Nat.ne_of_gt J8) (W4 _ rfl));have RB:ED.objs.size=AK.objs.size+1:=by rw[EE.1,EC.1,X5]
 rw[hsz]at DJ GB RB;refine WW ⟨_,rfl,?_⟩;show Q (.ref AK.objs.size) _;rw[hsz];refine hQ ED DJ (up _ _ D.TOz Cp) ?_ ?_ GB RB λc o c1 c2 c3 c4 e=>up c o c1 (J5 c o c1 c2 c3 c4 e)
 .obtain⟨o,e,r⟩:=J6;exact⟨o,up _ o D.i1z e,r⟩
 .obtain⟨o,e,r⟩:=J7;exact⟨o,up _ o D.i2z e,r⟩
theorem bb_loadIfAlive{o:Zb}{Q:Option Zb->WX->Prop}(hQ:∀u,A? o=A? u->Q (A? u) s)(h:s.1.get? a=A? o):W7 (Xw prog w) A (loadIfAlive a) Q E s:=by
 intro Γ p hΓ;show Sem.wp _ _ (.loadIfAlive a .pure) _ _ _ _;rw[Sem.wp_loadIfAlive,h];exact hQ o rfl
theorem bb_notfree{T:WQ}{b:Bool}{f2 TI TO v:WT}(hz:s.1.get? z=A? {cls:=.type "zip",data:=.fields #[Y7 T,.bool b,f2,TI,TO]})(hT:Zk s.1 T u v) :
 W7 (Xw prog w) A (Yc (.ref z)) (λa s1=>a=Cf/\∃An,s1={s with heap:=An}/\An.get? z=A? {cls:=.type "zip",data:=.fields #[Y7 T,.bool C?,f2,TI,TO]}/\YF z s.1 An) E s:=by
 unfold Yc;refine WN (XY hz rfl (x:=Y7 T) rfl ?_);show W7 _ _ (loadIfAlive (T:Int).toNat >>= _) _ _ _;rw[Xy];refine WN (bb_loadIfAlive (λo(e:A? _=A? o)=>?_) hT);cases e;show W7 _ _ (if(A? _:Option Zb).isNone=C? then _ else _) _ _ _;rw[a! (show¬((A? _:Option Zb).isNone=C?)from W6)];refine WN (XY hz rfl (x:=.bool b) rfl ?_);cases b with
 |true=>exact WW ⟨rfl,s.1,rfl,hz,rfl,λ_ _=>rfl⟩
 |false=>exact WN (ZP hz (by simp) λAn AH Ae=>WW ⟨rfl,An,rfl,AH,Ae⟩)
theorem bb_zip_itemB{TI TO T:WQ}{k:Nat}{xs:Array WT}{x y v:WT}{b:Bool}(D:ZipApart z TI TO i1 i2 l1 l2)
 (hz:s.1.get? z=A? {cls:=.type "zip",data:=.fields #[Y7 T,.bool b,.bool Cf,.ref TI,.ref TO]}) (hT:Zk s.1 T u v) (hTI:Zk s.1 TI (.ref i1) (.ref i2))
 (h1:s.1.IsTupleIter i1 l1 k) (h2:s.1.IsTupleIter i2 l2 k) (Cn:s.1.IsTuple l1 xs) (Bz:s.1.IsTuple l2 ys) (hx:xs[k]?=A? x) (hy:ys[k]?=A? y)
 (hQ:∀h',h'.get? z=A? {cls:=.type "zip",data:=.fields #[Y7 T,.bool C?,.bool Cf,.ref TI,.ref TO]}->h'.IsTupleIter i1 l1 (k+1)->h'.IsTupleIter i2 l2 (k+1)->Zk h' s.1.1.size x y->h'.objs.size=s.1.1.size+1 ->
  (∀c o,c≠z->c≠i1->c≠i2->s.1.get? c=A? o->h'.get? c=A? o)->Q (.ref s.1.1.size) {s with heap:=h'}) :
 W7 (Xw prog w) A (Zs.«zip.__next__» ⟨[.ref z],[]⟩) (λfin s'=>∃v,fin=.done (.ret v)/\Q v s') E s:=by
 show W7 _ _ (field (.ref z) 2 >>= _) _ _ _;refine WN (XY hz rfl (x:=.bool Cf) rfl ?_);show W7 _ _ (field (.ref z) 3 >>= _) _ _ _;refine WN (XY hz rfl (x:=.ref TI) rfl ?_);refine WN (YC hTI rfl ?_);show W7 _ _ (Yc (.ref z) >>= _) _ _ _;refine WN (Y6 (bb_notfree hz hT) (λa s1⟨e1,An,e2,AH,Ae⟩=>?_) λ_ _ x=>x);subst e1 e2;simp only[Ye,if_false];rw[<-Array.forIn_toList];refine WN ?_;simp only[List.forIn_cons,List.forIn_nil];refine WN (WN (Yy ?_));show W7 _ _ (X3 (.ref i1) >>= _) _ _ _;refine WN (bb_tupNext (IsTupleIter.but h1 Ae.extBut D.i1z) (IsTuple.but Cn Ae.extBut D.l1z) hx λA7 CW Aj=>WW (WW ?_));refine WN (WN (Yy ?_));show W7 _ _ (X3 (.ref i2) >>= _) _ _ _;refine WN (bb_tupNext (IsTupleIter.but (IsTupleIter.but h2 Ae.extBut D.i2z) Aj.extBut D.i12.symm) (IsTuple.but (IsTuple.but Bz Ae.extBut D.l2z) Aj.extBut D.l2i1) hy λAJ Ez AA=>WW (WW (WW ?_)));refine WN (wpAny_newTuple (hsz:=by show 2<=Xf;decide) (WW ⟨_,rfl,?_⟩));have hsz:AJ.objs.size=s.1.1.size:=by rw[AA.1,Aj.1,Ae.1]
 show Q (.ref AJ.objs.size) {s with heap:=AJ.push {cls:=.type "tuple",data:=.seq #[x,y]}};have GC:Zk (AJ.push {cls:=.type "tuple",data:=.seq #[x,y]}) AJ.objs.size x y:=W4 _ rfl;have B7:(AJ.push {cls:=.type "tuple",data:=.seq #[x,y]}).objs.size=AJ.objs.size+1:=X5 ..;have J':=IsTupleIter.but CW AA.extBut D.i12;rw[hsz]at GC B7;rw[hsz];refine hQ _ (WU _ (AA.extBut _ _ D.i2z.symm (Aj.extBut _ _ D.i1z.symm AH))) ?_ ?_ GC B7 λc o c1 c3 c4 e=>WU _ (AA.extBut _ _ c4 (Aj.extBut _ _ c3 (Ae.extBut _ _ c1 e)))
 .obtain⟨o,e,r⟩:=J';exact⟨o,WU _ e,r⟩
 .obtain⟨o,e,r⟩:=Ez;exact⟨o,WU _ e,r⟩
theorem bb_zip_end{TI TO:WQ}{k:Nat}{xs:Array WT}{Q:Fin->WX->Prop}(hh:A.handled=B?)
 (S:ZSt xs ys z TI TO i1 i2 l1 l2 k s.1) (CY:xs[k]?=B?\/ys[k]?=B?)
 (hE:∀h' e,(∀c o,c≠z->c≠TO->c≠i1->c≠i2->s.1.get? c=A? o->h'.get? c=A? o)->(∃o,h'.get? e=A? o/\o.cls=.type "StopIteration")->E (.ref e) {s with heap:=h'}) :
 W7 (Xw prog w) A (Zs.«zip.__next__» ⟨[.ref z],[]⟩) Q E s:=by
 obtain⟨D,hz,hTI,⟨a,b,hTO⟩,h1,h2,Cn,Bz⟩:=S;rcases hz with hz|⟨T,bb,u,v,hz,hT,RC⟩
 .show W7 _ _ (field (.ref z) 2 >>= _) _ _ _;refine WN (XY hz rfl (x:=.bool Cf) rfl ?_);show W7 _ _ (field (.ref z) 3 >>= _) _ _ _;refine WN (XY hz rfl (x:=.ref TI) rfl ?_);refine WN (YC hTI rfl ?_);show W7 _ _ (Yc (.ref z) >>= _) _ _ _;refine WN ?_;unfold Yc;refine WN (XY hz rfl (x:=.none) rfl (WW ?_));simp only[if_true];refine WN (Zx ?_);refine WN (XY hz rfl (x:=.ref TO) rfl ?_);refine WN (ZP hz (by simp) λAn AH Ae=>?_);replace AH:IsZip An z TI TO .ellipsis:=AH;refine WN ?_;simp only[List.zipIdx_cons,List.zipIdx_nil,List.forIn_cons,List.forIn_nil];refine WN (WN (wpAny_onRaise ?_));show W7 _ _ (X3 (.ref i1) >>= _) _ _ _;cases hx:xs[k]? with
  | none =>
    refine WN (bb_tupEnd hh (IsTupleIter.but h1 Ae.extBut D.i1z) (IsTuple.but Cn Ae.extBut D.l1z) hx λA7 e Aj he=>?_);obtain⟨oe,HF,Ka⟩:=he;have GD:IsZip A7 z TI TO .ellipsis:=Aj _ _ D.i1z.symm AH;have Od:e≠z:=λx=>by subst x;rw[GD]at HF;cases HF;simp at Ka
    refine ZP GD (by simp) λCN _ AD=>hE CN e (λc o c1 _ c3 _ x=>AD.extBut _ _ c1 (Aj _ _ c3 (Ae.extBut _ _ c1 x))) ⟨oe,AD.extBut _ _ Od HF,Ka⟩
  | some x =>
    have hy:ys[k]?=none:=by rcases CY with h|h;rw[hx]at h;cases h;exact h
    refine WN (bb_tupNext (IsTupleIter.but h1 Ae.extBut D.i1z) (IsTuple.but Cn Ae.extBut D.l1z) hx λA7 CW Aj=>WW ?_);have BQ:Zk A7 TO a b:=Aj.extBut _ _ D.TOi1 (Ae.extBut _ _ D.TOz hTO);refine WN (YC BQ rfl ?_);refine WN (wpAny_updateSeq_pair BQ λCN Co AD=>?_);refine WN (wpAny_letGo (WW ?_));refine WN (WN (wpAny_onRaise ?_));show W7 _ _ (X3 (.ref i2) >>= _) _ _ _
    refine WN (bb_tupEnd hh (IsTupleIter.but (IsTupleIter.but (IsTupleIter.but h2 Ae.extBut D.i2z) Aj.extBut D.i12.symm) AD.extBut D.TOi2.symm)
     (IsTuple.but (IsTuple.but (IsTuple.but Bz Ae.extBut D.l2z) Aj.extBut D.l2i1) AD.extBut D.l2TO) hy λAJ e AA he=>?_)
    obtain⟨oe,HF,Ka⟩:=he;have GF:IsZip AJ z TI TO .ellipsis:=AA _ _ D.i2z.symm (AD.extBut _ _ D.TOz.symm (Aj.extBut _ _ D.i1z.symm AH));have Od:e≠z:=λx=>by subst x;rw[GF]at HF;cases HF;simp at Ka
    refine ZP GF (by simp) λAK _ Bs=>hE AK e (λc o c1 c2 c3 c4 x=>Bs.extBut _ _ c1 (AA _ _ c4 (AD.extBut _ _ c2 (Aj.extBut _ _ c3 (Ae.extBut _ _ c1 x))))) ⟨oe,Bs.extBut _ _ Od HF,Ka⟩
 .show W7 _ _ (field (.ref z) 2 >>= _) _ _ _;refine WN (XY hz rfl (x:=.bool Cf) rfl ?_);show W7 _ _ (field (.ref z) 3 >>= _) _ _ _;refine WN (XY hz rfl (x:=.ref TI) rfl ?_);refine WN (YC hTI rfl ?_);show W7 _ _ (Yc (.ref z) >>= _) _ _ _;refine WN (Y6 (bb_notfree hz hT) (λa s1⟨e1,An,e2,AH,Ae⟩=>?_) λ_ _ x=>x);subst e1 e2;simp only[Ye,if_false];rw[<-Array.forIn_toList];refine WN ?_;simp only[List.forIn_cons,List.forIn_nil];refine WN (WN (Yy ?_));show W7 _ _ (X3 (.ref i1) >>= _) _ _ _;cases hx:xs[k]? with
  | none =>
    refine WN (bb_tupEnd hh (IsTupleIter.but h1 Ae.extBut D.i1z) (IsTuple.but Cn Ae.extBut D.l1z) hx λA7 e Aj he=>?_);exact hE A7 e (λc o c1 _ c3 _ x=>Aj _ _ c3 (Ae.extBut _ _ c1 x)) he
  | some x =>
    have hy:ys[k]?=none:=by rcases CY with h|h;rw[hx]at h;cases h;exact h
    refine WN (bb_tupNext (IsTupleIter.but h1 Ae.extBut D.i1z) (IsTuple.but Cn Ae.extBut D.l1z) hx λA7 CW Aj=>WW (WW ?_));refine WN (WN (Yy ?_));show W7 _ _ (X3 (.ref i2) >>= _) _ _ _;refine WN (bb_tupEnd hh (IsTupleIter.but (IsTupleIter.but h2 Ae.extBut D.i2z) Aj.extBut D.i12.symm) (IsTuple.but (IsTuple.but Bz Ae.extBut D.l2z) Aj.extBut D.l2i1) hy λAJ e AA he=>?_);exact hE AJ e (λc o c1 _ c3 c4 x=>AA _ _ c4 (Aj.extBut _ _ c3 (Ae.extBut _ _ c1 x))) he
theorem bb_zip_next{TI TO:WQ}{k:Nat}{xs:Array WT}{x y:WT}{Q:Option WT->WX->Prop}(S:ZSt xs ys z TI TO i1 i2 l1 l2 k s.1)(hx:xs[k]?=A? x)(hy:ys[k]?=A? y)
 (hQ:∀h',ZSt xs ys z TI TO i1 i2 l1 l2 (k+1) h'->Zk h' s.1.1.size x y->h'.objs.size=s.1.1.size+1 ->
  (∀c o,c∉[z,TO,i1,i2]->s.1.get? c=A? o->h'.get? c=A? o)->Q (A? (.ref s.1.1.size)) {s with heap:=h'}) :
 W7 (Xw prog w) A (Z9 (.ref z)) Q E s:=by
 have hT:=S.typeIs;obtain⟨D,hz,hTI,⟨a,b,hTO⟩,h1,h2,Cn,Bz⟩:=S;have n1:s.1.1.size≠TO:=Nat.ne_of_gt (Xb hTO);unfold Z9;refine WN (Z8 (X4 (name:=Xm "__next__") hT F.slot_zip_next (X8 F.slot_zip_next hT F.entry_zip_next ?_ (F.args_zip_next_1 _))));rcases hz with hz|⟨T,bb,u,v,hz,GC,RC⟩
 .refine bb_zip_itemA D hz hTI hTO h1 h2 Cn Bz hx hy λh' a1 a2 a3 a4 a5 a6 a7=>WW ?_;refine hQ h' ⟨D,.inr ⟨_,_,_,_,a1,a5,n1⟩,a7 _ _ D.TIz D.TITO D.TIi1 D.TIi2 hTI,⟨_,_,a2⟩,a3,a4,?_,?_⟩ a5 a6 λc o hc e=>a7 c o (λq=>hc (by simp[q])) (λq=>hc (by simp[q])) (λq=>hc (by simp[q])) (λq=>hc (by simp[q])) e
  .obtain⟨o,e,r⟩:=Cn;exact⟨o,a7 _ _ D.l1z D.l1TO D.l1i1 D.l1i2 e,r⟩
  .obtain⟨o,e,r⟩:=Bz;exact⟨o,a7 _ _ D.l2z D.l2TO D.l2i1 D.l2i2 e,r⟩
 .refine bb_zip_itemB D hz GC hTI h1 h2 Cn Bz hx hy λh' a1 a3 a4 a5 a6 a7=>WW ?_;have Ut:T≠z:=by rintro rfl;exact g! (YR (h! Obj.cls (Xn (hz.symm.trans GC)))) (by decide)
  have Oe:T≠i1:=by rintro rfl;obtain⟨o,e,c,_⟩:=h1;have e2:=Xn (GC.symm.trans e);rw[<-e2]at c;exact g! (YR c) (by decide)
  have Of:T≠i2:=by rintro rfl;obtain⟨o,e,c,_⟩:=h2;have e2:=Xn (GC.symm.trans e);rw[<-e2]at c;exact g! (YR c) (by decide)
  refine hQ h' ⟨D,.inr ⟨T,C?,u,v,a1,a7 _ _ Ut Oe Of GC,RC⟩,a7 _ _ D.TIz D.TIi1 D.TIi2 hTI,⟨a,b,a7 _ _ D.TOz D.TOi1 D.TOi2 hTO⟩,a3,a4,?_,?_⟩ a5 a6 λc o hc e=>a7 c o (λq=>hc (by simp[q])) (λq=>hc (by simp[q])) (λq=>hc (by simp[q])) e
  .obtain⟨o,e,r⟩:=Cn;exact⟨o,a7 _ _ D.l1z D.l1i1 D.l1i2 e,r⟩
  .obtain⟨o,e,r⟩:=Bz;exact⟨o,a7 _ _ D.l2z D.l2i1 D.l2i2 e,r⟩
theorem bb_zip_done{TI TO:WQ}{k:Nat}{xs:Array WT}{Q:Option WT->WX->Prop}(hh:A.handled=B?)(S:ZSt xs ys z TI TO i1 i2 l1 l2 k s.1)(CY:xs[k]?=B?\/ys[k]?=B?)
 (hQ:∀h',(∀c o,c∉[z,TO,i1,i2]->s.1.get? c=A? o->h'.get? c=A? o)->Q B? {s with heap:=h'}):W7 (Xw prog w) A (Z9 (.ref z)) Q E s:=by
 have hT:=S.typeIs;unfold Z9
 refine WN (Z8 (X4 (name:=Xm "__next__") hT F.slot_zip_next
  (X8 F.slot_zip_next hT F.entry_zip_next (bb_zip_end hh S CY λh' e hk he=>?_) (F.args_zip_next_1 _))))
 obtain⟨o,ho,hc⟩:=he;refine WN (ZJ (T:="StopIteration") (b:=C?) ⟨o,ho,hc⟩ isSubtype_stop ?_);exact WW (hQ _ λc o hc=>hk c o (λq=>hc (by simp[q])) (λq=>hc (by simp[q])) (λq=>hc (by simp[q])) (λq=>hc (by simp[q])))
theorem bb_zip_iter{TI TO:WQ}{k:Nat}{xs:Array WT}(S:ZSt xs ys z TI TO i1 i2 l1 l2 k s.1)(h:Q (.ref z) s):W7 (Xw prog w) A (pyIter (.ref z)) Q E s:=by
 have hT:=S.typeIs;refine wpAny_pyIter_slot hT F.slot_zip_iter (X8 F.slot_zip_iter hT F.entry_zip_iter ?_ (F.args_zip_iter_1 _));show W7 _ _ (ret (.ref z)) _ _ s;exact WW ⟨_,rfl,"zip",_,hT,F.slot_zip_next.lookup,h⟩
open Sem (wp)
namespace F
theorem bb_nolen_zip:typeLookup (.type "zip") "__len__"=pure none:=by rw[Y5,Yv];kernel_rfl
theorem bb_nohint_zip:typeLookup (.type "zip") "__length_hint__"=pure none:=by rw[Y5,Yv];kernel_rfl
end F
def ZIt(xs ys:Array WT)(n0:Nat)(h:Yh)(acc:Array WT)(k:Nat):Prop:=acc.size=k/\∀(j:Nat)(v:WT),acc[j]?=A? v->∃(T:WQ)(x y:WT),v=Xl T/\n0<=T/\Zk h T x y/\xs[j]?=A? x/\ys[j]?=A? y
theorem bb_zip_loop{TI TO S:WQ}{xs:Array WT}{n0:Nat}(hh:A.in1.handled=B?)(hn:n=min xs.size ys.size)(hz:n<=Xf)(RD:S∉[z,TO,i1,i2])(hf:∀c∈[z,TO,i1,i2],c<n0)(res:WT) :
 ∀(k i:Nat)(s:WX)(acc:Array WT)(c:Nat),n - i=k->i<=n->ZSt xs ys z TI TO i1 i2 l1 l2 i s.1->n0<=s.1.1.size->s.1.get? S=A? {cls:=.type "list",dict:=B?,data:=.seq acc c,slots:=#[]}->ZIt xs ys n0 s.1 acc i ->
 (∀h' A8 c',(∀b o,b≠S->b∉[z,TO,i1,i2]->s.1.get? b=A? o->h'.get? b=A? o)->h'.get? S=A? {cls:=.type "list",dict:=B?,data:=.seq A8 c',slots:=#[]}->ZIt xs ys n0 h' A8 n->R (.ok (.ret res)) {s with heap:=h'}) ->
 codeAny (Xw prog w) A (.builtin "list.extend.loop" ⟨[.ref S,.ref z,res],[]⟩) R s:=by
 intro k;have GG:∀{T:WQ},n0<=T->T∉[z,TO,i1,i2]:=λh m=>g! (hf _ m) (Nat.not_lt.mpr h);induction k with
 | zero =>
   intro i s acc c hk hi AX h0 hS Ao hR;have B0:i=n:=by lia
   subst B0;refine codeAny_builtin F.entry_extend_loop ?_;rw[Z7 YG _];show W7 _ A.in1 (Z9 (.ref z) >>= _) _ _ s
   have CY:xs[i]?=B?\/ys[i]?=none:=by
    rcases Nat.le_total xs.size ys.size with h|h
    .exact .inl (Array.getElem?_eq_none (by lia))
    .exact .inr (Array.getElem?_eq_none (by lia))
   refine WN (bb_zip_done hh AX CY λh' Bb=>WW ?_);refine hR h' acc c (λb o _ hb e=>Bb b o hb e) (Bb _ _ RD hS) ⟨Ao.1,λj v hv=>?_⟩;obtain⟨T,x,y,e1,e2,e3,e4⟩:=Ao.2 j v hv;exact⟨T,x,y,e1,e2,Bb _ _ (GG e2) e3,e4⟩
 | succ k ih =>
   intro i s acc c hk hi AX h0 hS Ao hR;have Ai:i<n:=by lia
   refine codeAny_builtin F.entry_extend_loop ?_;rw[Z7 YG _];show W7 _ A.in1 (Z9 (.ref z) >>= _) _ _ s;have hx:xs[i]?=A? xs[i]:=Ze (by lia);have hy:ys[i]?=A? ys[i]:=Ze (by lia);refine WN (bb_zip_next AX hx hy λh' Og hT hsz Bb=>?_);have Ei:=Bb S _ RD hS;have Oh:S<s.1.1.size:=Xb hS;show W7 _ A.in1 (updateSeq S (·.push (.ref s.1.1.size)) >>= _) _ _ _;refine WN ?_;have CS:∀b o,b≠S->h'.get? b=A? o->(h'.update S (Yj (·.push (Xl s.1.1.size)))).get? b=A? o:=λb o hb e=>(XW _ _ (YQ hb)).trans e
   refine YS Ei rfl (WW ⟨plainId_quiet YG _,ih (i+1) _ (acc.push (.ref s.1.1.size)) _ (by lia) Ai (Og.frame λb o ho e=>CS b o (λz=>?_) e) ?_ (XQ _ Ei rfl) ?_ λKb A8 c' HG HH EF=>?_⟩)
    (by rw[Ao.1];lia) (by show(acc.push _).size<=Xf+1;rw[Array.size_push,Ao.1];lia)
   .rw[z,Ei]at e;cases e;exact ho rfl
   .show n0<=(h'.update S _).objs.size;rw[Heap.size_update];lia
   .refine⟨by rw[Array.size_push,Ao.1],λj v hv=>?_⟩;rw[Array.getElem?_push]at hv;split at hv
    .rename_i e
     rw[Ao.1]at e;cases hv;subst e;exact⟨_,_,_,D?,h0,CS _ _ (Nat.ne_of_gt Oh) hT,hx,hy⟩
    .obtain⟨T,x,y,e1,e2,e3,e4⟩:=Ao.2 j v hv
     have Uu:T≠S:=by
      rintro rfl;exact g! (YR (h! Obj.cls (Xn (e3.symm.trans hS)))) (by decide)
     exact⟨T,x,y,e1,e2,CS _ _ Uu (Bb _ _ (GG e2) e3),e4⟩
   .exact hR Kb A8 c' (λb o hb hb2 e=>HG b o hb hb2 (CS b o hb (Bb b o hb2 e))) HH EF
theorem bb_list_zip{TI TO:WQ}{xs:Array WT}{n0:Nat}(hh:A.in1.in1.handled=B?)(AX:ZSt xs ys z TI TO i1 i2 l1 l2 0 s.1)(hn:n=min xs.size ys.size)(hz:n<=Xf)(h0:n0<=s.1.1.size)(hf:∀c∈[z,TO,i1,i2],c<n0)
 (hQ:∀h' acc c,(∀b o,b∉[z,TO,i1,i2]->s.1.get? b=A? o->h'.get? b=A? o)->h'.get? s.1.1.size=A? {cls:=.type "list",dict:=B?,data:=.seq acc c,slots:=#[]}->ZIt xs ys n0 h' acc n->Q (.ref s.1.1.size) {s with heap:=h'}) :
 W7 (Xw prog w) A (call (.type "list") [.ref z]) Q E s:=by
 have Jj:s.1.1.size∉[z,TO,i1,i2]:=λhm=>g! (hf _ hm) (Nat.not_lt.mpr h0);have N2:s.1.1.size≠z:=λe=>Jj (by simp[e])
 refine callType_codes (Q₁:=λobj Ac=>obj=.ref s.1.1.size/\Ac={s with heap:=s.1.push {cls:=.type "list",data:=.seq #[]}}) F.called_list (F.typeCall_list_1 _) F.entry_list_init
  (code_list_new _ ⟨rfl,rfl⟩) λobj Ac An=>?_
 obtain⟨rfl,rfl⟩:=An;have hS:(s.1.push {cls:=.type "list",data:=.seq #[]}).get? s.1.1.size=A? {cls:=.type "list",data:=.seq #[]}:=W4 _ rfl;refine⟨⟨_,hS,D?⟩,F.args_list_init_2 _ _,?_⟩;show W7 _ A.in1.in1 (do let old <-ZI (.ref s.1.1.size);Builtin.List.listUpdate (.ref s.1.1.size) (λ_=>#[]);letGo old.toList.reverse;Za (.ref s.1.1.size) (.ref z) .none) _ _ _;refine WN ?_;unfold ZI;refine WN (YC hS rfl (WW ?_));refine WN (YS hS rfl ?_);have Bq:=XQ (Yj (λ_=>(#[]:Array WT))) hS rfl;refine WN (wpAny_letGo ?_);have CZ:((s.1.push {cls:=.type "list",data:=.seq #[]}).update s.1.1.size (Yj (λ_=>(#[]:Array WT)))).objs.size=s.1.1.size+1:=by rw[Heap.size_update,X5]
 generalize hH:(s.1.push {cls:=.type "list",data:=.seq #[]}).update s.1.1.size (Yj (λ_=>(#[]:Array WT)))=H2 at Bq CZ |-
 have old:∀b o,s.1.get? b=A? o->H2.get? b=A? o:=λb o e=>by
  rw[<-hH,XW _ _ (YQ (XC (Xb e)))];exact WU _ e
 obtain⟨c2,Ey⟩:∃c,H2.get? s.1.1.size=A? {cls:=.type "list",data:=.seq #[] c}:=⟨_,Bq⟩;have Di:ZSt xs ys z TI TO i1 i2 l1 l2 0 H2:=AX.frame λb o _ e=>old b o e;have Kc:({s with heap:=H2}:WX).TypeIs (.ref z) "zip":=Di.typeIs;unfold Za;refine WN (ZG Kc ?_);have h1:Zr (.ref s.1.1.size) (.ref z)=false:=by simp[Zr,N2]
 have h2:(Zn "zip" == Zn "list")=false:=by decide
 have h3:(Zn "zip" == Zn "tuple")=false:=by decide
 simp only[h1,h2,h3,Bool.or_false,Ye,if_false];refine WN (bb_zip_iter Di ?_);refine WN (Yy ?_);unfold ZH;refine WN (Yr Kc F.bb_nolen_zip ?_);show W7 _ _ (specialOf (Xl z) (Xm "__length_hint__") >>= _) _ _ _;refine WN (Yr Kc F.bb_nohint_zip ?_);refine WW ?_
 have key:∀(h:Yh)(c₁:Nat),ZSt xs ys z TI TO i1 i2 l1 l2 0 h->n0<=h.objs.size->(∀b o,b≠s.1.1.size->H2.get? b=A? o->h.get? b=A? o)->h.get? s.1.1.size=A? {cls:=.type "list",data:=.seq #[] c₁} ->
  codeAny (Xw prog w) A.in1 (.builtin "list.extend.loop" ⟨[.ref s.1.1.size,.ref z,.none],[]⟩) (wants (λr AI=>r=.none/\Q (.ref s.1.1.size) AI) E) {s with heap:=h}:=by
  intro h c₁ hs Kd hk CO;refine bb_zip_loop hh hn hz Jj hf .none n 0 _ #[] c₁ rfl (Xg _) hs Kd CO ⟨rfl,λj v e=>by simp at e⟩ λh' A8 c' hm Ei Ao=>?_;exact⟨D?,hQ h' A8 c' (λb o hb e=>hm b o (XC (Xb e)) hb (hk b o (XC (Xb e)) (old b o e))) Ei Ao⟩
 show W7 _ _ (rule "list.extend.makes-room" >>= λ_=>Builtin.List.listTouch (.ref s.1.1.size) >>= λ_=>again (.builtin "list.extend.loop" ⟨[.ref s.1.1.size,.ref z,.none],[]⟩)) _ _ _;refine WN (Zx ?_);refine WN ?_;show W7 _ _ (updateSeq s.1.1.size (·.push .none) >>= λ_=>updateSeq s.1.1.size (·.pop)) _ _ _;refine WN (YS Ey rfl ?_);have Br:=XQ (Yj (·.push Yp)) Ey rfl;refine YS (hz:=by seq_fits) Br rfl ?_;have CQ:=XQ (Yj (·.pop)) Br rfl
 have CS:∀b o,b≠s.1.1.size->H2.get? b=A? o->((H2.update s.1.1.size (Yj (·.push Yp))).update s.1.1.size (Yj (·.pop))).get? b=A? o :=
  λb o hb e=>(XW _ _ (YQ hb)).trans ((XW _ _ (YQ hb)).trans e)
 refine WW ⟨plainId_quiet YG _,key _ _ (Di.frame λb o ho e=>CS b o (λq=>?_) e) ?_ CS CQ⟩
 .rw[q,Ey]at e;cases e;exact ho rfl
 .rw[Heap.size_update,Heap.size_update];show n0<=H2.objs.size;lia
end PySem
namespace L2
open PySem PySem.Spec PyProof.Rows
theorem Inv.laidAll{X:Cx}(I:Inv X U Z H s)(k:∀b u,s.1.get? b=A? u->h'.get? b=A? u)
 (old:∀b,b<s.1.1.size->H' b=H b) (new:∀b u,s.1.1.size<=b->H' b=A? u->ObjOk X.prog X.w H' h' b u):Inv X U Z H' {s with heap:=h',toks:=t'}:=by
 have sm:∀b u,H b=A? u->H' b=A? u:=λb u e=>by rw[old b (I.hok.lt e)];exact e
 refine I.un ⟨λb u q _ _ _=>k b u q,λb u q _ _ _=>⟨u.slots,k b u q⟩,λb u q n _=>by rw[old b (Xb q)];exact n,λb u q _=>⟨u,k b u q⟩,λb xs q=>sm _ _ q,λb u xs q=>sm _ _ q,λb ps q=>⟨#[],by rw[sm _ _ q];simp⟩⟩ λb u q=>?_;by_cases hb:b<s.1.1.size
 .rw[old b hb]at q;exact(I.hok b u q).stay (λc v _ e=>k c v e) (λc e=>sm _ _ e) λc xs e=>sm _ _ e
 .exact new b u (Nat.not_lt.mp hb) q
def mJ(H:Hp):List WQ->List (V×V)->Hp
 |t::ts,p::ps=>upd (mJ H ts ps) t (.tup [p.1,p.2])
 |_,_=>H
theorem mh:∀{ts:List WQ}{ps:List (V×V)},b∉ts->mJ H ts ps b=H b
 | [],_,_=>rfl
 |_::_,[],_=>rfl
 | t::ts,p::ps,h=>by
   rw[mJ,ai (λe=>h (by simp[e]))];exact mh λm=>h (Xe _ m)
theorem qI:∀{ts:List WQ}{ps:List (V×V)}{b:WQ}{u:HO},mJ H ts ps b=A? u->H b=A? u\/∃(j:Nat)(p:V×V),ts[j]?=A? b/\ps[j]?=A? p/\u=.tup [p.1,p.2]
 | [],_,_,_,h=>.inl h
 |_::_,[],_,_,h=>.inl h
 | t::ts,p::ps,b,u,h=>by
   rw[mJ]at h;by_cases e:b=t
   .subst e;rw[ac]at h;exact .inr ⟨0,p,rfl,rfl,(Xn h).symm⟩
   .rw[ai e]at h;rcases qI h with q|⟨j,p',q1,q2,q3⟩
    .exact .inl q
    .exact .inr ⟨j+1,p',by simpa using q1,by simpa using q2,q3⟩
theorem rC{H:Hp}:∀{ts:List WQ}{ps:List (V×V)}{t:WQ},ts.length=ps.length->t∈ts->∃(i:Nat)(p:V×V),ts[i]?=A? t/\ps[i]?=A? p/\mJ H ts ps t=A? (.tup [p.1,p.2])
 | [],_,_,_,h=>nomatch h
 |_::_,[],_,hl,_=>by simp at hl
 | u::ts,p::ps,t,hl,h=>by
   by_cases e:t=u
   .subst e;exact⟨0,p,D?,D?,by rw[mJ,ac]⟩
   .obtain⟨i,p',q1,q2,q3⟩:=rC (H:=H) (ts:=ts) (ps:=ps) (t:=t) (by simpa using hl) (by
     rcases W8.mp h with h|h
     .exact g! h e
     .exact h)
    exact⟨i+1,p',by simpa using q1,by simpa using q2,by rw[mJ,ai e];exact q3⟩
theorem jG:∀{ps:List α}{ts:List β},ps.length=ts.length->(∀(j:Nat)p t,ps[j]?=A? p->ts[j]?=A? t->F p t)->Xk F ps ts
 | [],[],_,_=>.nil
 | [],_::_,h,_=>by simp at h
 |_::_,[],h,_=>by simp at h
 |p::ps,t::ts,h,f=>.cons (f 0 p t rfl rfl) (jG (by simpa using h) λj p' t' e1 e2=>f (j+1) p' t' (by simpa using e1) (by simpa using e2))
theorem tN{P:Nat->WQ->Prop}:∀{vs:List WT}(n:Nat),(∀(j:Nat)v,vs[j]?=A? v->∃T,v=Xl T/\P (n+j) T)->∃ts:List WQ,vs=ts.map Xl/\∀(j:Nat)T,ts[j]?=A? T->P (n+j) T
 | [],n,_=>⟨[],rfl,λj T h=>by simp at h⟩
 | v::vs,n,h=>by
   obtain⟨T,e1,e2⟩:=h 0 v rfl
   obtain⟨ts,q1,q2⟩:=tN (P:=P) (vs:=vs) (n+1) λj v' hv=>by
    have:=h (j+1) v' (by simpa using hv);rw[show n+1+j=n+(j+1)by lia];exact this
   refine⟨T::ts,by rw[e1,q1];rfl,λj T' hT=>?_⟩;cases j with
   |zero=>simp at hT;subst hT;exact e2
   | succ j =>
     have:=q2 j T' (by simpa using hT);rw[show n+1+j=n+(j+1)by lia]at this;exact this
theorem zJ{xs:List α}{ys:List β}{p:α×β}(h:(xs.zip ys)[j]?=A? p):xs[j]?=A? p.1/\ys[j]?=A? p.2:=by
 rw[Zd]at h;exact h
def w9(K:WO)(t:TA):TE:=λZ H Q=>t Z H λvs H2=>∃a b xs ys,vs=[.ref a,.ref b]/\SqT K H2 a xs/\SqT K H2 b ys /\
 ∀(l:WQ)(ts:List WQ)(H':Hp),Same H2 H'->H2 l=B?->H' l=A? (.lst (ts.map i!))->Xk (λ(p:V×V)t=>H' t=A? (.tup [p.1,p.2])) (xs.zip ys) ts->Q (.ref l) H'
section
variable{X:Cx}{e1 e2:X9}{t:TA}{p p2 Ay:Z2}
theorem se(hc:X.calm=C?)(g1:Gl X "list")(m1:X.mg "list"=B?)(g2:Gl X "zip")(m2:X.mg "zip"=B?)(ha:PA X [e1,e2] t)
 (h1:XG [.Call (.Name "zip" p2) [e1,e2] [] Ay] X.env=[(Cf,Y2 (.Call (.Name "zip" p2) [e1,e2] [] Ay) X.env)]:=by rfl) (h2:XG [e1,e2] X.env=(Cf,Y2 e1 X.env)::XG [e2] X.env:=by rfl) (h3:(Z0 Ay (XG [e2] X.env)).any (·.1)=false:=by rfl) :
 PE X (.Call (.Name "list" p) [.Call (.Name "zip" p2) [e1,e2] [] Ay] [] pos) (w9 X.K t):=by
 intro U s Z H Q I h;refine Ym (dh I g1 m1 boot_list (X2 ?_ h1 rfl));rw[h1];show W7 _ _ (spliced ((Cf,Y2 (.Call (.Name "zip" p2) [e1,e2] [] Ay) X.env)::[])) _ _ s;refine YJ ?_;refine Ym (dh I g2 m2 boot_zip ?_);refine X2 (thn (ha Ay U s Z H _ I h) λus s2⟨vs,H2,I2,r,a,b,xs,ys,ev,GH,GI,q⟩=>?_) h2 h3;subst ev;obtain⟨u1,u2,rfl,r1,r2⟩:=vals2 r;cases r1;cases r2;obtain⟨ia,HI,pa,Jm⟩:=I2.tuple GH;obtain⟨ib,HJ,pb,Oi⟩:=I2.tuple GI;have FN:=HI.length;have Uv:=HJ.length;have AN:a<s2.1.1.size:=by obtain⟨o,e,_⟩:=pa;exact Xb e
 have AV:b<s2.1.1.size:=by obtain⟨o,e,_⟩:=pb;exact Xb e
 have hh:X.A.in1.in1.handled=none:=I2.ok.hd hc;refine bb_call_zip (show s2.1.IsTuple a ia.toArray from pa) (show s2.1.IsTuple b ib.toArray from pb) λh' z1 z2 z3 z4 z5 z6 z7=>Zh ?_;have D:ZipApart (s2.1.1.size+4) (s2.1.1.size+2) (s2.1.1.size+3) s2.1.1.size (s2.1.1.size+1) a b:=zipApart_new AN AV
 have st:ZSt ia.toArray ib.toArray (s2.1.1.size+4) (s2.1.1.size+2) (s2.1.1.size+3) s2.1.1.size (s2.1.1.size+1) a b 0 h':=by
  refine⟨D,.inl z1,z2,⟨_,_,z3⟩,z4,z5,?_,?_⟩
  .obtain⟨o,e,r⟩:=pa;exact⟨o,z7 _ _ e,r⟩
  .obtain⟨o,e,r⟩:=pb;exact⟨o,z7 _ _ e,r⟩
 have hf:∀c∈[s2.1.1.size+4,s2.1.1.size+3,s2.1.1.size,s2.1.1.size+1],s2.1.1.size<=c/\c<h'.objs.size:=λc hc=>by
  simp at hc;rw[z6];have AQ:(c:Nat)=s2.1.1.size+4\/(c:Nat)=s2.1.1.size+3\/(c:Nat)=s2.1.1.size\/(c:Nat)=s2.1.1.size+1:=hc;constructor
  .show(s2.1.1.size:Nat)<=(c:Nat);lia
  .show(c:Nat)<s2.1.1.size+5;lia
 refine bb_list_zip (s:={s2 with heap:=h'}) hh st rfl (by rw[W3,W3];lia) (WV _) (λc hc=>(hf c hc).2) λh2 acc c kp hS Ao=>?_;replace hS:h2.get? h'.objs.size=A? {cls:=.type "list",dict:=B?,data:=.seq acc c,slots:=#[]}:=hS;have Oj:∀b o,s2.1.get? b=A? o->h2.get? b=A? o:=λb o e=>kp b o (λm=>g! (Xb e) (Nat.not_lt.mpr (hf b m).1)) (z7 b o e);obtain⟨hsz,hit⟩:=Ao
 obtain⟨ts,et,ht⟩:=tN (P:=λj T=>h'.objs.size<=T/\∃x y,Zk h2 T x y/\ia.toArray[j]?=A? x/\ib.toArray[j]?=A? y) (vs:=acc.toList) 0 (λj v hv=>by
  obtain⟨T,x,y,g1,g2,g3,g4,g5⟩:=hit j v (by simpa using hv);rw[Nat.zero_add];exact⟨T,g1,g2,x,y,g3,g4,g5⟩)
 simp only[Nat.zero_add]at ht
 have Aw:ts.length=(xs.zip ys).length:=by
  have e:=h! Zm et;rw[WM,XS,hsz,W3,W3]at e;rw[List.length_zip];lia
 have rel:∀(j:Nat)(p:V×V)(T:WQ),(xs.zip ys)[j]?=A? p->ts[j]?=A? T->∃x y,Zk h2 T x y/\RelV p.1 x/\RelV p.2 y:=λj p T hp hT=>by
  obtain⟨_,x,y,g3,g4,g5⟩:=ht j T hT;obtain⟨CB,AW⟩:=zJ hp;obtain⟨x',k1,k2⟩:=HI.get CB;obtain⟨y',k3,k4⟩:=HJ.get AW
  have e1:x'=x:=by
   have:ia[j]?=A? x:=by simpa using g4
   rw[k1]at this;exact Xn this
  have e2:y'=y:=by
   have:ib[j]?=A? y:=by simpa using g5
   rw[k3]at this;exact Xn this
  subst e1 e2;exact⟨_,_,g3,k2,k4⟩
 have same:∀(i j:Nat)(p p':V×V)(T:WQ),(xs.zip ys)[i]?=A? p->(xs.zip ys)[j]?=A? p'->ts[i]?=A? T->ts[j]?=A? T->p=p':=λi j p p' T h1 h2 h3 h4=>by
  obtain⟨x,y,g1,g2,g3⟩:=rel i p T h1 h3;obtain⟨x',y',k1,k2,k3⟩:=rel j p' T h2 h4;have e:=Xn (g1.symm.trans k1);have ed:=h! Obj.data e;injection ed with Uw _;have el:=h! Array.toList Uw;have ex:x=x':=(List.cons.inj el).1;have ey:y=y':=(List.cons.inj (List.cons.inj el).2).1;subst ex ey;obtain⟨p1,p2⟩:=p;obtain⟨q1,q2⟩:=p';have f1:p1=q1:=g2.inj k2;have f2:p2=q2:=g3.inj k3;rw[f1,f2]
 have Ke:h'.objs.size∉ts:=λm=>by
  obtain⟨j,hj⟩:=List.getElem?_of_mem m;obtain⟨_,x,y,g3,_⟩:=ht j _ hj;exact g! (YR (h! Obj.cls (Xn (g3.symm.trans hS)))) (by decide)
 have FO:s2.1.1.size<h'.objs.size:=by rw[z6];lia
 have Kf:∀T∈ts,h'.objs.size<=T:=λT m=>by
  obtain⟨j,hj⟩:=List.getElem?_of_mem m;exact(ht j _ hj).1
 have GJ:∀b,s2.1.1.size<=b->H2 b=none:=λb hb=>I2.hok.fresh hb;have Bz:H2 h'.objs.size=none:=GJ _ (ZS FO)
 have Ux:∀(j:Nat)(p:V×V)(T:WQ),(xs.zip ys)[j]?=A? p->ts[j]?=A? T->mJ H2 ts (xs.zip ys) T=A? (.tup [p.1,p.2]):=λj p T hp hT=>by
  obtain⟨i,p',k1,k2,k3⟩:=rC (H:=H2) Aw (WS hT);rw[k3,same i j p' p T k2 hp k1 hT]
 have I3:Inv X U Z (upd (mJ H2 ts (xs.zip ys)) h'.objs.size (.lst (ts.map i!))) {s2 with heap:=h2,toks:=s2.toks}:=by
  refine I2.laidAll Oj (λb hb=>?_) λb u hb hu=>?_
  .rw[ai (XC (Nat.lt_trans hb FO)),mh];exactλm=>g! (Nat.lt_trans hb FO) (Nat.not_lt.mpr (Kf b m))
  .by_cases e:b=h'.objs.size
   .subst e;rw[ac]at hu;cases hu;refine⟨by rw[WM,Aw,List.length_zip];lia,ts.map Xl,c,?_,by rw[<-et];exact hS⟩
    exact jG (by simp) λj p t e1 e2=>by
     rw[WY]at e1 e2;cases q:ts[j]? with
     |none=>rw[q]at e1;cases e1
     |some T=>rw[q]at e1 e2;cases e1;cases e2;rfl
   .rw[ai e]at hu;rcases qI hu with q|⟨j,p,q1,q2,q3⟩
    .rw[GJ b hb]at q;cases q
    .subst q3;obtain⟨x,y,g1,g2,g3⟩:=rel j p b q2 q1;exact⟨by show 2<=Xf;decide,[x,y],0,.cons g2 (.cons g3 .nil),g1⟩
 refine⟨.ref h'.objs.size,_,I3,D?,q h'.objs.size ts _ (λb o e=>?_) Bz ac ?_⟩
 .have hb:=I2.hok.lt e;rw[ai (XC (Nat.lt_trans hb FO)),mh]
  .exact e
  .exactλm=>g! (Nat.lt_trans hb FO) (Nat.not_lt.mpr (Kf b m))
 .refine jG Aw.symm λj p T hp hT=>?_;rw[ai (show T≠h'.objs.size fromλe=>Ke (by rw[<-e];exact WS hT))];exact Ux j p T hp hT
end
section
variable{κ:Type}[DecidableEq κ]
def aN(f':List (κ×V))(k:κ):Option V:=(f'.find? λkv=>decide (kv.1=k)).map (·.2)
def putK(f':List (κ×V))(k:κ)(v:V):List (κ×V) :=
 if(f'.any λkv=>decide (kv.1=k))=C? then f'.map (λkv=>if kv.1=k then(kv.1,v)else kv)else f'++[(k,v)]
theorem bP{p:κ×V}{r:List (κ×V)}{k:κ}(e:p.1=k):aN (p::r) k=A? p.2:=by simp[aN,ZN,e]
theorem bM{p:κ×V}{r:List (κ×V)}{k:κ}(e:¬p.1=k):aN (p::r) k=aN r k:=by simp[aN,ZN,e]
theorem eZ(k:κ):∀f':List (κ×V),(f'.any λkv=>decide (kv.1=k))=(aN f' k).isSome
 | []=>rfl
 | p::r=>by
   rw[List.any_cons];by_cases e:p.1=k
   .simp only[bP e,d! e,Bool.true_or,Option.isSome_some]
   .rw[bM e,c! e,Bool.false_or];exact eZ k r
theorem rc(k j:κ)(y:V):∀f':List (κ×V),aN (f'.map λkv=>if kv.1=k then(kv.1,y)else kv) j=(aN f' j).map λx=>if j=k then y else x
 | []=>rfl
 | p::r=>by
   have ih:=rc k j y r;rw[XB];by_cases h:p.1=k
   .rw[b! h];by_cases e:p.1=j
    .rw[bP (p:=(p.1,y)) e,bP e,Option.map_some,b! (e.symm.trans h)]
    .rw[bM (p:=(p.1,y)) e,bM e,ih]
   .rw[a! h];by_cases e:p.1=j
    .rw[bP (p:=p) e,bP e,Option.map_some,a! (λz=>h (e.trans z))]
    .rw[bM (p:=p) e,bM e,ih]
theorem nW(k j:κ)(y:V):∀f':List (κ×V),aN f' k=B?->aN (f'++[(k,y)]) j=if j=k then A? y else aN f' j
 | [],_=>by
   by_cases e:k=j
   .rw[b! e.symm];exact bP (p:=(k,y)) e
   .rw[a! (λz=>e z.symm)];exact bM (p:=(k,y)) e
 | p::r,hn=>by
   rw[X7];have hk:¬p.1=k:=λz=>by rw[bP z]at hn;cases hn
   rw[bM hk]at hn;have ih:=nW k j y r hn;by_cases e:p.1=j
   .rw[bP e,bP e,a! (λz=>hk (e.trans z))]
   .rw[bM e,bM e,ih]
theorem dM(f':List (κ×V))(k j:κ)(y:V):aN (putK f' k y) j=if j=k then A? y else aN f' j:=by
 unfold putK;by_cases a:(f'.any λkv=>decide (kv.1=k))=C?
 .rw[b! a,rc];rw[eZ]at a;by_cases e:j=k
  .obtain⟨x,hx⟩:=ZY.mp a;rw[b! e,e,hx,Option.map_some,b! rfl]
  .rw[a! e];cases aN f' j with
   |none=>rfl
   |some x=>rw[Option.map_some,a! e]
 .rw[a! a];refine nW k j y f' ?_;rw[eZ]at a;cases q:aN f' k with
  |none=>rfl
  |some x=>rw[q]at a;exact(a rfl).elim
theorem bw(f':List (κ×V))(k:κ)(v:V):(putK f' k v).length<=f'.length+1:=by
 unfold putK;split
 .rw[WM];lia
 .rw[Xd,W0,List.length_nil];lia
theorem gF{f':List (κ×V)}{k:κ}(v:V)(h:aN f' k=B?):putK f' k v=f'++[(k,v)]:=by
 unfold putK;rw[eZ,h];exact a! (by decide)
theorem RelO.isSome_eq{o:Option V}{u:Option WT}(r:RelO o u):o.isSome=u.isSome:=by
 cases o with
 | none=>cases u with
   |none=>rfl
   |some _=>exact(show False from r).elim
 | some _=>cases u with
   |none=>exact(show False from r).elim
   |some _=>rfl
theorem RelO.getD{o:Option V}{u:Option WT}{d:V}{d':WT}(r:RelO o u)(rd:RelV d d'):RelV (o.getD d) (u.getD d'):=by
 cases o with
 | none=>cases u with
   |none=>exact rd
   |some _=>exact(show False from r).elim
 | some _=>cases u with
   |none=>exact(show False from r).elim
   |some _=>exact r
theorem KV.val{f':List (κ×V)}{vs:List (κ×WT)}(r:KV f' vs)(k:κ):RelO (aN f' k) (valueAt vs k):=by
 unfold KV at r;induction r with
 |nil=>exact YT
 | @cons p q ps qs h t ih =>
   obtain⟨h1,h2⟩:=h;by_cases e:p.1=k
   .have e':q.1=k:=h1.symm.trans e;have b:valueAt (q::qs) k=A? q.2:=by simp[valueAt,ZN,e']
    rw[bP e,b];exact h2
   .have e':¬q.1=k:=λz=>e (h1.trans z);have b:valueAt (q::qs) k=valueAt qs k:=by simp[valueAt,ZN,e']
    rw[bM e,b];exact ih
theorem KV.any{f':List (κ×V)}{vs:List (κ×WT)}(r:KV f' vs)(k:κ):(f'.any λkv=>decide (kv.1=k))=vs.any λkv=>decide (kv.1=k):=by
 unfold KV at r;induction r with
 |nil=>rfl
 |cons h t ih=>rw[List.any_cons,List.any_cons,ih,h.1]
theorem KV.repl{f':List (κ×V)}{vs:List (κ×WT)}(r:KV f' vs)(k:κ)(ry:RelV y u) :
 KV (f'.map λkv=>if kv.1=k then(kv.1,y)else kv) (vs.map λkv=>if kv.1=k then(kv.1,u)else kv):=by
 unfold KV at r |-;induction r with
 |nil=>exact .nil
 | @cons p q ps qs h t ih =>
   rw[XB,XB];refine .cons ?_ ih;obtain⟨h1,h2⟩:=h;by_cases e:p.1=k
   .rw[b! e,b! (h1.symm.trans e)];exact⟨h1,ry⟩
   .rw[a! e,a! (λz=>e (h1.trans z))];exact⟨h1,h2⟩
theorem KV.put{f':List (κ×V)}{vs:List (κ×WT)}(r:KV f' vs)(k:κ)(ry:RelV y u):KV (putK f' k y) (stored vs k u):=by
 unfold putK stored;rw[r.any k];by_cases e:(vs.any λkv=>decide (kv.1=k))=C?
 .rw[b! e,b! e];exact r.repl k ry
 .rw[a! e,a! e];exact Paired.snoc r ⟨rfl,ry⟩
theorem KV.length{f':List (κ×V)}{vs:List (κ×WT)}(r:KV f' vs):f'.length=vs.length:=WZ r
end
theorem j1{k:Key}(r:RelV (kV k) u):(au P w).is k u=true:=by
 cases k with
 |inl i=>obtain⟨t,e⟩:=(show∃t,u=Value.int i t from r);subst e;exact qV P w i t
 |inr x=>obtain⟨t,e⟩:=(show∃t,u=Value.str x t from r);subst e;exact p6 P w x t
theorem oq:∀{ks:List Key}{us:List WT},Vals (ks.map kV) us->ItemsAre (au P w) ks us
 | [],_,r=>by rw[Y0]at r;cases r;exact .nil
 | k::ks,_,r=>by
   rw[XB]at r;cases r with
   |cons h t=>exact .cons (j1 h) (oq t)
abbrev KTd(H:Hp):List (List Key×V)->List (List Key×WQ×WT)->Prop:=Xk λp q=>p.1=q.1/\H q.2.1=A? (.tup (p.1.map kV))/\RelV p.2 q.2.2
theorem KTd.val{f':List (List Key×V)}{xs:List (List Key×WQ×WT)}(r:KTd H f' xs)(k:List Key):RelO (aN f' k) ((atKey xs k).map (·.2)):=by
 induction r with
 |nil=>exact YT
 | @cons p q ps qs h t ih =>
   obtain⟨h1,_,h2⟩:=h;by_cases e:p.1=k
   .have e':q.1=k:=h1.symm.trans e;have b:atKey (q::qs) k=A? q.2:=by simp[atKey,ZN,e']
    rw[bP e,b];exact h2
   .have e':¬q.1=k:=λz=>e (h1.trans z);have b:atKey (q::qs) k=atKey qs k:=by simp[atKey,ZN,e']
    rw[bM e,b];exact ih
theorem KTd.repl{f':List (List Key×V)}{xs:List (List Key×WQ×WT)}(r:KTd H f' xs)(k:List Key)(ry:RelV y u) :
 KTd H (f'.map λkv=>if kv.1=k then(kv.1,y)else kv) (xs.map (putAt k u)):=by
 induction r with
 |nil=>exact .nil
 | @cons p q ps qs h t ih =>
   rw[XB,XB];refine .cons ?_ ih;obtain⟨h1,h2,h3⟩:=h;unfold putAt;by_cases e:p.1=k
   .rw[b! e,b! (h1.symm.trans e)];exact⟨h1,h2,ry⟩
   .rw[a! e,a! (λz=>e (h1.trans z))];exact⟨h1,h2,h3⟩
theorem KTd.put{f':List (List Key×V)}{xs:List (List Key×WQ×WT)}(r:KTd H f' xs)(k:List Key)(hb:H b=A? (.tup (k.map kV)))(ry:RelV y u) :
 KTd H (putK f' k y) (storedH xs k b u):=by
 have e:(f'.any λkv=>decide (kv.1=k))=(atKey xs k).isSome:=by
  rw[eZ,(r.val k).isSome_eq,Option.isSome_map]
 unfold putK storedH;rw[e];by_cases q:(atKey xs k).isSome=C?
 .rw[b! q,b! q];exact r.repl k ry
 .rw[a! q,a! q];exact Paired.snoc r ⟨rfl,hb,ry⟩
theorem KTd.keeps{f':List (List Key×V)}{xs:List (List Key×WQ×WT)}(r:KTd H f' xs)(ht:∀b ys,H b=A? (.tup ys)->H' b=A? (.tup ys)):KTd H' f' xs :=
 Xk.mapP r λ_ _ z=>⟨z.1,ht _ _ z.2.1,z.2.2⟩
theorem yQ{u:HO}(ok:HOk P w H h)(e:Rd H a u):ObjOk P w H h a u:=e.ok ok
theorem m9{f':List (Key×V)}(ok:HOk P w H h)(e:Rd H a (.dK f')):f'.length<=Xf/\(a == YO)=Cf/\∃vs,KV f' vs/\h.DictOf (au P w) a vs :=
 show ObjOk P w H h a (.dK f')from yQ ok e
theorem yM{f':List (Key×V)}(ok:HOk P w H h)(e:H a=A? (.dK f')):f'.length<=Xf/\(a == YO)=Cf/\∃vs,KV f' vs/\h.DictOf (au P w) a vs:=m9 ok (.inl e)
theorem ga{ks:List Key}(ok:HOk P w H h)(e:H a=A? (.tup (ks.map kV))):(tupleKind (au P w)).is h ks a:=by
 obtain⟨_,its,n,r,h1⟩:=(show ObjOk P w H h a (.tup (ks.map kV))from ok a _ e);exact⟨_,its.toArray,n,h1,D?,D?,by simpa using oq r⟩
theorem oi{f':List (List Key×V)}(ok:HOk P w H h)(e:Rd H a (.dT f')):f'.length<=Xf/\(a == YO)=Cf /\
 ∃xs,KTd H f' xs/\h.DictOfH (tupleKind (au P w)) a xs:=by
 obtain⟨z,y,xs,r,o,es,ep,h1,h2,h3,h4,h5⟩:=(show ObjOk P w H h a (.dT f')from yQ ok e);refine⟨z,y,xs,r,o,es,ep,h1,h2,h3,h4,λx hx=>?_,h5⟩
 have all:∀{l:List (List Key×V)}{m:List (List Key×WQ×WT)},KTd H l m->∀x∈m,(tupleKind (au P w)).is h x.1 x.2.1:=by
  intro l m q;induction q with
  |nil=>intro x hx;exact nomatch hx
  | @cons p q ps qs hq t ih =>
    intro x hx;rcases W8.mp hx with e|hx
    .subst e;exact ga ok (by rw[<-hq.1];exact hq.2.1)
    .exact ih x hx
 exact all r x hx
theorem qO{f':List (List Key×V)}(ok:HOk P w H h)(e:H a=A? (.dT f')):f'.length<=Xf/\(a == YO)=Cf /\
 ∃xs,KTd H f' xs/\h.DictOfH (tupleKind (au P w)) a xs:=oi ok (.inl e)
def DGet(H:Hp)(a:WQ)(y:V)(r:Option V):Prop :=
 (∃f' k,Rd H a (.dK f')/\y=kV k/\r=aN f' k)\/∃f' k b,Rd H a (.dT f')/\y=.ref b/\H b=A? (.tup (k.map kV))/\r=aN f' k
def DPut(H:Hp)(a:WQ)(y v:V)(H':Hp):Prop :=
 (∃f' k,H a=A? (.dK f')/\y=kV k/\f'.length<Xf/\H'=upd H a (.dK (putK f' k v))) \/
 ∃f' k b,H a=A? (.dT f')/\y=.ref b/\H b=A? (.tup (k.map kV))/\f'.length<Xf/\H'=upd H a (.dT (putK f' k v))
theorem DGet.k{f':List (Key×V)}{k:Key}(e:H a=A? (.dK f')):DGet H a (kV k) (aN f' k):=.inl ⟨f',k,.inl e,rfl,rfl⟩
theorem DGet.t{f':List (List Key×V)}{k:List Key}(e:H a=A? (.dT f'))(eb:H b=A? (.tup (k.map kV))):DGet H a (.ref b) (aN f' k):=.inr ⟨f',k,b,.inl e,rfl,eb,rfl⟩
theorem DPut.t{f':List (List Key×V)}{k:List Key}(e:H a=A? (.dT f'))(eb:H b=A? (.tup (k.map kV)))(hl:f'.length<Xf) :
 DPut H a (.ref b) v (upd H a (.dT (putK f' k v))):=.inr ⟨f',k,b,e,rfl,eb,hl,rfl⟩
section
variable{X:Cx}{r:WT}{o:Option V}
theorem Inv.big(I:Inv X U Z H s):YO<s.1.1.size:=by
 have h:Yn<s.1.1.size:=(I.mod.glob.keeps I.bk).lt;exact Nat.lt_trans (by decide) h
theorem nH(hu:A.units+1<YK)(I:Inv X U Z H s)(g:DGet H a y (A? v))(ry:RelV y u)(h:∀w' s',Inv X U Z H s'->RelV v w'->Q w' s') :
 W7 (Xw X.prog X.w) A (getItem (.ref a) u) Q E s:=by
 rcases g with⟨f',k,e,ey,l⟩|⟨f',k,b,e,ey,eb,l⟩
 .subst ey;obtain⟨z,hd,vs,rel,dd⟩:=m9 I.hok e;obtain⟨w',hw,Cj⟩:=RelO.some_of (v:=v) (o:=valueAt vs k) (by rw[l];exact rel.val k);exact wpAny_getItem_of (j1 ry) dd.mapOf hw (h w' _ (I.tok _) Cj)
 .subst ey;cases(show u=Xl b from ry);obtain⟨z,hd,xs,rel,dd⟩:=oi I.hok e;obtain⟨w',hw,Cj⟩:=RelO.some_of (v:=v) (o:=(atKey xs k).map (·.2)) (by rw[l];exact rel.val k);obtain⟨p,hp,AW⟩:=XM.mp hw;refine wpAny_getItem_heap (tupleKind_room_in1 hu) (ga I.hok eb) dd hp ?_;rw[AW];exact h w' _ (I.tok _) Cj
theorem abK(hu:A.units+1<YK)(I:Inv X U Z H s)(g:DGet H a y o)(ry:RelV y u)(h:∀s',Inv X U Z H s'->Q (.bool o.isSome) s') :
 W7 (Xw X.prog X.w) A (compareOp .In u (.ref a)) Q E s:=by
 rcases g with⟨f',k,e,ey,l⟩|⟨f',k,b,e,ey,eb,l⟩
 .subst ey;obtain⟨z,hd,vs,rel,dd⟩:=m9 I.hok e;refine wpAny_in_of (j1 ry) hd dd.mapOf ?_;rw[<-(rel.val k).isSome_eq,<-l];exact h _ (I.tok _)
 .subst ey;cases(show u=Xl b from ry);obtain⟨z,hd,xs,rel,dd⟩:=oi I.hok e;refine wpAny_in_heap (tupleKind_room_in1 hu) (ga I.hok eb) hd dd ?_;have q:=(rel.val k).isSome_eq;rw[Option.isSome_map]at q;rw[<-q,<-l];exact h _ (I.tok _)
theorem fX{ob:HO}(I:Inv X U Z H s)(mu:Mut (H a))(hs:YF a s.1 h')(he:∃q,h'.get? a=A? q)(new:ObjOk X.prog X.w (upd H a ob) h' a ob) :
 Inv X U Z (upd H a ob) {s with heap:=h',toks:=t'} :=
 I.write (x:=a) (e:=a) mu (.inl rfl) (λb q hb z=>(hs.2 b hb).trans z) he new
theorem vj{f':List (Key×V)}{vs:List (Key×WT)}(z:f'.length<=Xf)(hd:(a == YO)=Cf)(rel:KV f' vs)(dd:h'.DictOf (au P w) a vs) :
 ObjOk P w H' h' a (.dK f'):=⟨z,hd,vs,rel,dd⟩
theorem uA{Q:Unit->WX->Prop}(hu:A.units+1<YK)(I:Inv X U Z H s)(g:DPut H a y v H')(ry:RelV y u)(rv:RelV v r)(h:∀s',Inv X U Z H' s'->Q () s') :
 W7 (Xw X.prog X.w) A (setItem (.ref a) u r) Q E s:=by
 rcases g with⟨f',k,e,ey,l,eH⟩|⟨f',k,b,e,ey,eb,l,eH⟩
 .subst ey eH;obtain⟨z,hd,vs,rel,dd⟩:=yM I.hok e;have hz:vs.length<=Xf:=by rw[<-rel.length];exact z
  have hl:(putK f' k v).length<=Xf:=by have:=bw f' k v;lia
  refine wpAny_setItem_pairs (hsz:=hz) (j1 ry) dd λh' Ds hs=>h _ ?_;have he:∃q,h'.get? a=A? q:=let⟨q,_,_,hq,_⟩:=Ds;⟨q,hq⟩
  exact fX I (by rw[e];exact YT) hs he (vj hl hd (rel.put k rv) Ds)
 .subst ey eH;cases(show u=Xl b from ry);obtain⟨z,hd,xs,rel,dd⟩:=qO I.hok e;have hz:xs.length<=Xf:=by rw[<-WZ rel];exact z
  have hl:(putK f' k v).length<=Xf:=by have:=bw f' k v;lia
  refine wpAny_setItem_heap (hsz:=hz) (tupleKind_room_in1 hu) (ga I.hok eb) dd λh' Ds hs=>h _ ?_;obtain⟨q,es,ep,hq,h2,h3,h4,_,h5⟩:=Ds;refine fX I (by rw[e];exact YT) hs ⟨q,hq⟩ ⟨hl,hd,_,(rel.put k eb rv).keeps λc ys ec=>?_,q,es,ep,hq,h2,h3,h4,h5⟩;rw[ai (cp ec e (λz=>nomatch z))];exact ec
end
section
variable{X:Cx}{f':List (Key×V)}{k:Key}
end
def yy(i:X9):Prop:=∀ov iv,subscripted i Cf ov iv=operate [ov,iv] (getItem ov iv)
theorem oE{value slice:X9}{T id:String}
 (hl:typeLookup (.type T) "__getitem__"=pure (A? (.builtin id))) (hs:yy slice)
 (h:W7 (Xw prog w) A (Y2 value env) (λo Ac=>W7 (Xw prog w) A (Y2 slice env) (λi AI=>AI.TypeIs o T/\W7 (Xw prog w) A (getItem o i) Q E AI) E Ac) E s) :
 W7 (Xw prog w) A (Y2 (.Subscript value slice pos) env) Q E s:=by
 refine Subscript_ (Y6 h (λo Ac An=>Y6 An (λi AI A7=>?_) λ_ _ x=>x) λ_ _ x=>x);obtain⟨hT,A7⟩:=A7;unfold subscriptTail;refine WN ?_;rw[getitemInPython_of_ne hT.not_modules];refine WN (Yr hT hl ?_)
 have fin:W7 (Xw prog w) A (subscripted slice Cf o i) (λr Ci=>W7 (Xw prog w) A (letTemporaryGo value o r >>= λ_=>pure r) Q E Ci) E AI:=by
  rw[hs o i];exact wpAny_operating (Y6 A7 (λr Ci CN=>WN (wpAny_letTemporaryGo (WW CN))) λ_ _ x=>x)
 first
  |exact WW (WN fin)
  |exact WN (WW (WN fin))
  |exact WN fin
theorem kj{X:Cx}{o:Option V}(I:Inv X U Z H s)(g:DGet H a y o):s.TypeIs (.ref a) "dict":=by
 rcases g with⟨f',k,e,_,_⟩|⟨f',k,b,e,_,_,_⟩
 .obtain⟨_,_,vs,_,dd⟩:=m9 I.hok e;exact dd.typeIs
 .obtain⟨_,_,xs,_,dd⟩:=oi I.hok e;exact dd.typeIs
def aa7(td ty:TE):TE:=λZ H Q=>td Z H λx H1=>ty Z H1 λy H2=>∃a v,x=.ref a/\DGet H2 a y (A? v)/\Q v H2
def abB(ty td:TE):TE:=λZ H Q=>ty Z H λy H1=>td Z H1 λx H2=>∃a o,x=.ref a/\DGet H2 a y o/\Q (.bl o.isSome) H2
def aaI(td ty tv:TE):TS:=λD Z H=>tv Z H λv H1=>td Z H1 λx H2=>ty Z H2 λy H3=>∃a H4,x=.ref a/\DPut H3 a y v H4/\D.nx Z H4
section
variable{X:Cx}{o i value:X9}{JR:Z2}{td ty tv:TE}
theorem jl(hu:X.A.units+1<YK)(ho:PE X o td)(hi:PE X i ty)(hs:yy i):PE X (.Subscript o i pos) (aa7 td ty):=by
 intro U s Z H Q I h;refine oE PySem.F.slot_dict_getitem.lookup hs (thn (ho U s Z H _ I h) λu s1⟨x,H1,I1,rx,q1⟩=>thn (hi U s1 Z H1 _ I1 q1) λiv s2⟨y,H2,I2,ry,a,v,ex,g,q2⟩=>?_);subst ex;obtain rfl:u=Xl a:=rx;exact⟨kj I2 g,nH hu I2 g ry λw' s3 I3 Cj=>⟨v,H2,I3,Cj,q2⟩⟩
theorem zp(hu:X.A.units+1<YK)(hi:PE X i ty)(ho:PE X o td):PC X .In i o (abB ty td):=by
 intro U s Z H Q I h;refine thn (hi U s Z H _ I h) λiv s1⟨y,H1,I1,ry,q1⟩=>thn (ho U s1 Z H1 _ I1 q1) λu s2⟨x,H2,I2,rx,a,ov,ex,g,q2⟩=>?_;subst ex;obtain rfl:u=Xl a:=rx;exact abK hu I2 g ry λs3 I3=>⟨.bl ov.isSome,H2,I3,rfl,q2⟩
theorem kU(hu:X.A.units+1<YK)(ho:PE X o td)(hi:PE X i ty)(hv:PE X value tv)(hs:swapsWith value (A? (.Subscript o i pos')) pos.line X.env=pure Cf) :
 PS X (.Assign [.Subscript o i pos'] value pos) (aaI td ty tv):=by
 intro U s Z H D I h;refine wpAny_Assign_Subscript (thn (hv U s Z H _ I h) λr s1⟨v,H1,I1,rv,q1⟩=>thn (ho U s1 Z H1 _ I1 q1) λu s2⟨x,H2,I2,rx,q2⟩=>thn (hi U s2 Z H2 _ I2 q2) λiv s3⟨y,H3,I3,ry,a,H4,ex,g,q3⟩=>?_) hs;subst ex;obtain rfl:u=Xl a:=rx;exact uA hu I3 g ry rv λs4 I4=>⟨Z,H4,I4,q3⟩
end
theorem rA(h:Yh)(hb:YO<h.objs.size):ObjOk P w H (h.push {cls:=.type "dict",data:=.dict #[]}) h.objs.size (.dK []) :=
 ⟨Xg _,beq_eq_false_iff_ne.mpr (YQ (XC hb)),[],.nil,Heap.DictOf.new h⟩
theorem qv(h:Yh)(hb:YO<h.objs.size):ObjOk P w H (h.push {cls:=.type "dict",data:=.dict #[]}) h.objs.size (.dT []) :=
 ⟨Xg _,beq_eq_false_iff_ne.mpr (YQ (XC hb)),[],.nil,_,#[],0,W4 _ rfl,⟨rfl,rfl,rfl⟩,rfl,rfl,List.nodup_nil⟩
def aag:TE:=λ_ H Q=>∀p,H p=B?->Q (.ref p) (upd H p (.dK []))
def aaj:TE:=λ_ H Q=>∀p,H p=B?->Q (.ref p) (upd H p (.dT []))
section
variable{X:Cx}
theorem vG:PE X (.Dict [] [] pos) aag:=λU s Z H Q I h =>
 wpAny_Dict_empty ⟨.ref s.1.1.size,_,I.laid (a:=s.1.1.size) (o:=.dK []) (t':=s.toks) (λ_ _ q=>WU _ q) (WV _) (rA s.1 I.big),rfl,h _ (I.hok.fresh (WV _))⟩
theorem gJ:PE X (.Dict [] [] pos) aaj:=λU s Z H Q I h =>
 wpAny_Dict_empty ⟨.ref s.1.1.size,_,I.laid (a:=s.1.1.size) (o:=.dT []) (t':=s.toks) (λ_ _ q=>WU _ q) (WV _) (qv s.1 I.big),rfl,h _ (I.hok.fresh (WV _))⟩
end
def sM:List (TE×TE)->St->Hp->(List (V×V)->Hp->Prop)->Prop
 | [],_,H,Q=>Q [] H
 |(tk,tv)::r,Z,H,Q=>tk Z H λx H1=>tv Z H1 λy H2=>sM r Z H2 λps H3=>Q ((x,y)::ps) H3
abbrev VV:List (V×V)->List (WT×WT)->Prop:=Xk λp q=>RelV p.1 q.1/\RelV p.2 q.2
def PPs(X:Cx)(pos:Z2)(keys:List (Option X9))(values:List X9)(FP:List (TE×TE)):Prop :=
 ∀(U:List (WQ×Zb))(s:WX)(Z:St)(H:Hp)(Q:List (V×V)->Hp->Prop),Inv X U Z H s->sM FP Z H Q ->
   W7 (Xw X.prog X.w) X.A (evalPairs (pairTrees keys values X.env pos)) (λvs s'=>∃ps H',Inv X U Z H' s'/\VV ps vs/\Q ps H') X.xe s
theorem tq{X:Cx}:PPs X pos [] [] []:=λU s Z H Q I h=>pairTrees_nil_walk ⟨[],H,I,.nil,h⟩
theorem qc{X:Cx}{k v:X9}{ks:List (Option X9)}{vs:List X9}{tk tv:TE}{FP:List (TE×TE)}(hk:PE X k tk)(hv:PE X v tv)(hr:PPs X pos ks vs FP) :
 PPs X pos (A? k::ks) (v::vs) ((tk,tv)::FP):=λU s Z H Q I h =>
 pairTrees_cons_walk (thn (hk U s Z H _ I h) λu s1⟨x,H1,I1,rx,q1⟩=>thn (hv U s1 Z H1 _ I1 q1) λw2 s2⟨y,H2,I2,ry,q2⟩ =>
  thn (hr U s2 Z H2 _ I2 q2) λws s3⟨ps,H3,I3,rel,q3⟩=>⟨(x,y)::ps,H3,I3,.cons ⟨rx,ry⟩ rel,q3⟩)
def jJ(f' more:List (Key×V)):List (Key×V):=more.foldl (λacc kv=>putK acc kv.1 kv.2) f'
theorem KV.merge:∀{more:List (Key×V)}{rs:List (Key×WT)}{f':List (Key×V)}{vs:List (Key×WT)},KV more rs->KV f' vs->KV (jJ f' more) (merged vs rs):=by
 intro more rs f' vs r;unfold KV at r;induction r generalizing f' vs with
 |nil=>intro q;exact q
 | @cons p q ps qs h t ih =>
   intro r0
   have e:KV (putK f' p.1 p.2) (stored vs q.1 q.2):=by
    have:=r0.put p.1 h.2;rw[<-h.1];exact this
   exact ih e
theorem ig:∀(more f':List (Key×V)),(jJ f' more).length<=f'.length+more.length
 | [],f'=>by show f'.length<=f'.length+0;lia
 | p::r,f'=>by
   have h1:=ig r (putK f' p.1 p.2);have h2:=bw f' p.1 p.2;show(jJ (putK f' p.1 p.2) r).length<=_;rw[W0];lia
theorem l8{P:W5}{w:Xq}:∀{f':List (Key×V)}{ws:List (WT×WT)},VV (f'.map λkv=>(kV kv.1,kv.2)) ws->∃rs,Carries (au P w) ws rs/\KV f' rs
 | [],_,r=>by rw[Y0]at r;cases r;exact⟨[],YT,.nil⟩
 | p::f',_,r=>by
   rw[XB]at r;cases r with
   | @cons a b as bs h t =>
     obtain⟨rs,c,q⟩:=l8 (P:=P) (w:=w) t;obtain⟨b1,b2⟩:=b;exact⟨(p.1,b2)::rs,⟨j1 h.1,D?,c⟩,.cons ⟨D?,h.2⟩ q⟩
def aaQ(FP:List (TE×TE)):TE:=λZ H Q=>∀p,H p=B?->sM FP Z (upd H p (.dK [])) λps H2=>H2 p=A? (.dK [])/\∃f':List (Key×V),ps=f'.map (λkv=>(kV kv.1,kv.2))/\f'.length<=15/\Q (.ref p) (upd H2 p (.dK (jJ [] f')))
theorem sX{X:Cx}{keys:List (Option X9)}{values:List X9}{FP:List (TE×TE)}(h:PPs X pos keys values FP)(Aa:keys.all (·.isSome)=C?)(hl:keys.length=values.length)(h0:keys≠[])
 (Uy:keys.length<=15):PE X (.Dict keys values pos) (aaQ FP):=by
 intro U s Z H Q I q;have hn:=I.hok.fresh (WV s.1.1.size);have I1:=I.laid (a:=s.1.1.size) (o:=.dK []) (h':=s.1.push {cls:=.type "dict",data:=.dict #[]}) (t':=s.toks) (λ_ _ q=>WU _ q) (WV _) (rA s.1 I.big);refine wpAny_Dict_walk (knd:=au X.prog X.w) Aa hl h0 Uy (thn (h U _ Z _ _ I1 (q _ hn)) λws s2⟨ps,H2,I2,rel,e,f',ep,lk,q2⟩=>?_);subst ep;obtain⟨rs,c,rk⟩:=l8 (P:=X.prog) (w:=X.w) rel;obtain⟨z,hd,vs0,r0,dd⟩:=yM I2.hok e;cases r0;refine⟨rs,c,dd,λh' Ds hs=>⟨.ref s.1.1.size,_,?_,D?,q2⟩⟩
 have hz:(jJ [] f').length<=Xf:=by
  have h1:=ig f' [];rw[List.length_nil]at h1;rw[sizeLine_eq];lia
 have he:∃q,h'.get? s.1.1.size=A? q:=let⟨q,_,_,hq,_⟩:=Ds;⟨q,hq⟩
 exact fX I2 (by rw[e];exact YT) hs he (vj hz hd (rk.merge .nil) Ds)
structure M2(X:Cx)(o:X9)(m:Xp)(apos:Z2)(e f:X9)(Ar:Z2):Prop where
 base:attributeBase o m X.env (Y2 o X.env)=Y2 o X.env
 few:((Z0 Ar (XG [e,f] X.env)).all (λx=>!x.1) && (backToKw Ar (keywordEach [] X.env)).all (λx=>x.1.isSome)
  && decide (([e,f]:List X9).length+([]:List Keyword).length+(if([]:List Keyword).isEmpty then 0 else 1)<30))=C?
 line:(apos.endLine == Ar.line)=C?
 trees:Z0 Ar (XG [e,f] X.env)=[(Cf,Y2 e X.env),(Cf,Y2 f X.env)]
def IsD(H:Hp)(a:WQ):Prop:=(∃f',Rd H a (.dK f'))\/∃f',Rd H a (.dT f')
theorem zD{X:Cx}(I:Inv X U Z H s)(d:IsD H a) :
 s.TypeIs (.ref a) "dict"/\(∀b,Xl a=.ref b->∃ob,s.1.get? b=A? ob/\ob.dict=B?)/\(a == YO)=false:=by
 rcases d with⟨f',e⟩|⟨f',e⟩
 .obtain⟨_,hd,vs,_,dd⟩:=m9 I.hok e;refine⟨dd.typeIs,λb q=>?_,hd⟩;cases q;obtain⟨ob,_,_,h1,h2,_⟩:=dd;exact⟨ob,h1,h2.2.1⟩
 .obtain⟨_,hd,xs,_,dd⟩:=oi I.hok e;refine⟨dd.typeIs,λb q=>?_,hd⟩;cases q;obtain⟨ob,_,_,h1,h2,_⟩:=dd;exact⟨ob,h1,h2.2.1⟩
section
variable{X:Cx}{d:V}{r:WT}{o:Option V}
theorem zK(hu:A.units+1<YK)(I:Inv X U Z H s)(g:DGet H a y o)(ry:RelV y u)(rd:RelV d r)(h:∀w' s',Inv X U Z H s'->RelV (o.getD d) w'->Q w' s') :
 W7 (Xw X.prog X.w) A (call (.builtin "dict.get") [.ref a,u,r]) Q E s:=by
 rcases g with⟨f',k,e,ey,l⟩|⟨f',k,b,e,ey,eb,l⟩
 .subst ey;obtain⟨z,hd,vs,rel,dd⟩:=m9 I.hok e;refine call_meetsIn PySem.F.slot_dict_get dd.typeIs PySem.F.entry_dict_get (PySem.F.args_dict_get_3 _ _ _) (meets_dict_get_default (au X.prog X.w) a (j1 ry) hd r) ⟨_,dd.mapOf,h _ _ (I.tok _) ?_⟩;rw[l];exact(rel.val k).getD rd
 .subst ey;cases(show u=Xl b from ry);obtain⟨z,hd,xs,rel,dd⟩:=oi I.hok e;refine call_meetsIn PySem.F.slot_dict_get dd.typeIs PySem.F.entry_dict_get (PySem.F.args_dict_get_3 _ _ _) (meetsH_dict_get_default (tupleKind (au X.prog X.w)) a b hd r) ⟨tupleKind_room_in1 hu,k,xs,ga I.hok eb,dd,h _ _ (I.tok _) ?_⟩;rw[l];exact(rel.val k).getD rd
end
def vX(td ty tx:TE):TE:=λZ H Q=>td Z H λx H1=>∃a,x=.ref a/\IsD H1 a/\ty Z H1 λy H2=>tx Z H2 λz H3=>∃o,DGet H3 a y o/\Q (o.getD z) H3
section
variable{X:Cx}{o f:X9}{apos Ar:Z2}{td ty tx:TE}
theorem vn(hu:X.A.units+1<YK)(ho:PE X o td)(he:PE X e ty)(hf:PE X f tx)(m:M2 X o "get" apos e f Ar):PE X (.Call (.Attribute o "get" apos) [e,f] [] Ar) (vX td ty tx):=by
 intro U s Z H Q I h;refine wpAny_Call_method m.base m.few m.line PySem.F.plainAttrs_dict PySem.F.slot_dict_get PySem.F.type_dict_get (thn (ho U s Z H _ I h) λu s1⟨x,H1,I1,rx,a,ex,d,q1⟩=>?_);subst ex;obtain rfl:u=Xl a:=rx;obtain⟨t1,t2,_⟩:=zD I1 d;refine⟨t1,t2,?_⟩;rw[m.trees]
 refine Calls.callWith_builtin rfl (Calls.evalArgs_plain (YJ (thn (he U s1 Z H1 _ I1 q1) λiv s2⟨y,H2,I2,ry,q2⟩ =>
  YJ (thn (hf U s2 Z H2 _ I2 q2) λfv s3⟨z,H3,I3,rz,ov,g,q3⟩=>Zh ?_))))
 exact zK hu I3 g ry rz λw' s4 I4 Cj=>⟨_,H3,I4,Cj,q3⟩
end
section
variable{X:Cx}{f':List (Key×V)}
end
section
variable{X:Cx}
end
inductive y6(K:WO)(T:String)(xs:List V)(H:Hp)(Q:VK):Prop
 |mk (x:_) (b:_) (t:_) (CI:xs=[x,.ty T]) (CJ:iV K H x t) (Eh:PySem.W.kitOne K t (.type T)=A? b) (Fh:Q (.bl b) H):y6 K T xs H Q
def abf(K:WO)(T:String):List V->Hp->VK->Prop:=y6 K T
theorem mZ{X:Cx}{T:String}:fH X (.builtin "isinstance") (abf X.K T):=by
 intro U s Z H xs us Q I r h;obtain⟨x,b,t,e,ty,k,q⟩:=h;exact vf (T:=T) (b:=b) (t:=t) U s Z H xs us Q I r ⟨x,e,ty,k,q⟩
theorem vJ{J:It}(zs:List α)(p:α->Bool)(f:α->V)(hz:zs.length=xs.length)(hn:xs.length<=1000000)
 (FL:∀i H2,Same H H2->i<xs.length->J.go i H2) (Bf:∀H2,Same H H2->J.stop xs.length H2) (Cm:∀(i:Nat)H2 x H3,Same H H2->i<xs.length->J.yld i H2 x H3->H3=H2/\xs[i]?=A? x)
 (hb:∀(i:Nat)x z H2(R:VK)(R0:Hp->Prop),xs[i]?=A? x->zs[i]?=A? z->Same H H2->(p z=C?->R (f z) H2)->(p z=Cf->R0 H2)->g x (cσ js Z) H2 λAx H3=>tt Ax H3 λb H4=>if b=C? then te Ax H4 R else R0 H4)
 (q:∀D,H D=B?->fin D (upd H D (.lst ((zs.filter p).map f)))) :
 ∀D,H D=B?->∃(n:Nat)(W:Nat->Hp->Prop),W 0 (upd H D (.lst []))/\g8 js g tt te Z J D n W λH'=>fin D H':=by
 intro D hD;refine⟨xs.length,λi H2=>i<=xs.length/\H2=upd H D (.lst (((zs.take i).filter p).map f)),⟨Xg _,by simp⟩,?_⟩;rintro i H2 ⟨hi,rfl⟩;have sm:∀o,Same H (upd H D o):=λo=>ae hD o;by_cases h:i=xs.length
 .left;subst h;refine⟨Bf _ (sm _),?_⟩;rw[<-hz,Yo];exact q D hD
 .right;have AF:i<xs.length:=by lia
  refine⟨AF,FL i _ (sm _) AF,λx H1 hy=>?_⟩;obtain⟨rfl,hx⟩:=Cm i _ x H1 (sm _) AF hy;have N4:i<zs.length:=by lia
  have e1:zs[i]?=A? zs[i]:=WR N4
  have e2:(zs.take (i+1)).filter p=(zs.take i).filter p++(if p zs[i]=C? then[zs[i]]else[]):=by
   rw[XU,e1,ZD];show _++List.filter p [zs[i]]=_;rw[X1,List.filter_nil]
  have hlen:(((zs.take i).filter p).map f).length<=1000000:=by
   rw[WM];have:=ZE p (zs.take i);rw[XF]at this;lia
  refine hb i x zs[i] _ _ _ hx e1 (sm _) (λhp=>⟨_,ac,Nat.lt_of_le_of_lt hlen (by decide),AF,?_⟩) (λhp=>⟨AF,?_⟩)
  .rw[kN,e2,b! hp,Xa];rfl
  .rw[e2,a! (by rw[hp];exact W6),XA]
theorem ie(zs:List α)(p:α->Bool)(f:α->V)(hS:SqL K H a xs)(hz:zs.length=xs.length)(hn:xs.length<=1000000)
 (hb:∀(i:Nat)x z H2(R:VK)(R0:Hp->Prop),xs[i]?=A? x->zs[i]?=A? z->Same H H2->(p z=C?->R (f z) H2)->(p z=Cf->R0 H2)->g x (cσ js Z) H2 λAx H3=>tt Ax H3 λb H4=>if b=C? then te Ax H4 R else R0 H4)
 (q:∀D,H D=B?->fin D (upd H D (.lst ((zs.filter p).map f)))) :
 ∀D,H D=B?->∃(n:Nat)(W:Nat->Hp->Prop),W 0 (upd H D (.lst []))/\g8 js g tt te Z (Itl K a) D n W λH'=>fin D H' :=
 vJ zs p f hz hn (λi H2 s hi=>⟨xs,xs[i],s.seq hS,WR hi⟩) (λH2 s=>⟨xs,s.seq hS,WV _⟩) (λi H2 x H3 s hi hy=>⟨hy.1,hy.2 xs (s.seq hS)⟩) hb q
theorem zP:PySem.W.kitOne K (.type "int") (.type "int")=A? true:=rfl
theorem zU:PySem.W.kitOne K (.type "int") (.type "bool")=A? false:=by with_unfolding_all rfl
end L2
namespace BB
open PySem L2
set_option genInjectivity true in
inductive Dv where
 |int (i:Int)
 |str (x:Xp)
 |tup (ds:List Dv)
mutual
def Dv.deep:Dv->Nat
 |.int _=>0
 |.str _=>0
 |.tup ds=>bO ds+1
def bO:List Dv->Nat
 | []=>0
 |d::ds=>max d.deep (bO ds)
end
mutual
def Dv.tot:Dv->Nat
 |.int _=>1
 |.str _=>1
 |.tup ds=>yl ds+1
def yl:List Dv->Nat
 | []=>0
 |d::ds=>d.tot+yl ds
end
mutual
def DAt(H:Hp):Dv->V->Prop
 |.int i,v=>v=.int i
 |.str x,v=>v=.str x
 |.tup ds,v=>∃a vs,v=.ref a/\H a=A? (.tup vs)/\DAts H ds vs
def DAts(H:Hp):List Dv->List V->Prop
 | [],vs=>vs=[]
 |d::ds,vs=>∃v r,vs=v::r/\DAt H d v/\DAts H ds r
end
theorem DAts.nil:DAts H [] []:=by rw[DAts]
theorem DAts.cons{d:Dv}{ds:List Dv}(h1:DAt H d v)(h2:DAts H ds vs):DAts H (d::ds) (v::vs):=by rw[DAts];exact⟨v,vs,D?,h1,h2⟩
theorem DAts.length:∀{ds:List Dv}{vs:List V},DAts H ds vs->vs.length=ds.length
 | [],vs,h=>by rw[DAts]at h;subst h;rfl
 | d::ds,vs,h=>by
   rw[DAts]at h;obtain⟨v,r,rfl,h1,h2⟩:=h;rw[W0,W0,h2.length]
theorem DAts.at:∀{ds:List Dv}{vs:List V}{i:Nat}{d:Dv},DAts H ds vs->ds[i]?=A? d->∃v,vs[i]?=A? v/\DAt H d v
 | [],vs,i,d,h,e=>by simp at e
 | d0::ds,vs,i,d,h,e=>by
   rw[DAts]at h;obtain⟨v,r,rfl,h1,h2⟩:=h;cases i with
   |zero=>simp at e;subst e;exact⟨v,D?,h1⟩
   | succ i =>
     obtain⟨u,g1,g2⟩:=h2.at (i:=i) (by simpa using e);exact⟨u,by simpa using g1,g2⟩
theorem fM:∀{ds:List Dv}{i:Nat}{d:Dv},ds[i]?=A? d->d.deep<=bO ds
 | [],i,d,e=>by simp at e
 | d0::ds,i,d,e=>by
   rw[bO];cases i with
   |zero=>simp at e;subst e;lia
   | succ i =>
     have:=fM (ds:=ds) (i:=i) (by simpa using e);lia
theorem uk:∀{ds:List Dv}{i:Nat}{d:Dv},ds[i]?=A? d->d.tot<=yl ds
 | [],i,d,e=>by simp at e
 | d0::ds,i,d,e=>by
   rw[yl];cases i with
   |zero=>simp at e;subst e;lia
   | succ i =>
     have:=uk (ds:=ds) (i:=i) (by simpa using e);lia
theorem Dv.tot_pos(d:Dv):1<=d.tot:=by
 cases d with
 |int i=>rw[Dv.tot];lia
 |str x=>rw[Dv.tot];lia
 |tup ds=>rw[Dv.tot];lia
mutual
def Th.dv:Th->Dv
 |.knot n ks=>.tup (.str n::dvs ks)
 |.call s k=>.tup [.str q,.int s,.int k]
def dvs:List Th->List Dv
 | []=>[]
 |t::ts=>t.dv::dvs ts
end
mutual
theorem At.dv:∀{t:Th}{a:WQ},At H t a->DAt H t.dv (.ref a)
 | .knot n ks,a,h=>by
   rw[At]at h;obtain⟨_,as,h1,h2⟩:=h;rw[Th.dv,DAt];exact⟨a,_,D?,h1,.cons (by rw[DAt]) (Ats.dvs h2)⟩
 | .call s k,a,h=>by
   rw[At]at h;rw[Th.dv,DAt];exact⟨a,_,D?,h,.cons (by rw[DAt]) (.cons (by rw[DAt]) (.cons (by rw[DAt]) .nil))⟩
theorem Ats.dvs:∀{ts:List Th}{as:List WQ},Ats H ts as->DAts H (dvs ts) (as.map i!)
 | [],as,h=>by rw[Ats]at h;subst h;rw[BB.dvs];exact .nil
 | t::ts,as,h=>by
   rw[Ats]at h;obtain⟨a,r,rfl,h1,h2⟩:=h;rw[BB.dvs,XB];exact .cons (At.dv h1) (Ats.dvs h2)
end
mutual
theorem Th.dv_deep:∀t:Th,t.dv.deep<=t.tall
 | .knot n ks=>by
   have:=iN ks;rw[Th.dv,Dv.deep,bO,Dv.deep,t!];lia
 |.call s k=>by rw[Th.dv,t!];simp[Dv.deep,bO]
theorem iN:∀ts:List Th,bO (dvs ts)<=aJ ts
 | []=>by rw[dvs,bO];exact Xg _
 | t::ts=>by
   have:=t.dv_deep;have:=iN ts;rw[dvs,bO,aJ];lia
end
theorem mH{ys:List V}{Q:VK}(ha:H a=A? (.tup xs))(hb:H b=A? (.tup ys))(hz:xs.length+ys.length<=1000000)(q:∀p H',k! H H'->H' p=A? (.tup (xs++ys))->Q (.ref p) H'):m7 K (.ref a) (.ref b) H Q:=by
 refine⟨a,b,xs,ys,D?,D?,n! ha,n! hb,cQ hz,λe=>?_,λ_ e=>?_,λ_ _ p hp=>?_⟩
 .exact q b H (.refl _) (by rw[e];exact hb)
 .exact q a H (.refl _) (by rw[e,XA];exact ha)
 .exact q p _ (ae hp _) ac
mutual
def Th.pl(pre:List Int):Th->List (List Int×Th)
 |.knot n ks=>(pre,.knot n ks)::pls pre 0 ks
 |.call s k=>[(pre,.call s k)]
def pls(pre:List Int)(i:Int):List Th->List (List Int×Th)
 | []=>[]
 |t::ts=>t.pl (pre++[i])++pls pre (i+1) ts
end
theorem Th.pl_eq(pre:List Int)(t:Th):t.pl pre=(pre,t)::pls pre 0 t.kids:=by
 cases t with
 |knot n ks=>rw[Th.pl];rfl
 |call s k=>rw[Th.pl];simp[L!,pls]
mutual
theorem Th.pl_len(pre:List Int):∀t:Th,(t.pl pre).length=t.size
 |.knot n ks=>by rw[Th.pl,p!,W0,uf pre 0 ks]
 |.call s k=>by rw[Th.pl,p!];rfl
theorem uf(pre:List Int)(i:Int):∀ts:List Th,(pls pre i ts).length=aq ts
 | []=>by rw[pls,aq];rfl
 |t::ts=>by rw[pls,aq,Xd,Th.pl_len _ t,uf pre (i+1) ts]
end
def szP:List (List Int×Th)->Nat
 | []=>0
 |p::ps=>p.2.size+szP ps
def plP:List (List Int×Th)->List (List Int×Th)
 | []=>[]
 |p::ps=>p.2.pl p.1++plP ps
theorem cS:∀a b,szP (a++b)=szP a+szP b
 | [],b=>by simp[szP]
 |p::a,b=>by rw[X7,szP,szP,cS a b,Zv]
theorem kR(a:List (List Int×Th)):szP a.reverse=szP a:=by
 induction a with
 |nil=>rfl
 |cons x xs ih=>rw[Yb,cS,ih,szP,szP,szP];lia
theorem l4:∀a b,plP (a++b)=plP a++plP b
 | [],b=>by simp[plP]
 |p::a,b=>by rw[X7,plP,plP,l4 a b,XO]
theorem tP:∀a,(plP a).length=szP a
 | []=>rfl
 |p::a=>by rw[plP,szP,Xd,Th.pl_len,tP a]
theorem pD:∀a,a.length<=szP a
 | []=>Xg _
 | p::a=>by
   have:=p.2.size_pos;have:=pD a;rw[W0,szP];lia
def df(pre:List Int)(i:Int):List Th->List (List Int×Th)
 | []=>[]
 |t::ts=>(pre++[i],t)::df pre (i+1) ts
theorem gE(pre:List Int)(i:Int):∀ts,(df pre i ts).length=ts.length
 | []=>rfl
 |t::ts=>by rw[df,W0,W0,gE pre (i+1) ts]
theorem rh(pre:List Int)(i:Int):∀ts,plP (df pre i ts)=pls pre i ts
 | []=>by rw[df,plP,pls]
 |t::ts=>by rw[df,plP,pls,rh pre (i+1) ts]
theorem iX(pre:List Int)(i:Int):∀ts,szP (df pre i ts)=aq ts
 | []=>by rw[df,szP,aq]
 |t::ts=>by rw[df,szP,aq,iX pre (i+1) ts]
theorem l9(pre:List Int):∀(i:Int)(ts:List Th)(j:Nat)(t:Th),ts[j]?=A? t->(df pre i ts)[j]?=A? (pre++[i+j],t)
 |i,[],j,t,e=>by simp at e
 |i,u::ts,0,t,e=>by simp at e;subst e;rw[df];simp
 | i,u::ts,j+1,t,e=>by
   rw[df,YN,l9 pre (i+1) ts j t (by simpa using e)];have:i+1+(j:Int)=i+((j+1:Nat):Int):=by lia
   rw[this]
theorem lA(pre:List Int):∀(i:Int)(ts:List Th)(p:List Int×Th),p∈df pre i ts->p.1.length=pre.length+1/\p.2∈ts
 |i,[],p,h=>by rw[df]at h;cases h
 | i,u::ts,p,h=>by
   rw[df]at h;rcases W8.mp h with rfl|h
   .exact⟨by simp,Xh ..⟩
   .have:=lA pre (i+1) ts p h;exact⟨this.1,Xe _ this.2⟩
theorem P2.reverse:∀{a:List α}{b:List β},Xk F a b->Xk F a.reverse b.reverse
 |_,_,.nil=>.nil
 | _,_,.cons r t=>by
   rw[Yb,Yb];exact r! (P2.reverse t) (.cons r .nil)
theorem P2.snoc_inv{a:List α}{b:List β}{y:β}(h:Xk F a (b++[y])):∃us x,a=us++[x]/\Xk F us b/\F x y:=by
 have r:=P2.reverse h;rw[YD,List.reverse_singleton,List.singleton_append]at r;cases e:a.reverse with
 |nil=>rw[e]at r;cases r
 | cons x us =>
   rw[e]at r;cases r with
   | cons h1 h2 =>
     refine⟨us.reverse,x,?_,?_,h1⟩
     .rw[<-Yb,<-e,Y4]
     .have:=P2.reverse h2;rw[Y4]at this;exact this
theorem o5{t u:Th}(h:u∈t.kids):u.tall+1<=t.tall:=by
 have:=bL h;rw[t.tall_eq];lia
def Th.sub:Th->List Int->Option Th
 |t,[]=>A? t
 |t,i::r=>if 0<=i then(match t.kids[i.toNat]? with|some u=>u.sub r|none=>B?)else B?
termination_by _ p=>p.length
theorem fb(t:Th):t.sub []=A? t:=by rw[Th.sub]
theorem kY{t u:Th}{i:Int}{r:List Int}(h0:0<=i)(h:t.kids[i.toNat]?=A? u):t.sub (i::r)=u.sub r:=by rw[Th.sub,b! h0,h]
mutual
theorem wj:∀(t:Th)(pre p:List Int)(u:Th),(p,u)∈t.pl pre->∃r,p=pre++r/\t.sub r=A? u/\r.length+u.tall<=t.tall/\u.size<=t.size
 | .knot n ks,pre,p,u,h=>by
   rw[Th.pl]at h;rcases W8.mp h with e|h
   .cases e;exact⟨[],by simp,fb _,by simp,WV _⟩
   .obtain⟨j,v,r,h1,rfl,h3,h4,h5,h6,h7⟩:=tG ks pre 0 p u h;refine⟨(0+(j:Int))::r,by simp,?_,?_,?_⟩
    .rw[kY (u:=v) (by lia) (by rw[show(0+(j:Int)).toNat=j by lia];exact h1)];exact h3
    .rw[t!,W0];lia
    .rw[p!];lia
 | .call s k,pre,p,u,h=>by
   rw[Th.pl]at h;have e:(p,u)=(pre,x! s k):=by simpa using h
   cases e;exact⟨[],by simp,fb _,by simp,WV _⟩
theorem tG:∀(ts:List Th)(pre:List Int)(i:Int)(p:List Int)(u:Th),(p,u)∈pls pre i ts->∃(j:Nat)(v:Th)(r:List Int),ts[j]?=A? v/\p=pre++(i+(j:Int))::r/\v.sub r=A? u/\r.length+u.tall<=v.tall/\v.tall<=aJ ts/\u.size<=v.size/\v.size<=aq ts
 | [],pre,i,p,u,h=>by rw[pls]at h;cases h
 | t::ts,pre,i,p,u,h=>by
   rw[pls]at h;rcases Xz.mp h with h|h
   .obtain⟨r,rfl,h1,h2,h3⟩:=wj t (pre++[i]) p u h;exact⟨0,t,r,D?,by simp,h1,h2,by rw[aJ];lia,h3,by rw[aq];lia⟩
   .obtain⟨j,v,r,h1,rfl,h3,h4,h5,h6,h7⟩:=tG ts pre (i+1) p u h;refine⟨j+1,v,r,by simpa using h1,?_,h3,h4,by rw[aJ];lia,h6,by rw[aq];lia⟩;have:i+1+(j:Int)=i+((j+1:Nat):Int):=by lia
    rw[this]
end
theorem aY:∀{ts:List Th}{t:Th},t∈ts->t.size<=aq ts
 | u::ts,t,h=>by
   rw[aq];rcases W8.mp h with rfl|h
   .lia
   .have:=aY h;lia
theorem iJ(n:Nat)(ts:List Th):aq (ts.take n)<=aq ts:=by
 have h:=bF (ts.take n) (ts.drop n);rw[YV]at h;lia
end BB
open BB.Th renaming pl->C!,pl_len->D!
variable{ds:List BB.Dv}
namespace BB
open PySem L2
mutual
def Th.kn:Th->Nat
 |.knot _ ks=>kns ks+1
 |.call _ _=>0
def kns:List Th->Nat
 | []=>0
 |t::ts=>t.kn+kns ts
end
section
variable{ext:Th->List V}{t:Th}{es:List WQ}
end
def Th.isCall:Th->Bool
 |.knot _ _=>Cf
 |.call _ _=>C?
def pE:List Int×Th->Option (List Int×Int×Int)
 |(_,.knot _ _)=>B?
 |(p,.call s k)=>A? (p,s,k)
def callsOf(ps:List (List Int×Th)):List (List Int×Int×Int):=ps.filterMap pE
theorem eL(a b:List (List Int×Th)):callsOf (a++b)=callsOf a++callsOf b:=List.filterMap_append
theorem j5(a:List (List Int×Th)):(callsOf a).length<=a.length:=List.length_filterMap_le _ _
def CAt(H:Hp)(c:List Int×Int×Int)(a:WQ):Prop:=∃pa ca,H a=A? (.tup [.ref pa,.ref ca])/\H pa=A? (.tup (c.1.map q!))/\H ca=A? (.tup [.int c.2.1,.int c.2.2])
def CsAt(H:Hp)(cs:List (List Int×Int×Int))(as:List WQ):Prop:=Xk (CAt H) cs as
theorem CAt.mono(k:KT H H'){c:List Int×Int×Int}(h:CAt H c a):CAt H' c a:=by
 obtain⟨pa,ca,h1,h2,h3⟩:=h;exact⟨pa,ca,k _ _ h1,k _ _ h2,k _ _ h3⟩
theorem CsAt.mono(k:KT H H'){cs:List (List Int×Int×Int)}(h:CsAt H cs as):CsAt H' cs as:=v! (λ_ _ e=>CAt.mono k e) h
def TK(K:WO)(H:Hp)(a:WQ)(xs:List V):Prop:=H a=A? (.tup xs)\/∃(o:Zb)(its:Array WT)(n:Nat),K.lookup a=A? o/\o.cls=.type "tuple"/\o.data=.seq its n/\its.size<=Xf/\Vals xs its.toList
theorem TK.of(h:H a=A? (.tup xs)):TK K H a xs:=.inl h
theorem TK.sq(h:TK K H a xs):SqT K H a xs:=by
 rcases h with h|h
 .exact n! h
 .exact .inr h
theorem TK.mono(h:TK K H a xs)(k:KT H H'):TK K H' a xs:=by
 rcases h with h|h
 .exact .inl (k _ _ h)
 .exact .inr h
mutual
def DAtK(K:WO)(H:Hp):Dv->V->Prop
 |.int i,v=>v=.int i
 |.str x,v=>v=.str x
 |.tup ds,v=>∃a vs,v=.ref a/\TK K H a vs/\DAtsK K H ds vs
def DAtsK(K:WO)(H:Hp):List Dv->List V->Prop
 | [],vs=>vs=[]
 |d::ds,vs=>∃v r,vs=v::r/\DAtK K H d v/\DAtsK K H ds r
end
theorem DAtsK.nil:DAtsK K H [] []:=by rw[DAtsK]
theorem DAtsK.cons{d:Dv}(h1:DAtK K H d v)(h2:DAtsK K H ds vs):DAtsK K H (d::ds) (v::vs):=by rw[DAtsK];exact⟨v,vs,D?,h1,h2⟩
theorem DAtsK.length:∀{ds:List Dv}{vs:List V},DAtsK K H ds vs->vs.length=ds.length
 | [],vs,h=>by rw[DAtsK]at h;subst h;rfl
 | d::ds,vs,h=>by
   rw[DAtsK]at h;obtain⟨v,r,rfl,h1,h2⟩:=h;rw[W0,W0,h2.length]
theorem DAtsK.at:∀{ds:List Dv}{vs:List V}{i:Nat}{d:Dv},DAtsK K H ds vs->ds[i]?=A? d->∃v,vs[i]?=A? v/\DAtK K H d v
 | [],vs,i,d,h,e=>by simp at e
 | d0::ds,vs,i,d,h,e=>by
   rw[DAtsK]at h;obtain⟨v,r,rfl,h1,h2⟩:=h;cases i with
   |zero=>simp at e;subst e;exact⟨v,D?,h1⟩
   | succ i =>
     obtain⟨u,g1,g2⟩:=h2.at (i:=i) (by simpa using e);exact⟨u,by simpa using g1,g2⟩
mutual
theorem DAt.k:∀{d:Dv}{v:V},DAt H d v->DAtK K H d v
 |.int i,v,h=>by rw[DAt]at h;rw[DAtK];exact h
 |.str x,v,h=>by rw[DAt]at h;rw[DAtK];exact h
 | .tup ds,v,h=>by
   rw[DAt]at h;rw[DAtK];obtain⟨a,vs,e,h1,h2⟩:=h;exact⟨a,vs,e,.of h1,DAts.k h2⟩
theorem DAts.k:∀{ds:List Dv}{vs:List V},DAts H ds vs->DAtsK K H ds vs
 | [],vs,h=>by rw[DAts]at h;rw[DAtsK];exact h
 | d::ds,vs,h=>by
   rw[DAts]at h;rw[DAtsK];obtain⟨v,r,e,h1,h2⟩:=h;exact⟨v,r,e,DAt.k h1,DAts.k h2⟩
end
mutual
theorem DAtK.inj{X:Cx}(I:Inv X U Z H s):∀{d e:Dv}{v:V},DAtK X.K H d v->DAtK X.K H e v->d=e
 |.int i,.int j,v,h,g=>by rw[DAtK]at h;rw[DAtK]at g;rw[h]at g;cases g;rfl
 |.int i,.str y,v,h,g=>by rw[DAtK]at h;rw[DAtK]at g;rw[h]at g;cases g
 |.int i,.tup es,v,h,g=>by rw[DAtK]at h;rw[DAtK]at g;obtain⟨a,vs,e,_⟩:=g;rw[h]at e;cases e
 |.str x,.int j,v,h,g=>by rw[DAtK]at h;rw[DAtK]at g;rw[h]at g;cases g
 |.str x,.str y,v,h,g=>by rw[DAtK]at h;rw[DAtK]at g;rw[h]at g;cases g;rfl
 |.str x,.tup es,v,h,g=>by rw[DAtK]at h;rw[DAtK]at g;obtain⟨a,vs,e,_⟩:=g;rw[h]at e;cases e
 |.tup ds,.int j,v,h,g=>by rw[DAtK]at h;rw[DAtK]at g;obtain⟨a,vs,e,_⟩:=h;rw[e]at g;cases g
 |.tup ds,.str y,v,h,g=>by rw[DAtK]at h;rw[DAtK]at g;obtain⟨a,vs,e,_⟩:=h;rw[e]at g;cases g
 | .tup ds,.tup es,v,h,g=>by
   rw[DAtK]at h;rw[DAtK]at g;obtain⟨a,vs,e1,h1,h2⟩:=h;obtain⟨b,ws,e2,g1,g2⟩:=g;rw[e1]at e2;cases e2;have e3:=I.tuple_inj h1.sq g1.sq;subst e3;rw[DAtsK.inj I h2 g2]
theorem DAtsK.inj{X:Cx}(I:Inv X U Z H s):∀{ds es:List Dv}{vs:List V},DAtsK X.K H ds vs->DAtsK X.K H es vs->ds=es
 | [],[],vs,h,g=>rfl
 | [],e::es,vs,h,g=>by rw[DAtsK]at h;rw[DAtsK]at g;obtain⟨v,r,z,_⟩:=g;rw[h]at z;cases z
 |d::ds,[],vs,h,g=>by rw[DAtsK]at h;rw[DAtsK]at g;obtain⟨v,r,z,_⟩:=h;rw[g]at z;cases z
 | d::ds,e::es,vs,h,g=>by
   rw[DAtsK]at h;rw[DAtsK]at g;obtain⟨v,r,z,h1,h2⟩:=h;obtain⟨v',r',z',g1,g2⟩:=g;rw[z]at z';cases z';rw[DAtK.inj I h1 g1,DAtsK.inj I h2 g2]
end
end BB
namespace L2
open PySem PySem.Spec PySem.SeqAt PyProof.Rows BB
open Classical in
theorem iE[DecidableEq α]{Am:List WT}{ds es:List α}(p1:s.1.IsTuple a its.toArray)(p2:s.1.IsTuple b Am.toArray)(l1:its.length=ds.length)(l2:Am.length=es.length)(hu:A.units<YK)
 (ih:∀(j:Nat)(d e:α)(u v:WT),ds[j]?=A? d->es[j]?=A? e->its[j]?=A? u->Am[j]?=A? v->EqAt A.in1 s u v (decide (d=e))):RcAt A s (.ref a) (.ref b) (decide (ds=es)):=by
 have Ol:RcAt A s (.ref a) (.ref b) ((XD (min its.toArray.size Am.toArray.size)).all (λj=>decide (ds[j]?=es[j]?)) && its.toArray.size == Am.toArray.size):=by
  refine RcAt.tuples p1 p2 hu λj h1 h2=>?_;have Fm:j<ds.length:=by rw[<-l1];simpa using h1
  have Ej:j<es.length:=by rw[<-l2];simpa using h2
  have e1:ds[j]?=A? ds[j]:=WR Fm;have e2:es[j]?=A? es[j]:=WR Ej;have e3:decide (ds[j]?=es[j]?)=decide (ds[j]=es[j]):=by rw[e1,e2];simp
  have g1:its[j]?=A? its[j]:=WR (by rw[l1];exact Fm);have g2:Am[j]?=A? Am[j]:=WR (by rw[l2];exact Ej);rw[e3];exact ih j ds[j] es[j] its[j] Am[j] e1 e2 g1 g2
 have e:decide (ds=es)=((XD (min its.toArray.size Am.toArray.size)).all (λj=>decide (ds[j]?=es[j]?)) && its.toArray.size == Am.toArray.size):=by
  rw[W3,W3,l1,l2];by_cases h:ds=es
  .subst h;rw[d! rfl];symm;simp
  .rw[c! h];symm;by_cases hl:ds.length=es.length
   .rw[hl,Nat.min_self]
    have:¬((XD es.length).all (λj=>decide (ds[j]?=es[j]?)))=true:=by
     intro z;apply h;apply List.ext_getElem?;intro j;by_cases hj:j<es.length
     .exact e! (List.all_eq_true.mp z j (YW.mpr hj))
     .rw[ZF (by lia),ZF (by lia)]
    rw[YA.mpr this];rfl
   .have:(ds.length == es.length)=false:=by simpa using hl
    rw[this,Bool.and_false]
 rw[e];exact Ol
open Classical in
theorem nM{X:Cx}(I:Inv X U Z H s){es:List Dv}{ws:List V}(ha:SqT X.K H a vs)(hb:SqT X.K H b ws)(Ek:DAtsK X.K H ds vs)(hws:DAtsK X.K H es ws)(hu:A.units<YK)
 (ih:∀(j:Nat)(d e:Dv)(x y:V)(u v:WT),ds[j]?=A? d->DAtK X.K H d x->DAtK X.K H e y->RelV x u->RelV y v->EqAt A.in1 s u v (decide (d=e))):RcAt A s (.ref a) (.ref b) (decide (Dv.tup ds=Dv.tup es)):=by
 obtain⟨its,r1,p1,_⟩:=I.tuple ha;obtain⟨Am,r2,p2,_⟩:=I.tuple hb;rw[show decide (Dv.tup ds=Dv.tup es)=decide (ds=es)from decide_eq_decide.mpr ⟨λz=>Dv.tup.inj z,λz=>h! _ z⟩];refine iE (show s.1.IsTuple a its.toArray from p1) (show s.1.IsTuple b Am.toArray from p2) (by rw[<-r1.length,Ek.length]) (by rw[<-r2.length,hws.length]) hu λj d e u v e1 e2 e3 e4=>?_;obtain⟨x',AY,dx⟩:=Ek.at e1;obtain⟨y',Eu,dy⟩:=hws.at e2;obtain⟨u',B8,HK⟩:=r1.get AY;obtain⟨v',Bj,EG⟩:=r2.get Eu;rw[B8]at e3;rw[Bj]at e4;cases e3;cases e4;exact ih j d e x' y' _ _ e1 dx dy HK EG
open Classical in
theorem mC{X:Cx}(I:Inv X U Z H s):∀(n:Nat)(d e:Dv),d.tot<=n->∀(x y:V)(u v:WT)(A:XI),DAtK X.K H d x->DAtK X.K H e y->RelV x u->RelV y v->A.units+d.deep<YK->EqAt A s u v (decide (d=e))
 |0,d,e,hn,x,y,u,v,A,hd,he,ru,rv,hu=>by have:=d.tot_pos;lia
 | n+1,.int i,.int j,hn,x,y,u,v,A,hd,he,ru,rv,hu=>by
   rw[DAtK]at hd;rw[DAtK]at he;subst hd he;obtain⟨t,rfl⟩:=ru;obtain⟨t',rfl⟩:=rv
   have e:decide (Dv.int i=Dv.int j)=(i == j):=by
    by_cases h:i=j
    .subst h;simp
    .rw[c! (λz=>h (Dv.int.inj z))];simp[h]
   rw[e];exact EqAt.int_int i t j t'
 | n+1,.int i,.str b,hn,x,y,u,v,A,hd,he,ru,rv,hu=>by
   rw[DAtK]at hd;rw[DAtK]at he;subst hd he;obtain⟨t,rfl⟩:=ru;obtain⟨t',rfl⟩:=rv;rw[c! (λz=>by cases z)];exact EqAt.int_str i t b t'
 | n+1,.int i,.tup es,hn,x,y,u,v,A,hd,he,ru,rv,hu=>by
   rw[DAtK]at hd;rw[DAtK]at he;obtain⟨a,vs,rfl,ha,_⟩:=he;subst hd;obtain⟨t,rfl⟩:=ru;cases rv;obtain⟨its,_,p,_⟩:=I.tuple (ha.sq);rw[c! (λz=>by cases z)];exact EqAt.int_tuple i t (show s.1.IsTuple a its.toArray from p) (by lia)
 | n+1,.str b,.int j,hn,x,y,u,v,A,hd,he,ru,rv,hu=>by
   rw[DAtK]at hd;rw[DAtK]at he;subst hd he;obtain⟨t,rfl⟩:=ru;obtain⟨t',rfl⟩:=rv;rw[c! (λz=>by cases z)];exact EqAt.str_int b t j t'
 | n+1,.str b,.str c,hn,x,y,u,v,A,hd,he,ru,rv,hu=>by
   rw[DAtK]at hd;rw[DAtK]at he;subst hd he;obtain⟨t,rfl⟩:=ru;obtain⟨t',rfl⟩:=rv
   have e:decide (Dv.str b=Dv.str c)=(b == c):=by
    by_cases h:b=c
    .subst h;simp
    .rw[c! (λz=>h (Dv.str.inj z))];simp[h]
   rw[e];exact EqAt.str_str b t c t'
 | n+1,.str b,.tup es,hn,x,y,u,v,A,hd,he,ru,rv,hu=>by
   rw[DAtK]at hd;rw[DAtK]at he;obtain⟨a,vs,rfl,ha,_⟩:=he;subst hd;obtain⟨t,rfl⟩:=ru;cases rv;obtain⟨its,_,p,_⟩:=I.tuple (ha.sq);rw[c! (λz=>by cases z)];exact EqAt.str_tuple b t (show s.1.IsTuple a its.toArray from p) (by lia)
 | n+1,.tup ds,.int j,hn,x,y,u,v,A,hd,he,ru,rv,hu=>by
   rw[DAtK]at hd;rw[DAtK]at he;obtain⟨a,vs,rfl,ha,_⟩:=hd;subst he;cases ru;obtain⟨t,rfl⟩:=rv;obtain⟨its,_,p,_⟩:=I.tuple (ha.sq);rw[c! (λz=>by cases z)];exact EqAt.tuple_int j t (show s.1.IsTuple a its.toArray from p) (by lia)
 | n+1,.tup ds,.str b,hn,x,y,u,v,A,hd,he,ru,rv,hu=>by
   rw[DAtK]at hd;rw[DAtK]at he;obtain⟨a,vs,rfl,ha,_⟩:=hd;subst he;cases ru;obtain⟨t,rfl⟩:=rv;obtain⟨its,_,p,_⟩:=I.tuple (ha.sq);rw[c! (λz=>by cases z)];exact EqAt.tuple_str b t (show s.1.IsTuple a its.toArray from p) (by lia)
 | n+1,.tup ds,.tup es,hn,x,y,u,v,A,hd,he,ru,rv,hu=>by
   have GK:=hd;have Uz:=he;rw[DAtK]at hd;rw[DAtK]at he;obtain⟨a,vs,rfl,ha,Ek⟩:=hd;obtain⟨b,ws,rfl,hb,hws⟩:=he;cases ru;cases rv;by_cases CC:a=b
   .subst CC;rw[d! (DAtK.inj I GK Uz)];exact EqAt.same _
   rw[Dv.tot]at hn;rw[Dv.deep]at hu;refine EqAt.of_refs CC (nM I ha.sq hb.sq Ek hws (by lia) λj d e x' y' u' v' e1 dx dy HK EG=>?_);have q1:=uk e1;have q2:=fM e1;refine mC I n d e (by lia) x' y' u' v' A.in1 dx dy HK EG ?_;show A.units+1+_<YK;lia
end L2
namespace BB
open PySem PySem.Spec PyProof.Rows L2
mutual
theorem DAt.inj:∀{d e:Dv}{v:V},DAt H d v->DAt H e v->d=e
 |.int i,.int j,v,h,g=>by rw[DAt]at h;rw[DAt]at g;rw[h]at g;cases g;rfl
 |.int i,.str y,v,h,g=>by rw[DAt]at h;rw[DAt]at g;rw[h]at g;cases g
 |.int i,.tup es,v,h,g=>by rw[DAt]at h;rw[DAt]at g;obtain⟨a,vs,e,_⟩:=g;rw[h]at e;cases e
 |.str x,.int j,v,h,g=>by rw[DAt]at h;rw[DAt]at g;rw[h]at g;cases g
 |.str x,.str y,v,h,g=>by rw[DAt]at h;rw[DAt]at g;rw[h]at g;cases g;rfl
 |.str x,.tup es,v,h,g=>by rw[DAt]at h;rw[DAt]at g;obtain⟨a,vs,e,_⟩:=g;rw[h]at e;cases e
 |.tup ds,.int j,v,h,g=>by rw[DAt]at h;rw[DAt]at g;obtain⟨a,vs,e,_⟩:=h;rw[e]at g;cases g
 |.tup ds,.str y,v,h,g=>by rw[DAt]at h;rw[DAt]at g;obtain⟨a,vs,e,_⟩:=h;rw[e]at g;cases g
 | .tup ds,.tup es,v,h,g=>by
   rw[DAt]at h;rw[DAt]at g;obtain⟨a,vs,e1,h1,h2⟩:=h;obtain⟨b,ws,e2,g1,g2⟩:=g;rw[e1]at e2;cases e2;rw[h1]at g1;cases g1;rw[DAts.inj h2 g2]
theorem DAts.inj:∀{ds es:List Dv}{vs:List V},DAts H ds vs->DAts H es vs->ds=es
 | [],[],vs,h,g=>rfl
 | [],e::es,vs,h,g=>by rw[DAts]at h;rw[DAts]at g;obtain⟨v,r,z,_⟩:=g;rw[h]at z;cases z
 |d::ds,[],vs,h,g=>by rw[DAts]at h;rw[DAts]at g;obtain⟨v,r,z,_⟩:=h;rw[g]at z;cases z
 | d::ds,e::es,vs,h,g=>by
   rw[DAts]at h;rw[DAts]at g;obtain⟨v,r,z,h1,h2⟩:=h;obtain⟨v',r',z',g1,g2⟩:=g;rw[z]at z';cases z';rw[DAt.inj h1 g1,DAts.inj h2 g2]
end
end BB
namespace L2
open PySem PySem.Spec PySem.SeqAt PyProof.Rows BB
open Classical in
theorem oT{X:Cx}(I:Inv X U Z H s):∀(n:Nat)(d e:Dv),d.tot<=n->∀(x y:V)(u v:WT)(A:XI),DAt H d x->DAt H e y->RelV x u->RelV y v->A.units+d.deep<YK->EqAt A s u v (decide (d=e)):=λn d e hn x y u v A hd he=>mC I n d e hn x y u v A hd.k he.k
end L2
namespace BB
open PySem L2
theorem oY{t u:Th}{i:Int}{r:List Int}(h:t.sub (i::r)=A? u):0<=i/\∃w,t.kids[i.toNat]?=A? w/\w.sub r=A? u:=by
 rw[Th.sub]at h;split at h
 .rename_i h0
  split at h
  .rename_i w hw
   exact⟨h0,w,hw,h⟩
  .cases h
 .cases h
theorem Ats.set:∀{ts:List Th}{as:List WQ}(i:Nat){x:Th}{a:WQ},Ats H ts as->At H x a->Ats H (ts.set i x) (as.set i a)
 | [],as,i,x,a,h,g=>by rw[Ats]at h;subst h;exact .nil
 | t::ts,as,i,x,a,h,g=>by
   rw[Ats]at h;obtain⟨b,r,rfl,h1,h2⟩:=h;cases i with
   |zero=>exact .cons g h2
   |succ i=>exact .cons h1 (Ats.set i h2 g)
end BB
namespace PySem
theorem bb_extendT(l:WQ)(items:Array WT)(n:Nat)(b:WQ)(BR:Array WT)(n2:Nat)(dd:Option WQ)(sl:Array (Option WT))(g0:¬(!items.isEmpty && Zq (items.size+BR.size))=C?)(g1:items.size<=Xf)(g2:items.size+BR.size<=Xf+1) :
 Meets (Zs.«list.extend» ⟨[.ref l,.ref b],[]⟩) (λ_ R s=>s.1.get? l=A? {cls:=.type "list",dict:=B?,data:=.seq items n,slots:=#[]}/\s.1.get? b=A? {cls:=.type "tuple",dict:=dd,data:=.seq BR n2,slots:=sl}/\R (.ok (.ret Yp)) {s with heap:=s.1.update l (Yj λx=>x++BR),toks:=s.toks}) :=
 .of_wp λprog w A R s h=>by
  obtain⟨hp,g,d,tk,os⟩:=s;obtain⟨hl,hb,h⟩:=h;have f1:=AutoSeq1.idx_int;have f2:=AutoSeq1.sub_tuple_tuple;have f3:=AutoSeq1.sub_list_list;have f4:=AutoSeq1.sub_tuple_list;have f5:=AutoSeq1.sub_list_tuple;have z2:(items++BR).size<=Xf+1:=by rw[Array.size_append];exact g2
  wp_walk using(YS hl rfl (hz:=g1) (_hz':=z2)),Zt hl,Zt hb
  exact⟨_,D?,h⟩
end PySem
namespace L2
open PySem PySem.Spec PyProof.Rows
section
variable{X:Cx}
def wR(K:WO):V->List V->Hp->VK->Prop:=λx vs H Q=>∃l b xs zs,x=.ref l/\vs=[.ref b]/\H l=A? (.lst xs)/\SqT K H b zs/\xs.length+zs.length<=Xf/\Q .non (upd H l (.lst (xs++zs)))
theorem sF:MtM X "list.extend" (wR X.K):=by
 intro U s Z H x vs v us Q I rx rv h;obtain⟨l,b,xs,zs,rfl,rfl,hH,hB,hz,q⟩:=h;cases rx;obtain⟨u,rfl,ru⟩:=rv.one;cases ru;obtain⟨z,its,n,r,hl,e⟩:=I.lstM hH;obtain⟨Am,r2,p2,_⟩:=I.tuple hB;have Bz:=r2.length;obtain⟨⟨JT,Jh,data2,Ji⟩,e2,B5,n2,hd2⟩:=p2;simp only at B5 hd2;subst B5 hd2;have hsz:its.toArray.size+Am.toArray.size<=Xf:=by rw[W3,W3];lia
 have Et:¬(!its.toArray.isEmpty && Zq (its.toArray.size+Am.toArray.size))=true:=by
  rw[lT hsz,Bool.and_false];exact W6
 refine call_meets F.slot_list_extend ⟨_,e,rfl⟩ F.entry_list_extend (F.args_list_extend_2 _ _)
  (bb_extendT l its.toArray n b Am.toArray n2 Jh Ji Et (by rw[W3];lia) (by lia)) ⟨e,e2,?_⟩
 refine⟨.non,_,I.lset (its':=its++Am) hH e (by simp) (r.append r2) ?_,D?,q⟩;rw[Xd];lia
end
end L2
namespace BB
open PySem L2
def kDv(k:Xp×Int):Dv:=.tup [.str k.1,.int k.2]
theorem tJ:∀{ks:List (Xp×Int)}{as:List WQ},Xk (KAt H) ks as->DAts H (ks.map kDv) (as.map i!)
 |_,_,.nil=>.nil
 | _,_,.cons r h=>by
   rw[XB,XB];refine .cons ?_ (tJ h);rw[kDv,DAt];exact⟨_,_,D?,r,.cons (by rw[DAt]) (.cons (by rw[DAt]) .nil)⟩
theorem iP:∀ks:List (Xp×Int),bO (ks.map kDv)<=1
 | []=>by rw[Y0,bO];exact Xg _
 | k::ks=>by
   have:=iP ks;rw[XB,bO,kDv];simp only[Dv.deep,bO];lia
def star:Xp:=Xm "*"
theorem wL(h:Low x):x≠star:=by
 intro e;subst e;have:=h 42 (by decide +kernel);lia
open Classical in
def Th.isHole:Th->Bool
 |.knot n ks=>decide (n=star/\ks=[])
 |.call _ _=>Cf
def Th.isKnot(t:Th):Bool:=!t.isCall && !t.isHole
theorem iH:∀(n:Nat)(ts:List Th),aq ts<=n->∀x∈walks ts,x.tall<=aJ ts
 |_,[],_,x,h=>by simp[walks]at h
 | 0,t::ts,hn,x,h=>by
   have:=t.size_pos;rw[aq]at hn;lia
 | n+1,t::ts,hn,x,h=>by
   have hs:=t.size_eq;have ht:=t.tall_eq;rw[aq]at hn;rw[aJ];rw[walks,t.walk_eq,X7,W8,Xz]at h;rcases h with rfl|h|h
   .lia
   .have:=iH n t.kids (by lia) x h;lia
   .have:=iH n ts (by lia) x h;lia
theorem vc(t x:Th)(h:x∈t.walk):x.tall<=t.tall:=by
 have:=iH _ [t] (WV _) x (by simpa[walks]using h);simpa[aJ]using this
end BB
open BB.Th renaming isHole->G!
namespace PySem
open Sem (wp)
namespace F
theorem bb_entry_upd:entryFor table "dict.update.loop"=A? Zs.«dict.update.loop»:=entryFor_of_tree (by kernel_rfl)
theorem bb_plain_upd:plainId "dict.update.loop"=true:=by decide +kernel
end F
section
variable{xs:Array WT}{k:Nat}
end
end PySem
open PySem.F renaming bb_plain_upd->E!
namespace L2
open PySem PySem.Spec PyProof.Rows BB
section
variable{X:Cx}
end
end L2
namespace BB
open PySem L2
end BB
namespace HT
open PySem PySem.Spec PyProof.Rows
theorem getItem_tuple_whole{t:WQ}(ht:IsTup s.1 t items)(hs:s.1.IsSliceOf sl vl vu .none)(pl:IsPart vl lo)(pu:IsPart vu hi)
 (hw:sIx items.size 0 lo=0/\sIx items.size items.size hi=items.size) (h:Q (.ref t) s):W7 (Xw prog w) A (getItem (.ref t) (.ref sl)) Q E s:=by
 obtain⟨os,DV,CK,Bl⟩:=id hs;have JU:s.TypeIs (.ref sl) "slice":=⟨os,DV,CK⟩;have hT:s.TypeIs (.ref t) "tuple":=ht.typeIs;unfold getItem
 try with_reducible refine Yy ?_
 first|refine WN (WW ?_)|skip
 refine WN (wpAny_sequenceKey ht.typeIs (by decide) ?_)
 refine WN (X4 (name:=Xm "__getitem__") ht.typeIs XR
  (X8 XR ht.typeIs entry_tuple_getitem ?_ (args_tuple_getitem _ _)))
 show W7 _ _ (ZV (.ref t) >>= _) _ _ s;refine WN (tupleItemsOf_ ht ?_);refine WN (ZG JU ?_);rw[b! (by decide)];refine WN (sliceApplied_gen hs pl pu ?_)
 have HL:(((sIx items.size 0 lo:Nat):Int) == 0 && (1:Int) == 1 && (sIx items.size items.size hi - sIx items.size 0 lo) == items.size)=true:=by
  rw[hw.1,hw.2];simp
 show W7 _ _ (if(((sIx items.size 0 lo:Nat):Int) == 0 && (1:Int) == 1 && (sIx items.size items.size hi - sIx items.size 0 lo) == items.size)=C? then _ else _) _ _ s;rw[b! HL];refine WN (m:=Builtin.Tuple.tupleIsExact _) ?_;unfold Builtin.Tuple.tupleIsExact;refine WN (ZG hT (WW ?_));rw[b! (by decide)];exact WN (Zx (WW ⟨_,rfl,WW h⟩))
end HT
namespace L2
open PySem PySem.Spec PyProof.Rows
end L2
namespace PySem
open Sem (wp)
section
variable{ep:Nat}{od:Zb}{es:Array DictEntry}
theorem bb_keyNext{en:DictEntry}{Q:Option WT->WX->Prop}(g:s.1.IsKeyIter it d i es.size ep)(g1:s.1.get? d=A? od)(g2:od.data=.dict es ep)(hx:es[i]?=A? en)
 (fin:∀h',h'.IsKeyIter it d (i+1) es.size ep->YF it s.1 h'->Q (A? en.key) {s with heap:=h'}):W7 (Xw prog w) A (Z9 (.ref it)) Q E s:=by
 obtain⟨o,q1,q2,q3⟩:=id g;unfold Z9;refine WN (Z8 (X4 (name:=Xm "__next__") g.typeIs Zy (X8 Zy g.typeIs F.entry_dict_keyiterator_next ?_ (F.args_dict_keyiterator_next_1 _))));refine WN (WW ?_);refine WN ?_;refine WN ?_
 first|refine WN (wpAny_typeNameOfWhole_keyiter g.typeIs (WW ?_))|refine WN (wpAny_typeNameOf_keyiter g.typeIs (WW ?_))
 refine WN (wpAny_fieldsOf q1 q3 ?_);have own:Builtin.Dict_items.ownsTuple "dict_keyiterator"=false:=by decide
 simp only[own,Ye,if_false];show W7 _ _ (if(Xl d == Yp)=C? then _ else _) _ _ s;rw[a! (show¬((Xl d == Yp)=C?)from W6)];refine WN (WW ?_);refine WN (wpAny_dictEntries g1 g2 ?_);rw[a! (by simp)];refine WN (WW ?_);refine WN (wpAny_dictEpoch g1 g2 ?_);rw[a! (by simp)];refine WW ?_;have lt:i<es.size:=(Array.getElem?_eq_some_iff.mp hx).1;have ee:es[i]=en:=(Array.getElem?_eq_some_iff.mp hx).2;simp only[show¬((i:Int)<0)from by lia,if_false,Xy,Ze lt];refine WN ?_
 first|refine WN (wpAny_typeNameOfWhole_keyiter g.typeIs (WW ?_))|refine WN (wpAny_typeNameOf_keyiter g.typeIs (WW ?_))
 refine WN (wpAny_isOneOf_keyiter g.typeIs ?_);show W7 _ _ (setField (.ref it) 1 (Y7 ((i:Int)+1)) >>= _) _ _ s;refine WN (wpAny_setField q1 q3 (by simp) ?_);have g':(s.1.update it (Obj.mapFields (·.setIfInBounds 1 (Y7 ((i:Int)+1))))).IsKeyIter it d (i+1) es.size ep:=⟨_,XQ _ q1 (Obj.isFreed_of_fields (Zo q3 _)),(Obj.cls_mapFields ..).trans q2,by rw[Zo q3];simp[Y7]⟩;refine WN (Yy ?_);refine WN (wpAny_isOneOf_keyiter (s:={s with heap:=s.1.update it (Obj.mapFields (·.setIfInBounds 1 (Y7 ((i:Int)+1))))}) g'.typeIs ?_);show W7 _ _ (pure es[i].key) _ _ _;rw[ee];exact WW (WW ⟨_,rfl,WW (fin _ g' (Zi ..))⟩)
theorem bb_keyEnd{Q:Option WT->WX->Prop}(calm:A.handled=B?)(g:s.1.IsKeyIter it d i es.size ep)(g1:s.1.get? d=A? od)(g2:od.data=.dict es ep)(hx:es.size<=i)
 (fin:∀h',Heap.ExtBut it s.1 h'->Q B? {s with heap:=h'}):W7 (Xw prog w) A (Z9 (.ref it)) Q E s:=by
 obtain⟨o,q1,q2,q3⟩:=id g;unfold Z9;refine WN (Z8 (X4 (name:=Xm "__next__") g.typeIs Zy (X8 Zy g.typeIs F.entry_dict_keyiterator_next ?_ (F.args_dict_keyiterator_next_1 _))));refine WN (WW ?_);refine WN ?_;refine WN ?_
 first|refine WN (wpAny_typeNameOfWhole_keyiter g.typeIs (WW ?_))|refine WN (wpAny_typeNameOf_keyiter g.typeIs (WW ?_))
 refine WN (wpAny_fieldsOf q1 q3 ?_);have own:Builtin.Dict_items.ownsTuple "dict_keyiterator"=false:=by decide
 simp only[own,Ye,if_false];show W7 _ _ (if(Xl d == Yp)=C? then _ else _) _ _ s;rw[a! (show¬((Xl d == Yp)=C?)from W6)];refine WN (WW ?_);refine WN (wpAny_dictEntries g1 g2 ?_);rw[a! (by simp)];refine WN (WW ?_);refine WN (wpAny_dictEpoch g1 g2 ?_);rw[a! (by simp)];refine WW ?_;simp only[show¬((i:Int)<0)from by lia,if_false,Xy,Array.getElem?_eq_none hx];refine WN ?_
 first|refine WN (wpAny_typeNameOfWhole_keyiter g.typeIs (WW ?_))|refine WN (wpAny_typeNameOf_keyiter g.typeIs (WW ?_))
 show W7 _ _ (setField (.ref it) 0 .none >>= _) _ _ s;refine WN (wpAny_setField q1 q3 (by simp) ?_);show W7 _ _ (newExc (.type "StopIteration") [] >>= _) _ _ _;refine WN ?_;simp only[newExc,newTuple];refine WN (Yi ?_ (by size_fits));refine WN (m:=firstArgMember _ _) (wpAny_of_eq (a:=Yp) (by first|rfl|(simp only[firstArgMember];rfl)) ?_);refine Yi ?_ (by size_fits);simp only[raiseNew];refine WN (wpAny_handled ?_)
 first|rw[show A.in1.handled=B? from calm]|rw[calm]
 refine WN (WW (wpAny_throw ?_));refine WN (ZJ (T:="StopIteration") (b:=C?) ⟨_,W4 _ rfl,rfl⟩ isSubtype_stop ?_);exact WW (fin _ (((Zi ..).extBut.push _).push _))
theorem bb_keyIter(ns:(d == YO)=Cf)(g1:s.1.get? d=A? od)(gc:od.cls=.type "dict")(g2:od.data=.dict es ep)
 (fin:Q (.ref s.1.1.size) {s with heap:=s.1.push {cls:=.type "dict_keyiterator",data:=.fields #[.ref d,.int 0 0,.int es.size 0,.int ep 0]}}):W7 (Xw prog w) A (pyIter (.ref d)) Q E s:=by
 have gT:s.TypeIs (.ref d) "dict":=⟨_,g1,gc⟩;refine wpAny_pyIter_slot gT F.slot_dict_iter (X8 F.slot_dict_iter gT F.entry_dict_iter ?_ (F.args_dict_iter_1 _));unfold Zs.«dict.__iter__»;refine WN ?_;unfold Builtin.Dict.dictSlotNone;refine WN (wpAny_notOrdered_dict gT ?_);show W7 _ _ (pure (Xl d)) _ _ s;refine WW ?_;show W7 _ _ (Builtin.Dict.showsAll d >>= _) _ _ s;unfold Builtin.Dict.showsAll;rw[a! (by rw[ns];exact W6)];refine WN (WW ?_);refine WN (wpAny_dictEntries g1 g2 ?_);refine WN (wpAny_dictEpoch g1 g2 ?_);refine WN (Yi (WW ⟨_,rfl,"dict_keyiterator",_,⟨_,W4 _ rfl,rfl⟩,Zy.lookup,?_⟩));simpa[Y7]using fin
end
end PySem
namespace L2
open PySem PySem.Spec PyProof.Rows
section
variable{X:Cx}
end
end L2
namespace BB
open PySem L2
inductive Top where
 |nm (n:Xp) (m:Nat)
 |th (t:Th)
def bl:List Top->List Th
 | []=>[]
 |.nm n m::S=>.knot n ((bl S).take m)::(bl S).drop m
 |.th t::S=>t::bl S
def TopsOk:List Top->Prop
 | []=>True
 |.nm _ m::S=>m<=(bl S).length/\TopsOk S
 |.th _::S=>TopsOk S
theorem TopsOk.drop:∀{l:List Top}(i:Nat),TopsOk l->TopsOk (l.drop i)
 |l,0,h=>by rw[Z6];exact h
 | [],i+1,h=>by rw[List.drop_nil];exact h
 | .nm n m::S,i+1,h=>by
   rw[TopsOk]at h;rw[List.drop_succ_cons];exact TopsOk.drop i h.2
 | .th t::S,i+1,h=>by
   rw[TopsOk]at h;rw[List.drop_succ_cons];exact TopsOk.drop i h
theorem sw:∀l:List Top,(bl l).length<=l.length
 | []=>WV _
 | .nm n m::S=>by
   have:=sw S;rw[bl,W0,W0,Z5];lia
 | .th t::S=>by
   have:=sw S;rw[bl,W0,W0];lia
mutual
def Th.fill(f:Int->Int->Th):Th->Th
 |.knot n ks=>.knot n (fills f ks)
 |.call s k=>f s k
def fills(f:Int->Int->Th):List Th->List Th
 | []=>[]
 |t::ts=>t.fill f::fills f ts
end
theorem jx(f:Int->Int->Th):∀ts:List Th,(fills f ts).length=ts.length
 | []=>by rw[fills]
 |t::ts=>by rw[fills,W0,W0,jx f ts]
mutual
theorem tj:∀t:Th,t.fill x!=t
 |.knot n ks=>by rw[Th.fill,qp ks]
 |.call s k=>by rw[Th.fill]
theorem qp:∀ts:List Th,fills x! ts=ts
 | []=>by rw[fills]
 |t::ts=>by rw[fills,tj t,qp ts]
end
def fe(f:Int->Int->Th):Th->Top
 |.knot n ks=>.nm n ks.length
 |.call s k=>.th (f s k)
theorem lE(f:Int->Int->Th):∀(n:Nat)(ts:List Th),aq ts<=n->∀S,bl ((walks ts).map (fe f)++S)=fills f ts++bl S/\(TopsOk S->TopsOk ((walks ts).map (fe f)++S))
 |_,[],_,S=>by rw[walks,fills];exact⟨D?,λh=>h⟩
 | 0,t::ts,hn,S=>by
   have:=t.size_pos;rw[aq]at hn;lia
 | n+1,t::ts,hn,S=>by
   have hs:=t.size_eq;rw[aq]at hn;have h2:=lE f n ts (by lia) S;have e:(walks (t::ts)).map (fe f)++S=fe f t::((walks t.kids).map (fe f)++((walks ts).map (fe f)++S)):=by rw[walks,t.walk_eq];simp
   have h1:=lE f n t.kids (by lia) ((walks ts).map (fe f)++S);rw[e];cases t with
   | knot nm ks =>
     simp only[L!]at h1 |-;refine⟨?_,λhS=>?_⟩
     .show bl (.nm nm ks.length::_)=_;rw[bl,h1.1,h2.1,<-jx f ks,List.take_left,List.drop_left,fills,Th.fill];rfl
     .show TopsOk (.nm nm ks.length::_);rw[TopsOk];refine⟨?_,h1.2 (h2.2 hS)⟩;rw[h1.1,Xd,jx];exact Zj _ _
   | call s k =>
     simp only[L!,walks,Y0,YY]at h1 |-;refine⟨?_,λhS=>?_⟩
     .show bl (.th (f s k)::_)=_;rw[bl,h2.1,fills,Th.fill];rfl
     .show TopsOk (.th (f s k)::_);rw[TopsOk];exact h2.2 hS
theorem tX(f:Int->Int->Th)(t:Th):bl (t.walk.map (fe f))=[t.fill f]/\TopsOk (t.walk.map (fe f)):=by
 have h:=lE f _ [t] (WV _) [];have e:walks [t]=t.walk:=by simp[walks]
 rw[e,XA]at h;refine⟨?_,h.2 (by rw[TopsOk];trivial)⟩;rw[h.1,fills,fills,bl];rfl
theorem um(x:V)(xs:List V):jO (x::xs) B? (A? 1)=[x]:=by
 unfold jO;rw[show(A? (1:Int))=A? ((1:Nat):Int)from rfl,M!,HT.sIx_none,W0,Nat.min_eq_left (by lia)];rfl
end BB
open BB.Th renaming fill->A!
namespace PySem
open Sem (wp)
end PySem
namespace L2
open PySem PySem.Spec PyProof.Rows BB
end L2
namespace BB
open PySem L2
theorem eY{k:Nat}(hr:L2.Room k A):A.units+150+2<YK:=by
 have:=hr.un;lia
def hole:Th:=.knot star []
def Th.name:Th->Xp
 |.knot n _=>n
 |.call _ _=>q
def aE:Th->Th->Bool
 |.knot n ks,.knot m us=>!(o! n ks).isHole && decide (n=m) && decide (ks.length=us.length)
 |_,_=>Cf
mutual
def Th.sbs:Th->Th->List (Th×Th)
 |.knot n ks,r=>(.knot n ks,r)::(if aE (.knot n ks) r=C? then pc ks r.kids else[])
 |.call s k,r=>[(.call s k,r)]
def pc:List Th->List Th->List (Th×Th)
 | [],_=>[]
 | k::ks,us=>match us with
   | []=>[]
   |u::us=>k.sbs u++pc ks us
end
def wks:List (Th×Th)->List (Th×Th)
 | []=>[]
 |p::ps=>p.1.sbs p.2++wks ps
theorem lW:∀a b:List (Th×Th),wks (a++b)=wks a++wks b
 | [],b=>rfl
 |p::a,b=>by rw[X7,wks,wks,lW a b,XO]
theorem sZ:∀ks us:List Th,wks (ks.zip us)=pc ks us
 | [],_=>by rw[List.zip_nil_left,wks,pc]
 |k::ks,[]=>by rw[List.zip_nil_right,wks,pc]
 |k::ks,u::us=>by rw[ZA,wks,pc,sZ ks us]
theorem Th.sbs_eq(l r:Th):l.sbs r=(l,r)::(if aE l r=C? then wks (l.kids.zip r.kids)else[]):=by
 cases l with
 |knot n ks=>rw[Th.sbs,sZ];rfl
 | call s k =>
   rw[Th.sbs];have:aE (.call s k) r=false:=by cases r <;> rfl
   rw[this];rfl
def szL:List (Th×Th)->Nat
 | []=>0
 |p::ps=>p.1.size+szL ps
theorem eT:∀a b,szL (a++b)=szL a+szL b
 | [],b=>by simp[szL]
 |p::a,b=>by rw[X7,szL,szL,eT a b,Zv]
theorem sU(a:List (Th×Th)):szL a.reverse=szL a:=by
 induction a with
 |nil=>rfl
 |cons x xs ih=>rw[Yb,eT,ih,szL,szL,szL];lia
theorem jg:∀ks us:List Th,szL (ks.zip us)<=aq ks
 | [],_=>by rw[List.zip_nil_left,szL];exact Xg _
 |k::ks,[]=>by rw[List.zip_nil_right,szL];exact Xg _
 | k::ks,u::us=>by
   have:=jg ks us;rw[ZA,szL,aq];show k.size+_<=_;lia
theorem oO:∀a:List (Th×Th),a.length<=szL a
 | []=>Xg _
 | p::a=>by
   have:=p.1.size_pos;have:=oO a;rw[W0,szL];lia
theorem oJ:∀(n:Nat)(ps:List (Th×Th)),szL ps<=n->(wks ps).length<=szL ps
 |_,[],_=>Xg _
 | 0,p::ps,h=>by
   have:=p.1.size_pos;rw[szL]at h;lia
 | n+1,p::ps,h=>by
   have hs:=p.1.size_eq;have hz:=jg p.1.kids p.2.kids;rw[szL]at h;have h1:=oJ n ps (by lia);have h2:=oJ n (p.1.kids.zip p.2.kids) (by lia);rw[wks,Th.sbs_eq,szL,Xd,W0];split
   .lia
   .rw[List.length_nil];lia
theorem yD(l r:Th):(l.sbs r).length<=l.size:=by
 have:=oJ _ [(l,r)] (WV _);rw[wks,wks,XA,szL,szL]at this;exact this
theorem oW:∀(n:Nat)(ps:List (Th×Th)),szL ps<=n->∀x∈wks ps,∃p∈ps,x.1.tall<=p.1.tall/\x.2.tall<=p.2.tall/\x.1.size<=p.1.size/\x.2.size<=p.2.size
 |_,[],_,x,h=>nomatch h
 | 0,p::ps,h,x,_=>by
   have:=p.1.size_pos;rw[szL]at h;lia
 | n+1,p::ps,h,x,hx=>by
   have hs:=p.1.size_eq;have hz:=jg p.1.kids p.2.kids;rw[szL]at h;rw[wks,Th.sbs_eq,Xz]at hx;rcases hx with hx|hx
   .rcases W8.mp hx with rfl|hx
    .exact⟨p,Xh ..,WV _,WV _,WV _,WV _⟩
    .split at hx
     .obtain⟨y,hy,h1,h2,h3,h4⟩:=oW n _ (by lia) x hx;have m1:y.1∈p.1.kids:=(List.of_mem_zip hy).1;have m2:y.2∈p.2.kids:=(List.of_mem_zip hy).2;have t1:=bL m1;have t2:=bL m2;have z1:=aY m1;have z2:=aY m2;have e1:=p.1.tall_eq;have e2:=p.2.tall_eq;have e4:=p.2.size_eq;exact⟨p,Xh ..,by lia,by lia,by lia,by lia⟩
     .cases hx
   .obtain⟨y,hy,r⟩:=oW n ps (by lia) x hx;exact⟨y,Xe _ hy,r⟩
theorem uq{l r:Th}{x:Th×Th}(h:x∈l.sbs r):x.1.tall<=l.tall/\x.2.tall<=r.tall/\x.1.size<=l.size/\x.2.size<=r.size:=by
 obtain⟨p,hp,r⟩:=oW _ [(l,r)] (WV _) x (by rw[wks,wks,XA];exact h);rw[W9]at hp;subst hp;exact r
mutual
def Th.lies:Th->Th->Bool
 |.knot n ks,r=>(o! n ks).isHole ||(aE (.knot n ks) r && aX ks r.kids)
 |.call _ _,_=>Cf
def aX:List Th->List Th->Bool
 | [],_=>C?
 | k::ks,us=>match us with
   | []=>C?
   |u::us=>k.lies u && aX ks us
end
theorem fW{l r:Th}(h:l.isHole=C?):aE l r=false:=by
 cases l with
 | knot n ks =>
   cases r with
   | knot m us =>
     show(!(o! n ks).isHole && decide (n=m) && decide (ks.length=us.length))=Cf;rw[h];rfl
   |call s k=>rfl
 |call s k=>cases h
mutual
def Th.noCall:Th->Prop
 |.knot _ ks=>ba ks
 |.call _ _=>False
def ba:List Th->Prop
 | []=>True
 |t::ts=>t.noCall/\ba ts
end
theorem ce:∀{ts:List Th}{t:Th},ba ts->t∈ts->t.noCall
 | [],_,_,h=>nomatch h
 | u::ts,t,hn,h=>by
   rw[ba]at hn;rcases W8.mp h with rfl|h
   .exact hn.1
   .exact ce hn.2 h
def Th.wid:Th->Nat
 |.knot _ ks=>ks.length
 |.call _ _=>2
theorem bG{l r:Th}(h:aE l r=C?):∃n ks us,l=.knot n ks/\r=.knot n us/\ks.length=us.length/\l.isHole=false:=by
 cases l with
 | knot n ks =>
   cases r with
   | knot m us =>
     have h':(!(o! n ks).isHole && decide (n=m) && decide (ks.length=us.length))=true:=h;simp only[Yg,decide_eq_true_eq,Bool.not_eq_true']at h';obtain⟨⟨h1,h2⟩,h3⟩:=h';subst h2;exact⟨n,ks,us,D?,D?,h3,h1⟩
   |call s k=>cases h
 |call s k=>cases r <;> cases h
theorem wX(l r:Th)(S:List (Th×Th)):wks ((l,r)::S)=(l,r)::((if aE l r=C? then wks (l.kids.zip r.kids)else[])++wks S):=by
 rw[wks,Th.sbs_eq];rfl
theorem jS:hole.noCall:=by rw[hole,Th.noCall,ba];trivial
theorem dL:hole.isHole=true:=by
 show decide (star=star/\([]:List Th)=[])=C?;exact d! ⟨rfl,rfl⟩
theorem ou:hole.tall=1:=by rw[hole,t!,aJ]
theorem eG:hole.size=1:=by rw[hole,p!,aq]
theorem yp:star≠q:=by decide
end BB
open BB.Th renaming noCall->u!,lies->w!
namespace L2
open PySem PySem.Spec PySem.SeqAt PyProof.Rows BB
open Classical in
theorem vy{X:Cx}(I:Inv X U Z H s){es:List Dv}{ws:List V}{Am:List WT}(r1:Vals vs its)(r2:Vals ws Am)(Ek:DAts H ds vs)(hws:DAts H es ws)(hu:A.units+bO ds+2<YK) :
 ∀j(h1:j<its.toArray.size)(h2:j<Am.toArray.size),EqAt A.in1 s its.toArray[j] Am.toArray[j] (decide (ds[j]?=es[j]?)):=by
 intro j h1 h2;have l1:its.length=ds.length:=by rw[<-r1.length,Ek.length]
 have l2:Am.length=es.length:=by rw[<-r2.length,hws.length]
 have Fm:j<ds.length:=by rw[<-l1];simpa using h1
 have Ej:j<es.length:=by rw[<-l2];simpa using h2
 have e1:ds[j]?=A? ds[j]:=WR Fm;have e2:es[j]?=A? es[j]:=WR Ej;obtain⟨x',AY,dx⟩:=Ek.at e1;obtain⟨y',Eu,dy⟩:=hws.at e2;obtain⟨u',B8,HK⟩:=r1.get AY;obtain⟨v',Bj,EG⟩:=r2.get Eu;have e3:decide (ds[j]?=es[j]?)=decide (ds[j]=es[j]):=by rw[e1,e2];simp
 have e4:its.toArray[j]=u':=by
  rw[WR (by rw[l1];exact Fm)]at B8;simpa using B8
 have e5:Am.toArray[j]=v':=by
  rw[WR (by rw[l2];exact Ej)]at Bj;simpa using Bj
 rw[e3,e4,e5];have q2:=fM e1;refine oT I _ ds[j] es[j] (WV _) x' y' u' v' A.in1 dx dy HK EG ?_;show A.units+1+_<YK;lia
open Classical in
theorem rG{es:List Dv}(hl:ds.length=es.length):(XD ds.length).all (λj=>decide (ds[j]?=es[j]?))=decide (ds=es):=by
 by_cases h:ds=es
 .subst h;rw[d! rfl];simp
 .rw[c! h];refine YA.mpr λz=>h (List.ext_getElem? λj=>?_);by_cases hj:j<ds.length
  .exact e! (List.all_eq_true.mp z j (YW.mpr hj))
  .rw[ZF (by lia),ZF (by lia)]
end L2
namespace BB
open PySem L2
mutual
def Th.hw(pre:List Int):Th->Th->List (List Int×Th)
 |.knot n ks,t=>if(o! n ks).isHole=C? then[(pre,t)]else hws pre 0 ks t.kids
 |.call _ _,_=>[]
def hws(pre:List Int)(i:Int):List Th->List Th->List (List Int×Th)
 | [],_=>[]
 | k::ks,us=>match us with
   | []=>[]
   |u::us=>k.hw (pre++[i]) u++hws pre (i+1) ks us
end
theorem gQ{f:Th}(h:f.isHole=C?)(pre:List Int)(t:Th):f.hw pre t=[(pre,t)]:=by
 cases f with
 |knot n ks=>rw[Th.hw,b! h]
 |call s k=>cases h
theorem pe{f:Th}(h:f.isHole=C?):f=hole:=by
 cases f with
 | knot n ks =>
   have h':=e! (show decide (n=star/\ks=[])=C? from h);rw[h'.1,h'.2];rfl
 |call s k=>cases h
theorem cD{f t:Th}(h:f.lies t=C?):f.isHole=C?\/∃n ks us,f=.knot n ks/\t=.knot n us/\ks.length=us.length/\f.isHole=Cf/\aE f t=C?/\aX ks us=true:=by
 cases f with
 | knot n ks =>
   rw[w!]at h;cases hh:(o! n ks).isHole with
   |true=>exact .inl rfl
   | false =>
     rw[hh,Bool.false_or,Yg]at h;obtain⟨n',HM,us,e1,rfl,e3,_⟩:=bG h.1;cases e1;exact .inr ⟨n,ks,us,rfl,rfl,e3,rfl,h.1,h.2⟩
 |call s k=>rw[w!]at h;cases h
theorem bC{k u:Th}{ks us:List Th}:aX (k::ks) (u::us)=(k.lies u && aX ks us):=by rw[aX]
mutual
theorem jp:∀(pre:List Int)(f t:Th),f.lies t=C?->((f.pl pre).filter λp=>p.2.isHole).map (·.1)=(f.hw pre t).map (·.1)
 | pre,.knot n ks,t,h=>by
   rcases cD h with hh|⟨n',HM,us,e1,rfl,e3,hh,_,hl⟩
   .rw[gQ hh,pe hh,hole,C!,pls];rw[X1,b! (show(o! star []).isHole=C? from dL)];rfl
   .cases e1;rw[C!,Th.hw,a! (by rw[hh];exact W6),X1,a! (show¬(o! n ks).isHole=C? by rw[hh];exact W6)];exact lU pre 0 ks us e3 hl
 |pre,.call s k,t,h=>by rw[w!]at h;cases h
theorem lU:∀(pre:List Int)(i:Int)(ks us:List Th),ks.length=us.length->aX ks us=C?->((pls pre i ks).filter λp=>p.2.isHole).map (·.1)=(hws pre i ks us).map (·.1)
 |pre,i,[],us,_,_=>by rw[pls,hws];rfl
 |pre,i,k::ks,[],e,_=>by simp at e
 | pre,i,k::ks,u::us,e,h=>by
   rw[bC,Yg]at h;rw[pls,hws,ZD,Xa,Xa,jp _ k u h.1,lU pre (i+1) ks us (by simpa using e) h.2]
end
mutual
theorem qY:∀(pre:List Int)(f t:Th),f.lies t=C?->((f.sbs t).filter λp=>p.1.isHole).map (·.2)=(f.hw pre t).map (·.2)
 | pre,.knot n ks,t,h=>by
   rcases cD h with hh|⟨n',HM,us,e1,rfl,e3,hh,hs,hl⟩
   .rw[gQ hh,Th.sbs,fW hh,a! W6,X1,b! hh];rfl
   .cases e1;rw[Th.sbs,hs,b! rfl,Th.hw,a! (by rw[hh];exact W6),X1,a! (show¬(o! n ks).isHole=C? by rw[hh];exact W6)];exact mU pre 0 ks us e3 hl
 |pre,.call s k,t,h=>by rw[w!]at h;cases h
theorem mU:∀(pre:List Int)(i:Int)(ks us:List Th),ks.length=us.length->aX ks us=C?->((pc ks us).filter λp=>p.1.isHole).map (·.2)=(hws pre i ks us).map (·.2)
 |pre,i,[],us,_,_=>by rw[pc,hws];rfl
 |pre,i,k::ks,[],e,_=>by simp at e
 | pre,i,k::ks,u::us,e,h=>by
   rw[bC,Yg]at h;rw[pc,hws,ZD,Xa,Xa,qY _ k u h.1,mU pre (i+1) ks us (by simpa using e) h.2]
end
def be:List Th->List Th->List Top
 | [],_=>[]
 |x::xs,ps=>if x.isHole=C? then .th (ps.headD hole)::be xs ps.tail else .nm x.name x.wid::be xs ps
def aV(xs:List Th):Nat:=(xs.filter G!).length
theorem dD(a b:List Th):aV (a++b)=aV a+aV b:=by unfold aV;rw[ZD,Xd]
theorem cF:∀(xs ys ps:List Th),be (xs++ys) ps=be xs ps++be ys (ps.drop (aV xs))
 | [],ys,ps=>by show _=[]++be ys (ps.drop 0);rfl
 | x::xs,ys,ps=>by
   rw[X7,be,be];by_cases h:x.isHole=C?
   .rw[b! h,b! h];have hn:aV (x::xs)=aV xs+1:=by unfold aV;rw[X1,b! h];rfl
    rw[cF xs ys ps.tail,hn,List.drop_tail,Nat.add_comm];rfl
   .rw[a! h,a! h];have hn:aV (x::xs)=aV xs:=by unfold aV;rw[X1,a! h]
    rw[cF xs ys ps,hn];rfl
mutual
theorem o8:∀(pre:List Int)(f t:Th),f.lies t=C?->∀(P:List Th)(S:List Top),be f.walk ((f.hw pre t).map (·.2)++P)=be f.walk ((f.hw pre t).map (·.2))/\aV f.walk=(f.hw pre t).length/\bl (be f.walk ((f.hw pre t).map (·.2))++S)=t::bl S/\(TopsOk S->TopsOk (be f.walk ((f.hw pre t).map (·.2))++S))
 | pre,.knot n ks,t,h,P,S=>by
   rcases cD h with hh|⟨n',HM,us,e1,rfl,e3,hh,_,hl⟩
   .have he:=pe hh;rw[gQ hh,he];have UA:hole.walk=[hole]:=by rw[hole,Th.walk,walks]
    have ht:∀Q:List Th,be [hole] (t::Q)=[.th t]:=λQ=>by rw[be,b! dL];rfl
    rw[UA];refine⟨by rw[XB,X7,ht,Y0,ht],by unfold aV;rw[X1,b! dL];rfl,?_,λhS=>?_⟩
    .rw[XB,ht];show bl (.th t::S)=_;rw[bl]
    .rw[XB,ht];show TopsOk (.th t::S);rw[TopsOk];exact hS
   .cases e1;have Aq:¬(o! n ks).isHole=true:=by rw[hh];exact W6
    have ih:=rg pre 0 ks us e3 hl P S;have e:(o! n ks).hw pre (.knot n us)=hws pre 0 ks us:=by rw[Th.hw,a! Aq];rfl
    rw[e,Th.walk];have hg:∀Q:List Th,be (.knot n ks::walks ks) Q=.nm n ks.length::be (walks ks) Q:=λQ=>by rw[be,a! Aq];rfl
    refine⟨by rw[hg,hg,ih.1],?_,?_,λhS=>?_⟩
    .have:aV (o! n ks::walks ks)=aV (walks ks):=by unfold aV;rw[X1,a! Aq]
     rw[this];exact ih.2.1
    .rw[hg,X7,bl,ih.2.2.1,e3,List.take_left,List.drop_left]
    .rw[hg,X7,TopsOk];exact⟨by rw[ih.2.2.1,Xd,e3];exact Zj _ _,ih.2.2.2 hS⟩
 |pre,.call s k,t,h,P,S=>by rw[w!]at h;cases h
theorem rg:∀(pre:List Int)(i:Int)(ks us:List Th),ks.length=us.length->aX ks us=C?->∀(P:List Th)(S:List Top),be (walks ks) ((hws pre i ks us).map (·.2)++P)=be (walks ks) ((hws pre i ks us).map (·.2))/\aV (walks ks)=(hws pre i ks us).length/\bl (be (walks ks) ((hws pre i ks us).map (·.2))++S)=us++bl S/\(TopsOk S->TopsOk (be (walks ks) ((hws pre i ks us).map (·.2))++S))
 | pre,i,[],us,e,_,P,S=>by
   have:us=[]:=Yk.mp (by simpa using e.symm);subst this;rw[walks,hws];exact⟨D?,D?,D?,λh=>h⟩
 |pre,i,k::ks,[],e,_,P,S=>by simp at e
 | pre,i,k::ks,u::us,e,h,P,S=>by
   rw[bC,Yg]at h;have i2:=rg pre (i+1) ks us (by simpa using e) h.2 P S;have i1:=o8 (pre++[i]) k u h.1 ((hws pre (i+1) ks us).map (·.2)) (be (walks ks) ((hws pre (i+1) ks us).map (·.2))++S);have UB:=o8 (pre++[i]) k u h.1 ((hws pre (i+1) ks us).map (·.2)++P) S
   have hd:∀Q:List Th,((k.hw (pre++[i]) u).map (·.2)++Q).drop (aV k.walk)=Q:=λQ=>by
    rw[i1.2.1,<-WM (as:=k.hw (pre++[i]) u) (f:=(·.2)),List.drop_left]
   have Dt:be (walks (k::ks)) ((hws pre i (k::ks) (u::us)).map (·.2))=be k.walk ((k.hw (pre++[i]) u).map (·.2))++be (walks ks) ((hws pre (i+1) ks us).map (·.2)):=by
    rw[walks,hws,Xa,cF,hd,i1.1]
   refine⟨?_,?_,?_,λhS=>?_⟩
   .rw[Dt,walks,hws,Xa,XO,cF,hd,UB.1,i2.1]
   .rw[walks,hws,dD,Xd,i1.2.1,i2.2.1]
   .rw[Dt,XO,i1.2.2.1,i2.2.2.1];rfl
   .rw[Dt,XO];exact i1.2.2.2 (i2.2.2.2 hS)
end
theorem uv(pre:List Int){f t:Th}(h:f.lies t=C?):bl (be f.walk ((f.hw pre t).map (·.2)))=[t]/\TopsOk (be f.walk ((f.hw pre t).map (·.2)))/\aV f.walk=(f.hw pre t).length:=by
 obtain⟨_,h2,h3,h4⟩:=o8 pre f t h [] [];rw[XA]at h3 h4;exact⟨by rw[h3,bl],h4 (by rw[TopsOk];trivial),h2⟩
theorem gM:∀(xs ps:List Th),(be xs ps).length=xs.length
 | [],_=>rfl
 | x::xs,ps=>by
   rw[be];split
   .rw[W0,W0,gM xs ps.tail]
   .rw[W0,W0,gM xs ps]
theorem iY:∀(xs ps:List Th)(t:Th),Top.th t∈be xs ps->t∈ps\/t=hole
 | [],_,t,h=>nomatch h
 | x::xs,ps,t,h=>by
   rw[be]at h;split at h
   .cases ps with
    | nil =>
      rcases W8.mp h with h|h
      .cases h;exact .inr rfl
      .exact iY xs [] t h
    | cons p ps =>
      rcases W8.mp h with h|h
      .cases h;exact .inl (Xh ..)
      .rcases iY xs ps t h with h|h
       .exact .inl (Xe _ h)
       .exact .inr h
   .rcases W8.mp h with h|h
    .cases h
    .exact iY xs ps t h
theorem yc(pre:List Int){f t:Th}(h:f.lies t=C?):∀p∈f.hw pre t,p.2.size<=t.size/\p.2.tall<=t.tall:=by
 intro p hp;have h1:p.2∈(f.hw pre t).map (·.2):=Xx.mpr ⟨p,hp,rfl⟩;rw[<-qY pre f t h]at h1;obtain⟨x,hx,e⟩:=Xx.mp h1;have:=uq (YZ.mp hx).1;rw[<-e];exact⟨this.2.2.2,this.2.1⟩
theorem zN(pre:List Int){f t:Th}(h:f.lies t=C?):(f.hw pre t).length<=f.size:=by
 have h1:=(uv pre h).2.2;rw[<-h1];unfold aV;have:=ZE G! f.walk;rw[K!]at this;exact this
theorem pick{G:α->β->γ->Prop}(h:∀x a,F x a->∃c,G x a c):∀{xs:List α}{as:List β},Xk F xs as->∃cs:List γ,cs.length=as.length/\∀(i:Nat)x a c,xs[i]?=A? x->as[i]?=A? a->cs[i]?=A? c->G x a c
 |_,_,.nil=>⟨[],rfl,λi x a c e=>by simp at e⟩
 | _,_,.cons r t=>by
   obtain⟨c,hc⟩:=h _ _ r;obtain⟨cs,h1,h2⟩:=pick h t;refine⟨c::cs,by rw[W0,W0,h1],λi x a c' e1 e2 e3=>?_⟩;cases i with
   |zero=>simp at e1 e2 e3;subst e1 e2 e3;exact hc
   |succ i=>exact h2 i x a c' (by simpa using e1) (by simpa using e2) (by simpa using e3)
theorem tL{R:α->γ->Prop}(p:α->Bool):∀{xs:List α}{cs:List γ},xs.length=cs.length->(∀(i:Nat)x c,xs[i]?=A? x->cs[i]?=A? c->R x c)->Xk R (xs.filter p) (((xs.zip cs).filter λz=>p z.1).map (·.2))
 | [],[],_,_=>.nil
 | [],_::_,h,_=>by simp at h
 |_::_,[],h,_=>by simp at h
 | x::xs,c::cs,h,r=>by
   rw[ZA,X1,X1];have ih:=tL p (xs:=xs) (cs:=cs) (R:=R) (by simpa using h) λi x' c' e1 e2=>r (i+1) x' c' (by simpa using e1) (by simpa using e2);by_cases e:p x=C?
   .rw[b! e,b! e];exact .cons (r 0 x c rfl rfl) ih
   .rw[a! e,a! e];exact ih
theorem P2.mapl{R:β->γ->Prop}(f:α->β):∀{xs:List α}{cs:List γ},Xk (λx c=>R (f x) c) xs cs->Xk R (xs.map f) cs
 |_,_,.nil=>.nil
 |_,_,.cons r h=>.cons r (P2.mapl f h)
mutual
theorem jX:∀f:Th,f.noCall->∀x∈f.walk,x.noCall
 | .knot n ks,h,x,hx=>by
   rw[Th.walk]at hx;rcases W8.mp hx with rfl|hx
   .exact h
   .rw[u!]at h;exact iZ ks h x hx
 |.call s k,h,x,hx=>by rw[u!]at h;exact h.elim
theorem iZ:∀ts:List Th,ba ts->∀x∈walks ts,x.noCall
 | [],_,x,hx=>by rw[walks]at hx;cases hx
 | t::ts,h,x,hx=>by
   rw[ba]at h;rw[walks]at hx;rcases Xz.mp hx with hx|hx
   .exact jX t h.1 x hx
   .exact iZ ts h.2 x hx
end
theorem jU{C:Nat}:∀ts:List Th,(∀u∈ts,u.size<=B/\u.tall<=C)->bO (dvs ts)<=C
 | [],_=>by rw[dvs,bO];exact Xg _
 | t::ts,h=>by
   have h1:=jU ts λu hu=>h u (Xe _ hu);have h2:=(h t (Xh ..)).2;have h3:=t.dv_deep;rw[dvs,bO];lia
inductive Rep where
 |i
 |p
def enc(s l:Int):Int:=1000 * s+l
def StV(r:Rep)(H:Hp)(s:Int)(v:V):Prop:=match r with
 |.i=>v=.int s
 |.p=>∃(a:WQ)(x y:Int),v=.ref a/\H a=A? (.tup [.int x,.int y])/\s=enc x y/\0<=x/\0<=y/\y<1000
theorem StV.mono{r:Rep}(k:KT H H'){s:Int}(h:StV r H s v):StV r H' s v:=by
 cases r with
 |i=>exact h
 | p =>
   obtain⟨a,x,y,e,h1,h2⟩:=h;exact⟨a,x,y,e,k _ _ h1,h2⟩
theorem t9{x y x' y':Int}(h:enc x y=enc x' y')(h1:0<=y)(h2:y<1000)(h3:0<=y')(h4:y'<1000):x=x'/\y=y':=by
 unfold enc at h;lia
mutual
def AtK(rp:Rep)(K:WO)(H:Hp):Th->WQ->Prop
 |.knot n ks,a=>n≠q/\∃as:List WQ,TK K H a (.str n::as.map i!)/\AtsK rp K H ks as
 |.call s k,a=>∃v,TK K H a [.str q,v,.int k]/\StV rp H s v
def AtsK(rp:Rep)(K:WO)(H:Hp):List Th->List WQ->Prop
 | [],as=>as=[]
 |t::ts,as=>∃a r,as=a::r/\AtK rp K H t a/\AtsK rp K H ts r
end
mutual
theorem AtK.mono(k:KT H H'):∀{t:Th}{a:WQ},AtK rp K H t a->AtK rp K H' t a
 | .knot n ks,a,h=>by
   rw[AtK]at h |-;obtain⟨h0,as,h1,h2⟩:=h;exact⟨h0,as,h1.mono k,AtsK.mono k h2⟩
 | .call s c,a,h=>by
   rw[AtK]at h |-;obtain⟨v,h1,h2⟩:=h;exact⟨v,h1.mono k,h2.mono k⟩
theorem AtsK.mono(k:KT H H'):∀{ts:List Th}{as:List WQ},AtsK rp K H ts as->AtsK rp K H' ts as
 | [],as,h=>by rw[AtsK]at h |-;exact h
 | t::ts,as,h=>by
   rw[AtsK]at h |-;obtain⟨a,r,e,h1,h2⟩:=h;exact⟨a,r,e,AtK.mono k h1,AtsK.mono k h2⟩
end
theorem AtsK.nil:AtsK rp K H [] []:=by rw[AtsK]
theorem AtsK.cons{t:Th}(h1:AtK rp K H t a)(h2:AtsK rp K H ts as):AtsK rp K H (t::ts) (a::as):=by rw[AtsK];exact⟨a,as,D?,h1,h2⟩
theorem AtsK.append:∀{ts us:List Th}{as bs:List WQ},AtsK rp K H ts as->AtsK rp K H us bs->AtsK rp K H (ts++us) (as++bs)
 | [],us,as,bs,h,g=>by rw[AtsK]at h;subst h;exact g
 | t::ts,us,as,bs,h,g=>by
   rw[AtsK]at h;obtain⟨a,r,rfl,h1,h2⟩:=h;exact .cons h1 (h2.append g)
theorem AtsK.length:∀{ts:List Th}{as:List WQ},AtsK rp K H ts as->as.length=ts.length
 | [],as,h=>by rw[AtsK]at h;subst h;rfl
 | t::ts,as,h=>by
   rw[AtsK]at h;obtain⟨a,r,rfl,h1,h2⟩:=h;rw[W0,W0,h2.length]
theorem AtsK.reverse:∀{ts:List Th}{as:List WQ},AtsK rp K H ts as->AtsK rp K H ts.reverse as.reverse
 | [],as,h=>by rw[AtsK]at h;subst h;exact .nil
 | t::ts,as,h=>by
   rw[AtsK]at h;obtain⟨a,r,rfl,h1,h2⟩:=h;rw[Yb,Yb];exact h2.reverse.append (.cons h1 .nil)
theorem AtsK.get:∀{ts:List Th}{as:List WQ}{i:Nat}{a:WQ},AtsK rp K H ts as->as[i]?=A? a->∃t,ts[i]?=A? t/\AtK rp K H t a
 | [],as,i,a,h,e=>by rw[AtsK]at h;subst h;simp at e
 | t::ts,as,i,a,h,e=>by
   rw[AtsK]at h;obtain⟨b,r,rfl,h1,h2⟩:=h;cases i with
   |zero=>simp at e;subst e;exact⟨t,D?,h1⟩
   |succ i=>exact h2.get (i:=i) (by simpa using e)
theorem AtsK.at:∀{ts:List Th}{as:List WQ}{i:Nat}{t:Th},AtsK rp K H ts as->ts[i]?=A? t->∃a,as[i]?=A? a/\AtK rp K H t a
 | [],as,i,a,h,e=>by simp at e
 | t::ts,as,i,a,h,e=>by
   rw[AtsK]at h;obtain⟨b,r,rfl,h1,h2⟩:=h;cases i with
   |zero=>simp at e;subst e;exact⟨b,D?,h1⟩
   |succ i=>exact h2.at (i:=i) (by simpa using e)
theorem AtsK.snoc_inv(h:AtsK rp K H ts (as++[a])):∃us t,ts=us++[t]/\AtsK rp K H us as/\AtK rp K H t a:=by
 have r:=h.reverse;rw[YD,List.reverse_singleton,List.singleton_append]at r;cases e:ts.reverse with
 |nil=>rw[e,AtsK]at r;cases r
 | cons t us =>
   rw[e,AtsK]at r;obtain⟨b,z,e1,h1,h2⟩:=r;cases e1;refine⟨us.reverse,t,?_,?_,h1⟩
   .rw[<-Yb,<-e,Y4]
   .have:=h2.reverse;rw[Y4]at this;exact this
mutual
theorem AtK.dv:∀{t:Th}{a:WQ},AtK .i K H t a->DAtK K H t.dv (.ref a)
 | .knot n ks,a,h=>by
   rw[AtK]at h;obtain⟨_,as,h1,h2⟩:=h;rw[Th.dv,DAtK];exact⟨a,_,D?,h1,.cons (by rw[DAtK]) (AtsK.dvs h2)⟩
 | .call s k,a,h=>by
   rw[AtK]at h;obtain⟨v,h,hv⟩:=h;cases(show v=.int s from hv);rw[Th.dv,DAtK];exact⟨a,_,D?,h,.cons (by rw[DAtK]) (.cons (by rw[DAtK]) (.cons (by rw[DAtK]) .nil))⟩
theorem AtsK.dvs:∀{ts:List Th}{as:List WQ},AtsK .i K H ts as->DAtsK K H (dvs ts) (as.map i!)
 | [],as,h=>by rw[AtsK]at h;subst h;rw[BB.dvs];exact .nil
 | t::ts,as,h=>by
   rw[AtsK]at h;obtain⟨a,r,rfl,h1,h2⟩:=h;rw[BB.dvs,XB];exact .cons (AtK.dv h1) (AtsK.dvs h2)
end
mutual
theorem At.k:∀{t:Th}{a:WQ},At H t a->AtK .i K H t a
 | .knot n ks,a,h=>by
   rw[At]at h;rw[AtK];obtain⟨h0,as,h1,h2⟩:=h;exact⟨h0,as,.of h1,Ats.k h2⟩
 | .call s c,a,h=>by
   rw[At]at h;rw[AtK];exact⟨_,.of h,D?⟩
theorem Ats.k:∀{ts:List Th}{as:List WQ},Ats H ts as->AtsK .i K H ts as
 | [],as,h=>by rw[Ats]at h;rw[AtsK];exact h
 | t::ts,as,h=>by
   rw[Ats]at h;rw[AtsK];obtain⟨a,r,e,h1,h2⟩:=h;exact⟨a,r,e,At.k h1,Ats.k h2⟩
end
theorem AtK.row{t:Th}(h:AtK rp K H t a):∃r,TK K H a (.str t.name::r)/\r.length=t.wid:=by
 cases t with
 | knot n ks =>
   rw[AtK]at h;obtain⟨_,as,h1,h2⟩:=h;exact⟨_,h1,by rw[WM,h2.length];rfl⟩
 | call s k =>
   rw[AtK]at h;obtain⟨v,h,_⟩:=h;exact⟨_,h,D?⟩
theorem qg{l:Th}{x:WQ}(h:AtK rp K H l x)(r:Th):aE l r=(l.isKnot && (decide (l.name=r.name) && decide (l.wid=r.wid))):=by
 cases l with
 | knot n ks =>
   rw[AtK]at h;cases r with
   | knot m us =>
     show(!(o! n ks).isHole && decide (n=m) && decide (ks.length=us.length))=(!false && !(o! n ks).isHole && (decide (n=m) && decide (ks.length=us.length)));rw[Bool.and_assoc];rfl
   | call s k =>
     show Cf=(_ && (decide (n=q) && _));rw[c! h.1];simp
 |call s k=>cases r <;> rfl
theorem abe{ys:List V}{Q:VK}(ha:TK K H a xs)(hb:TK K H b ys)(hz:xs.length+ys.length<=1000000)(q:∀p H',k! H H'->TK K H' p (xs++ys)->Q (.ref p) H'):m7 K (.ref a) (.ref b) H Q:=by
 refine⟨a,b,xs,ys,D?,D?,ha.sq,hb.sq,cQ hz,λe=>?_,λ_ e=>?_,λ_ _ p hp=>?_⟩
 .exact q b H (.refl _) (by rw[e];exact hb)
 .exact q a H (.refl _) (by rw[e,XA];exact ha)
 .exact q p _ (ae hp _) (.of ac)
def PPK(K:WO)(H:Hp)(p:Th×Th)(a:WQ):Prop:=∃x y,H a=A? (.tup [.ref x,.ref y])/\AtK .i K H p.1 x/\AtK .i K H p.2 y
theorem PPK.mono(k:KT H H'){p:Th×Th}(h:PPK K H p a):PPK K H' p a:=by
 obtain⟨x,y,h1,h2,h3⟩:=h;exact⟨x,y,k _ _ h1,h2.mono k,h3.mono k⟩
theorem eC(k:KT H H'){ps:List (Th×Th)}(h:Xk (PPK K H) ps as):Xk (PPK K H') ps as:=v! (λ_ _ e=>PPK.mono k e) h
theorem qT:∀{ks us:List Th}{as bs ts:List WQ},AtsK .i K H ks as->AtsK .i K H us bs->Xk (λ(p:V×V)t=>H t=A? (.tup [p.1,p.2])) ((as.map i!).zip (bs.map i!)) ts->Xk (PPK K H) (ks.zip us) ts
 | [],us,as,bs,ts,h1,h2,h=>by
   rw[AtsK]at h1;subst h1;rw[Y0,List.zip_nil_left]at h;cases h;rw[List.zip_nil_left];exact .nil
 | k::ks,[],as,bs,ts,h1,h2,h=>by
   rw[AtsK]at h2;subst h2;rw[Y0,List.zip_nil_right]at h;cases h;rw[List.zip_nil_right];exact .nil
 | k::ks,u::us,as,bs,ts,h1,h2,h=>by
   rw[AtsK]at h1 h2;obtain⟨a,ar,rfl,a1,a2⟩:=h1;obtain⟨b,br,rfl,b1,b2⟩:=h2;rw[XB,XB,ZA]at h;cases h with
   | cons r h =>
     rw[ZA];exact .cons ⟨a,b,r,a1,b1⟩ (qT a2 b2 h)
def TopAtK(rp:Rep)(K:WO)(H:Hp):Top->WQ->Prop
 |.nm n m,a=>∃ta,H a=A? (.tup [.ref ta,.int (m:Nat)])/\n≠q/\TK K H ta [.str n]
 |.th t,a=>∃ta,H a=A? (.tup [.ref ta,.int 0])/\AtK rp K H t ta
theorem TopAtK.mono(k:KT H H'):∀{x:Top}{a:WQ},TopAtK rp K H x a->TopAtK rp K H' x a
 | .nm n m,a,h=>by
   obtain⟨ta,h1,h2,h3⟩:=h;exact⟨ta,k _ _ h1,h2,h3.mono k⟩
 | .th t,a,h=>by
   obtain⟨ta,h1,h2⟩:=h;exact⟨ta,k _ _ h1,h2.mono k⟩
theorem dq(k:KT H H'){l:List Top}(h:Xk (TopAtK rp K H) l as):Xk (TopAtK rp K H') l as:=v! (λ_ _ e=>TopAtK.mono k e) h
theorem AtK.whole{t:Th}(h:AtK rp K H t a):∃xs,TK K H a xs/\xs.length<=t.size+2/\∀(H':Hp)(p:WQ),KT H H'->TK K H' p xs->AtK rp K H' t p:=by
 cases t with
 | knot n ks =>
   rw[AtK]at h;obtain⟨h0,as,h1,h2⟩:=h;refine⟨_,h1,?_,λH' p kt hp=>?_⟩
   .have:=h2.length;have:=bI ks;rw[W0,WM,p!];lia
   .rw[AtK];exact⟨h0,as,hp,h2.mono kt⟩
 | call s k =>
   rw[AtK]at h;obtain⟨v,h,hv⟩:=h;refine⟨_,h,by rw[p!];exact WV _,λH' p kt hp=>?_⟩;rw[AtK];exact⟨v,hp,hv.mono kt⟩
theorem wQ(h:TK K H a [.str star]):AtK rp K H hole a:=by
 rw[hole,AtK];exact⟨yp,[],h,by rw[AtsK]⟩
theorem f8:∀{ts:List Th}{as:List WQ},Xk (AtK rp K H) ts as->AtsK rp K H ts as
 |_,_,.nil=>.nil
 |_,_,.cons r h=>.cons r (f8 h)
end BB
open BB.AtK renaming mono->F!
namespace L2
open PySem PySem.Spec PySem.SeqAt PyProof.Rows BB
def y4(K:WO)(B:Nat):R2:=λx y H Q=>∃a b vs ws ds es,x=.ref a/\y=.ref b/\SqT K H a vs/\SqT K H b ws/\DAtsK K H ds vs/\DAtsK K H es ws/\bO ds<=B/\∀b:Bool,(b=C?↔ds=es)->Q (.bl b) H
open Classical in
theorem kL{X:Cx}(hu:X.A.units+B+2<YK):OpR X (compareOp .Eq) (y4 X.K B):=by
 intro U s Z H x y v u Q I rx ry h;obtain⟨a,b,vs,ws,ds,es,rfl,rfl,ha,hb,Ek,hws,hB,q⟩:=h;cases rx;cases ry
 have r:RcAt X.A s (.ref a) (.ref b) (decide (Dv.tup ds=Dv.tup es)):=nM I ha hb Ek hws (by lia) λj d e x' y' u' v' e1 dx dy HK EG=>by
  have q2:=fM e1;refine mC I _ d e (WV _) x' y' u' v' X.A.in1 dx dy HK EG ?_;show X.A.units+1+_<YK;lia
 refine r X.prog X.w X.xe _ ⟨.bl (decide (Dv.tup ds=Dv.tup es)),H,I,rfl,q _ ?_⟩;constructor
 .intro z;exact Dv.tup.inj (e! z)
 .intro z;rw[z];exact d! rfl
def abC(K:WO):V->Option Int->Option Int->Hp->VK->Prop:=λx lo hi H Q=>∃a xs,x=.ref a/\TK K H a xs/\∀p H',Same H H'->TK K H' p (jO xs lo hi)->Q (.ref p) H'
theorem tI{X:Cx}:SlR X (abC X.K):=by
 intro U s Z H x v vl vu lo hi sl Q I rx hs pl pu h;obtain⟨a,xs,rfl,ha,q⟩:=h;by_cases hw:I! xs.length 0 lo=0/\I! xs.length xs.length hi=xs.length
 .obtain⟨its,r,p1,hz⟩:=I.tuple ha.sq;have hl:=r.length;cases rx
  have e:jO xs lo hi=xs:=by
   unfold jO;rw[hw.1,hw.2,Z6,Nat.sub_zero,Yo]
  refine⟨"tuple",_,XR.lookup,p1.typeIs,HT.getItem_tuple_whole p1 hs pl pu (by rw[W3,<-hl];exact hw) ⟨.ref a,H,I,D?,q a H (.refl _) (by rw[e];exact ha)⟩⟩
 .exact fR U s Z H _ v vl vu lo hi sl Q I rx hs pl pu ⟨a,xs,rfl,ha.sq,hw,λp hp=>q p _ (ae hp _) (.of ac)⟩
end L2
namespace BB
open PySem L2
mutual
def Th.com:Th->Th->Th
 |.knot n ks,r=>if aE (.knot n ks) r=C? then .knot n (d4 ks r.kids)else hole
 |.call _ _,_=>hole
def d4:List Th->List Th->List Th
 | [],_=>[]
 | k::ks,us=>match us with
   | []=>[]
   |u::us=>k.com u::d4 ks us
end
theorem pH:∀ks us:List Th,d4 ks us=(ks.zip us).map λp=>p.1.com p.2
 | [],_=>by rw[d4];rfl
 |k::ks,[]=>by rw[d4];rfl
 |k::ks,u::us=>by rw[d4,pH ks us];rfl
theorem jH(l r:Th):l.com r=if aE l r=C? then .knot l.name ((l.kids.zip r.kids).map λp=>p.1.com p.2)else hole:=by
 cases l with
 |knot n ks=>rw[Th.com,pH];rfl
 | call s k =>
   rw[Th.com];have:aE (.call s k) r=false:=by cases r <;> rfl
   rw[this];rfl
def topC(p:Th×Th):Top:=if aE p.1 p.2=C? then .nm p.1.name p.1.kids.length else .th hole
theorem sk:∀(n:Nat)(ps:List (Th×Th)),szL ps<=n->∀S,bl ((wks ps).map topC++S)=ps.map (λp=>p.1.com p.2)++bl S/\(TopsOk S->TopsOk ((wks ps).map topC++S))
 |_,[],_,S=>⟨rfl,λh=>h⟩
 | 0,p::ps,h,S=>by
   have:=p.1.size_pos;rw[szL]at h;lia
 | n+1,p::ps,h,S=>by
   have hs:=p.1.size_eq;have hz:=jg p.1.kids p.2.kids;rw[szL]at h;have i2:=sk n ps (by lia) S;rw[wks,Th.sbs_eq,Xa,XO,XB,X7];have hc:(p::ps).map (λp=>p.1.com p.2)=p.1.com p.2::ps.map (λp=>p.1.com p.2):=rfl;by_cases AX:aE p.1 p.2=C?
   .have i1:=sk n (p.1.kids.zip p.2.kids) (by lia) ((wks ps).map topC++S);obtain⟨nm,ks,us,e1,e2,e3,_⟩:=bG AX
    have hl:((p.1.kids.zip p.2.kids).map λp=>p.1.com p.2).length=p.1.kids.length:=by
     rw[WM,List.length_zip,e1,e2];simp only[L!];lia
    have ht:topC (p.1,p.2)=.nm p.1.name p.1.kids.length:=by unfold topC;rw[b! AX]
    rw[b! AX,ht];refine⟨?_,λhS=>?_⟩
    .rw[bl,i1.1,i2.1,hc,jH,b! AX,<-hl,List.take_left,List.drop_left];rfl
    .rw[TopsOk];exact⟨by rw[i1.1,Xd,hl];exact Zj _ _,i1.2 (i2.2 hS)⟩
   .have ht:topC (p.1,p.2)=.th hole:=by unfold topC;rw[a! AX]
    rw[a! AX,ht,Y0,YY];refine⟨?_,λhS=>?_⟩
    .rw[bl,i2.1,hc,jH,a! AX];rfl
    .rw[TopsOk];exact i2.2 hS
theorem zW(l r:Th):bl ((l.sbs r).map topC)=[l.com r]/\TopsOk ((l.sbs r).map topC):=by
 have h:=sk _ [(l,r)] (WV _) [];rw[wks,wks,XA,XA]at h;refine⟨?_,h.2 (by rw[TopsOk];trivial)⟩;rw[h.1,bl];rfl
theorem cX(l r:Th):aE l r=aE r l:=by
 cases l with
 | knot n ks =>
   cases r with
   | knot m us =>
     show(!decide (n=star/\ks=[]) && decide (n=m) && decide (ks.length=us.length))=(!decide (m=star/\us=[]) && decide (m=n) && decide (us.length=ks.length));by_cases h1:n=m
     .subst h1;by_cases h2:ks.length=us.length
      .have h3:(n=star/\ks=[])↔(n=star/\us=[]):=by
        constructor
        .rintro⟨a,b⟩;rw[b]at h2;exact⟨a,Yk.mp h2.symm⟩
        .rintro⟨a,b⟩;rw[b]at h2;exact⟨a,Yk.mp h2⟩
       rw[decide_eq_decide.mpr h3,h2]
      .have Ej:¬us.length=ks.length:=λe=>h2 e.symm;simp[h2,Ej]
     .have Fm:¬m=n:=λe=>h1 e.symm;simp[h1,Fm]
   |call s k=>rfl
 |call s k=>cases r <;> rfl
mutual
theorem qB:∀l r:Th,(l.com r).size<=l.size/\(l.com r).tall<=l.tall
 | .knot n ks,r=>by
   have h:=n5 ks r.kids;rw[Th.com];split
   .rw[p!,p!,t!,t!];lia
   .have:=(o! n ks).size_pos;have:=(o! n ks).tall_eq;rw[eG,ou];lia
 |.call s k,r=>by rw[Th.com,eG,ou,p!,t!];lia
theorem n5:∀ks us:List Th,aq (d4 ks us)<=aq ks/\aJ (d4 ks us)<=aJ ks
 | [],us=>by rw[d4,aq,aJ];exact⟨WV _,WV _⟩
 |k::ks,[]=>by rw[d4,aq,aJ];exact⟨Xg _,Xg _⟩
 | k::ks,u::us=>by
   have h1:=qB k u;have h2:=n5 ks us;rw[d4,aq,aq,aJ,aJ];lia
end
mutual
theorem lP:∀l r:Th,(l.com r).noCall
 | .knot n ks,r=>by
   rw[Th.com];split
   .rw[u!];exact j8 ks r.kids
   .exact jS
 |.call s k,r=>by rw[Th.com];exact jS
theorem j8:∀ks us:List Th,ba (d4 ks us)
 | [],us=>by rw[d4,ba];trivial
 |k::ks,[]=>by rw[d4,ba];trivial
 |k::ks,u::us=>by rw[d4,ba];exact⟨lP k u,j8 ks us⟩
end
theorem TK.const(h:∀H:Hp,SqT K H a xs):TK K H a xs:=by
 rcases h (λ_=>B?)with(h|⟨o,h⟩)|h
 .cases h
 .cases h
 .exact .inr h
theorem oN{t:Th}{h0:WQ}{Q:VK}(hA:AtK .i K H t a)(e0:TK K H h0 [.str star])(Aw:t.tall<=150)(k:Q (.bl t.isHole) H):y4 K 150 (.ref a) (.ref h0) H Q:=by
 cases t with
 | knot n ks =>
   rw[AtK]at hA;obtain⟨hn,as,h1,h2⟩:=hA;rw[t!]at Aw;have hd:=iN ks;refine⟨a,h0,_,_,.str n::dvs ks,[.str star],D?,D?,h1.sq,e0.sq,.cons (by rw[DAtK]) h2.dvs,.cons (by rw[DAtK]) .nil,by rw[bO,Dv.deep];lia,λb hb=>?_⟩
   have e:b=(o! n ks).isHole:=by
    rw[Bool.eq_iff_iff,hb];show _↔decide (n=star/\ks=[])=C?;rw[decide_eq_true_iff];constructor
    .intro z;have z1:=List.cons.inj z;refine⟨Dv.str.inj z1.1,?_⟩;cases ks with
     |nil=>rfl
     |cons x xs=>rw[dvs]at z1;cases z1.2
    .rintro⟨z1,z2⟩;rw[z1,z2,dvs]
   rw[e];exact k
 | call sn kn =>
   rw[AtK]at hA;obtain⟨v,hA,hv⟩:=hA;cases(show v=.int sn from hv);refine⟨a,h0,_,_,[.str q,.int sn,.int kn],[.str star],D?,D?,hA.sq,e0.sq,.cons (by rw[DAtK]) (.cons (by rw[DAtK]) (.cons (by rw[DAtK]) .nil)),.cons (by rw[DAtK]) .nil,by simp[bO,Dv.deep],λb hb=>?_⟩
   have e:b=(x! sn kn).isHole:=by
    show b=Cf;cases b with
    |false=>rfl
    |true=>exact g! (hb.mp rfl) (by simp)
   rw[e];exact k
end BB
namespace L2
open PySem PySem.Spec PyProof.Rows BB
end L2
namespace BB
open PySem L2
theorem iI{f:Th}(h:f.isHole=Cf):f.lies hole=false:=by
 cases f with
 | knot n ks =>
   rw[w!,h]
   have:aE (.knot n ks) hole=false:=by
    rw[cX];exact fW dL
   rw[this];rfl
 |call s k=>rw[w!]
theorem fw{f a b:Th}(h1:aE f a=C?)(h2:aE f b=C?):aE a b=true:=by
 obtain⟨n,ks,us,rfl,rfl,e3,hh⟩:=bG h1;obtain⟨n',HM,vs,e1,rfl,e4,_⟩:=bG h2;cases e1
 have hn:(o! n us).isHole=false:=by
  cases hz:(o! n us).isHole with
  |false=>rfl
  | true =>
    rw[cX,fW hz]at h1;cases h1
 show(!(o! n us).isHole && decide (n=n) && decide (us.length=vs.length))=C?;rw[hn];have:us.length=vs.length:=by lia
 simp[this]
theorem mK{f a b:Th}(h:aE a b=C?):aE f a=aE f b:=by
 cases h1:aE f a with
 | true =>
   cases h2:aE f b with
   |true=>rfl
   | false =>
     have:=fw (f:=a) (a:=f) (b:=b) (by rw[cX];exact h1) h;rw[h2]at this;cases this
 | false =>
   cases h2:aE f b with
   |false=>rfl
   | true =>
     have:=fw (f:=b) (a:=f) (b:=a) (by rw[cX];exact h2) (by rw[cX];exact h);rw[h1]at this;cases this
theorem pK{n:Xp}{us vs:List Th}(f:Th)(h:us.length=vs.length):aE f (.knot n us)=aE f (.knot n vs):=by
 cases f with
 |knot m ks=>show(_ && _ && decide (ks.length=us.length))=(_ && _ && decide (ks.length=vs.length));rw[h]
 |call s k=>rfl
theorem re:∀ks us:List Th,(d4 ks us).length=min ks.length us.length
 | [],us=>by rw[d4];simp
 |k::ks,[]=>by rw[d4];simp
 |k::ks,u::us=>by rw[d4,W0,re ks us,W0,W0];lia
mutual
theorem qN:∀f a b:Th,f.lies (a.com b)=(f.lies a && f.lies b)
 |.call s k,a,b=>by rw[w!,w!,w!];rfl
 | .knot n ks,a,b=>by
   cases hh:(o! n ks).isHole with
   | true =>
     rw[w!,w!,w!,hh];rfl
   | false =>
     by_cases CC:aE a b=C?
     .obtain⟨m,us,vs,rfl,rfl,e3,_⟩:=bG CC;have hc:(o! m us).com (.knot m vs)=.knot m (d4 us vs):=by rw[Th.com,b! CC];rfl
      have hl:(d4 us vs).length=us.length:=by rw[re];lia
      rw[hc,w!,w!,w!,hh,Bool.false_or,Bool.false_or,Bool.false_or,pK (.knot n ks) hl,<-mK (f:=.knot n ks) CC];cases hs:aE (.knot n ks) (.knot m us)with
      |false=>rfl
      | true =>
        show(C? && aX ks (d4 us vs))=((C? && aX ks us) && (C? && aX ks vs));rw[Bool.true_and,Bool.true_and,Bool.true_and];obtain⟨_,_,_,e1,e2,e4,_⟩:=bG hs;cases e1;cases e2;exact mx ks us vs e4 (by lia)
     .have hc:a.com b=hole:=by rw[jH,a! CC]
      rw[hc,iI hh];cases h1:(o! n ks).lies a with
      |false=>rfl
      | true =>
        cases h2:(o! n ks).lies b with
        |false=>rfl
        | true =>
          rw[w!,hh,Bool.false_or,Yg]at h1 h2;exact g! (fw h1.1 h2.1) CC
theorem mx:∀ks us vs:List Th,ks.length=us.length->ks.length=vs.length->aX ks (d4 us vs)=(aX ks us && aX ks vs)
 | [],us,vs,_,_=>by rw[aX,aX,aX];rfl
 |k::ks,[],vs,h,_=>by simp at h
 |k::ks,u::us,[],_,h=>by simp at h
 | k::ks,u::us,v::vs,h1,h2=>by
   rw[d4,bC,bC,bC,qN k u v,mx ks us vs (by simpa using h1) (by simpa using h2)];cases k.lies u <;> cases k.lies v <;> cases aX ks us <;> cases aX ks vs <;> rfl
end
def PAtK(K:WO)(H:Hp)(p:List Int×Th)(a:WQ):Prop:=∃pa ta,H a=A? (.tup [.ref pa,.ref ta])/\H pa=A? (.tup (p.1.map q!))/\AtK .i K H p.2 ta
def PsAtK(K:WO)(H:Hp)(ps:List (List Int×Th))(as:List WQ):Prop:=Xk (PAtK K H) ps as
theorem PAtK.mono(k:KT H H'){p:List Int×Th}(h:PAtK K H p a):PAtK K H' p a:=by
 obtain⟨pa,ta,h1,h2,h3⟩:=h;exact⟨pa,ta,k _ _ h1,k _ _ h2,h3.mono k⟩
theorem PsAtK.mono(k:KT H H'){ps:List (List Int×Th)}(h:PsAtK K H ps as):PsAtK K H' ps as:=v! (λ_ _ e=>PAtK.mono k e) h
end BB
open BB.PsAtK renaming mono->J!
namespace L2
open PySem PySem.Spec PySem.Calls PyProof.Rows PySem.W
section
variable{g:Array GenState}{d:Drawn}{t:Nat}{os:OsState}{C:WQ}{o:Zb}{K:Frag}
end
section
variable{cd:WT}{outer:List Env}{E:XK}
end
section
variable{X:Cx}
end
open PySem.SeqAt
theorem fU{k:Nat}(hr:Room k A):A.units+2<YK:=by
 have:=hr.units;lia
end L2
namespace BB
open PySem
end BB
namespace L2
open PySem PySem.Spec PySem.Calls PyProof.Rows BB
end L2
namespace PySem
end PySem
namespace L2
open PySem PySem.Spec PySem.Calls PyProof.Rows BB
section
variable{X:Cx}
def abw(K:WO)(tl:TE):TI:=λZ H R=>tl Z H λx H1=>∃a,x=.ref a/\(((∃xs,SqL K H1 a xs)/\R (Itl K a) H1)\/((∃xs,SqT K H1 a xs)/\R (Itt K a) H1))
theorem zy{l:X9}(hl:PE X l tl):PI X tg l (abw X.K tl):=by
 intro U s Z H R I h;refine thn (hl U s Z H _ I h) λv s1⟨x,H1,I1,r1,q1⟩=>?_;obtain⟨a,e,q⟩:=q1;subst e;cases r1
 have fp:∀b∈[s1.1.1.size],jn X U H1 b:=λb hb=>by
  have e:b=s1.1.1.size:=by simpa using hb
  subst e;exact I1.fpOk (WV _) (I1.hok.fresh (WV _))
 rcases q with⟨⟨xs,hq⟩,q⟩|⟨⟨xs,hq⟩,q⟩
 .obtain⟨its,rv,p,hz⟩:=I1.list hq;refine wpAny_pyIter_list p.isList ?_;exact⟨s1.1.1.size,[s1.1.1.size],_,_,H1,D?,I1.kept (t':=s1.toks) λb o e=>WU _ e,og a _,⟨_,W4 _ rfl,D?,D?⟩,fp,q⟩
 .obtain⟨its,rv,p,hz⟩:=I1.tuple hq;refine ZQ (show s1.1.IsTuple a its.toArray from p) ?_;exact⟨s1.1.1.size,[s1.1.1.size],_,_,H1,D?,I1.kept (t':=s1.toks) λb o e=>WU _ e,lj a _,⟨_,W4 _ rfl,D?,D?⟩,fp,q⟩
end
end L2
namespace BB
open PySem L2
theorem xD{J:It}(zs:List α)(f:α->V)(hz:zs.length=xs.length)(hn:xs.length<=1000000)
 (FL:∀i H2,k! H H2->i<xs.length->J.go i H2) (Bf:∀H2,k! H H2->J.stop xs.length H2) (Cm:∀(i:Nat)H2 x H3,k! H H2->i<xs.length->J.yld i H2 x H3->H3=H2/\xs[i]?=A? x)
 (hb:∀(i:Nat)x z H2(R:VK)(W':Hp->Prop),xs[i]?=A? x->zs[i]?=A? z->k! H H2->(∀H3,k! H2 H3->R (f z) H3)->g x (cσ js Z) H2 λAx H3=>tt Ax H3 λb H4=>if b=C? then te Ax H4 R else W' H4)
 (C0:∀D H',H D=B?->k! H H'->H' D=A? (.lst (zs.map f))->fin D H') :
 ∀D,H D=B?->∃(n:Nat)(W:Nat->Hp->Prop),W 0 (upd H D (.lst []))/\g8 js g tt te Z J D n W λH'=>fin D H':=by
 intro D hD;refine⟨xs.length,λi H'=>i<=xs.length/\k! H H'/\H' D=A? (.lst ((zs.take i).map f)),⟨Xg _,ae hD _,by rw[ac];rfl⟩,?_⟩;rintro i H' ⟨hi,s1,e1⟩;by_cases Ai:i<xs.length
 .refine .inr ⟨Ai,FL i H' s1 Ai,λv H1 hy=>?_⟩;obtain⟨e,hx⟩:=Cm i H' v H1 s1 Ai hy;subst e;obtain⟨z,B7⟩:∃z,zs[i]?=A? z:=⟨_,WR (by lia)⟩;refine hb i v z _ _ _ hx B7 s1 λH3 s3=>⟨_,s3 _ _ e1,?_,Ai,ao (s1.trans s3) hD,?_⟩
  .rw[WM,XF];have:Xf=16777216:=sizeLine_eq;lia
  .rw[ac,take_snoc B7,Xa];rfl
 .have AF:i=xs.length:=by lia
  subst AF;refine .inl ⟨Bf _ s1,C0 D H' hD s1 ?_⟩;rw[e1,XZ (by lia)]
end BB
namespace HT
open PySem PySem.Spec PyProof.Rows
theorem adjust_back(n:Nat):Z1 B? B? (-1) (n:Int)=((n:Int) - 1,-1):=rfl
theorem places_back(n:Nat):YH ((n:Int) - 1) (-1) (-1)=n:=by
 unfold YH;have h1:¬((-1:Int) > 0):=by lia
 simp only[h1,if_false];by_cases h:n=0
 .subst h;decide
 .have h2:((n:Int) - 1) > -1:=by lia
  simp only[h2,if_true];rw[show(- -1:Int)=1 by decide,Int.ediv_one];lia
theorem pick_back(xs:Array WT):((XD xs.size).filterMap λ(m:Nat)=>xs[(((xs.size:Nat):Int) - 1+(m:Int) * (-1)).toNat]?).toArray=xs.toList.reverse.toArray:=by
 congr 1
 have e:∀m∈XD xs.size,xs[(((xs.size:Nat):Int) - 1+(m:Int) * (-1)).toNat]?=xs.toList.reverse[m]?:=by
  intro m hm;have GL:=YW.mp hm;rw[List.getElem?_reverse (by rw[XS];exact GL),Array.getElem?_toList,XS];congr 1;lia
 have f:∀(l:List Nat)(f g:Nat->Option WT),(∀m∈l,f m=g m)->l.filterMap f=l.filterMap g:=by
  intro l f g;induction l with
  |nil=>intro _;rfl
  | cons y ys ih =>
    intro h;rw[Z3,Z3,h y (by simp),ih (λm hm=>h m (by simp[hm]))]
 rw[f _ _ _ e]
 have gl:∀(ys:List WT),(XD ys.length).filterMap (λm=>ys[m]?)=ys:=by
  intro ys;have:=pick_run ys.toArray 0 ys.length;simp only[List.filterMap_map]at this
  have e3:((λx=>ys.toArray[x]?) ∘ λx=>0+x)=λm=>ys[m]?:=by
   funext m;simp
  rw[e3]at this;rw[this];simp
 have:=gl xs.toList.reverse;rw[Yt,XS]at this;exact this
theorem sliceApplied_back{t:Tok}{Q:Int×Int×Nat->WX->Prop}(hs:s.1.IsSliceOf sl .none .none (.int (-1) t))
 (h:Q ((n:Int) - 1,-1,n) s):W7 (Xw prog w) A (Builtin.Slice.sliceApplied (.ref sl) (pure (n:Int))) Q E s:=by
 obtain⟨os,DV,CK,Bl⟩:=id hs;unfold Builtin.Slice.sliceApplied Builtin.Slice.sliceFields;refine WN (WN (XY DV Bl (x:=.none) rfl (WN (XY DV Bl (x:=.none) rfl (WN (XY DV Bl (x:=.int (-1) t) rfl (WW ?_)))))));refine WN (slicePart_int ?_);show W7 _ _ (if((-1:Int) == 0)=C? then _ else _) _ _ s;rw[a! (by decide)];refine WN (slicePart_none (WN (slicePart_none (WN (WW ?_)))));show W7 _ _ (match Z1 B? B? (-1) (n:Int)with|(lo,hi)=>pure (lo,(-1:Int),YH lo hi (-1))) _ _ s;rw[adjust_back n];show W7 _ _ (pure ((n:Int) - 1,(-1:Int),YH ((n:Int) - 1) (-1) (-1))) _ _ s;rw[places_back];exact WW h
theorem getItem_tuple_back{t:WQ}{tk:Tok}(ht:IsTup s.1 t items)(hs:s.1.IsSliceOf sl .none .none (.int (-1) tk))
 (h:Q (.ref s.1.1.size) {s with heap:=s.1.push {cls:=.type "tuple",data:=.seq items.toList.reverse.toArray}})
 (hsz:items.size<=Xf):W7 (Xw prog w) A (getItem (.ref t) (.ref sl)) Q E s:=by
 have Be:sizeOk (.seq items.toList.reverse.toArray):=by
  show items.toList.reverse.toArray.size<=Xf;rw[W3,Yt,XS];exact hsz
 obtain⟨os,DV,CK,Bl⟩:=id hs;have JU:s.TypeIs (.ref sl) "slice":=⟨os,DV,CK⟩;unfold getItem
 try with_reducible refine Yy ?_
 first|refine WN (WW ?_)|skip
 refine WN (wpAny_sequenceKey ht.typeIs (by decide) ?_)
 refine WN (X4 (name:=Xm "__getitem__") ht.typeIs XR
  (X8 XR ht.typeIs entry_tuple_getitem ?_ (args_tuple_getitem _ _)))
 show W7 _ _ (ZV (.ref t) >>= _) _ _ s;refine WN (tupleItemsOf_ ht ?_);refine WN (ZG JU ?_);rw[b! (by decide)];refine WN (sliceApplied_back hs ?_)
 have Dn:¬((((items.size:Nat):Int) - 1 == 0 && (-1:Int) == 1 && items.size == items.size)=C?):=by
  simp
 show W7 _ _ (if(((items.size:Nat):Int) - 1 == 0 && (-1:Int) == 1 && items.size == items.size)=C? then _ else _) _ _ s;rw[a! Dn,pick_back]
 first
  |exact WN (m:=YM _) (Yi (WW ⟨_,rfl,WW h⟩) Be)
  |exact WN (m:=YM _) (Yi (WN (WW (WW ⟨_,rfl,WW h⟩))) Be)
  |exact WN (WN (m:=YM _) (Yi (WW (WW ⟨_,rfl,WW h⟩)) Be))
  |exact WN (WN (m:=YM _) (Yi (WW ⟨_,rfl,WW h⟩) Be))
end HT
namespace L2
open PySem PySem.Spec PyProof.Rows
section
variable{X:Cx}{p2 p3 p4:Z2}
def BkR(X:Cx)(r:V->Hp->VK->Prop):Prop :=
 ∀(U:List (WQ×Zb))(s:WX)(Z:St)(H:Hp)(x:V)(v:WT)(t:Tok)(sl:WQ)(Q:VK),Inv X U Z H s->RelV x v->s.1.IsSliceOf sl .none .none (.int (-1) t)->r x H Q ->
   ∃T id,typeLookup (.type T) "__getitem__"=pure (A? (.builtin id))/\s.TypeIs v T/\W7 (Xw X.prog X.w) X.A (getItem v (.ref sl)) (EP X U Z Q) X.xe s
def tBk(r:V->Hp->VK->Prop)(te:TE):TE:=λZ H Q=>te Z H λx H1=>r x H1 Q
theorem uy{r:V->Hp->VK->Prop}(hr:BkR X r)(he:PE X e te):PE X (.Subscript e (.Slice B? B? (A? (.UnaryOp .USub (.Constant (.int 1) 0 p3) p4)) p2) pos) (tBk r te):=by
 intro U s Z H Q I h;refine Subscript_ (thn (he U s Z H _ I h) λv s1⟨x,H1,I1,r1,q1⟩=>?_);refine wpAny_Slice ?_;rw[evalPart_none];refine WW ?_;refine WW ?_;have UC:PO X (A? (.UnaryOp .USub (.Constant (.int 1) 0 p3) p4)) (yO (tUn (rU λi=>.int (-i)) (tC (.int 1)))):=cW (aaK aai ag);refine thn (UC U s1 Z H1 (λo H'=>o=A? (-1)/\r x H' Q) I1 ⟨1,rfl,_,rfl,rfl,q1⟩) λvs s2⟨o,H2,I2,ps,ho,q2⟩=>?_;subst ho;cases ps with
 | int i t =>
   have I4:Inv X U Z H2 {s2 with heap:=s2.1.push {cls:=.type "slice",data:=.fields #[.none,.none,.int (-1) t]}}:=I2.kept (t':=s2.toks) λb ob q=>WU _ q;obtain⟨T,id,hT,ht,hg⟩:=hr U {s2 with heap:=s2.1.push {cls:=.type "slice",data:=.fields #[.none,.none,.int (-1) t]}} Z H2 x v t s2.1.1.size Q I4 r1 (Heap.IsSliceOf.new ..) q2;show W7 (Xw X.prog X.w) X.A (subscriptTail e (.Slice B? B? (A? (.UnaryOp .USub (.Constant (.int 1) 0 p3) p4)) p2) v (.ref s2.1.1.size)) (EP X U Z Q) X.xe {s2 with heap:=s2.1.push {cls:=.type "slice",data:=.fields #[.none,.none,.int (-1) t]}};exact tail_any (ops:=[v,.ref s2.1.1.size]) ht hT hg (by with_unfolding_all rfl)
def abq(K:WO):V->Hp->VK->Prop:=λx H Q=>∃a xs,x=.ref a/\SqT K H a xs/\∀p,H p=B?->Q (.ref p) (upd H p (.tup xs.reverse))
def abA(K:WO):V->Hp->VK->Prop:=λx H Q=>∃a xs,x=.ref a/\SqL K H a xs/\∀p,H p=B?->Q (.ref p) (upd H p (.lst xs.reverse))
theorem Vals.rev(r:Vals xs us):Vals xs.reverse us.reverse:=by
 induction r with
 |nil=>exact .nil
 |cons r1 r2 ih=>rw[Yb,Yb];exact ih.append (.cons r1 .nil)
theorem zC:BkR X (abq X.K):=by
 intro U s Z H x v t sl Q I rx hs h;obtain⟨a,xs,rfl,hx,q⟩:=h;cases rx;obtain⟨its,r,ht,hz⟩:=I.tuple hx;have hlen:its.toArray.size=xs.length:=by rw[W3];exact r.length.symm
 refine⟨"tuple",_,XR.lookup,ht.typeIs,?_⟩;refine HT.getItem_tuple_back ht hs ?_ (by rw[hlen];exact hz);refine⟨.ref s.1.1.size,_,I.laid (t':=s.toks) (o:=.tup xs.reverse) (λb ob q=>WU _ q) (WV _) ?_,D?,q _ (I.hok.fresh (WV _))⟩;exact⟨by rw[Yt];exact hz,_,0,r.rev,W4 _ rfl⟩
theorem lp(its:List WT):slicePick its.toArray B? B? (A? (-1))=its.reverse.toArray:=by
 unfold slicePick;have e:sliceBounds B? B? (A? (-1)) its.toArray.size=((its.toArray.size:Int) - 1,-1,-1):=rfl;rw[e];unfold sliceRange;have h1:¬((-1:Int) > 0):=by lia
 simp only[h1,if_false]
 have hc:(if((its.toArray.size:Nat):Int) - 1 > -1 then(((its.toArray.size:Nat):Int) - 1 - -1 - -1 - 1) / (- -1)else 0).toNat=its.toArray.size:=by
  by_cases h:its.toArray.size=0
  .rw[h];decide
  .rw[b! (by lia),show(- -1:Int)=1 by decide,Int.ediv_one];lia
 rw[hc,List.filterMap_map];have:=HT.pick_back its.toArray;rw[<-this];congr 1;congr 1;funext m;show its.toArray[(((its.toArray.size:Nat):Int) - 1+-1 * (m:Int)).toNat]?=_;rw[Int.mul_comm]
theorem yF:BkR X (abA X.K):=by
 intro U s Z H x v t sl Q I rx hs h;obtain⟨a,xs,rfl,hx,q⟩:=h;cases rx;obtain⟨its,r,ht,hz⟩:=I.list hx;have hlen:=r.length;refine⟨"list",_,slot_list_getitem.lookup,ht.isList.typeIs,?_⟩;refine wpAny_getItem_list_slice ht.isList hs .none .none (.int _ _) (by simp) ?_ (by rw[W3] <;> lia);rw[lp];refine⟨.ref s.1.1.size,_,I.laid (t':=s.toks) (o:=.lst xs.reverse) (λb ob q=>WU _ q) (WV _) ?_,D?,q _ (I.hok.fresh (WV _))⟩;exact⟨by rw[Yt];exact hz,_,0,r.rev,W4 _ rfl⟩
end
open PySem.Calls
section
variable{X:Cx}
end
section
variable{X:Cx}
end
end L2
namespace BB
open PySem L2
structure db(ks:List (Xp×Int)):Prop where
 ne:1<=ks.length
 le:ks.length<=8
 low:∀k∈ks,Low k.1/\k.1.length<=8
 num:∀k∈ks,0<=k.2/\k.2<=3
 zero:∃k∈ks,k.2=0
 nd:∀(i j:Nat)(k l:Xp×Int),ks[i]?=A? k->ks[j]?=A? l->k.1=l.1->i=j
mutual
def Th.FitS(ks:List (Xp×Int))(S C:Int):Th->Prop
 |.knot n ts=>(n,(ts.length:Int))∈ks/\FitSs ks S C ts
 |.call s k=>0<=s/\s<S/\0<=k/\k<C
def FitSs(ks:List (Xp×Int))(S C:Int):List Th->Prop
 | []=>True
 |t::ts=>t.FitS ks S C/\FitSs ks S C ts
end
theorem FitSs.of{ks:List (Xp×Int)}:∀{ts:List Th},(∀t∈ts,t.FitS ks S C)->FitSs ks S C ts
 | [],_=>by rw[FitSs];trivial
 | t::ts,h=>by
   rw[FitSs];exact⟨h t (Xh ..),FitSs.of λu hu=>h u (Xe _ hu)⟩
theorem ny(h:∀t∈ts,t.tall<=n):aJ ts<=n:=by
 induction ts with
 |nil=>rw[aJ];exact Xg _
 | cons t ts ih =>
   rw[aJ];have h1:=h t (Xh ..);have h2:=ih λu hu=>h u (Xe _ hu);lia
def SameB(l:WQ)(H H':Hp):Prop:=∀b o,b≠l->H b=A? o->H' b=A? o
theorem SameB.refl{l:WQ}:SameB l H H:=λ_ _ _ e=>e
theorem SameB.of{l:WQ}(h:k! H H'):SameB l H H':=λb o _ e=>h b o e
theorem SameB.set{l:WQ}:SameB l H (upd H l o):=λb o hb e=>by rw[ai hb];exact e
theorem SameB.kt{l:WQ}(h:SameB l H H')(e:H l=A? (.lst xs)):KT H H':=λb ys eb=>h b _ (cp eb e (by intro z;cases z)) eb
def RowAt(H:Hp)(row:List Th)(a:WQ):Prop:=∃as:List WQ,H a=A? (.tup (as.map i!))/\Ats H row as
theorem RowAt.mono(k:KT H H'){row:List Th}(h:RowAt H row a):RowAt H' row a:=by
 obtain⟨as,h1,h2⟩:=h;exact⟨as,k _ _ h1,h2.mono k⟩
structure BookAt(H:Hp)(ins outs:List (Xp×Int))(head:Th)(rows:List (List Th))(r ia oa ha ra:WQ)(Ak Az AM:List WQ):Prop where
 bk:H r=A? (.tup [.ref ia,.ref oa,.ref ha,.ref ra])
 inE:H ia=A? (.tup (Ak.map i!))
 inK:KsAt H ins Ak
 outE:H oa=A? (.tup (Az.map i!))
 outK:KsAt H outs Az
 hd:At H head ha
 rl:H ra=A? (.tup (AM.map i!))
 rw:Xk (RowAt H) rows AM
theorem BookAt.mono(k:KT H H'){r ia oa ha ra:WQ}{Ak Az AM:List WQ}(b:BookAt H ins outs head rows r ia oa ha ra Ak Az AM):BookAt H' ins outs head rows r ia oa ha ra Ak Az AM :=
 ⟨k _ _ b.bk,k _ _ b.inE,b.inK.mono k,k _ _ b.outE,b.outK.mono k,b.hd.mono k,k _ _ b.rl,v! (λ_ _ e=>e.mono k) b.rw⟩
theorem nO{ks:List (Xp×Int)}:∀{ts:List Th},FitSs ks S C ts->∀t∈ts,t.FitS ks S C
 | [],_,t,ht=>by cases ht
 | a::ts,h,t,ht=>by
   rw[FitSs]at h;rcases W8.mp ht with rfl|ht
   .exact h.1
   .exact nO h.2 t ht
def Bk(H:Hp)(ins outs:List (Xp×Int))(head:Th)(rows:List (List Th))(r:WQ):Prop:=∃ia oa ha ra Ak Az AM,BookAt H ins outs head rows r ia oa ha ra Ak Az AM
theorem Bk.mono(k:KT H H'){r:WQ}(b:Bk H ins outs head rows r):Bk H' ins outs head rows r:=by
 obtain⟨ia,oa,ha,ra,Ak,Az,AM,b⟩:=b;exact⟨ia,oa,ha,ra,Ak,Az,AM,b.mono k⟩
end BB
open BB.Th renaming FitS->z!
namespace L2
open PySem PySem.Spec PySem.Calls PyProof.Rows PySem.SeqAt
end L2
namespace BB
open PySem L2
end BB
namespace L2
open PySem PySem.Spec PyProof.Rows
section
variable{X:Cx}{p p2 Ay:Z2}
end
end L2
namespace BB
open PySem L2
theorem cJ{F:Hp->α->WQ->Prop}{J:It}(zs:List α)(hF:∀H1 H2 z p,KT H1 H2->F H1 z p->F H2 z p)(hz:zs.length=xs.length)(hn:xs.length<=1000000)
 (FL:∀i H2,k! H H2->i<xs.length->J.go i H2) (Bf:∀H2,k! H H2->J.stop xs.length H2) (Cm:∀(i:Nat)H2 x H3,k! H H2->i<xs.length->J.yld i H2 x H3->H3=H2/\xs[i]?=A? x)
 (hb:∀(i:Nat)x z H2(R:VK)(W':Hp->Prop),xs[i]?=A? x->zs[i]?=A? z->k! H H2->(∀H3 p,k! H2 H3->F H3 z p->R (.ref p) H3)->g x (cσ js Z) H2 λAx H3=>tt Ax H3 λb H4=>if b=C? then te Ax H4 R else W' H4)
 (C0:∀D H' as,H D=B?->k! H H'->H' D=A? (.lst (as.map i!))->Xk (F H') zs as->fin D H') :
 ∀D,H D=B?->∃(n:Nat)(W:Nat->Hp->Prop),W 0 (upd H D (.lst []))/\g8 js g tt te Z J D n W λH'=>fin D H':=by
 intro D hD;refine⟨xs.length,λi H'=>i<=xs.length/\k! H H'/\∃as:List WQ,H' D=A? (.lst (as.map i!))/\Xk (F H') (zs.take i) as,⟨Xg _,ae hD _,[],by rw[ac];rfl,.nil⟩,?_⟩;rintro i H' ⟨hi,s1,as,e1,hp⟩;by_cases Ai:i<xs.length
 .refine .inr ⟨Ai,FL i H' s1 Ai,λv H1 hy=>?_⟩;obtain⟨e,hx⟩:=Cm i H' v H1 s1 Ai hy;subst e;obtain⟨z,B7⟩:∃z,zs[i]?=A? z:=⟨_,WR (by lia)⟩;have hl:(zs.take i).length=as.length:=WZ hp;rw[XF]at hl;refine hb i v z _ _ _ hx B7 s1 λH3 p s3 Om=>⟨_,s3 _ _ e1,?_,Ai,ao (s1.trans s3) hD,as++[p],?_,?_⟩
  .rw[WM];have:Xf=16777216:=sizeLine_eq;lia
  .rw[ac,Xa];rfl
  .have kt:KT H3 (upd H3 D (.lst (as.map i!++[.ref p]))):=aI (s3 _ _ e1);rw[take_snoc B7];exact r! (v! (λx y e=>hF _ _ _ _ ((j! s3).trans kt) e) hp) (.cons (hF _ _ _ _ kt Om) .nil)
 .have AF:i=xs.length:=by lia
  subst AF;refine .inl ⟨Bf _ s1,C0 D H' as hD s1 e1 ?_⟩;rw[XZ (by lia)]at hp;exact hp
end BB
namespace L2
open PySem PySem.Spec PyProof.Rows
theorem us1:∀{us:List α},us.length=1->∃a,us=[a]
 | [a],_=>⟨a,rfl⟩
theorem us2:∀{us:List α},us.length=2->∃a b,us=[a,b]
 | [a,b],_=>⟨a,b,rfl⟩
theorem us3:∀{us:List α},us.length=3->∃a b c,us=[a,b,c]
 | [a,b,c],_=>⟨a,b,c,rfl⟩
theorem us4:∀{us:List α},us.length=4->∃a b c d,us=[a,b,c,d]
 | [a,b,c,d],_=>⟨a,b,c,d,rfl⟩
theorem us5:∀{us:List α},us.length=5->∃a b c d e,us=[a,b,c,d,e]
 | [a,b,c,d,e],_=>⟨a,b,c,d,e,rfl⟩
end L2
namespace PySem
open Sem (wp)
section
variable{K:Type}[DecidableEq K]{knd:HeapKind prog w K}
end
end PySem
namespace L2
open PySem PySem.Spec PyProof.Rows BB
end L2
namespace BB
open PySem L2
theorem zm:(Xm "*")≠q:=by decide +kernel
end BB
namespace PySem
open Sem (wp)
section
variable{wr:List WQ}{G:Array GenState->Array GenState->Prop}{P:Nat->WT->Prop}{St:Nat->WX->Prop}
end
end PySem
namespace L2
open PySem PySem.Spec PyProof.Rows
section
variable{X:Cx}{o:X9}{to:TE}{p2 Ay apos Ar:Z2}
end
end L2
namespace PySem
open Sem (wp)
namespace F
theorem bb_list_nokeys:typeLookup (.type "list") "keys"=pure none:=by rw[Y5,Yv];kernel_rfl
end F
section
variable{xs:Array WT}{k:Nat}
theorem bb_nokeysL{Q:Option WT->WX->Prop}(hA:A.handled=B?)(hx:s.1.get? a=A? {cls:=.type "list",data:=.seq xs k})
 (q:∀h' tk,(∀b o,s.1.get? b=A? o->h'.get? b=A? o)->Q B? {s with heap:=h',toks:=tk}):W7 (Xw prog w) A (getAttr? (.ref a) "keys") Q E s:=by
 obtain⟨hp,g,d,tk,os⟩:=s;have gT:∀z,(⟨hp,g,d,z,os⟩:WX).TypeIs (.ref a) "list":=λ_=>⟨_,hx,rfl⟩;have g1:=sub_AttributeError;have g3:=F.slot_list_getattribute.lookup;have g4:=F.slot_list_getattribute.bind (.ref a);have g5:=am_list_getattr_none;unfold getAttr? getAttrBy? getAttrBy
 repeat (any_goals (first|assumption|exact gT _|((with_reducible show W7 _ _ (call (Value.builtin "list.__getattribute__") _ _) _ _ _);refine call_meets F.slot_list_getattribute (gT _) am_entry_list_getattribute (F.args_list_getattribute_2 _ _) (meets_getattribute_miss_list a xs k #[] "keys" _ F.bb_list_nokeys (by decide +kernel) (by decide)) ⟨hx,hA,λh' MO e AY=>?_⟩)|wp_step))
 obtain⟨t',u',he⟩:=AY.there;show W7 _ _ (getattributeRaised _ _ _ _ _ _ _) _ _ _;unfold getattributeRaised
 repeat (any_goals (first|assumption|wp_step))
 exact q h' MO AY.keeps
end
end PySem
namespace L2
open PySem PySem.Spec PyProof.Rows
def dw:List (List Key×V)->List (List Key×V)->List (List Key×V)
 |f',[]=>f'
 |f',p::ps=>dw (putK f' p.1 p.2) ps
def PrA(H:Hp)(pr:List Key×V)(pa:WQ):Prop:=∃ka,H pa=A? (.tup [.ref ka,pr.2])/\H ka=A? (.tup (pr.1.map kV))
section
variable{X:Cx}
theorem vb{r:WT}{k:List Key}{f':List (List Key×V)}{Q:Unit->WX->Prop}(hu:(tupleKind (au X.prog X.w)).room A)(I:Inv X U Z H s)(e:H a=A? (.dT f'))(eb:H b=A? (.tup (k.map kV)))(l:f'.length<Xf)(rv:RelV v r)(h:∀h' tk,YF a s.1 h'->Inv X U Z (upd H a (.dT (putK f' k v))) {s with heap:=h',toks:=tk}->Q () {s with heap:=h',toks:=tk}) :
 W7 (Xw X.prog X.w) A (dictSet a (.ref b) r) Q E s:=by
 obtain⟨z,hd,xs,rel,dd⟩:=qO I.hok e;have hz:xs.length<=Xf:=by rw[<-WZ rel];exact z
 have hl:(putK f' k v).length<=Xf:=by have:=bw f' k v;lia
 refine wpAny_dictSet_heap (hsz:=hz) hu (ga I.hok eb) dd λh' Ds hs=>h _ _ hs ?_;obtain⟨q,es,ep,hq,h2,h3,h4,_,h5⟩:=Ds;refine fX I (by rw[e];exact YT) hs ⟨q,hq⟩ ⟨hl,hd,_,(rel.put k eb rv).keeps λc ys ec=>?_,q,es,ep,hq,h2,h3,h4,h5⟩;rw[ai (cp ec e (λz=>nomatch z))];exact ec
theorem sG{l:WQ}{prs:List (List Key×V)}{ps:List WQ}(hh:A.handled=B?)(hu:A.units+8<YK)(hn:prs.length<=10000) :
 ∀(m i:Nat)(s:WX)(tk:Tok)(H:Hp)(f':List (List Key×V)),prs.length - i=m->i<=prs.length->Inv X U Z H s->H d=A? (.dT f')->f'.length<=i->jn X U H it->s.1.IsListIter it l i->H l=A? (.lst (ps.map i!))->Xk (PrA H) prs ps ->
   (∀s',Inv X U Z (upd H d (.dT (dw f' (prs.drop i)))) s'->R (.ok (.ret .none)) s') ->
   codeAny (Xw X.prog X.w) A (.builtin "dict.update.loop" ⟨[.ref d,.ref it,.int i tk,.none],[]⟩) R s:=by
 intro m;induction m with
 | zero =>
   intro i s tk H f' hk hi I ed BI hf hit el Bt hR;have B0:i=prs.length:=by lia
   subst B0;obtain⟨its,rv,p,hz⟩:=I.list (l! (K:=X.K) el);have AU:prs.length=ps.length:=WZ Bt;have hl:=rv.length;rw[WM]at hl;obtain⟨f0,f1,f2,f3,f4,f5⟩:=hf;refine codeAny_builtin PySem.F.bb_entry_upd ?_;rw[Z7 E! _];show W7 _ A.in1 (Z9 (.ref it) >>= _) _ _ s;refine WN (wpAny_pyNext_list_end hh hit p.isList (by simp;lia) λh' eb=>?_);refine WN (WW (WW ?_));refine hR _ ?_;rw[List.drop_length]
   have e0:upd H d (.dT (dw f' []))=H:=by
    funext b;by_cases hb:b=d
    .rw[hb,ac,ed];rfl
    .rw[ai hb]
   rw[e0];exact I.turned (t':=s.toks) (λb o hb e=>eb b o hb e) f0 f1 f3 f4 f5
 | succ m ih =>
   intro i s tk H f' hk hi I ed BI hf hit el Bt hR;have Ai:i<prs.length:=by lia
   have AU:prs.length=ps.length:=WZ Bt;obtain⟨its,rv,p,hz⟩:=I.list (l! (K:=X.K) el);have hl:=rv.length;rw[WM]at hl;obtain⟨pa,CD,ka,Bu,FQ⟩:=B! Bt (WR Ai);have hx:(ps.map i!)[i]?=A? (.ref pa):=by rw[WY,CD];rfl
   obtain⟨u,UD,ru⟩:=rv.get hx;cases ru;obtain⟨f0,f1,f2,f3,f4,f5⟩:=id hf;refine codeAny_builtin PySem.F.bb_entry_upd ?_;rw[Z7 E! _];show W7 _ A.in1 (Z9 (.ref it) >>= _) _ _ s;refine WN (wpAny_pyNext_list_item hit p.isList (x:=.ref pa) (by simpa using UD) λh1 Oo UE=>?_);have I1:Inv X U Z H {s with heap:=h1}:=I.turned (t':=s.toks) (λb o hb e=>(UE.2 b hb).trans e) f0 f1 f3 f4 f5;obtain⟨_,Am,n2,UG,e2⟩:=(show ObjOk X.prog X.w H h1 pa (.tup [.ref ka,(prs[i]).2])from I1.hok pa _ Bu)
   obtain⟨vv,rfl,UH⟩:∃vv,Am=[.ref ka,vv]/\RelV (prs[i]).2 vv:=by
    cases UG with
    | cons a b =>
      cases b with
      | cons c d =>
        cases d;cases a;exact⟨_,D?,c⟩
   have UI:(⟨h1,s.gens,s.drawn,s.toks,s.os⟩:WX).TypeIs (.ref pa) "tuple":=⟨_,e2,rfl⟩;refine WN (Yy ?_);refine WN (wpAny_tryCatch ?_);unfold Builtin.Dict.pairItems;refine WN (ZG UI ?_);rw[b! (by decide)];refine WN (YC e2 rfl (WW ?_));show W7 _ _ (holding [.ref ka,vv] (dictSet d (.ref ka) vv)) _ _ _;refine Yy (vb (k:=(prs[i]).1) ?_ I1 ed FQ (by have:=gb;rw[sizeLine_eq];lia) UH λh2 tk2 DX I2=>?_)
   .exact tupleKind_room_in1 (by lia)
   refine WW ⟨plainId_quiet E! _,?_⟩
   have Kh:Y7 ((i:Int)+1)=.int ((i+1:Nat):Int) 0:=by
    show Value.int ((i:Int)+1) 0=_;rw[show((i+1:Nat):Int)=(i:Int)+1 by lia]
   rw[Kh];have MP:it≠d:=λz=>by rw[z,ed]at f0;cases f0
   refine ih (i+1) _ 0 _ (putK f' (prs[i]).1 (prs[i]).2) (by lia) Ai I2 ac (by have:=bw f' (prs[i]).1 (prs[i]).2;lia) ⟨by rw[ai MP];exact f0,f1,f2,f3,f4,f5⟩ ?_ ?_ ?_ λs' I'=>hR s' ?_
   .obtain⟨o,g1,r⟩:=Oo;exact⟨o,(DX.2 it MP).trans g1,r⟩
   .rw[ai (cp el ed (λz=>nomatch z))];exact el
   .refine v! (λx y e=>?_) Bt;obtain⟨EH,g1,g2⟩:=e;exact⟨EH,by rw[ai (cp g1 ed (λz=>nomatch z))];exact g1,by rw[ai (cp g2 ed (λz=>nomatch z))];exact g2⟩
   .rw[kN]at I';rw[ZK Ai];exact I'
def zT:List V->Hp->VK->Prop:=λxs H Q=>∃(l:WQ)(ps:List WQ)(prs:List (List Key×V)),xs=[.ref l]/\H l=A? (.lst (ps.map i!))/\Xk (PrA H) prs ps/\prs.length<=10000/\∀d,H d=B?->Q (.ref d) (upd H d (.dT (dw [] prs)))
theorem lw(hu:X.A.units+12<YK)(hc:X.calm=C?):fH X (.type "dict") zT:=by
 intro U s Z H xs us Q I r h;obtain⟨l,ps,prs,rfl,el,Bt,hn,q⟩:=h;obtain⟨u,rfl,rx⟩:=vals1 r;cases rx;obtain⟨z,its,n,rv,e⟩:=(show ObjOk X.prog X.w H s.1 l (.lst (ps.map i!))from I.hok l _ el);refine callType_codes (Q₁:=λobj Ac=>obj=.ref s.1.1.size/\Ac={s with heap:=s.1.push {cls:=.type "dict",data:=.dict #[]}}) PySem.F.kt_called_dict (PySem.F.kt_typeCall_dict_1 _) PySem.F.entry_dict_init (kt_code_dict_new _ ⟨rfl,rfl⟩) ?_;rintro obj Ac ⟨rfl,rfl⟩;have gn:(s.1.push {cls:=.type "dict",data:=.dict #[]}).DictOf (au X.prog X.w) s.1.1.size []:=Heap.DictOf.new s.1;have gt:(s.1.push {cls:=.type "dict",data:=.dict #[]}).get? l=A? {cls:=.type "list",data:=.seq its.toArray n}:=WU _ e;refine⟨gn.typeIs,PySem.F.args_dict_init_2 _ _,?_⟩;have GK:=I.hok.fresh (WV s.1.1.size);have I1:Inv X U Z (upd H s.1.1.size (.dT [])) {s with heap:=s.1.push {cls:=.type "dict",data:=.dict #[]}}:=I.laid (a:=s.1.1.size) (o:=.dT []) (t':=s.toks) (λ_ _ q=>WU _ q) (WV _) (qv s.1 I.big);unfold Zs.«dict.__init__»;refine WN ?_;unfold Builtin.Dict.selfAndRest;refine WN (wpAny_notOrdered_dict gn.typeIs ?_);show W7 _ _ (pure (s.1.1.size,[Xl l])) _ _ _;refine WW ?_;show W7 _ _ (Builtin.Dict.updateFrom "dict.__init__" s.1.1.size (.ref l) [] .none) _ _ _;unfold Builtin.Dict.updateFrom;refine WN (ZG (T:="list") ⟨_,gt,rfl⟩ ?_);rw[b! (by decide)];refine WN (bb_nokeysL (A:=X.A.in1.in1) (I.ok.hd hc) gt λh1 Oq k1=>?_);have I2:Inv X U Z (upd H s.1.1.size (.dT [])) {s with heap:=h1,toks:=Oq}:=I1.kept (t':=Oq) λb o e=>k1 b o e;simp only[Option.isNone_none,if_true];refine WN (Zx ?_);obtain⟨od,es,ep,UJ,gd2⟩:=id gn;have Ai:s.1.1.size<h1.objs.size:=Xb (k1 _ _ UJ);refine WN (wpAny_pyIter_list (l:=l) (items:=its.toArray) ⟨_,k1 _ _ gt,rfl,n,rfl⟩ ?_);refine WW ⟨plainId_quiet E! _,?_⟩;have Ot:l≠s.1.1.size:=av el GK
 have Ou:Xk (PrA (upd H s.1.1.size (.dT []))) prs ps:=v! (λx y e=>by
  obtain⟨ka,g1,g2⟩:=e;exact⟨ka,by rw[ai (av g1 GK)];exact g1,by rw[ai (av g2 GK)];exact g2⟩) Bt
 have UK:(upd H s.1.1.size (.dT [])) h1.objs.size=none:=I2.hok.fresh (WV _);refine sG (A:=X.A.in1) (d:=s.1.1.size) (it:=h1.objs.size) (l:=l) (prs:=prs) (ps:=ps) (I.ok.hd hc) (by show X.A.units+1+8<YK;lia) hn prs.length 0 _ 0 (upd H s.1.1.size (.dT [])) [] (Nat.sub_zero _) (Xg _) (I2.kept (t':=Oq) λb o e=>WU _ e) ac (WV _) (I2.fpOk (WV _) UK) ⟨_,W4 _ rfl,rfl,rfl⟩ (by rw[ai Ot];exact el) Ou λs' I'=>?_;rw[kN,Z6]at I';exact⟨D?,.ref s.1.1.size,_,I',D?,q _ GK⟩
end
end L2
namespace BB
open PySem L2
theorem xP{k:Nat}(hr:L2.Room k A):A.units+12<YK:=by
 have:=hr.units;lia
theorem kh{R:List Key->V->Prop}:∀(prs f':List (List Key×V)),(∀k v,aN f' k=A? v->R k v)->(∀p∈prs,R p.1 p.2) ->
 (∀k v,aN (dw f' prs) k=A? v->R k v)/\(∀k,((∃v,aN f' k=A? v)\/∃p∈prs,p.1=k)->∃v,aN (dw f' prs) k=A? v)
 | [],f',h1,_=>⟨h1,λk h=>by
   rcases h with h|⟨p,hp,_⟩
   .exact h
   .cases hp⟩
 | p::prs,f',h1,h2=>by
   have ih:=kh (R:=R) prs (putK f' p.1 p.2) (λk v hv=>by
    rw[dM]at hv;by_cases e:k=p.1
    .rw[b! e]at hv;cases hv;rw[e];exact h2 p (Xh ..)
    .rw[a! e]at hv;exact h1 k v hv) (λx hx=>h2 x (Xe _ hx))
   refine⟨ih.1,λk h=>ih.2 k ?_⟩;by_cases e:k=p.1
   .left;exact⟨p.2,by rw[dM,b! e]⟩
   .rcases h with⟨v,hv⟩|⟨x,hx,RF⟩
    .left;exact⟨v,by rw[dM,a! e];exact hv⟩
    .rcases W8.mp hx with rfl|hx
     .exact g! RF.symm e
     .exact .inr ⟨x,hx,RF⟩
end BB
namespace PySem
theorem bb_zip_next0{TI TO:WQ}{k:Nat}{xs:Array WT}{x y a b:WT}{Q:Option WT->WX->Prop}(D:ZipApart z TI TO i1 i2 l1 l2)
 (hz:IsZip s.1 z TI TO .none) (hTI:Zk s.1 TI (.ref i1) (.ref i2)) (hTO:Zk s.1 TO a b)
 (h1:s.1.IsTupleIter i1 l1 k) (h2:s.1.IsTupleIter i2 l2 k) (Cn:s.1.IsTuple l1 xs) (Bz:s.1.IsTuple l2 ys) (hx:xs[k]?=A? x) (hy:ys[k]?=A? y)
 (hQ:∀h',IsZip h' z TI TO (Y7 s.1.1.size)->Zk h' TO x y->h'.IsTupleIter i1 l1 (k+1)->h'.IsTupleIter i2 l2 (k+1)->Zk h' s.1.1.size x y->h'.objs.size=s.1.1.size+1 ->
  (∀c o,c≠z->c≠TO->c≠i1->c≠i2->s.1.get? c=A? o->h'.get? c=A? o)->Q (A? (.ref s.1.1.size)) {s with heap:=h'}) :
 W7 (Xw prog w) A (Z9 (.ref z)) Q E s:=by
 have hT:s.TypeIs (.ref z) "zip":=⟨_,hz,rfl⟩;unfold Z9;refine WN (Z8 (X4 (name:=Xm "__next__") hT F.slot_zip_next (X8 F.slot_zip_next hT F.entry_zip_next ?_ (F.args_zip_next_1 _))));exact bb_zip_itemA D hz hTI hTO h1 h2 Cn Bz hx hy λh' a1 a2 a3 a4 a5 a6 a7=>WW (hQ h' a1 a2 a3 a4 a5 a6 a7)
end PySem
namespace L2
open PySem PySem.Spec PyProof.Rows
def Itz(K:WO)(a b:WQ):It:=⟨λi H=>∃xs ys x y,SqT K H a xs/\SqT K H b ys/\xs[i]?=A? x/\ys[i]?=A? y,λi H v H'=>∃p x y,H p=B?/\v=.ref p/\H'=upd H p (.tup [x,y])/\(∀xs,SqT K H a xs->xs[i]?=A? x)/\(∀ys,SqT K H b ys->ys[i]?=A? y),λi H=>∃xs ys,SqT K H a xs/\SqT K H b ys/\(xs.length<=i\/ys.length<=i)⟩
structure ZTn(z TI TO i1 i2 a b:WQ)(i:Nat)(h:Yh):Prop where
 ap:ZipApart z TI TO i1 i2 a b
 zip:IsZip h z TI TO .none
 hTI:Zk h TI (.ref i1) (.ref i2)
 hTO:∃u v,Zk h TO u v
 h1:h.IsTupleIter i1 a i
 h2:h.IsTupleIter i2 b i
theorem wq{k1}(a b z TI TO i1 i2:WQ):Turn P w K (.Tuple elts k1 pos) (Itz K a b) [z,TI,TO,i1,i2] z (ZTn z TI TO i1 i2 a b) where
 mem:=by simp
 obj:=λi h st c hc=>by
  obtain⟨D,hz,hTI,⟨u,v,hTO⟩,⟨o1,a1,a2,a3⟩,⟨o2,b1,b2,b3⟩⟩:=st;simp only[W8,List.not_mem_nil,or_false]at hc;rcases hc with rfl|rfl|rfl|rfl|rfl
  .exact⟨_,hz,λv z=>by cases z⟩
  .exact⟨_,hTI,λv z=>by cases z⟩
  .exact⟨_,hTO,λv z=>by cases z⟩
  .exact⟨o1,a1,λv z=>by rw[a3]at z;cases z⟩
  .exact⟨o2,b1,λv z=>by rw[b3]at z;cases z⟩
 keep:=λi h h' st k=>by
  obtain⟨D,hz,hTI,⟨u,v,hTO⟩,⟨o1,a1,a2⟩,⟨o2,b1,b2⟩⟩:=st;exact⟨D,k _ (by simp) _ hz,k _ (by simp) _ hTI,⟨u,v,k _ (by simp) _ hTO⟩,⟨o1,k _ (by simp) _ a1,a2⟩,⟨o2,k _ (by simp) _ b1,b2⟩⟩
 item:=by
  intro X hP hw hK hc i U s Z H E I hf st hg;subst hP hw hK;obtain⟨xs,ys,x,y,GH,GI,hx,hy⟩:=hg;obtain⟨ia,HI,pa,Jm⟩:=I.tuple GH;obtain⟨ib,HJ,pb,Oi⟩:=I.tuple GI;obtain⟨u,hu,ru⟩:=HI.get hx;obtain⟨v,hv,rv⟩:=HJ.get hy;obtain⟨D,hz,hTI,⟨ta,tb,hTO⟩,h1,h2⟩:=st
  have lt:∀c∈[z,TI,TO,i1,i2],c<s.1.1.size:=λc hc=>by
   simp only[W8,List.not_mem_nil,or_false]at hc;rcases hc with rfl|rfl|rfl|rfl|rfl
   .exact Xb hz
   .exact Xb hTI
   .exact Xb hTO
   .obtain⟨o,e,_⟩:=h1;exact Xb e
   .obtain⟨o,e,_⟩:=h2;exact Xb e
  refine bb_zip_next0 D hz hTI hTO h1 h2 (show s.1.IsTuple a ia.toArray from pa) (show s.1.IsTuple b ib.toArray from pb) (by simpa using hu) (by simpa using hv) λFm a1 a2 a3 a4 a5 a6 a7=>?_;refine⟨_,D?,wpAny_letOwnedTupleGo_zip a1 λEj g1 sb=>?_⟩;replace sb:YF z Fm Ej:=sb;have J4:H s.1.1.size=none:=I.hok.fresh (WV _)
  have IA:Inv X U Z (upd H s.1.1.size (.tup [x,y])) {s with heap:=s.1.push {cls:=.type "tuple",data:=.seq #[u,v]},toks:=s.toks} :=
   I.laid (o:=.tup [x,y]) (λb ob q=>WU _ q) (WV _) ⟨by show 2<=Xf;decide,[u,v],0,.cons ru (.cons rv .nil),W4 _ rfl⟩
  have hzT:s.1.1.size≠z:=Nat.ne_of_gt (lt z (by simp));refine⟨.ref s.1.1.size,upd H s.1.1.size (.tup [x,y]),?_,D?,⟨_,x,y,J4,D?,D?,λzs Ki=>by rw[I.tuple_inj Ki GH];exact hx,λzs Ki=>by rw[I.tuple_inj Ki GI];exact hy⟩,?_,λc hc=>?_⟩
  .have IB:Inv X U Z (upd H s.1.1.size (.tup [x,y])) {s with heap:=Ej,toks:=s.toks}:=by
    refine Inv.turnedL (s:={s with heap:=s.1.push {cls:=.type "tuple",data:=.seq #[u,v]},toks:=s.toks}) (h':=Ej) (fp:=[z,TI,TO,i1,i2]) (t':=s.toks) IA (λc o hc q=>?_) λc hc=>?_
    .have n1:c≠z:=λe=>hc (by simp[e]);have n2:c≠TO:=λe=>hc (by simp[e]);have n3:c≠i1:=λe=>hc (by simp[e]);have n4:c≠i2:=λe=>hc (by simp[e]);rw[sb.2 c n1];by_cases hb2:c=s.1.1.size
     .subst hb2;have q':(s.1.push {cls:=.type "tuple",data:=.seq #[u,v]}).get? s.1.1.size=A? o:=q;rw[W4 _ rfl]at q';rw[<-q'];exact a5
     .have q':(s.1.push {cls:=.type "tuple",data:=.seq #[u,v]}).get? c=A? o:=q;rw[Heap.get?_push_ne _ _ _ hb2]at q';exact a7 c o n1 n2 n3 n4 q'
    .obtain⟨f0,f1⟩:=hf c hc;exact⟨by rw[ai (XC (lt c hc))];exact f0,f1⟩
   exact IB
  .have sT:∀c o,c≠z->Fm.get? c=A? o->Ej.get? c=A? o:=λc o hc e=>(sb.2 c hc).trans e;refine⟨D,g1,sT _ _ D.TIz (a7 _ _ D.TIz D.TITO D.TIi1 D.TIi2 hTI),⟨_,_,sT _ _ D.TOz a2⟩,?_,?_⟩
   .obtain⟨o,e,r⟩:=a3;exact⟨o,sT _ _ D.i1z e,r⟩
   .obtain⟨o,e,r⟩:=a4;exact⟨o,sT _ _ D.i2z e,r⟩
  .rw[ai (XC (lt c hc))];exact(hf c hc).1
 done:=by
  intro X hP hw hK hc i U s Z H E I hf st hg;subst hP hw hK;obtain⟨xs,ys,GH,GI,CY⟩:=hg;obtain⟨ia,HI,pa,Jm⟩:=I.tuple GH;obtain⟨ib,HJ,pb,Oi⟩:=I.tuple GI;have FN:=HI.length;have Uv:=HJ.length;obtain⟨D,hz,hTI,hTO,h1,h2⟩:=st;refine bb_zip_done (show X.A.handled=B? from I.ok.hd hc) ⟨D,.inl hz,hTI,hTO,h1,h2,pa,pb⟩ ?_ λh' kp=>⟨rfl,?_⟩
  .rcases CY with h|h
   .exact .inl (by simp;lia)
   .exact .inr (by simp;lia)
  exact I.turnedL (fp:=[z,TI,TO,i1,i2]) (t':=s.toks) (λc o hc q=>kp c o (λhm=>hc (by simp only[W8,List.not_mem_nil,or_false]at hm |-;rcases hm with h|h|h|h <;> simp[h])) q) hf
 self:=λ_ _ _ _ _ st h=>wpAny_pyIter_zip st.zip h
section
variable{X:Cx}{e1 e2:X9}{t:TA}{p2 Ay:Z2}
def abh(K:WO)(t:TA):TI:=λZ H R=>t Z H λvs H1=>∃a b,vs=[.ref a,.ref b]/\(∃xs,SqT K H1 a xs)/\(∃ys,SqT K H1 b ys)/\R (Itz K a b) H1
theorem w6{k1}(g2:Gl X "zip")(m2:X.mg "zip"=B?)(ha:PA X [e1,e2] t)
 (h2:XG [e1,e2] X.env=(Cf,Y2 e1 X.env)::XG [e2] X.env:=by rfl) (h3:(Z0 Ay (XG [e2] X.env)).any (·.1)=false:=by rfl):PI X (.Tuple elts k1 pos) (.Call (.Name "zip" p2) [e1,e2] [] Ay) (abh X.K t):=by
 intro U s Z H R I h;refine Ym (dh I g2 m2 boot_zip ?_);refine X2 (thn (ha Ay U s Z H _ I h) λus s2⟨vs,H2,I2,r,a,b,ev,⟨xs,GH⟩,⟨ys,GI⟩,q⟩=>?_) h2 h3;subst ev;obtain⟨u1,u2,rfl,r1,r2⟩:=vals2 r;cases r1;cases r2;obtain⟨ia,HI,pa,Jm⟩:=I2.tuple GH;obtain⟨ib,HJ,pb,Oi⟩:=I2.tuple GI;have AN:a<s2.1.1.size:=by obtain⟨o,e,_⟩:=pa;exact Xb e
 have AV:b<s2.1.1.size:=by obtain⟨o,e,_⟩:=pb;exact Xb e
 refine bb_call_zip (show s2.1.IsTuple a ia.toArray from pa) (show s2.1.IsTuple b ib.toArray from pb) λh' z1 z2 z3 z4 z5 z6 z7=>?_;have D:ZipApart (s2.1.1.size+4) (s2.1.1.size+2) (s2.1.1.size+3) s2.1.1.size (s2.1.1.size+1) a b:=zipApart_new AN AV;refine wpAny_pyIter_zip (s:={s2 with heap:=h'}) z1 ?_;refine⟨s2.1.1.size+4,[s2.1.1.size+4,s2.1.1.size+2,s2.1.1.size+3,s2.1.1.size,s2.1.1.size+1],_,_,H2,D?,I2.kept (t':=s2.toks) z7,wq a b _ _ _ _ _,⟨D,z1,z2,⟨_,_,z3⟩,z4,z5⟩,λc hc=>?_,q⟩
 have AQ:s2.1.1.size<=c:=by
  simp only[W8,List.not_mem_nil,or_false]at hc;rcases hc with h|h|h|h|h <;> rw[h]
  .exact Zj _ _
  .exact Zj _ _
  .exact Zj _ _
  .exact WV _
  .exact Zj _ _
 exact I2.fpOk AQ (I2.hok.fresh AQ)
end
end L2
namespace BB
open PySem L2
noncomputable section
local instance:DecidableEq Th:=λ_ _=>Classical.propDecidable _
end
end BB
namespace PySem
open Sem (wp)
section
variable{K:Type}[DecidableEq K]{knd:HeapKind prog w K}
theorem bb_setDefault_heap{xs:List (K×WQ×WT)}{k:K}{v:WT}(hu:knd.room A)(Dm:knd.is s.1 k a)(hm:s.1.DictOfH knd d xs)
 (HN:∀p,atKey xs k=A? p->Q p.2 {s with toks:=s.toks+knd.draws k})
 (Ov:atKey xs k=B?->∀h',h'.DictOfH knd d (storedH xs k a v)->YF d s.1 h'->Q v {s with heap:=h',toks:=s.toks+knd.draws k})
 (hsz:xs.length<=Xf):W7 (Xw prog w) A (dictSetDefault d (.ref a) v) Q E s:=by
 obtain⟨o,es,ep,ho,hc,hd,he,Jn,hn⟩:=hm;unfold dictSetDefault
 try with_reducible refine Yy ?_
 refine WN (knd.pyHash hu Dm ?_);refine WN (wpAny_dictFind_heap (s:={s with toks:=s.toks+knd.draws k}) hu Dm ho hd he Jn hn ?_ ?_)
 .intro Dn;have Ow:k∉xs.map (·.1):=not_mem_keys_of_get Dn
  refine WN (Zx (WN (wpAny_updateDictKeys (hz:=by have e:=size_of_entries he;lia) (s:={s with toks:=s.toks+knd.draws k}) ho hd (WW (Ov (atKey_none_of_get Dn) _ ⟨_,_,ep+1,XQ _ ho (Obj.isFreed_of_dict (Obj.data_mapDictKeys hd _)),
   hc.mapDictKeys _,Obj.data_mapDictKeys hd _,?_,?_,?_⟩ (Zi ..))))))
  .rw[storedH_new (atKey_none_of_get Dn)];simp[he,entryOfKey]
  .rw[storedH_new (atKey_none_of_get Dn)];intro x hx;rcases Xz.mp hx with hx|hx
   .exact knd.keeps (Jn x hx) ho hd (Zi ..)
   .simp only[W9]at hx;subst hx;exact knd.keeps Dm ho hd (Zi ..)
  .rw[storedH_new (atKey_none_of_get Dn)];rw[Xa,List.nodup_append];refine⟨hn,by simp,?_⟩;intro x hx y hy;simp only[XB,Y0,W9]at hy;subst hy;exactλe=>Ow (e ▸ hx)
 .intro j p hj;have h1:=HN _ (atKey_of_get hn hj);refine WN (wpAny_dictEntries (s:={s with toks:=s.toks+knd.draws k}) ho hd ?_);rw[entry_at he j,hj];exact WN (Zx (WW h1))
theorem bb_meets_setdefault(knd:HeapKind prog w K)(d a:WQ)(dflt:WT)(hd:(d == YO)=Cf) :
 MeetsIn prog w (Zs.«dict.setdefault» ⟨[.ref d,.ref a,dflt],[]⟩) (λA R s=>knd.room A.in1/\∃k xs,knd.is s.1 k a/\s.1.DictOfH knd d xs/\xs.length<=Xf /\
  (∀p,atKey xs k=A? p->R (.ok (.ret p.2)) {s with toks:=s.toks+knd.draws k}) /\
  (atKey xs k=B?->∀h',h'.DictOfH knd d (storedH xs k a dflt)->YF d s.1 h'->R (.ok (.ret dflt)) {s with heap:=h',toks:=s.toks+knd.draws k})) :=
 .of_wp λA R s⟨hu,k,xs,Dm,hm,hz,h1,h2⟩=>by
  unfold Zs.«dict.setdefault»;refine WN ?_;unfold Builtin.Dict.keyAndDefault;have hT:s.TypeIs (.ref d) "dict":=hm.typeIs;refine WN (wpAny_notOrdered_dict hT ?_);show W7 _ _ (pure (d,Xl a,A? dflt)) _ _ s;refine WW ?_;show W7 _ _ (if(d == YO)=C? then _ else(dictSetDefault d (.ref a) dflt >>= _)) _ _ s;rw[a! (by rw[hd];exact W6)];exact WN (bb_setDefault_heap hu Dm hm (λp hp=>WW ⟨_,rfl,h1 p hp⟩) (λhn h' GL DI=>WW ⟨_,rfl,h2 hn h' GL DI⟩) hz)
end
end PySem
namespace L2
open PySem PySem.Spec PyProof.Rows
def yf:V->List V->Hp->VK->Prop:=λx vs H Q=>∃(a b:WQ)(v:V)(k:List Key)(f':List (List Key×V)),x=.ref a/\vs=[.ref b,v]/\H a=A? (.dT f')/\H b=A? (.tup (k.map kV))/\f'.length<Xf /\
 (∀u,aN f' k=A? u->Q u H)/\(aN f' k=B?->Q v (upd H a (.dT (putK f' k v))))
theorem mO{X:Cx}(hu:X.A.units+1<YK):MtM X "dict.setdefault" yf:=by
 intro U s Z H x vs v us Q I rx rv h;obtain⟨a,b,y,k,f',rfl,rfl,e,eb,l,q1,q2⟩:=h;cases rx;cases rv with
 |cons r1 rv =>
 cases rv with
 |cons r2 rv =>
 cases rv;cases r1;obtain⟨z,hd,xs,rel,dd⟩:=qO I.hok e;have hz:xs.length<=Xf:=by rw[<-WZ rel];exact z
 have hl:(putK f' k y).length<=Xf:=by have:=bw f' k y;lia
 have hT:s.TypeIs (.ref a) "dict":=dd.typeIs;refine call_meetsIn Zp hT PySem.F.entry_dict_setdefault (PySem.F.args_dict_setdefault_3 _ _ _) (bb_meets_setdefault (tupleKind (au X.prog X.w)) a b _ hd) ⟨tupleKind_room_in1 hu,k,xs,ga I.hok eb,dd,hz,λp hp=>?_,λhn h' Ds hs=>?_⟩
 .have hr:=rel.val k;rw[hp]at hr;cases hv:aN f' k with
  |none=>rw[hv]at hr;exact hr.elim
  | some u =>
    rw[hv]at hr;exact⟨u,H,I.tok _,hr,q1 u hv⟩
 .have hr:=rel.val k;rw[hn]at hr;cases hv:aN f' k with
  |some u=>rw[hv]at hr;exact hr.elim
  | none =>
    refine⟨y,_,?_,r2,q2 hv⟩;obtain⟨q,es,ep,hq,h2,h3,h4,_,h5⟩:=Ds;refine fX I (by rw[e];exact YT) hs ⟨q,hq⟩ ⟨hl,hd,_,(rel.put k eb r2).keeps λc ys ec=>?_,q,es,ep,hq,h2,h3,h4,h5⟩;rw[ai (cp ec e (λz=>nomatch z))];exact ec
end L2
namespace PySem
open Sem (wp)
theorem bb_key_loop{S:WQ}{es:Array DictEntry}{ep:Nat}{od:Zb}(hh:A.in1.handled=B?)(hz:es.size<=Xf)(HP:S≠it)(Kj:S≠d)(MP:d≠it)(g2:od.data=.dict es ep)(res:WT) :
 ∀(k i:Nat)(s:WX)(acc:Array WT)(c:Nat),es.size - i=k->i<=es.size->s.1.IsKeyIter it d i es.size ep->s.1.get? d=A? od->s.1.get? S=A? {cls:=.type "list",dict:=B?,data:=.seq acc c,slots:=#[]}->acc.toList=(es.toList.take i).map (·.key) ->
 (∀h' A8 c',(∀b o,b≠S->b≠it->s.1.get? b=A? o->h'.get? b=A? o)->h'.get? S=A? {cls:=.type "list",dict:=B?,data:=.seq A8 c',slots:=#[]}->A8.toList=es.toList.map (·.key)->R (.ok (.ret res)) {s with heap:=h'}) ->
 codeAny (Xw prog w) A (.builtin "list.extend.loop" ⟨[.ref S,.ref it,res],[]⟩) R s:=by
 intro k;induction k with
 | zero =>
   intro i s acc c hk hi hit hd hS Ao hR;have B0:i=es.size:=by lia
   subst B0;refine codeAny_builtin F.entry_extend_loop ?_;rw[Z7 YG _];show W7 _ A.in1 (Z9 (.ref it) >>= _) _ _ s;refine WN (bb_keyEnd hh hit hd g2 (WV _) λh' Bb=>WW ?_);refine hR h' acc c (λb o _ hb e=>Bb b o hb e) (Bb _ _ HP hS) ?_;rw[Ao,XZ (by rw[XS];lia)]
 | succ k ih =>
   intro i s acc c hk hi hit hd hS Ao hR;have Ai:i<es.size:=by lia
   refine codeAny_builtin F.entry_extend_loop ?_;rw[Z7 YG _];show W7 _ A.in1 (Z9 (.ref it) >>= _) _ _ s;have hx:es[i]?=A? es[i]:=Ze Ai
   have AN:acc.size=i:=by
    have:=h! Zm Ao;rw[XS,WM,XF,XS]at this;lia
   refine WN (bb_keyNext hit hd g2 hx λh' FJ Bb=>?_);have Ei:=(Bb.2 S HP).trans hS;have BH:=(Bb.2 d MP).trans hd;show W7 _ A.in1 (updateSeq S (·.push es[i].key) >>= _) _ _ _;refine WN ?_;have CS:∀b o,b≠S->h'.get? b=A? o->(h'.update S (Yj (·.push es[i].key))).get? b=A? o:=λb o hb e=>(XW _ _ (YQ hb)).trans e
   refine YS Ei rfl (WW ⟨plainId_quiet YG _,ih (i+1) _ (acc.push es[i].key) _ (by lia) Ai (FJ.at λo e=>CS _ _ (YQ HP) e) (CS _ _ (YQ Kj) BH) (XQ _ Ei rfl) ?_ λKb A8 c' HG HH EF=>?_⟩)
    (by rw[AN];lia) (by show(acc.push _).size<=Xf+1;rw[Array.size_push,AN];lia)
   .rw[Array.toList_push,Ao,XU,WR (by rw[XS];exact Ai),Xa];simp
   .exact hR Kb A8 c' (λb o hb hb2 e=>HG b o hb hb2 (CS b o hb ((Bb.2 b hb2).trans e))) HH EF
theorem bb_list_keys{es:Array DictEntry}{ep:Nat}{od:Zb}(hh:A.in1.in1.handled=B?)(ns:(d == YO)=Cf)(hd:s.1.get? d=A? od)(gc:od.cls=.type "dict")(g2:od.data=.dict es ep)(hz:es.size<=Xf)
 (hQ:∀h' acc c,(∀b o,s.1.get? b=A? o->h'.get? b=A? o)->h'.get? s.1.1.size=A? {cls:=.type "list",dict:=B?,data:=.seq acc c,slots:=#[]}->acc.toList=es.toList.map (·.key)->Q (.ref s.1.1.size) {s with heap:=h'}) :
 W7 (Xw prog w) A (call (.type "list") [.ref d]) Q E s:=by
 have DK:=Xb hd;have Kj:s.1.1.size≠d:=Nat.ne_of_gt DK
 refine callType_codes (Q₁:=λobj Ac=>obj=.ref s.1.1.size/\Ac={s with heap:=s.1.push {cls:=.type "list",data:=.seq #[]}}) F.called_list (F.typeCall_list_1 _) F.entry_list_init
  (code_list_new _ ⟨rfl,rfl⟩) λobj Ac An=>?_
 obtain⟨rfl,rfl⟩:=An;have hS:(s.1.push {cls:=.type "list",data:=.seq #[]}).get? s.1.1.size=A? {cls:=.type "list",data:=.seq #[]}:=W4 _ rfl;refine⟨⟨_,hS,D?⟩,F.args_list_init_2 _ _,?_⟩;show W7 _ A.in1.in1 (do let old <-ZI (.ref s.1.1.size);Builtin.List.listUpdate (.ref s.1.1.size) (λ_=>#[]);letGo old.toList.reverse;Za (.ref s.1.1.size) (.ref d) .none) _ _ _;refine WN ?_;unfold ZI;refine WN (YC hS rfl (WW ?_));refine WN (YS hS rfl ?_);have Bq:=XQ (Yj (λ_=>(#[]:Array WT))) hS rfl;refine WN (wpAny_letGo ?_);have CZ:((s.1.push {cls:=.type "list",data:=.seq #[]}).update s.1.1.size (Yj (λ_=>(#[]:Array WT)))).objs.size=s.1.1.size+1:=by rw[Heap.size_update,X5]
 generalize hH:(s.1.push {cls:=.type "list",data:=.seq #[]}).update s.1.1.size (Yj (λ_=>(#[]:Array WT)))=H2 at Bq CZ |-
 have old:∀b o,s.1.get? b=A? o->H2.get? b=A? o:=λb o e=>by
  rw[<-hH,XW _ _ (YQ (XC (Xb e)))];exact WU _ e
 obtain⟨c2,Ey⟩:∃c,H2.get? s.1.1.size=A? {cls:=.type "list",data:=.seq #[] c}:=⟨_,Bq⟩;have hd2:=old _ _ hd;have Kc:({s with heap:=H2}:WX).TypeIs (.ref d) "dict":=⟨_,hd2,gc⟩;unfold Za;refine WN (ZG Kc ?_);have h1:Zr (.ref s.1.1.size) (.ref d)=false:=by simp[Zr,Kj]
 have h2:(Zn "dict" == Zn "list")=false:=by decide
 have h3:(Zn "dict" == Zn "tuple")=false:=by decide
 simp only[h1,h2,h3,Bool.or_false,Ye,if_false];refine WN (bb_keyIter (s:={s with heap:=H2}) ns hd2 gc g2 ?_);refine WN (Yy ?_);have HQ:(H2.push {cls:=.type "dict_keyiterator",data:=.fields #[.ref d,.int 0 0,.int es.size 0,.int ep 0]}).IsKeyIter H2.objs.size d 0 es.size ep:=⟨_,W4 _ rfl,rfl,rfl⟩;have Jo:∀b o,H2.get? b=A? o->(H2.push {cls:=.type "dict_keyiterator",data:=.fields #[.ref d,.int 0 0,.int es.size 0,.int ep 0]}).get? b=A? o:=λb o e=>WU _ e;have Kk:s.1.1.size≠H2.objs.size:=by rw[CZ];lia
 have Ox:d≠H2.objs.size:=by rw[CZ];exact XC (Nat.lt_succ_of_lt DK)
 show W7 _ _ _ _ _ ({s with heap:=H2.push {cls:=.type "dict_keyiterator",data:=.fields #[.ref d,.int 0 0,.int es.size 0,.int ep 0]}}:WX);generalize H2.push {cls:=.type "dict_keyiterator",data:=.fields #[.ref d,.int 0 0,.int es.size 0,.int ep 0]}=H3 at HQ Jo |-;have RG:=Jo _ _ hd2;have Oy:=Jo _ _ Ey;have Oz:({s with heap:=H3}:WX).TypeIs (.ref d) "dict":=⟨_,RG,gc⟩
 have key:∀(h:Yh)(c₁:Nat),h.IsKeyIter H2.objs.size d 0 es.size ep->(∀b o,b≠s.1.1.size->H3.get? b=A? o->h.get? b=A? o)->h.get? s.1.1.size=A? {cls:=.type "list",data:=.seq #[] c₁} ->
  codeAny (Xw prog w) A.in1 (.builtin "list.extend.loop" ⟨[.ref s.1.1.size,.ref H2.objs.size,.none],[]⟩) (wants (λr AI=>r=.none/\Q (.ref s.1.1.size) AI) E) {s with heap:=h}:=by
  intro h c₁ hit hk CO;refine bb_key_loop hh hz Kk Kj Ox g2 .none es.size 0 _ #[] c₁ rfl (Xg _) hit (hk _ _ (YQ Kj) RG) CO rfl λh' A8 c' hm Ei Ao=>?_;refine⟨D?,hQ h' A8 c' (λb o e=>?_) Ei Ao⟩;have hb:=XC (Xb e);exact hm b o hb (by rw[CZ];exact XC (Nat.lt_succ_of_lt (Xb e))) (hk b o hb (Jo b o (old b o e)))
 unfold ZH;refine WN (Yr Oz F.slot_dict_len.lookup ?_);generalize hid:("dict.__len__":String)=Hw
 wp_delta
 rw[show splitId Hw=A? ("dict","__len__")from by subst hid;decide +kernel];subst hid;refine WN (ZJ (T:="dict") (b:=C?) Oz (by rw[isSubtype_type];kernel_rfl) ?_);refine wpAny_ite_split (λCC=>g! CC (by decide)) (λ_=>?_);refine wpAny_ite_split (λ_=>?_) (λCC=>g! (by decide +kernel) CC);refine WN (ZG Oz ?_);refine WW ?_;refine wpAny_ite_split (λ_=>?_) (λ_=>WW ⟨plainId_quiet YG _,key _ c2 HQ (λb o _ e=>e) Oy⟩);refine WN (Zx ?_);refine WN ?_;show W7 _ _ (updateSeq s.1.1.size (·.push .none) >>= λ_=>updateSeq s.1.1.size (·.pop)) _ _ _;refine WN (YS Oy rfl ?_);have Br:=XQ (Yj (·.push Yp)) Oy rfl;refine YS (hz:=by seq_fits) Br rfl ?_;have CQ:=XQ (Yj (·.pop)) Br rfl
 have CS:∀b o,b≠s.1.1.size->H3.get? b=A? o->((H3.update s.1.1.size (Yj (·.push Yp))).update s.1.1.size (Yj (·.pop))).get? b=A? o :=
  λb o hb e=>(XW _ _ (YQ hb)).trans ((XW _ _ (YQ hb)).trans e)
 exact WW ⟨plainId_quiet YG _,key _ _ (HQ.at λo e=>CS _ _ (YQ Kk) e) CS CQ⟩
end PySem
namespace L2
open PySem PySem.Spec PyProof.Rows
def aad:List V->Hp->VK->Prop:=λxs H Q=>∃(a:WQ)(f':List (List Key×V)),xs=[.ref a]/\H a=A? (.dT f')/\∀(l:WQ)(bs:List WQ),H l=B?->Xk (λkv b=>H b=A? (.tup (kv.1.map kV))) f' bs->Q (.ref l) (upd H l (.lst (bs.map i!)))
theorem wW{f':List (List Key×V)}{ys:List (List Key×WQ×WT)}(rel:KTd H f' ys):Xk (λkv b=>H b=A? (.tup (kv.1.map kV))) f' (ys.map λy=>y.2.1):=by
 induction rel with
 |nil=>exact .nil
 |cons h t ih=>exact .cons h.2.1 ih
theorem my{X:Cx}(hc:X.calm=C?):fH X (.type "list") aad:=by
 intro U s Z H xs us Q I r h;obtain⟨a,f',rfl,e,q⟩:=h;obtain⟨u,rfl,rx⟩:=vals1 r;cases rx;obtain⟨z,hd,ys,rel,dd⟩:=qO I.hok e;have hT:=dd.typeIs;obtain⟨o,es,ep,ho,UL,Jp,he,Jn,hn⟩:=dd;obtain⟨o',BG,Bm⟩:=hT;have eo:o'=o:=Xn (BG.symm.trans ho);subst eo;have hl:f'.length=ys.length:=WZ rel
 have HR:es.toList.map (·.key)=ys.map λy=>Xl y.2.1:=by
  rw[he,Y9];rfl
 have hsz:es.size<=Xf:=by
  have:=h! Zm HR;rw[WM,WM,XS]at this;lia
 have hh:X.A.in1.in1.handled=none:=I.ok.hd hc;refine bb_list_keys hh hd BG Bm Jp hsz λh' acc c hk hS Ao=>?_;have hp:Xk (λkv b=>H b=A? (.tup (kv.1.map kV))) f' (ys.map λy=>y.2.1):=wW rel;refine⟨.ref s.1.1.size,upd H s.1.1.size (.lst ((ys.map λy=>y.2.1).map i!)),?_,D?,q _ _ I.fresh hp⟩;refine I.laid (t':=s.toks) hk (WV _) ⟨by rw[WM,WM];lia,acc.toList,c,?_,hS⟩;rw[Ao,HR];clear hn Jn he HR Ao hS hl z rel hp q;induction ys with
 |nil=>exact .nil
 |cons y ys ih=>exact .cons rfl ih
open BB
theorem zQ{es:List Dv}{ws:List V}(r1:Vals ws its)(hws:DAts H es ws)(j:Nat)(z:WT)(hz:its[j]?=A? z):∃e y',es[j]?=A? e/\DAt H e y'/\RelV y' z:=by
 have hj:j<its.length:=(glE hz);have l1:=r1.length;have l2:=hws.length;have OA:j<es.length:=by lia
 obtain⟨y',Eu,dy⟩:=hws.at (WR OA);obtain⟨v',Bj,EG⟩:=r1.get Eu;rw[hz]at Bj;cases Bj;exact⟨_,y',WR OA,dy,EG⟩
theorem w8{z:WT}{e e':Dv}{y' Kl:V}(h1:DAt H e y')(h2:RelV y' z)(h3:DAt H e' Kl)(h4:RelV Kl z):e=e':=by
 have:=h2.inj h4;subst this;exact h1.inj h3
def xI(K:WO)(B:Nat):R2:=λx y H Q=>∃b ws d es,y=.ref b/\SqL K H b ws/\DAt H d x/\DAts H es ws/\bO es<=B/\∀r:Bool,(r=C?↔d∉es)->Q (.bl r) H
open Classical in
theorem uz{X:Cx}(hu:X.A.units+B+2<YK):OpR X (compareOp .NotIn) (xI X.K B):=by
 intro U s Z H x y v u Q I rx ry h;obtain⟨b,ws,d,es,rfl,hb,hd,hws,hB,q⟩:=h;cases ry;obtain⟨its,r1,p1,_⟩:=I.list hb;have l1:=r1.length;have l2:=hws.length;refine SeqAt.notIn_listAt (λz=>decide (∃y',DAt H d y'/\RelV y' z)) p1.isList (λz hz=>?_) ⟨.bl _,H,I,rfl,q _ ?_⟩
 .obtain⟨j,hj⟩:=Xj.mp (show z∈its by simpa using hz);obtain⟨e,y',he,dy,ry⟩:=zQ r1 hws j z hj;have hq:=fM he
  have e3:decide (∃y',DAt H d y'/\RelV y' z)=decide (e=d):=by
   by_cases h:e=d
   .rw[d! h,d! ⟨y',h ▸ dy,ry⟩]
   .rw[c! h,c!];rintro⟨Kl,h1,h2⟩;exact h (w8 dy ry h1 h2)
  rw[e3];refine oT I _ e d (WV _) y' x z v X.A.in1 dy hd ry rx ?_;show X.A.units+1+_<YK;lia
 .rw[Bool.not_eq_true',<-Bool.not_eq_true];refine not_congr ?_;constructor
  .intro z;obtain⟨v',h1,h2⟩:=Array.any_eq_true'.mp z;obtain⟨j,hj⟩:=Xj.mp (show v'∈its by simpa using h1);obtain⟨e,y',he,dy,ry⟩:=zQ r1 hws j v' hj;obtain⟨Kl,h3,h4⟩:=e! h2;rw[<-w8 dy ry h3 h4];exact WS he
  .intro z;obtain⟨j,hj⟩:=Xj.mp z;obtain⟨y',Eu,dy⟩:=hws.at hj;obtain⟨v',Bj,EG⟩:=r1.get Eu;refine Array.any_eq_true'.mpr ⟨v',?_,d! ⟨y',dy,EG⟩⟩;have:=WS Bj;simpa using this
def xQ(K:WO)(B:Nat):V->List V->Hp->VK->Prop:=λx vs H Q=>∃(l:WQ)(y:V)(ws:List V)(d:Dv)(es:List Dv)(j:Nat),x=.ref l/\vs=[y]/\SqL K H l ws/\DAt H d y/\DAts H es ws/\bO es<=B/\es[j]?=A? d/\(∀i,i<j->es[i]?≠A? d)/\es.length<=100000/\Q (.int (j:Nat)) H
open Classical in
theorem u6{X:Cx}(hu:X.A.units+B+4<YK):MtM X "list.index" (xQ X.K B):=by
 intro U s Z H x vs v us Q I rx rv h;obtain⟨l,y,ws,d,es,j,rfl,rfl,hS,hd,hws,hB,hj,Dn,hz,q⟩:=h;cases rx;obtain⟨u,rfl,ru⟩:=rv.one;obtain⟨its,r,pl,_⟩:=I.list hS;have hlen:=r.length;have Bz:=hws.length;obtain⟨⟨cls,dd,data,sl⟩,ho,hc,n,Jp⟩:=pl.isList;simp only at hc Jp;subst hc Jp;have GN:j<es.length:=(glE hj)
 have OB:∀(m:Nat)(z:WT),its[m]?=A? z->∃e y',es[m]?=A? e/\DAt H e y'/\RelV y' z/\decide (∃y',DAt H d y'/\RelV y' z)=decide (e=d):=λm z hz=>by
  obtain⟨e,y',he,dy,ry⟩:=zQ r hws m z hz;refine⟨e,y',he,dy,ry,?_⟩;by_cases h:e=d
  .rw[d! h,d! ⟨y',h ▸ dy,ry⟩]
  .rw[c! h,c!];rintro⟨Kl,h1,h2⟩;exact h (w8 dy ry h1 h2)
 refine call_meets PySem.F.slot_list_index ⟨_,ho,rfl⟩ PySem.F.entry_list_index (PySem.F.args_list_index_2 _ _)
  (SeqAt.list_indexAt l its.toArray n dd sl u (λz=>decide (∃y',DAt H d y'/\RelV y' z)) j (by rw[W3];lia) (by lia) ?_ ?_) ⟨ho,λy hy=>?_,⟨.int (j:Nat),H,I.tok _,⟨_,rfl⟩,q⟩⟩
 .obtain⟨e,y',he,dy,ry,e3⟩:=OB j (its.toArray[j]'(by rw[W3];lia)) (by simp);rw[hj]at he;cases he;rw[e3];exact d! rfl
 .intro m hm Ai;obtain⟨e,y',he,dy,ry,e3⟩:=OB m (its.toArray[m]'hm) (by simp);rw[e3];exact c! λz=>Dn m Ai (by rw[he,z])
 .have Eu:y∈its:=by simpa using hy
  obtain⟨m,hm⟩:=Xj.mp Eu;obtain⟨e,y',he,dy,ry,e3⟩:=OB m y hm;rw[e3];have hq:=fM he;refine oT I _ e d (WV _) y' _ y u _ dy hd ry ru ?_;show X.A.units+1+_<YK;lia
def aaB(K:WO)(B:Nat):R2:=λx y H Q=>∃a b vs ws ds es,x=.ref a/\y=.ref b/\SqL K H a vs/\SqL K H b ws/\DAts H ds vs/\DAts H es ws/\bO ds<=B/\∀b:Bool,(b=C?↔ds=es)->Q (.bl b) H
open Classical in
theorem yH{X:Cx}(hu:X.A.units+B+2<YK):OpR X (compareOp .Eq) (aaB X.K B):=by
 intro U s Z H x y v u Q I rx ry h;obtain⟨a,b,vs,ws,ds,es,rfl,rfl,ha,hb,Ek,hws,hB,q⟩:=h;cases rx;cases ry;obtain⟨its,r1,p1,_⟩:=I.list ha;obtain⟨Am,r2,p2,_⟩:=I.list hb;have l1:its.length=ds.length:=by rw[<-r1.length,Ek.length]
 have l2:Am.length=es.length:=by rw[<-r2.length,hws.length]
 by_cases hl:ds.length=es.length
 .have hsz:its.toArray.size=Am.toArray.size:=by rw[W3,W3];lia
  refine SeqAt.RcAt.lists p1.isList p2.isList hsz (by lia) (vy I r1 r2 Ek hws (by lia)) X.prog X.w X.xe _ ?_
  have e:(XD its.toArray.size).all (λj=>decide (ds[j]?=es[j]?))=decide (ds=es):=by
   rw[W3,l1];exact rG hl
  refine⟨.bl (decide (ds=es)),H,I,by rw[e];rfl,q _ ?_⟩;simp
 .refine SeqAt.RcAt.lists_lengths p1.isList p2.isList (by rw[W3,W3,l1,l2];simpa using hl) (by lia) X.prog X.w X.xe _ ⟨.bl Cf,H,I,rfl,q _ ?_⟩;exact⟨λz=>g! z W6,λz=>g! (by rw[z]) hl⟩
end L2
namespace PySem
open Sem (wp)
section
variable{K:Type}[DecidableEq K](knd:HeapKind prog w K)(d:WQ)
theorem bb_meets_len(hd:(d == YO)=Cf) :
 MeetsIn prog w (Zs.«dict.__len__» ⟨[.ref d],[]⟩) (λ_ R s=>∃xs,s.1.DictOfH knd d xs/\R (.ok (.ret (.int xs.length s.toks))) {s with toks:=s.toks+1}) :=
 .of_wp λA R s⟨xs,hm,h⟩=>by
  obtain⟨o,es,ep,ho,hc,OC,he,hp,hn⟩:=hm;show W7 _ _ (dictSize d >>= _) _ _ s;unfold dictSize;refine WN (WN (wpAny_dictEntries ho OC (WW ?_)));show W7 _ _ (Builtin.Dict.pendingCount d >>= _) _ _ s;refine WN (wpAny_pendingCount_other hd ?_);refine wpAny_ret_mkInt ?_
  have:es.size=xs.length:=by
   have:=h! Zm he;rw[WM,XS]at this;exact this
  rw[Nat.add_zero,this];exact h
end
section
variable{K:Type}[DecidableEq K]{knd:HeapKind prog w K}
theorem bb_call_len{xs:List (K×WQ×WT)}(hd:(d == YO)=Cf)(hm:s.1.DictOfH knd d xs)(C1:(xs.length:Int)<2 ^ 63)
 (h:Q (.int xs.length (s.toks+1)) {s with toks:=s.toks+1+1}):W7 (Xw prog w) A (call (.builtin "len") [.ref d]) Q E s:=by
 refine Calls.call_function_entry kind_len plain_len entry_len (args_len1 _) ?_;unfold Zs.«len»;refine WN (m:=oneArg "len" _) (WW ?_)
 refine WN (m:=callSpecial? (.ref d) (Xm "__len__")) (X4 (name:=Xm "__len__") hm.typeIs F.slot_dict_len
  (call_meetsIn F.slot_dict_len hm.typeIs F.entry_dict_len (F.args_dict_len_1 _) (bb_meets_len knd d hd) ⟨xs,hm,?_⟩))
 show W7 _ _ _ _ _ {s with toks:=s.toks+1};refine WN (Yy (WW ?_));refine WN (wpAny_letGo ?_);show W7 _ _ (if((xs.length:Nat):Int)<0 then _ else _) _ _ _;rw[a! (by lia)];show W7 _ _ (if((xs.length:Nat):Int) >= 2 ^ 63 then _ else _) _ _ _;rw[a! (by lia)];exact WN (wpAny_mkInt (WW ⟨_,rfl,h⟩))
end
end PySem
namespace L2
open PySem PySem.Spec PyProof.Rows
def aaU:List V->Hp->VK->Prop:=λxs H Q=>∃(a:WQ)(f':List (List Key×V)),xs=[.ref a]/\H a=A? (.dT f')/\Q (.int f'.length) H
theorem jw{X:Cx}:fH X (.builtin "len") aaU:=by
 intro U s Z H xs us Q I r h;obtain⟨a,f',rfl,e,q⟩:=h;obtain⟨u,rfl,rx⟩:=vals1 r;cases rx;obtain⟨z,hd,ys,rel,dd⟩:=qO I.hok e;have hl:f'.length=ys.length:=WZ rel;refine bb_call_len hd dd (by rw[sizeLine_eq]at z;lia) ?_;rw[<-hl];exact⟨.int f'.length,H,I.tok _,⟨_,D?⟩,q⟩
end L2
namespace BB
open PySem L2
theorem lS:∀{ks:List (Xp×Int)}{as:List WQ},KsAt H ks as->∀z∈ks.zip as,z.1∈ks/\KAt H z.1 z.2
 |_,_,.nil,z,hz=>by simp at hz
 | _,_,.cons (a:=k) (b:=a) r t,z,hz=>by
   rw[ZA]at hz;rcases W8.mp hz with rfl|hz
   .exact⟨Xh ..,r⟩
   .obtain⟨h1,h2⟩:=lS t z hz;exact⟨Xe _ h1,h2⟩
open PySem.Builtin PySem.Builtin.Str
end BB
namespace L2
open PySem PySem.Spec PySem.Calls PyProof.Rows BB
section
variable{X:Cx}{Z:List (Option V)}
end
open PySem.Builtin PySem.Builtin.Str
variable{X:Cx}
end L2
namespace BB
open PySem L2
section
variable{t:Th}{es:List WQ}
end
end BB
namespace L2
open PySem PySem.Spec PyProof.Rows BB
variable{X:Cx}
end L2
namespace L2
open PySem PySem.Spec PyProof.Rows PySem.W
open BB
variable{X:Cx}
end L2
namespace L2
open PySem PySem.Spec PySem.Calls PyProof.Rows PySem.W
end L2
namespace BB
open PySem L2 PySem.Builtin PySem.Builtin.Str
end BB
namespace L2
open PySem PySem.Spec PySem.Calls PyProof.Rows PySem.Builtin PySem.Builtin.Str BB
variable{X:Cx}
end L2
namespace L2
open PySem PySem.Spec PyProof.Rows
end L2
namespace BB
open PySem L2
end BB
namespace L2
open PySem PySem.Spec PyProof.Rows
open PySem.Calls
structure yL(P:W5)(w:Xq)(K:WO)(mg:Xp->Option WT)(base:Yh)(CX:CXT)(k:Nat)(f:WQ)(sp:Sp):Prop where
 fn:∀(A:XI)(outer:List Env)(s:WX)(H:Hp)(vs:List V)(Q:VK)(E:XK),Env0 P w K mg base A outer s H->sp vs H Q E->PySem.W.FnAt f s.1
 run:∀(A:XI)(outer:List Env)(s:WX)(H:Hp)(us:List WT)(vs:List V)(Q:VK)(E:XK),Room k A->Env0 P w K mg base A outer s H->Vals vs us->sp vs H Q E ->
  codeAny (Xw P w) A (.call (.ref f) ⟨us,[]⟩) (CR CX outer P w H s Q E) s
section
variable{X:Cx}{k:Nat}{E:XK}{p:Z2}{t:TA}
def zE(P:W5)(w:Xq)(K:WO)(mg:Xp->Option WT)(base:Yh)(CX:CXT)(k i:Nat)(E:XK)(t:TA):TE:=λZ H Q=>∃f sp,Z[i]?=A? (A? (.ref f))/\yL P w K mg base CX k f sp/\t Z H λvs H1=>sp vs H1 Q E
theorem rO{E:WT->WX->Prop}{q:WQ}{rest:List X9}(h:W7 M A (spliced (Z0 pos (XG (e::rest) env))) (λvs Ac=>PySem.W.FnAt q Ac.heap/\W7 M A (call (.ref q) ([]++vs)) Q E Ac) E s)
 (he:XG (e::rest) env=(Cf,Y2 e env)::XG rest env) (BO:(Z0 pos (XG rest env)).any (·.1)=Cf) :
 W7 M A (callWith pos (.ref q) [] (Z0 pos (XG (e::rest) env)) []) Q E s:=by
 rw[he]at h |-;exact PySem.W.callWith_of (by show((Cf ||(Z0 pos (XG rest env)).any (·.1)) ||false)=Cf;rw[BO];rfl) PySem.W.keeps_F (evalArgs_plain h)
theorem vp(hN:X.N[i]?=A? x)(hv:Vis X.env.scope x)(hr:Room k X.A)(hx:Passes CX X E)(ha:PA X (e::es) t)(DU:(x == ("__debug__":Xp))=false:=by decide)(Cg:(x == ("__classdict__":Xp))=false:=by decide)
 (he:XG (e::es) X.env=(Cf,Y2 e X.env)::XG es X.env:=by rfl) (AU:(Z0 pos (XG es X.env)).any (·.1)=false:=by rfl) :
 PE X (.Call (.Name x p) (e::es) [] pos) (zE X.prog X.w X.K X.mg X.base CX k i E t):=by
 intro U s Z H Q I h;obtain⟨f,sp,OD,F,q⟩:=h;refine Ym (thn (wu (X:=X) hN hv DU Cg U s Z H (λv H1=>v=.ref f/\t Z H1 λvs H2=>sp vs H2 Q E) I ⟨_,OD,rfl,q⟩) λu s1⟨v,H1,I1,r,e1,q1⟩=>?_);subst e1;obtain rfl:u=Xl f:=r;refine rO (thn (ha pos U s1 Z H1 _ I1 q1) λus s2⟨vs,H2,I2,r2,q2⟩=>⟨F.fn X.A X.stack s2 H2 vs Q E I2.env0 q2,?_⟩) he AU;refine wpAny_call (codeAny_mono (F.run X.A X.stack s2 H2 ([]++us) vs Q E hr I2.env0 r2 q2) λr s' hq=>?_);cases r with
 |error e=>exact hx U Z H2 s2 e s' I2 hq
 | ok fl =>
   cases fl with
   |ret u=>exact I2.after hq
   |next=>exact YE hq
   |brk=>exact YE hq
   |cont=>exact YE hq
end
def fgt(S:List WQ)(H:Hp):Hp:=λb=>if b∈S then B? else H b
def rst(S:List WQ)(H H':Hp):Hp:=λb=>if b∈S then H b else H' b
theorem jQ{S:List WQ}(h:b∈S):fgt S H b=none:=b! h
theorem bX{S:List WQ}(h:b∉S):fgt S H b=H b:=a! h
theorem xx{S:List WQ}(h:b∈S):rst S H H' b=H b:=b! h
theorem dY{S:List WQ}(h:b∉S):rst S H H' b=H' b:=a! h
theorem wF{S:List WQ}(h:fgt S H b=A? o):b∉S/\H b=A? o:=by
 by_cases hb:b∈S
 .rw[jQ hb]at h;cases h
 .exact⟨hb,by rw[bX hb]at h;exact h⟩
def Exts(S:List WQ)(H:Hp):Prop:=∀b∈S,∃φ,H b=A? (.ext φ)
theorem Exts.out{S:List WQ}(x:Exts S H)(e:H b=A? o)(n:∀φ,o≠.ext φ):b∉S:=λz=>by
 obtain⟨φ,h⟩:=x b z;rw[e]at h;exact n φ (Xn h)
theorem HOk.fgt{S:List WQ}(x:HOk P w H h)(hS:Exts S H):HOk P w (fgt S H) h:=λa o e=>by
 obtain⟨ha,e'⟩:=wF e;exact(x a o e').stay (λ_ _ _ q=>q) (λb q=>by rw[bX (hS.out q (by intro φ z;cases z))];exact q) λb xs q=>by rw[bX (hS.out q (by intro φ z;cases z))];exact q
theorem HOk.rst{S:List WQ}(x:HOk P w H h)(x':HOk P w H' h')(hS:Exts S H)(hk:∀b∈S,∀o,h.get? b=A? o->h'.get? b=A? o)(hn:∀b∈S,H' b=B?):HOk P w (rst S H H') h':=λa o e=>by
 by_cases ha:a∈S
 .rw[xx ha]at e;obtain⟨φ,UM⟩:=hS a ha;have e2:=UM;rw[e]at e2;cases e2;obtain⟨p,⟨ob,q⟩,st⟩:=x a _ e;exact⟨st _ _ p (λo z=>hk a ha o z),⟨ob,hk a ha ob q⟩,st⟩
 .rw[dY ha]at e;have out:∀b u,H' b=A? u->b∉S:=λb u q z=>by rw[hn b z]at q;cases q
  exact(x' a o e).stay (λ_ _ _ q=>q) (λb q=>by rw[dY (out b _ q)];exact q) λb xs q=>by rw[dY (out b _ q)];exact q
def CellAt(H:Hp)(c:WQ)(v:V):Prop:=∃φ,H c=A? (.ext φ)/\∀h:Yh,φ h->∃u,RelV v u/\h.IsCell c (A? u)
def CodeAt(H:Hp)(c:WQ)(qual:Xp):Prop:=∃φ,H c=A? (.ext φ)/\∀h:Yh,φ h->h.CodeRec (.ref c) qual
def xZ(H:Hp)(cl:List (Xp×WQ))(ns:List Xp)(ws:List V):Prop:=Xk (λ(x:Xp)(v:V)=>∃c,cl.lookup x=A? c/\CellAt H c v) ns ws
theorem CellAt.mono(s:Same H H')(h:CellAt H c v):CellAt H' c v:=by
 obtain⟨φ,h1,h2⟩:=h;exact⟨φ,s _ _ h1,h2⟩
theorem CodeAt.mono(s:Same H H'){q:Xp}(h:CodeAt H c q):CodeAt H' c q:=by
 obtain⟨φ,h1,h2⟩:=h;exact⟨φ,s _ _ h1,h2⟩
theorem CellAt.now(x:HOk P w H h)(z:CellAt H c v):∃u,RelV v u/\h.IsCell c (A? u):=by
 obtain⟨φ,h1,h2⟩:=z;exact h2 h (x c _ h1).1
theorem jV(h:cl.lookup x=A? c):c∈cl.map (·.2):=Xx.mpr ⟨(x,c),Yl h,rfl⟩
theorem nK:∀{l:List (Xp×WT)}{x:Xp}{u:WT},(l.map (·.1)).Nodup->(x,u)∈l->l.lookup x=A? u
 | [],_,_,_,h=>by cases h
 | (y,v)::l,x,u,nd,h=>by
   rw[XB,ZM]at nd;rw[YI];rcases W8.mp h with e|e
   .cases e;rw[beq_self_eq_true]
   .have Aq:(x == y)=false:=by
     rw[beq_eq_false_iff_ne];intro z;subst z;exact nd.1 (Xx.mpr ⟨_,e,rfl⟩)
    rw[Aq];exact nK nd.2 e
theorem qR(nd:ps.Nodup)(hl:us.length=ps.length)(h1:ps[i]?=A? x)(h2:us[i]?=A? u):(ps.zip us).reverse.lookup x=A? u:=by
 refine nK ?_ ?_
 .rw[List.map_reverse,List.map_fst_zip (by lia)];exact(List.pairwise_reverse.mpr (nd.imp λh z=>h z.symm))
 .rw[List.mem_reverse];exact WS (Zd.mpr ⟨h1,h2⟩)
structure Lam(mg:Xp->Option WT)(base:Yh)(c P:WQ):Prop where
 hd:PySem.W.CodeHd base c P
 bl:base.BuiltinsAt mg P
def SameT(P:WQ)(H H':Hp):Prop:=∀b o,b≠P->H b=A? o->H' b=A? o
def tabOf(pos:Z2)(c':WQ):Array WT:=#[Y7 pos.line,Y7 pos.col,.ref c']
def TabSt(H:Hp)(P:WQ)(pos:Z2)(qual:Xp):Prop:=H P=A? (.tbl #[])\/∃c',H P=A? (.tbl (tabOf pos c'))/\CodeAt H c' qual
theorem TabSt.mono(s:Same H H'){P:WQ}(h:TabSt H P pos qual):TabSt H' P pos qual:=by
 rcases h with h|⟨c',h1,h2⟩
 .exact .inl (s _ _ h)
 .exact .inr ⟨c',s _ _ h1,h2.mono s⟩
theorem SameT.trans{P:WQ}(a:SameT P H H1)(b:SameT P H1 H2):SameT P H H2:=λc o n e=>b c o n (a c o n e)
theorem Same.t(s:Same H H')(P:WQ):SameT P H H':=λb o _ e=>s b o e
theorem SameT.kt{P:WQ}(s:SameT P H H'){pp:Array WT}(hP:H P=A? (.tbl pp)):BB.KT H H':=λb xs e=>s b _ (λz=>by rw[z,hP]at e;cases e) e
theorem TabSt.kt{P:WQ}(t:TabSt H P pos qual)(s:SameT P H H'):BB.KT H H':=by
 rcases t with h|⟨_,h,_⟩
 .exact s.kt h
 .exact s.kt h
theorem vt(pos:Z2)(c':WQ):TriplesOk (tabOf pos c').toList:=trivial
theorem uV(pos:Z2)(c':WQ):codeAmong pos (tabOf pos c').toList=A? (.ref c'):=by
 show codeAmong pos [Y7 pos.line,Y7 pos.col,.ref c']=_;simp[codeAmong,Y7]
section
variable{X:Cx}{k:Nat}{p:Z2}{t:TA}
def Trk(X:Cx)(Z:St)(cl:List (Xp×WQ))(H H':Hp):Prop:=(∀b∈cl.map (·.2),H b=B?)/\(∀b,b∉cl.map (·.2)->H' b=H b)/\Exts (cl.map (·.2)) H'/\∀(i:Nat)(y:Xp)(v:V)(c:WQ),X.N[i]?=A? y->Z[i]?=A? (A? v)->cl.lookup y=A? c->CellAt H' c v
def aal(X:Cx)(cl:List (Xp×WQ))(sp:Sp)(t:TA):TE:=λZ H Q=>t Z H λvs H1=>∀H2,Trk X Z cl H1 H2->sp vs H2 (λv H3=>(∀b∈cl.map (·.2),H3 b=H2 b)/\Q v (fgt (cl.map (·.2)) H3)) E0
theorem Trk.same{X:Cx}(t:Trk X Z cl H H'):Same H H':=λb o e=>by
 rw[t.2.1 b (λz=>by rw[t.1 b z]at e;cases e)];exact e
theorem Trk.back{X:Cx}{H3:Hp}(t:Trk X Z cl H H')(s:Same H' H3):Same H (fgt (cl.map (·.2)) H3):=λb o e=>by
 rw[bX (λz=>by rw[t.1 b z]at e;cases e)];exact s _ _ (t.same _ _ e)
theorem Trk.kt{X:Cx}{H3:Hp}(t:Trk X Z cl H H')(s:Same H' H3):BB.KT H3 (fgt (cl.map (·.2)) H3):=λb xs e=>by
 rw[bX λz=>?_]
 .exact e
 obtain⟨φ,h⟩:=t.2.2.1 b z;rw[s _ _ h]at e;cases e
structure iQ(X:Cx)(cl:List (Xp×WQ)):Prop where
 look:∀y c,(y,c)∈cl->X.env.cells.lookup y=A? c
 fn:∀y c,(y,c)∈cl->X.fn y=C?
 kind:∀y c,(y,c)∈cl->X.env.kindOf y=A? .cell
theorem abp{y:Xp}(h1:X.env.cells.lookup y=A? c)(h2:X.fn y=C?)(h3:X.env.kindOf y=A? .cell):iQ X [(y,c)] :=
 ⟨λ_ _ h=>by cases W9.mp h;exact h1,λ_ _ h=>by cases W9.mp h;exact h2,λ_ _ h=>by cases W9.mp h;exact h3⟩
theorem vD(F:aT X.prog X.w X.K X.mg X.base CX0 k f fd ps sp)(hr:Room k X.A)(hg:Gl X x)(hm:X.mg x=A? (.ref f))(hk:PySem.W.keepIn X.K (.ref f)=C?)(hb:Binds X.K fd ps [])(oc:iQ X cl)
 (ha:PA X (e::es) t) (DU:(x == ("__debug__":Xp))=false:=by decide) (he:XG (e::es) X.env=(Cf,Y2 e X.env)::XG es X.env:=by rfl) (AU:(Z0 pos (XG es X.env)).any (·.1)=false:=by rfl) :
 PE X (.Call (.Name x p) (e::es) [] pos) (aal X cl sp t):=by
 intro U s Z H Q I h;refine Ym (kT I hg hm ?_ DU);refine PySem.W.callWith_K (h₀:=X.base) I.ok.mod.kin hk (thn (ha pos U s Z H _ I h) λus s1⟨vs,H1,I1,r,q⟩=>⟨I1.kIn,?_⟩) he AU
 have AE:∀b∈cl.map (·.2),∃y,(y,b)∈cl:=λb hb=>by
  obtain⟨⟨y,c⟩,h1,h2⟩:=Xx.mp hb;cases h2;exact⟨y,h1⟩
 have Bp:∀b∈cl.map (·.2),∃v o,s1.1.get? b=A? o/\o.data=.cell v:=λb hb=>by
  obtain⟨y,hy⟩:=AE b hb;obtain⟨v,o,h1,h2⟩:=I1.cell y b (oc.look y b hy);exact⟨v,o,h1,h2⟩
 have CH:∀b∈cl.map (·.2),H1 b=none:=λb hb=>by
  obtain⟨y,hy⟩:=AE b hb;exact I1.freeC y b (oc.look y b hy)
 obtain⟨H2,RH⟩:∃H2:Hp,H2=λb=>if b∈cl.map (·.2)then A? (.ext λh=>h.get? b=s1.1.get? b/\(h.get? b).isSome=C?)else H1 b:=⟨_,rfl⟩
 have Km:∀b∈cl.map (·.2),H2 b=A? (.ext λh=>h.get? b=s1.1.get? b/\(h.get? b).isSome=C?):=λb hb=>by rw[RH];exact b! hb
 have BD:∀b,b∉cl.map (·.2)->H2 b=H1 b:=λb hb=>by rw[RH];exact a! hb
 have B1:Exts (cl.map (·.2)) H2:=λb hb=>⟨_,Km b hb⟩;have Kn:∀b u,H1 b=A? u->b∉cl.map (·.2):=λb u z hb=>by rw[CH b hb]at z;cases z
 have OE:HOk X.prog X.w H2 s1.1:=λa o ea=>by
  by_cases hb:a∈cl.map (·.2)
  .rw[Km a hb]at ea;cases ea;obtain⟨v,o,h1,h2⟩:=Bp a hb
   exact⟨⟨D?,by rw[h1];rfl⟩,⟨o,h1⟩,λg1 g2 z y=>by
    obtain⟨ob,Jq⟩:=ZY.mp z.2;have:=y ob Jq;exact⟨by rw[this,<-Jq];exact z.1,by rw[this];rfl⟩⟩
  .rw[BD a hb]at ea;exact(I1.hok a o ea).stay (λ_ _ _ z=>z) (λb z=>by rw[BD b (Kn b _ z)];exact z) λb xs z=>by rw[BD b (Kn b _ z)];exact z
 have BN:∀b o,X.base.get? b=A? o->b∉cl.map (·.2):=λb o z hb=>by
  obtain⟨y,hy⟩:=AE b hb;have h1:=I1.ok.cab y b (oc.fn y b hy) (oc.look y b hy);exact g! (XN (Xb z) (Xs I1.ok.bsz h1)) (Ys _)
 have Ko:∀b∈frs X.stack,b∉cl.map (·.2):=λb hb hc=>by
  obtain⟨y,hy⟩:=AE b hc;rcases W8.mp (I1.stkSub b hb)with z|z
  .exact I1.cne y b (oc.look y b hy) z
  .obtain⟨_,o,ho,_⟩:=I1.ok.funs.mem z;have h1:=I1.ok.cab y b (oc.fn y b hy) (oc.look y b hy);exact g! (XN (Xb ho) h1) (Ys _)
 have e0:=I1.env0;have e2:Env0 X.prog X.w X.K X.mg X.base X.A X.stack s1 H2:=⟨e0.frames,e0.mod,λb o z=>⟨(e0.bs b o z).1,by rw[BD b (BN b o z)];exact(e0.bs b o z).2⟩,e0.bsz,e0.funs,λb hb=>by rw[BD b (Ko b hb)];exact e0.frf b hb,OE,e0.bare⟩
 have OF:Trk X Z cl H1 H2:=by
  refine⟨CH,BD,B1,λi y v c hN OD hc=>?_⟩;have RI:(y,c)∈cl:=Yl hc;have UN:=oc.look y c RI;have FR:=oc.kind y c RI;obtain⟨m,hn,hl⟩:=I1.loc;obtain⟨u,ru,l⟩:=hl i y v hN OD (.inr (.inl FR));rcases l with⟨z,_⟩|⟨_,c2,B5,z⟩
  .rw[FR]at z;cases z
  .rw[UN]at B5;cases B5;refine⟨_,Km c (jV hc),λh z'=>⟨u,ru,?_⟩⟩;obtain⟨o,ho,hd⟩:=z;exact⟨o,by rw[z'.1];exact ho,hd⟩
 have BZ:=q H2 OF;have hl:us.length=ps.length:=by rw[<-r.length];exact F.len _ _ _ _ BZ
 have AB:=hb s1 us I1.kIn (by rw[XA];exact hl);rw[XA]at AB;refine wpAny_call (codeAny_mono (F.run X.A X.stack s1 H2 ⟨us,[]⟩ us vs _ _ hr e2 AB r BZ) λrr s' hq=>?_);cases rr with
 |error e=>exact YE hq
 | ok fl =>
   cases fl with
   |next=>exact YE hq
   |brk=>exact YE hq
   |cont=>exact YE hq
   | ret u =>
     obtain⟨v,H3,os,bare,un,Kp,rv,hS,q3⟩:=hq;have UO:Exts (cl.map (·.2)) H3:=λb hb=>⟨_,(hS b hb).trans (Km b hb)⟩;have kS:∀b∈cl.map (·.2),s'.1.get? b=s1.1.get? b:=λb hb=>((Kp b _ ((hS b hb).trans (Km b hb))).1).1;refine⟨v,fgt (cl.map (·.2)) H3,I1.call' (ch:=[]) os ⟨λb o z n hb AY=>?_,λb o z n hb AY=>?_,λb o z n AY=>?_,λb o z AY=>un.there b o z AY,λb xs z=>?_,λb o u' z=>?_,λb pp z=>?_⟩ (Kp.fgt UO) bare (λb z=>by cases z),rv,q3⟩
     .by_cases hc:b∈cl.map (·.2)
      .rw[kS b hc];exact z
      .exact un.keep b o z (by rw[BD b hc];exact n) hb AY
     .exact un.slot b o z (by rw[BD b (Ko b hb)];exact n) hb AY
     .by_cases hc:b∈cl.map (·.2)
      .exact jQ hc
      .rw[bX hc];exact un.free b o z (by rw[BD b hc];exact n) AY
     .have hc:=Kn b _ z;rw[bX hc];exact un.tups b xs (by rw[BD b hc];exact z)
     .have hc:=Kn b _ z;rw[bX hc];exact un.frzs b o u' (by rw[BD b hc];exact z)
     .have hc:=Kn b _ z;rw[bX hc];exact un.tbls b pp (by rw[BD b hc];exact z)
end
theorem Fun.okT{st:Stmt}{k:Nat}(F:Fun K x qual st f fd)(hc:fd.code=.ref c)(S:dX N ps (aO st))(len:∀vs H Q E,sp vs H Q E->vs.length=ps.length)
 (Bd:∀(A:XI)(outer:List Env)(s:WX)(H:Hp)(vs:List V)(Q:VK)(E:XK),Room k (A.deeper (envOfC qual (aO st) s.1.1.size f (.ref c)))->sp vs H Q E ->
  ∃t,PSs (pU CX0 P w K mg base N qual (aO st) f (.ref c) A outer s H E).nox (bR st) t/\t {nx:=λ_ H'=>Q .non H',rt:=Q} (start N vs) H):aT P w K mg base CX0 (k+1) f fd ps sp:=by
 obtain⟨oc,od,kV,doc,pm,an,Ag,ct,Fi,rfl,lk,Cg⟩:=F.ex;have AQ:Ag=.ref c:=hc;subst AQ;refine yY lk Cg S len λA outer s H vs Q E hr BZ=>?_;obtain⟨t,h,q⟩:=Bd A outer s H vs Q E hr BZ;exact⟨t,h.nox,q⟩
theorem xW{st:Stmt}{P:WQ}(F:Fun K x qual st f fd)(hn:PySem.W.nsIn K Yn x=A? (A? (.ref f)))(ht:PySem.W.tabIn K x=A? (c,P)):fd.code=.ref c:=by
 obtain⟨oc,od,kV,doc,pm,an,Ag,ct,Fi,rfl,lk,Cg⟩:=F.ex;unfold PySem.W.tabIn at ht;rw[hn]at ht;simp only[lk]at ht;show Ag=.ref c;cases Ag with
 | ref c2 =>
   simp only[PySem.W.fnOf]at ht;split at ht
   .split at ht
    .cases ht;rfl
    .cases ht
   .cases ht
 |_=>simp[PySem.W.fnOf]at ht
theorem uM{mb:Xp->Option WT}{k:Nat}{fa T:WQ}{Ac:WX}{vs:List WT}
 (KX:K.In Ac.heap) (CM:Ac.heap.Ns Yn mg) (hb:Ac.heap.Ns builtinsNs mb) (UP:∀x:Xp,x≠"__name__"->mb x=bootBuiltins x) (HS:Ac.heap.NoLimit) (hg:Ac.gens=#[])
 (ha:Ac.heap.get? a=A? {cls:=.type "list",data:=.seq vs.toArray}) (hi:IntsAre vs ns) (hl:ns.length<=Xf) (hr:Room k callerA)
 (hC:PySem.W.CodeHd Ac.heap c T) (hT:Ac.heap.get? T=A? (PySem.W.tabObj #[])) (AV:Ac.heap.BuiltinsAt mg T) (OG:K.lookup T=B?)
 (F:∀base:Yh,K.In base->base.Ns Yn mg->Lam mg base c T->aT P w K mg base CX k fa fd [x] sp) (Kq:∀(s:WX)(u:WT),BindsTo s fd ⟨[u],[]⟩ [(x,u)])
 (BZ:∀H:Hp,SqL K H a (ns.map q!)->H T=A? (.tbl #[])->sp [.ref a] H (λv _=>v=.bl C?) λ_ _ _=>False)
 (OH:∀H e s',CX [] H Ac (λ_ _ _=>False) e s'->False) :
 codeAny (Xw P w) callerA (.call (.ref fa) ⟨[.ref a],[]⟩) (λr s'=>r=.ok (.ret (.bool C?))/\OldK Ac.heap s'.1/\s'.os=Ac.os/\AllBare s'.gens) Ac:=by
 have rv:=mX hi;have OI:=hi.length;have RJ:a≠T:=λz=>by rw[z,hT]at ha;cases ha
 have core:∀H:Hp,(∀b,H b=B?\/(∃o xs,H b=A? (.frz o (.lst xs)))\/(b=T/\H b=A? (.tbl #[])))->H T=A? (.tbl #[])->SqL K H a (ns.map q!)->HOk P w H Ac.heap->(∀b,H b≠B?->b=a\/b=T)->(H a≠B?->K.lookup a=B?) ->
  codeAny (Xw P w) callerA (.call (.ref fa) ⟨[.ref a],[]⟩) (λr s'=>r=.ok (.ret (.bool C?))/\OldK Ac.heap s'.1/\s'.os=Ac.os/\AllBare s'.gens) Ac:=by
  intro H hO OJ hS hok hA hK;have BJ:∀{b:WQ}{o:Zb},Ac.heap.get? b=A? o->H b=B?->(mP Ac.heap H).get? b=A? o:=λe n=>vF e n
  have OK:∀{b:WQ}{o:Zb},Ac.heap.get? b=A? o->(∀xs n,o.data≠.seq xs n)->(∀xs,o.data≠.fields xs\/o.cls≠.none)->H b=none:=λ{b o}e d1 d2=>by
   cases q:H b with
   |none=>rfl
   | some u =>
     rcases hA b (by rw[q];simp)with e'|e'
     .subst e';rw[ha]at e;cases e;exact g! rfl (d1 _ _)
     .subst e';rw[hT]at e;cases e;rcases d2 #[]with z|z
      .exact g! rfl z
      .exact g! rfl z
  have MQ:∀{b:WQ}{m:Xp->Option WT},Ac.heap.Ns b m->(mP Ac.heap H).Ns b m:=λ{b m}⟨o,es,ep,e,d,r⟩=>⟨o,es,ep,BJ e (OK e (λxs n=>by rw[d];exactλz=>nomatch z) (λxs=>.inl (by rw[d];exactλz=>nomatch z))),d,r⟩
  have RK:K.In (mP Ac.heap H):=λb o e=>BJ (KX b o e) (by
   cases q:H b with
   |none=>rfl
   | some u =>
     rcases hA b (by rw[q];simp)with e'|e'
     .subst e';rw[hK (by rw[q];simp)]at e;cases e
     .subst e';rw[OG]at e;cases e)
  have hM:Mod K mg (mP Ac.heap H):=⟨RK,MQ CM,⟨mb,MQ hb,UP⟩,let⟨mc,h1,h2⟩:=HS;⟨mc,MQ h1,h2⟩⟩
  have hL:Lam mg (mP Ac.heap H) c T:=by
   refine⟨?_,?_⟩
   .obtain⟨o,UQ,file,tf,flags,tg,UR,text,tt,e1,r1,r2,r3⟩:=hC;exact⟨o,UQ,file,tf,flags,tg,UR,text,tt,BJ e1 (OK e1 (λxs n=>by rw[r2];exactλz=>nomatch z) (λxs=>.inr (by rw[r1];exactλz=>nomatch z))),r1,r2,r3⟩
   .obtain⟨bm,o,h1,h2,h3,h4,h5,h6,h7,h8⟩:=AV;exact⟨bm,o,h1,h2,h3,h4,BJ h5 (OK h5 (λxs n=>by rw[h8];exactλz=>nomatch z) (λxs=>.inl (by rw[h8];exactλz=>nomatch z))),h6,h7,h8⟩
  have e0:Env0 P w K mg (mP Ac.heap H) callerA [] Ac H:=⟨rfl,hM,λb o e=>yd e,Nat.le_of_eq (uU _ _),trivial,λb hb=>g! (show b∈([]:List WQ)from hb) (by simp),hok,.of_eq hg⟩;refine codeAny_mono ((F _ RK (MQ CM) hL).run callerA [] Ac H ⟨[.ref a],[]⟩ [.ref a] [.ref a] _ _ hr e0 (Kq Ac (.ref a)) (.cons rfl .nil) (BZ H hS OJ)) λr s' h=>?_;cases r with
  |error e=>exact(OH H e s' h).elim
  | ok fl =>
    cases fl with
    |next=>exact YE h
    |brk=>exact YE h
    |cont=>exact YE h
    | ret u =>
      obtain⟨v,H',os,bare,un,Kr,r',q⟩:=h;have q':v=.bl true:=q;subst q';obtain rfl:u=Value.bool true:=r';refine⟨D?,⟨λb o e=>?_,λb o e=>un.there b o e (by simp)⟩,os,bare⟩;cases q:H b with
      |none=>exact .inl (un.keep b o e q (by intro z;exact g! (show b∈([]:List WQ)from z) (by simp)) (by simp))
      | some u =>
        rcases hO b with z|⟨ob,xs,z⟩|⟨rfl,z⟩
        .rw[q]at z;cases z
        .have z2:=un.frzs b ob _ z;obtain⟨e1,_⟩:=hok b _ z;obtain⟨e2,_⟩:=Kr b _ z2;rw[e]at e1;cases e1;exact .inl e2
        .obtain⟨more,z2⟩:=un.tbls b _ z;have e2:s'.1.get? b=A? {cls:=.none,data:=.fields (#[]++more)}:=Kr b _ z2;rw[hT]at e;cases e;exact .inr (.inl ⟨(hC.tab hT).isCodeTable,rfl,#[],more,rfl,e2⟩)
 have okT:∀H:Hp,ObjOk P w H Ac.heap T (.tbl #[]):=λ_=>hT;cases hk:K.lookup a with
 | some o =>
   have e:=KX a o hk;rw[ha]at e;cases e;refine core (λb=>if b=T then A? (.tbl #[])else B?) (λb=>?_) (b! rfl) (.inr ⟨_,vs.toArray,_,hk,rfl,rfl,rfl,by rw[W3,OI];exact hl,by simpa using rv⟩) (λb u z=>?_) (λb z=>?_) λz=>g! (a! RJ) z
   .by_cases hb:b=T
    .exact .inr (.inr ⟨hb,b! hb⟩)
    .exact .inl (a! hb)
   .by_cases hb:b=T
    .have z':=(b! hb).symm.trans z;cases z';rw[hb];exact okT _
    .have z':=(a! hb).symm.trans z;cases z'
   .by_cases hb:b=T
    .exact .inr hb
    .exact g! (a! hb) z
 | none =>
   refine core (λb=>if b=T then A? (.tbl #[])else if b=a then A? (.frz {cls:=.type "list",data:=.seq vs.toArray} (.lst (ns.map q!)))else B?) (λb=>?_) (b! rfl) (.inl (.inr ⟨{cls:=.type "list",data:=.seq vs.toArray},(a! RJ).trans (b! rfl)⟩)) (λb u z=>?_) (λb z=>?_) λ_=>hk
   .by_cases hb:b=T
    .exact .inr (.inr ⟨hb,b! hb⟩)
    .by_cases AB:b=a
     .exact .inr (.inl ⟨_,_,(a! hb).trans (b! AB)⟩)
     .exact .inl ((a! hb).trans (a! AB))
   .by_cases hb:b=T
    .have z':=(b! hb).symm.trans z;cases z';rw[hb];exact okT _
    .have z':=(a! hb).symm.trans z;by_cases AB:b=a
     .have z2:=(b! AB).symm.trans z';cases z2;subst AB;exact⟨ha,by rw[WM];exact hl,vs,_,rv,ha⟩
     .have z2:=(a! AB).symm.trans z';cases z2
   .by_cases hb:b=T
    .exact .inr hb
    .by_cases AB:b=a
     .exact .inl AB
     .exact g! ((a! hb).trans (a! AB)) z
def tabAt(o:Zb):Option WQ:=match o.data with
 | .fields vs=>(match(vs[11]?:Option WT)with
   |some (.ref P)=>A? P
   |_=>B?)
 |_=>B?
theorem zu{T:WQ}{sl:Array (Option WT)}{ot:Zb}(hn:PySem.W.nsIn K Yn x=A? (A? (.ref f)))(hl:K.lookup f=A? ⟨oc,od,.func fd,sl⟩)(hc:fd.code=.ref c)(ho:K.lookup c=A? ot)(ht:tabAt ot=A? T):PySem.W.tabIn K x=A? (c,T):=by
 unfold PySem.W.tabIn;rw[hn];simp only[hl,hc,ho];obtain⟨o1,o2,o3,o4⟩:=ot;unfold tabAt at ht;cases o3 with
 | fields vs =>
   simp only at ht |-;split at ht
   .rename_i e
    cases ht;simp only[e]
   .cases ht
 |_=>cases ht
theorem wZ{l:PySem.W.OpenLaw}{k:Nat}{q:W5}{d dt:DefRec}{K:Params->WO}{CX:Xq->CXT}{sp:Xq->WQ->Sp}{tn:Xp}
 (hn:l.most=A? n) (JQ:n<=Xf) (JW:d.params.defaults=[]) (hr:Room k callerA) (hq:(recsOf q).find? (λe=>e.name == tn)=A? dt)
 (hY:∀(w:Xq)(h:Yh),YP w h->(K w.params).In h)
 (F:∀(w:Xq)(mg:Xp->Option WT)(fa:WQ)(h:Yh),(K w.params).In h->h.Ns Yn mg->mg d.name=A? (.ref fa) ->
  ∃(fd:ZU)(c T:WQ),(∀(s:WX)(u:WT),BindsTo s fd ⟨[u],[]⟩ [(x,u)])/\PySem.W.tabIn (K w.params) tn=A? (c,T)/\(K w.params).lookup T=B? /\
    ∀base:Yh,(K w.params).In base->base.Ns Yn mg->Lam mg base c T->aT l.prog w (K w.params) mg base (CX w) k fa fd [x] (sp w T))
 (BZ:∀(w:Xq)(T:WQ)(H:Hp)(a:WQ)(ns:List Int),ns.length<=n->SqL (K w.params) H a (ns.map q!)->H T=A? (.tbl #[])->sp w T [.ref a] H (λv _=>v=.bl C?) λ_ _ _=>False)
 (OH:∀(w:Xq)(H:Hp)(s:WX)(e:WT)(s':WX),CX w [] H s (λ_ _ _=>False) e s'->False) :
 PySem.W.WalkO q loose XP YP l.row.toRowW d [] (λf vs=>PySem.call f vs):=by
 refine Att.attach_call hn JW λw s₀ Ac mg mb fa o pm cd doc a vs ns G Y ho hd Cg NW Hu hints hlen hg=>?_;have KX:=hY w _ Y;obtain⟨fd,c,T,hb,ht,OG,hF⟩:=F w mg fa _ KX G.T.g NW;obtain⟨hC,hT⟩:=PySem.W.tab_of G.T KX hq ht
 have AV:Ac.heap.BuiltinsAt mg T:=by
  obtain⟨bm,ob,b1,b2,b3,b4,b5,b6⟩:=G.T.bmain;refine⟨bm,ob,b1,b2,λz=>?_,λz=>?_,b3,b4,b5,b6⟩
  .obtain⟨o',es,ep,e,d',_⟩:=G.T.g;rw[z,e]at b3;cases b3;rw[d']at b6;cases b6
  .rw[z,hT]at b3;cases b3;cases b4
 exact uM KX G.T.g G.T.b G.T.builtins G.T.nolimit hg Hu hints (Xs hlen JQ) hr hC hT AV OG hF hb (λH hS OJ=>BZ w T H a ns hlen hS OJ) λH e s'=>OH w H Ac e s'
end L2
namespace BB
open PySem L2
def mW:Th->Option (Int×Int)
 |.knot _ _=>B?
 |.call s k=>A? (s,k)
def dW(t:Th):List (Int×Int):=t.walk.filterMap mW
def stT(t:Th):List Int:=(dW t).map (·.1)
def bK(ts:List Th):List Int:=ts.flatMap stT
theorem gB(s k:Int):stT (.call s k)=[s]:=rfl
theorem eR(n:Xp)(ks:List Th):stT (.knot n ks)=bK ks:=by
 unfold stT dW bK;rw[Th.walk,Z3];show((walks ks).filterMap mW).map (·.1)=_;induction ks with
 |nil=>rfl
 | cons t ts ih =>
   rw[walks,List.filterMap_append,Xa,ih];rfl
def gC(m:List Int)(s:Int):List Int:=if s∈m then m else m++[s]
def bo(m l:List Int):List Int:=l.foldl gC m
theorem cU(m a b:List Int):bo m (a++b)=bo (bo m a) b:=List.foldl_append
theorem qk(m:List Int)(s:Int):m <+: gC m s:=by
 unfold gC;split
 .exact List.prefix_refl _
 .exact List.prefix_append _ _
theorem eI(l:List Int):∀m:List Int,m <+: bo m l:=by
 induction l with
 |nil=>exactλm=>List.prefix_refl _
 |cons s l ih=>exactλm=>(qk m s).trans (ih _)
theorem xm{s x:Int}:x∈gC m s↔x∈m\/x=s:=by
 unfold gC;split
 .rename_i h
  exact⟨.inl,λz=>z.elim id λy=>y ▸ h⟩
 .rw[Xz,W9]
theorem eQ{l:List Int}:∀{m:List Int}{x:Int},x∈bo m l↔x∈m\/x∈l:=by
 induction l with
 |nil=>intro m x;simp[bo]
 | cons s l ih =>
   intro m x;show x∈bo (gC m s) l↔_;rw[ih,xm,W8,or_assoc]
theorem yC{s:Int}(h:m.Nodup):(gC m s).Nodup:=by
 unfold gC;split
 .exact h
 .rename_i hs
  refine List.nodup_append.mpr ⟨h,by simp,λa ha b hb e=>?_⟩;rw[W9.mp hb]at e;exact hs (e ▸ ha)
theorem oV{l:List Int}:∀{m:List Int},m.Nodup->(bo m l).Nodup:=by
 induction l with
 |nil=>exactλh=>h
 |cons s l ih=>exactλh=>ih (yC h)
def bfs(R:Int->List Th):Nat->List Int->Nat->List Int
 |0,m,_=>m
 | n+1,m,i=>match m[i]? with
   |none=>m
   |some s=>bfs R n (bo m (bK (R s))) (i+1)
theorem gX(R:Int->List Th):∀(n:Nat)(m:List Int)(i:Nat),m <+: bfs R n m i
 |0,m,i=>List.prefix_refl _
 | n+1,m,i=>by
   rw[bfs];split
   .exact List.prefix_refl _
   .exact(eI _ _).trans (gX R n _ _)
theorem xA(R:Int->List Th):∀(n:Nat)(m:List Int)(i:Nat),m.Nodup->(bfs R n m i).Nodup
 |0,m,i,h=>h
 | n+1,m,i,h=>by
   rw[bfs];split
   .exact h
   .exact xA R n _ _ (oV h)
theorem vA(R:Int->List Th)(p:Int->Prop)(hR:∀s,p s->∀x∈bK (R s),p x):∀(n:Nat)(m:List Int)(i:Nat),(∀x∈m,p x)->∀x∈bfs R n m i,p x
 |0,m,i,h=>h
 | n+1,m,i,h=>by
   rw[bfs];split
   .exact h
   .rename_i s hs
    refine vA R p hR n _ _ λx hx=>?_;rcases eQ.mp hx with z|z
    .exact h x z
    .exact hR s (h s (WS hs)) x z
theorem tR(R:Int->List Th)(n:Nat)(m:List Int)(i:Nat)(h:m.length<=i):bfs R n m i=m:=by
 cases n with
 |zero=>rfl
 |succ n=>rw[bfs,ZF h]
def idx(M:List Int)(s:Int):Int:=(M.idxOf s:Nat)
theorem tY{M:List Int}(h:m <+: M){s:Int}(hs:s∈m):idx M s=idx m s:=by
 obtain⟨r,rfl⟩:=h;unfold idx;rw[List.idxOf_append,b! hs]
def ren(g:Int->Int)(t:Th):Th:=t.fill λs k=>.call (g s) k
theorem iM(g:Int->Int)(s k:Int):ren g (.call s k)=.call (g s) k:=by unfold ren;rw[A!]
theorem eF(f:Int->Int->Th):∀ts:List Th,fills f ts=ts.map (·.fill f)
 | []=>rfl
 |t::ts=>by rw[fills,eF f ts];rfl
theorem iK(g:Int->Int)(n:Xp)(ks:List Th):ren g (.knot n ks)=.knot n (ks.map (ren g)):=by
 unfold ren;rw[A!,eF]
theorem lb{t:Th}{x:Int}(ht:t∈ts)(hx:x∈stT t):x∈bK ts:=List.mem_flatMap.mpr ⟨t,ht,hx⟩
mutual
theorem r6{g h:Int->Int}:∀t:Th,(∀s∈stT t,g s=h s)->ren g t=ren h t
 |.call s k,e=>by rw[iM,iM,e s (by rw[gB];exact W9.mpr rfl)]
 | .knot n ks,e=>by
   rw[iK,iK,tK ks λs hs=>e s (by rw[eR];exact hs)]
theorem tK{g h:Int->Int}:∀ts:List Th,(∀s∈bK ts,g s=h s)->ts.map (ren g)=ts.map (ren h)
 | [],_=>rfl
 | t::ts,e=>by
   rw[XB,XB,r6 t λs hs=>e s (XT _ hs),tK ts λs hs=>e s (XH _ hs)]
end
mutual
theorem pN(g:Int->Int):∀t:Th,(ren g t).size=t.size/\(ren g t).tall=t.tall
 |.call s k=>by rw[iM,p!,p!,t!,t!];exact⟨D?,D?⟩
 | .knot n ks=>by
   have:=nD g ks;rw[iK,p!,p!,t!,t!,this.1,this.2];exact⟨D?,D?⟩
theorem nD(g:Int->Int):∀ts:List Th,aq (ts.map (ren g))=aq ts/\aJ (ts.map (ren g))=aJ ts
 | []=>⟨rfl,rfl⟩
 | t::ts=>by
   have h1:=pN g t;have h2:=nD g ts;rw[XB,aq,aq,aJ,aJ,h1.1,h1.2,h2.1,h2.2];exact⟨D?,D?⟩
end
def rowOf(rows:List (List Th))(s:Int):List Th:=rows.getD s.toNat []
theorem lK{R:Int->List Th}:∀(n:Nat)(m:List Int)(i:Nat),(bfs R n m i).length<i+n->(∀j s,j<i->m[j]?=A? s->∀x∈bK (R s),x∈bfs R n m i)->∀s∈bfs R n m i,∀x∈bK (R s),x∈bfs R n m i
 | 0,m,i,hl,h=>λs hs x hx=>by
   obtain⟨j,hj⟩:=Xj.mp hs;have GN:=(glE hj);exact h j s (by rw[bfs]at hl GN;lia) hj x hx
 | n+1,m,i,hl,h=>by
   rw[bfs]at hl h |-;cases hi:m[i]? with
   | none =>
     rw[hi]at h;intro s hs x hx;obtain⟨j,hj⟩:=Xj.mp (show s∈m from hs);have GN:=(glE hj);have:=List.getElem?_eq_none_iff.mp hi;exact h j s (by lia) hj x hx
   | some s0 =>
     rw[hi]at hl h
     have Ho:(bfs R n (bo m (bK (R s0))) (i+1)).length<i+1+n:=by
      have:(bfs R n (bo m (bK (R s0))) (i+1)).length<i+(n+1):=hl;lia
     refine lK n (bo m (bK (R s0))) (i+1) Ho λj s hj RL x hx=>?_;have hp:=gX R n (bo m (bK (R s0))) (i+1);have CU:=(glE hi)
     have hm:m[j]?=A? s:=by
      obtain⟨r,hr⟩:=eI (bK (R s0)) m;rw[<-hr,X0 (by lia)]at RL;exact RL
     by_cases OL:j=i
     .rw[OL,hi]at hm;cases hm;exact hp.subset (eQ.mpr (.inr hx))
     .exact h j s (by lia) hm x hx
end BB
namespace L2
open PySem PySem.Spec PySem.SeqAt PyProof.Rows
theorem pW{k l:Key}{v:WT}(hu:im k u=C?)(hv:im l v=C?):EqAt A s u v (decide (k=l)):=by
 rcases bv hu with⟨i,t,rfl,rfl⟩|⟨x,t,rfl,rfl⟩
 .rcases bv hv with⟨j,t',rfl,rfl⟩|⟨y,t',rfl,rfl⟩
  .have:decide ((Xo i:Key)=Xo j)=(i == j):=by
    by_cases h:i=j
    .subst h;simp
    .rw[c! (λz=>h (YL z)),beq_eq_false_iff_ne.mpr h]
   rw[this];exact EqAt.int_int i t j t'
  .rw[c! (λz=>nomatch z)];exact EqAt.int_str i t y t'
 .rcases bv hv with⟨j,t',rfl,rfl⟩|⟨y,t',rfl,rfl⟩
  .rw[c! (λz=>nomatch z)];exact EqAt.str_int x t j t'
  .have:decide ((Zu x:Key)=Zu y)=(x == y):=by
    by_cases h:x=y
    .subst h;simp
    .rw[c! (λz=>h (Sum.inr.inj z)),beq_eq_false_iff_ne.mpr h]
   rw[this];exact EqAt.str_str x t y t'
theorem jM:∀{ks:List Key}{vs:List WT}{j:Nat}{k:Key}{v:WT},ItemsAre (au P w) ks vs->ks[j]?=A? k->vs[j]?=A? v->im k v=C?
 |_,_,0,k,v,.cons h _,e1,e2=>by cases e1;cases e2;exact h
 |_,_,j+1,k,v,.cons _ h,e1,e2=>jM (j:=j) h e1 e2
theorem uO{x y:List Key}(hx:IsTupleKey (au P w) s.1 x a)(hy:IsTupleKey (au P w) s.1 y b)(hu:A.units<YK):EqAt A s (.ref a) (.ref b) (decide (x=y)):=by
 by_cases CC:a=b
 .subst CC;obtain rfl:=hx.inj hy;rw[d! rfl];exact EqAt.same _
 .obtain⟨o,its,n,ho,hc,hd,hi⟩:=hx;obtain⟨o',its',n',BG,AQ,BH,AF⟩:=hy;have p1:s.1.IsTuple a its.toList.toArray:=⟨o,ho,hc,n,by rw[hd]⟩;have p2:s.1.IsTuple b its'.toList.toArray:=⟨o',BG,AQ,n',by rw[BH]⟩;have:=iE (ds:=x) (es:=y) p1 p2 hi.length.symm AF.length.symm hu λj d e u v e1 e2 e3 e4=>pW (A:=A.in1) (s:=s) (jM hi e1 e3) (jM AF e2 e4);exact EqAt.of_refs CC this
abbrev ay:=List Key×Key
theorem rW{m:Nat}{ks:List Key}{Q:Bool->WX->Prop}(hk:IsTupleKey (au P w) s.1 ks a)(h:Q C? s):W7 (Xw P w) A (eqIsQuiet (m+1) (.ref a)) Q E s:=by
 have hT:=hk.typeIs;obtain⟨o,items,n,ho,_,hd,hi⟩:=hk;unfold eqIsQuiet;refine WN (Yr hT F.slot_tuple_eq.lookup ?_);show W7 _ _ (isInstance (.ref a) (.type "tuple") >>= _) _ _ s;refine WN (ZJ hT isSubtype_tuple_tuple ?_);simp only[Bool.not_true,Ye,if_false];refine WN (YC ho hd ?_);refine WN ?_;show W7 _ _ (forIn items _ _) _ _ s;rw[<-Array.forIn_toList];refine wpAny_forIn_list _ (λrest r s'=>r.1=B?/\s'=s/\∀v∈rest,carriedByValue v=C?) _ ?_ ?_ _ _ ⟨rfl,rfl,hi.byValue⟩
 .rintro v rest r s' ⟨hr,rfl,Aa⟩;rw[eqIsQuiet_byValue _ (Aa v Xh)];refine WN (WW ?_);simp only[Bool.not_true,Ye,if_false];exact WW ⟨rfl,rfl,λu B8=>Aa u (Xe _ B8)⟩
 .rintro⟨r1,r2⟩ s' ⟨hr,rfl,_⟩;simp only at hr;subst hr;exact WW h
section
variable{X:Cx}{o i value:X9}{td ty tv:TE}
end
end L2
variable{f':List (L2.ay×L2.V)}{Al:List L2.ay}
namespace BB
open PySem L2
theorem FitSs.mem'{ks:List (Xp×Int)}:∀{ts:List Th},FitSs ks S C ts->∀t∈ts,t.FitS ks S C
 | [],_,t,ht=>by cases ht
 | u::us,h,t,ht=>by
   rw[FitSs]at h;rcases W8.mp ht with e|e
   .rw[e];exact h.1
   .exact FitSs.mem' h.2 t e
structure yk(ins outs:List (Xp×Int))(S:Int)(rows:List (List Th)):Prop where
 len:(rows.length:Int)=S
 row:∀row∈rows,row.length=ins.length/\∀(j:Nat)(p:Th)(k:Xp×Int),row[j]?=A? p->ins[j]?=A? k->p.FitS outs S k.2
mutual
def cnT:Th->Nat
 |.knot _ ks=>cM ks
 |.call _ _=>1
def cM:List Th->Nat
 | []=>0
 |t::ts=>cnT t+cM ts
end
structure Small(t:Th):Prop where
 tall:t.tall<=20
 kn:t.kn<=400
 cn:cnT t<=200
theorem yU(t:Th):t.kn=(if t.isCall=C? then 0 else 1)+kns t.kids:=by
 cases t with
 |knot n ks=>rw[Th.kn,Th.isCall,L!,a! W6];lia
 |call s k=>rw[Th.kn,Th.isCall,L!,b! rfl,kns]
theorem yX(t:Th):cnT t=(if t.isCall=C? then 1 else 0)+cM t.kids:=by
 cases t with
 |knot n ks=>rw[cnT,Th.isCall,L!,a! W6];lia
 |call s k=>rw[cnT,Th.isCall,L!,b! rfl,cM]
theorem mr(a b:List Th):kns (a++b)=kns a+kns b:=by
 induction a with
 |nil=>rw[YY,kns];lia
 |cons x a ih=>rw[X7,kns,kns,ih];lia
theorem ko(a b:List Th):cM (a++b)=cM a+cM b:=by
 induction a with
 |nil=>rw[YY,cM];lia
 |cons x a ih=>rw[X7,cM,cM,ih];lia
mutual
theorem pq:∀t:Th,t.size=t.kn+cnT t
 |.knot n ks=>by rw[p!,Th.kn,cnT,qL ks];lia
 |.call s k=>by rw[p!,Th.kn,cnT]
theorem qL:∀ts:List Th,aq ts=kns ts+cM ts
 | []=>by rw[aq,kns,cM]
 |t::ts=>by rw[aq,kns,cM,pq t,qL ts];lia
end
theorem Small.size{t:Th}(h:Small t):t.size<=600:=by
 have:=pq t;have:=h.kn;have:=h.cn;lia
def bS(R:Int->List Th)(head:Th):List Int:=bfs R 21 (bo [] (stT head)) 0
mutual
theorem tH{q:Int->Prop}(f:Int->Int->Th){ks:List (Xp×Int)}(hf:∀s c,0<=s->s<S->0<=c->c<C->∀x∈stT (f s c),q x):∀t:Th,t.FitS ks S C->∀x∈stT (t.fill f),q x
 | .call s c,h,x,hx=>by
   rw[z!]at h;rw[A!]at hx;exact hf s c h.1 h.2.1 h.2.2.1 h.2.2.2 x hx
 | .knot n ts,h,x,hx=>by
   rw[z!]at h;rw[A!,eR]at hx;exact qe f hf ts h.2 x hx
theorem qe{q:Int->Prop}(f:Int->Int->Th){ks:List (Xp×Int)}(hf:∀s c,0<=s->s<S->0<=c->c<C->∀x∈stT (f s c),q x):∀ts:List Th,FitSs ks S C ts->∀x∈bK (fills f ts),q x
 | [],_,x,hx=>by rw[fills]at hx;cases hx
 | t::ts,h,x,hx=>by
   rw[FitSs]at h;rw[fills]at hx;have AY:x∈stT (t.fill f)++bK (fills f ts):=hx;rcases Xz.mp AY with z|z
   .exact tH f hf t h.1 x z
   .exact qe f hf ts h.2 x z
end
theorem om(ok:yk ins outs S rows){l:Int}(h0:0<=l)(h1:l<S):∃row,rows[l.toNat]?=A? row/\rowOf rows l=row/\row.length=ins.length/\∀t∈row,∃C,t.FitS outs S C:=by
 have hl:=ok.len;have hs:l.toNat<rows.length:=by lia
 refine⟨rows[l.toNat],WR hs,?_,(ok.row _ (List.getElem_mem hs)).1,λt ht=>?_⟩
 .unfold rowOf;rw[List.getD,WR hs];rfl
 .obtain⟨hlen,C1⟩:=ok.row _ (List.getElem_mem hs);obtain⟨j,hj⟩:=Xj.mp ht;have GN:=(glE hj);exact⟨_,C1 j t _ hj (WR (by lia))⟩
section
variable{mid:List (Xp×Int)}{S1 S2:Int}{EI EJ:Th}{EK EL:List (List Th)}
theorem xV(R:Int->List Th)(h:Th):(bS R h).Nodup:=xA _ _ _ _ (oV List.nodup_nil)
end
end BB
namespace L2
open PySem PySem.Spec PySem.Calls PyProof.Rows
abbrev lL:Zb:={cls:=.type "frame",data:=.dict #[]}
abbrev uc:Zb:={cls:=.type "cell",data:=.cell B?}
theorem jq{globals:WQ}{closure:List (Xp×WQ)}{binds:List (Xp×WT)}{func:Option WQ}{code:WT}{builtins:WQ}{Q:Env->WX->Prop}
 (hk:scope.kind=.function) (hl:∀x∈binds,scope.names.lookup x.1=A? .local)
 (hQ:∀h',h'.Ns s.1.1.size (λx=>binds.reverse.lookup x)->YF s.1.1.size (pushCells (s.1.push lL) scope.names) h' ->
  Q (newEnv scope s.1.1.size globals (cellsFrom (s.1.1.size+1) scope.names closure) qual func code B? builtins) {s with heap:=h',toks:=s.toks+binds.length}) :
 W7 M A (newFunctionEnv scope globals closure binds qual func code B? builtins) Q E s:=by
 simp only[newFunctionEnv,Option.isSome_none,Ye,if_false];refine WN (wpAny_alloc ?_);refine WN (wpAny_layCells _ (λname kind cells=>by cases US:kind == NameKind.cell <;> simp[US]) _ _ _ _ ?_);rw[show({s with heap:=s.1.push {cls:=.type "frame",data:=.dict #[]}}:WX).heap.1.size=s.1.1.size+1 from X5 ..];refine WN ?_;generalize CK:cellsFrom (s.1.1.size+1) scope.names closure=cs at hQ |-
 refine wpAny_forIn_list _
  (λrest _ s'=>∃done h',binds=done++rest/\s'={s with heap:=h',toks:=s.toks+done.length} /\
   h'.Ns s.1.1.size (λx=>done.reverse.lookup x) /\
   YF s.1.1.size (pushCells (s.1.push lL) scope.names) h') _ ?_ ?_ binds _
  ⟨[],_,rfl,rfl,(Heap.Ns.new ..).keeps (pushCells_keeps _ _),Heap.SameBut.refl ..⟩
 .rintro⟨name,v⟩ rest _ s' ⟨done,h',hb,rfl,CM,De⟩
  have Bb:Env.kindOf {scope,locals:=s.1.1.size,globals,cells:=cs,qual,func,code,frame:=A? s.1.1.size,builtins} name=A? .local :=
   hl (name,v) (by rw[hb];simp)
  have hp:(({scope,locals:=s.1.1.size,globals,cells:=cs,qual,func,code,frame:=A? s.1.1.size,builtins}:Env).scope.kind == .class ||(({scope,locals:=s.1.1.size,globals,cells:=cs,qual,func,code,frame:=A? s.1.1.size,builtins}:Env).scope.kind == .module &&
   ({scope,locals:=s.1.1.size,globals,cells:=cs,qual,func,code,frame:=A? s.1.1.size,builtins}:Env).locals != ({scope,locals:=s.1.1.size,globals,cells:=cs,qual,func,code,frame:=A? s.1.1.size,builtins}:Env).globals))=false:=by
   show(scope.kind == .class ||(scope.kind == .module && _))=Cf;rw[hk];rfl
  simp only[storeName_local Bb hp];refine WN (wpAny_nsSet CM λKb OM ON=>WW ⟨done++[(name,v)],Kb,by simp[hb],?_,?_,De.trans ON⟩)
  .simp[Zv]
  .rw[lookup_reverse_snoc];exact OM
 .rintro _ s' ⟨done,h',hb,rfl,CM,De⟩;rw[XA]at hb;subst hb;exact WW (hQ h' CM De)
def NestAt(H:Hp)(f c':WQ)(name qual:Xp)(params:Arguments)(body:List Stmt)(scope:Z4)(cl:List (Xp×WQ)):Prop:=∃φ,H f=A? (.ext φ)/\∀h:Yh,φ h->∃doc pm DY,h.get? f=A? (PySem.W.fnMade name qual params body scope cl doc pm c' DY)
theorem NestAt.mono(s:Same H H'){c':WQ}{name:Xp}(h:NestAt H f c' name qual params body scope cl):NestAt H' f c' name qual params body scope cl:=by
 obtain⟨φ,h1,h2⟩:=h;exact⟨φ,s _ _ h1,h2⟩
def cxN(P:W5)(w:Xq)(K:WO)(mg:Xp->Option WT)(base:Yh)(N:List Xp)(qual:Xp)(scope:Z4)(f:WQ)(cd:WT)(y:Xp)(cl:List (Xp×WQ))(A:XI)(outer:List Env)(s:WX)(H:Hp):Cx where
 prog:=P
 w:=w
 K:=K
 mg:=mg
 base:=base
 A:=A.deeper (PySem.W.envX qual scope s.1.1.size f cd ((y,s.1.1.size+1)::cl))
 N:=N
 s₀:=s
 H₀:=fgt (cl.map (·.2)) H
 env:=PySem.W.envX qual scope s.1.1.size f cd ((y,s.1.1.size+1)::cl)
 outer:=outer
 stack:=PySem.W.envX qual scope s.1.1.size f cd ((y,s.1.1.size+1)::cl)::outer
 ex:=[]
 calm:=C?
 fn:=λx=>x == y
 pn:=[]
 xe:=λ_ _=>False
structure mT(N ps fs:List Xp)(y:Xp)(cl:List (Xp×WQ))(sc:Z4):Prop where
 kind:sc.kind=.function
 co:sc.isCoroutine=Cf
 gen:sc.isGenerator=Cf
 nd:N.Nodup
 pre:N.take (ps.length+fs.length)=ps++fs
 par:∀x∈ps,sc.names.lookup x=A? .local
 fre:∀x∈fs,sc.names.lookup x=A? .free
 cells:∀n:Nat,cellsFrom n sc.names cl=(y,n)::cl
 push:∀h:Yh,pushCells h sc.names=h.push uc
 cel:∀x,sc.names.lookup x=A? .cell->x=y
 has:∀x,sc.names.lookup x=A? .free->∃c,cl.lookup x=A? c
 inj:∀x z c,cl.lookup x=A? c->cl.lookup z=A? c->x=z
 ney:∀x∈fs,(x == y)=Cf
 neq:∀x,sc.names.lookup x=A? .free->(x == y)=Cf
theorem xX{k:Nat}{c':WQ}{name y:Xp}{fs:List Xp}
 (S:mT N ps fs y cl scope) (bind:∀(doc pm DY:WT)(us:List WT),us.length=ps.length->bindArgs (PySem.W.fnX name qual params body scope cl .none .none doc pm B? (.ref c') DY) ⟨us,[]⟩=pure (ps.zip us))
 (BZ:∀vs H Q E,sp vs H Q E->vs.length=ps.length/\NestAt H f c' name qual params body scope cl/\CodeAt H c' qual/\Exts (cl.map (·.2)) H/\∀x c,cl.lookup x=A? c->∃v,CellAt H c v)
 (Bd:∀(A:XI)(outer:List Env)(s:WX)(H:Hp)(vs:List V)(Q:VK)(E:XK),Room k (A.deeper (PySem.W.envX qual scope s.1.1.size f (.ref c') ((y,s.1.1.size+1)::cl)))->sp vs H Q E ->
  ∃t ws,xZ H cl fs ws/\PSs (cxN P w K mg base N qual scope f (.ref c') y cl A outer s H) body t/\t {nx:=λ_ H'=>(∀b∈cl.map (·.2),H' b=B?)->Q .non (rst (cl.map (·.2)) H H'),rt:=λv H'=>(∀b∈cl.map (·.2),H' b=B?)->Q v (rst (cl.map (·.2)) H H')} (start N (vs++ws)) (fgt (cl.map (·.2)) H)) :
 yL P w K mg base CX0 (k+1) f sp where
 fn:=λA outer s H vs Q E e0 h=>by
  obtain⟨_,⟨φ,h1,h2⟩,_⟩:=BZ _ _ _ _ h;obtain⟨doc,pm,DY,e⟩:=h2 _ (e0.hok f _ h1).1;exact⟨_,_,_,_,e⟩
 run:=λA outer s H us vs Q E hr e0 r h=>by
  obtain⟨hl,⟨φ,h1,h2⟩,⟨ψ,g1,g2⟩,hx,OO⟩:=BZ _ _ _ _ h;obtain⟨doc,pm,DY,ef⟩:=h2 _ (e0.hok f _ h1).1;have UT:=g2 _ (e0.hok c' _ g1).1;have Fj:us.length=ps.length:=by rw[<-r.length];exact hl
  have OP:∀z∈ps.zip us,scope.names.lookup z.1=A? .local:=λ⟨n,v⟩hy=>S.par n (List.of_mem_zip hy).1;refine codeAny_call_function hr.depth ef rfl S.co S.gen rfl UT ?_;rw[show bindArgs _ _=_ from bind doc pm DY us Fj];refine WW (jq S.kind OP λAn CM De=>?_);rw[S.push]at De;have C2:∀b o,s.1.get? b=A? o->An.get? b=A? o:=λb o e=>De.extBut b o (XC (Xb e)) (WU _ (WU _ e));have OQ:(s.1.push lL).objs.size=s.1.1.size+1:=X5 ..;have OR:An.IsCell (s.1.1.size+1) none:=⟨uc,De.extBut _ _ (Nat.ne_of_gt (Nat.lt_succ_self _)) (by rw[<-OQ];exact W4 _ rfl),rfl⟩;refine⟨e0.mod.nolimit.keeps λb o e=>C2 b o (e0.bs b o e).1,codeAny_func ?_⟩;show W7 _ (A.deeper (newEnv scope s.1.1.size Yn (cellsFrom (s.1.1.size+1) scope.names cl) (qual++".<locals>.") (A? f) (.ref c') B? builtinsNs)) _ _ _ _;rw[S.cells];obtain⟨t,ws,hws,ht,hq⟩:=Bd A outer s H vs Q E (hr.deeper _) h;have Ew:fs.length=ws.length:=WZ hws;have AU:ps.length+fs.length<=N.length:=by have:=h! Zm S.pre;rw[XF,Xd]at this;lia
  have Bm:∀x c,cl.lookup x=A? c->c∈cl.map (·.2):=λx c e=>jV e
  have Ai:∀c∈cl.map (·.2),c<s.1.1.size:=λc hc=>by
   obtain⟨HU,e⟩:=hx c hc;exact e0.hok.lt e
  have look:∀x c,((y,s.1.1.size+1)::cl).lookup x=A? c->(x=y/\c=s.1.1.size+1)\/((x == y)=Cf/\cl.lookup x=A? c):=λx c e=>by
   rw[YI]at e;cases hb:x == y with
   |true=>rw[hb]at e;cases e;exact .inl ⟨beq_iff_eq.mp hb,rfl⟩
   |false=>rw[hb]at e;exact .inr ⟨rfl,e⟩
  have GO:∀x c,(x == y)=Cf->cl.lookup x=A? c->((y,s.1.1.size+1)::cl).lookup x=A? c:=λx c hb e=>by
   rw[YI,hb];exact e
  have Ks:((y,s.1.1.size+1)::cl).lookup y=A? (s.1.1.size+1):=by
   rw[YI,beq_self_eq_true]
  have HV:∀x c,((y,s.1.1.size+1)::cl).lookup x=A? c->∃v,An.IsCell c v:=λx c e=>by
   rcases look x c e with⟨_,rfl⟩|⟨_,e⟩
   .exact⟨_,OR⟩
   .obtain⟨v,hv⟩:=OO x c e;obtain⟨u,_,o,ho,hd⟩:=hv.now e0.hok;exact⟨_,o,C2 _ _ ho,hd⟩
  have HW:∀b,H b=B?->fgt (cl.map (·.2)) H b=none:=λb e=>by
   by_cases hb:b∈cl.map (·.2)
   .exact jQ hb
   .rw[bX hb];exact e
  have ndP:ps.Nodup:=by
   have:N.take (ps.length+fs.length)=ps++fs:=S.pre;have h2:(ps++fs).Nodup:=by rw[<-this];exact S.nd.sublist (List.take_sublist _ _)
   exact(List.nodup_append.mp h2).1
  have FU:∀(i:Nat)(x:Xp),i<ps.length+fs.length->N[i]?=A? x->(ps++fs)[i]?=A? x:=λi x hi e=>by
   rw[<-S.pre,List.getElem?_take_of_lt hi];exact e
  have I:Inv (cxN P w K mg base N qual scope f (.ref c') y cl A outer s H) [] (start N (vs++ws)) (fgt (cl.map (·.2)) H) {s with heap:=An,toks:=s.toks+(ps.zip us).length}:=by
   refine⟨⟨e0.mod,S.kind,D?,D?,WV _,λx z c e1 e2=>?_,λx hx=>?_,λx c hf e=>?_,λ_=>hr.hd,Around.frames_deeper e0.frames,.inr ⟨D?,D?⟩,λb z=>(by cases z),λb o e=>⟨(e0.bs b o e).1,?_⟩,e0.bsz,λb _ _ z=>(by cases z),λb z=>(by cases z),e0.funs,λb hb=>?_⟩,
    rfl,e0.bare,Un.kept C2,⟨_,CM,λi x v e1 e2 e3=>?_⟩,HV,?_,λx c e=>?_,λp hp=>(by cases hp),?_,?_⟩
   .rcases look x c e1 with⟨rfl,h1⟩|⟨_,h1⟩ <;> rcases look z c e2 with⟨rfl,h2⟩|⟨_,h2⟩
    .rfl
    .have:=Ai c (Bm _ _ h2);lia
    .have:=Ai c (Bm _ _ h1);lia
    .exact S.inj x z c h1 h2
   .have AY:scope.names.lookup x=A? .cell\/scope.names.lookup x=A? .free:=hx;rcases AY with z|z
    .exact⟨_,by rw[S.cel x z];exact Ks⟩
    .obtain⟨c,hc⟩:=S.has x z;exact⟨c,GO x c (S.neq x z) hc⟩
   .have Kt:(x == y)=true:=hf;rcases look x c e with⟨_,h1⟩|⟨h1,_⟩
    .show s.1.1.size<=c;lia
    .rw[h1]at Kt;cases Kt
   .exact HW b (e0.bs b o e).2
   .exact HW b (e0.frf b hb)
   .have B0:i<(vs++ws).length:=by
     unfold start at e2;by_cases hi:i<(vs++ws).length
     .exact hi
     .rw[Yq (by simpa using hi)]at e2;rw[List.getElem?_replicate]at e2;split at e2 <;> cases e2
    have ha:(vs++ws)[i]?=A? v:=by
     unfold start at e2;rw[X0 (by simpa using B0),WY]at e2;cases e:(vs++ws)[i]? with
     |none=>rw[e]at e2;cases e2
     |some a=>rw[e]at e2;cases e2;rfl
    rw[Xd]at B0;have hp:=FU i x (by lia) e1;by_cases hi:i<vs.length
    .rw[X0 hi]at ha;rw[X0 (by lia)]at hp;obtain⟨u,hu,rv⟩:=r.get ha;exact⟨u,rv,.inl ⟨S.par x (WS hp),qR ndP Fj hp hu⟩⟩
    .rw[Yq (by lia)]at ha;rw[Yq (by lia)]at hp;rw[hl]at ha;obtain⟨w',Fn,c,hc,Bp⟩:=B! hws hp;rw[ha]at Fn;cases Fn;obtain⟨u,ru,o,ho,UU⟩:=Bp.now e0.hok;have hm:=WS hp;exact⟨u,ru,.inr ⟨.inr (S.fre x hm),c,GO x c (S.ney x hm) hc,o,C2 _ _ ho,UU⟩⟩
   .exact HW _ (e0.hok.fresh (WV _))
   .rcases look x c e with⟨_,rfl⟩|⟨_,e⟩
    .exact HW _ (e0.hok.fresh (by lia))
    .exact jQ (Bm x c e)
   .exact(e0.hok.fgt hx).kept C2
   .show(start N (vs++ws)).length=N.length;unfold start;rw[Xd,WM,List.length_replicate,Xd];lia
  refine Y6 (ht [] _ _ _ _ I hq) (λfl s' hs=>?_) λe s' z=>z.elim
  have fin:∀{Ab:St}{H':Hp}{v:V}{u:WT},Inv (cxN P w K mg base N qual scope f (.ref c') y cl A outer s H) [] Ab H' s'->RelV v u->((∀b∈cl.map (·.2),H' b=B?)->Q v (rst (cl.map (·.2)) H H'))->CE outer P w H s Q u s':=λ{Ab H' v u}I' rv q'=>by
   have un:Un (frs outer) [] (fgt (cl.map (·.2)) H) H' s.1 s'.1:=I'.base
   have kS:∀b∈cl.map (·.2),∀o,s.1.get? b=A? o->s'.1.get? b=A? o:=λb hb o e=>un.keep b o e (jQ hb) (λz=>by
    obtain⟨HU,e'⟩:=hx b hb;rw[e0.frf b z]at e';cases e') (by simp)
   have MR:∀b∈cl.map (·.2),H' b=none:=λb hb=>by
    obtain⟨HU,e'⟩:=hx b hb;obtain⟨_,⟨o,ho⟩,_⟩:=e0.hok b _ e';exact un.free b o ho (jQ hb) (by simp)
   have nS:∀b,H b=B?->b∉cl.map (·.2):=λb e hb=>by
    obtain⟨HU,e'⟩:=hx b hb;rw[e]at e';cases e'
   refine⟨v,rst (cl.map (·.2)) H H',I'.os,I'.bare,⟨λb o e n hb AY=>un.keep b o e (HW b n) hb AY,λb o e n hb AY=>un.slot b o e (HW b n) hb AY,λb o e n AY=>?_,λb o e AY=>un.there b o e AY,λb xs e=>?_,λb o u' e=>?_,λb pp e=>?_⟩,HOk.rst e0.hok I'.hok hx kS MR,rv,q' MR⟩
   .rw[dY (nS b n)];exact un.free b o e (HW b n) AY
   .have hb:=hx.out e (by intro HU z;cases z);rw[dY hb];exact un.tups b xs (by rw[bX hb];exact e)
   .have hb:=hx.out e (by intro HU z;cases z);rw[dY hb];exact un.frzs b o u' (by rw[bX hb];exact e)
   .have hb:=hx.out e (by intro HU z;cases z);rw[dY hb];exact un.tbls b pp (by rw[bX hb];exact e)
  cases fl with
  | ret u =>
    obtain⟨v,Ab,H',J,rv,q⟩:=hs;exact fin J rv q
  | next =>
    obtain⟨Ab,H',J,q⟩:=hs;exact fin (v:=V.non) (u:=Yp) J rfl q
  | brk =>
    obtain⟨_,_,_,q⟩:=hs;exact YE q
  | cont =>
    obtain⟨_,_,_,q⟩:=hs;exact YE q
theorem xh{S:List WQ}(s:Same (fgt S H) H'):Same H (rst S H H'):=λb o e=>by
 by_cases hb:b∈S
 .rw[xx hb];exact e
 .rw[dY hb];exact s _ _ (by rw[bX hb];exact e)
theorem wY{S:List WQ}(hn:∀b∈S,H' b=B?):Same H' (rst S H H'):=λb o e=>by
 rw[dY λz=>by rw[hn b z]at e;cases e];exact e
theorem aac{S:List WQ}(hx:Exts S H):BB.KT H (fgt S H):=λb xs e=>by
 rw[bX (hx.out e λφ z=>nomatch z)];exact e
def aaZ(X:Cx)(P:WQ)(i:Nat)(name:Xp)(pos:Z2)(params:Arguments)(body:List Stmt)(scope:Z4)(cl:List (Xp×WQ)):TS:=λD Z H=>TabSt H P pos (X.env.qual++name) /\
 ∀f c' H',SameT P H H'->H' P=A? (.tbl (tabOf pos c'))->CodeAt H' c' (X.env.qual++name)->NestAt H' f c' name (X.env.qual++name) params body scope cl->H f=B?->D.nx (Z.set i (A? (.ref f))) H'
theorem yG{X:Cx}{P:WQ}{name:Xp}(L:Lam X.mg X.base c P)(hN:X.N.Nodup)(hi:X.N[i]?=A? name)(Fo:Loc X.env.scope name)(hc:X.env.code=.ref c)(Bm:closureFor scope X.env=pure cl)
 (GK:params.defaults=[]:=by rfl) (CF:params.kw_defaults=[]:=by rfl) (ha:annTrees params B? X.env=[]:=by rfl) (hq:qualnameIn X.env name name=X.env.qual++name:=by rfl) (RM:X.fn name=C?\/X.env.scope.names.lookup name=A? .local:=by first|exact .inl rfl|exact .inr rfl|assumption) :
 PS X (.FunctionDef name params body [] B? [] scope B? name pos) (aaZ X P i name pos params body scope cl):=by
 intro U s Z H D I h;obtain⟨tab,q⟩:=h;have MS:s.1.Ns Yn X.mg:=I.mod.glob.keeps I.bk;have C:PySem.W.CodeHd s.1 c P:=L.hd.keeps I.bk
 have hb:s.1.BuiltinsAt X.mg P:=by
  obtain⟨bm,o,h1,h2,h3,h4,h5,h6⟩:=L.bl;exact⟨bm,o,h1,h2,h3,h4,I.bk _ _ h5,h6⟩
 refine PySem.W.nestDef_K GK CF ha ?_;rw[hq];rcases tab with hP|⟨c',hP,Dh⟩
 .have MT:s.1.get? P=A? (PySem.W.tabObj #[]):=I.hok P _ hP
  have UW:Yn≠P:=λz=>by
   obtain⟨o,es,ep,e,d,_⟩:=MS;rw[z,MT]at e;cases e;cases d
  refine PySem.W.makeFunction_K Bm I.ok.glob MS hc C MT trivial rfl UW hb λc' DY doc h' tk hx HX Ai Ku MU=>?_;have hsz:s.1.1.size<=h'.objs.size:=Xs HX (ZS Ai);have RN:H c'=none:=I.hok.fresh HX;have nf:H h'.objs.size=none:=I.hok.fresh hsz;have UX:c'≠h'.objs.size:=XC Ai;have UY:P≠c':=λz=>by rw[z,RN]at hP;cases hP
  have UZ:P≠h'.objs.size:=λz=>by rw[z,nf]at hP;cases hP
  obtain⟨ob,Jq⟩:∃ob,ob=PySem.W.fnMade name (X.env.qual++name) params body scope cl doc ((X.mg "__name__").getD .none) c' DY:=⟨_,rfl⟩;rw[<-Jq];have kp:∀b o,b≠P->s.1.get? b=A? o->(h'.push ob).get? b=A? o:=λb o n e=>WU _ (hx b o n e);obtain⟨H',MV⟩:∃H',H'=upd (upd (upd H P (.tbl (tabOf pos c'))) c' (.ext λh=>h.CodeRec (.ref c') (X.env.qual++name))) h'.objs.size (.ext λh=>h.get? h'.objs.size=A? ob):=⟨_,rfl⟩;have eP:H' P=A? (.tbl (tabOf pos c')):=by rw[MV,ai UZ,ai UY,ac]
  have ec:H' c'=A? (.ext λh=>h.CodeRec (.ref c') (X.env.qual++name)):=by rw[MV,ai UX,ac]
  have ef:H' h'.objs.size=A? (.ext λh=>h.get? h'.objs.size=A? ob):=by rw[MV,ac]
  have eo:∀b,b≠P->b≠c'->b≠h'.objs.size->H' b=H b:=λb n1 n2 n3=>by rw[MV,ai n3,ai n2,ai n1]
  have es:∀b o,H b=A? o->b≠P->H' b=A? o:=λb o e n=>by rw[eo b n (λz=>by rw[z,RN]at e;cases e) (λz=>by rw[z,nf]at e;cases e)];exact e
  have un:Un X.fs [] H H' s.1 (h'.push ob):=by
   have nP:∀b,H b=B?->b≠P:=λb n z=>by rw[z,hP]at n;cases n
   refine⟨λb o e n _ _=>kp b o (nP b n) e,λb o e n _ _=>⟨o.slots,kp b o (nP b n) e⟩,λb o e n _=>?_,λb o e _=>?_,λb xs e=>es b _ e (λz=>by rw[z,hP]at e;cases e),λb o u e=>es b _ e (λz=>by rw[z,hP]at e;cases e),λb pp e=>?_⟩
   .rw[eo b (nP b n) (XC (XN (Xb e) HX)) (XC (XN (Xb e) hsz))];exact n
   .by_cases hb:b=P
    .exact⟨_,by rw[hb];exact WU _ MU⟩
    .exact⟨o,kp b o hb e⟩
   .by_cases hb:b=P
    .subst hb;rw[hP]at e;cases e;exact⟨tabOf pos c',by rw[eP];simp⟩
    .exact⟨#[],by rw[es b _ e hb];simp⟩
  have hok:HOk X.prog X.w H' (h'.push ob):=λa o e=>by
   by_cases ha:a=P
   .subst ha;rw[eP]at e;cases e;exact WU _ MU
   by_cases AQ:a=c'
   .subst AQ;rw[ec]at e;cases e;refine⟨Ku.push _,?_,λh1 h2 z k=>?_⟩
    .obtain⟨_,oc,_,_,e1,e2,_⟩:=Ku;cases e1;exact⟨oc,WU _ e2⟩
    .obtain⟨_,oc,vs,t,e1,e2,e3⟩:=z;cases e1;exact⟨_,oc,vs,t,D?,k _ e2,e3⟩
   by_cases Kt:a=h'.objs.size
   .subst Kt;rw[ef]at e;cases e;have MW:ob.isFreed=false:=by rw[Jq];rfl
    exact⟨W4 _ MW,⟨_,W4 _ MW⟩,λh1 h2 z k=>k _ z⟩
   rw[eo a ha AQ Kt]at e;refine(I.hok a o e).stay (λb u hb z=>kp b u ?_ z) (λb z=>es b _ z (λy=>by rw[y,hP]at z;cases z)) λb xs z=>es b _ z (λy=>by rw[y,hP]at z;cases z);rcases hb with hb|hb
   .rw[hb];exact ha
   .exactλy=>by rw[y,hP]at hb;cases hb
  refine gy (v:=.ref h'.objs.size) (I.un un hok) hN hi Fo rfl (λs2 I2=>⟨_,H',I2,q _ c' H' (λb o n e=>es b o e n) eP ⟨_,ec,λ_ z=>z⟩ ⟨_,ef,λ_ z=>⟨_,_,_,by rw[z,Jq]⟩⟩ nf⟩) RM
 .have MT:s.1.get? P=A? (PySem.W.tabObj (tabOf pos c')):=I.hok P _ hP;refine PySem.W.makeFunction_hit Bm I.ok.glob MS hc C MT (vt pos c') (uV pos c') hb λDY doc h' tk hk hsz=>?_;have nf:H h'.objs.size=none:=I.hok.fresh hsz
  have I':=I.laid (h':=h'.push {cls:=.type "function",data:=.func (PySem.W.fnX name (X.env.qual++name) params body scope cl .none .none doc ((X.mg "__name__").getD .none) B? (.ref c') DY)}) (a:=h'.objs.size) (t':=tk)
   (o:=.ext λh=>h.get? h'.objs.size=A? (PySem.W.fnMade name (X.env.qual++name) params body scope cl doc ((X.mg "__name__").getD .none) c' DY)) (λb u e=>WU _ (hk b u e)) hsz ⟨W4 _ rfl,⟨_,W4 _ rfl⟩,λh1 h2 z k=>k _ z⟩
  have sm:Same H (upd H h'.objs.size (.ext λh=>h.get? h'.objs.size=A? (PySem.W.fnMade name (X.env.qual++name) params body scope cl doc ((X.mg "__name__").getD .none) c' DY))):=ae nf _;exact gy (v:=.ref h'.objs.size) I' hN hi Fo rfl (λs2 I2=>⟨_,_,I2,q _ c' _ (sm.t P) (sm _ _ hP) (Dh.mono sm) ⟨_,ac,λ_ z=>⟨_,_,_,z⟩⟩ nf⟩) RM
theorem abr{X:Cx}{y z:Xp}(h1:X.env.cells.lookup y=A? c)(h2:X.fn y=C?)(h3:X.env.kindOf y=A? .cell)(g1:X.env.cells.lookup z=A? d)(g2:X.fn z=C?)(g3:X.env.kindOf z=A? .cell):iQ X [(y,c),(z,d)] :=
 ⟨λa b h=>(W8.mp h).elim (λe=>by cases e;exact h1) λe=>by cases W9.mp e;exact g1,
  λa b h=>(W8.mp h).elim (λe=>by cases e;exact h2) λe=>by cases W9.mp e;exact g2,
  λa b h=>(W8.mp h).elim (λe=>by cases e;exact h3) λe=>by cases W9.mp e;exact g3⟩
end L2
namespace BB
open PySem L2
section
variable{mid:List (Xp×Int)}{S1 S2:Int}{EI EJ:Th}{EK EL:List (List Th)}{U0 U1 U2 U3 U4 U5 U6:Nat}
end
theorem lJ:∀{ts:List Th}{as:List WQ},Xk (At H) ts as->Ats H ts as
 |_,_,.nil=>.nil
 |_,_,.cons h g=>.cons h (lJ g)
def PrAt(H:Hp)(s:Int)(a:WQ):Prop:=∃x y:Int,H a=A? (.tup [.int x,.int y])/\s=enc x y/\0<=x/\0<=y/\y<1000
theorem PrAt.mono(k:KT H H'){s:Int}(h:PrAt H s a):PrAt H' s a:=by
 obtain⟨x,y,e,h⟩:=h;exact⟨x,y,k _ _ e,h⟩
theorem PrAt.get{s:Int}(h:PrAt H s a):H a=A? (.tup [.int (s / 1000),.int (s%1000)]):=by
 obtain⟨x,y,e,rfl,h0,h1,h2⟩:=h;rw[e];unfold enc;rw[show(1000 * x+y) / 1000=x by lia,show(1000 * x+y)%1000=y by lia]
def pDv(s:Int):Dv:=.tup [.int (s / 1000),.int (s%1000)]
theorem yI{a b:Int}(h:pDv a=pDv b):a=b:=by
 unfold pDv at h;injection h with h;injection h with h1 h2;injection h2 with h2 _;injection h1 with h1;injection h2 with h2;lia
theorem PrAt.dv{s:Int}(h:PrAt H s a):DAt H (pDv s) (.ref a):=by
 unfold pDv;rw[DAt];exact⟨a,_,D?,h.get,.cons (by rw[DAt]) (.cons (by rw[DAt]) .nil)⟩
theorem wo:∀{m:List Int}{as:List WQ},Xk (PrAt H) m as->DAts H (m.map pDv) (as.map i!)
 |_,_,.nil=>.nil
 |_,_,.cons h g=>.cons h.dv (wo g)
theorem qj:∀m:List Int,bO (m.map pDv)<=1
 | []=>Xg _
 | x::m=>by
   have:=qj m;rw[XB,bO,show(pDv x).deep=1 from rfl];lia
theorem yx{s:Int}:pDv s∈m.map pDv↔s∈m:=by
 constructor
 .intro h;obtain⟨x,hx,e⟩:=Xx.mp h;exact yI e ▸ hx
 .intro h;exact Xx.mpr ⟨s,h,rfl⟩
theorem i0(k:KT H H')(h:Xk (PrAt H) m as):Xk (PrAt H') m as:=v! (λ_ _ e=>PrAt.mono k e) h
mutual
theorem kJ:∀t:Th,(stT t).length<=t.size
 |.call s k=>by rw[gB,p!];exact WV _
 | .knot n ks=>by
   have:=gw ks;rw[eR,p!];lia
theorem gw:∀ts:List Th,(bK ts).length<=aq ts
 | []=>Xg _
 | t::ts=>by
   have h1:=kJ t;have h2:=gw ts;show(stT t++bK ts).length<=_;rw[Xd,aq];lia
end
end BB
namespace L2
open PySem PySem.Spec PySem.Calls PyProof.Rows
abbrev cI(z:Int×Nat×Z2):X9:=.Constant (.int z.1) z.2.1 z.2.2
end L2
namespace BB
open PySem L2
section
variable{k0 k1 k2 k3:List (Xp×Int)}{SA SB SC:Int}{a0 b0 c0:Th}{RO RP RQ:List (List Th)}
end
section
variable{mid:List (Xp×Int)}{S1 S2:Int}{EI EJ:Th}{EK EL:List (List Th)}{U0 U1 U2 U3 U4 U5 U6:Nat}
end
theorem hid{G:Prop}(k:∀F:Prop,(G->F)->F):G:=k G id
inductive Ex1{A0:Type}(p:A0->Prop):Prop
 |mk (x0:A0) (h:p x0):Ex1 p
inductive Ex2{A0 A1:Type}(p:A0->A1->Prop):Prop
 |mk (x0:A0) (x1:A1) (h:p x0 x1):Ex2 p
inductive Ex3{A0 A1 A2:Type}(p:A0->A1->A2->Prop):Prop
 |mk (x0:A0) (x1:A1) (x2:A2) (h:p x0 x1 x2):Ex3 p
inductive Ex4{A0 A1 A2 A3:Type}(p:A0->A1->A2->A3->Prop):Prop
 |mk (x0:A0) (x1:A1) (x2:A2) (x3:A3) (h:p x0 x1 x2 x3):Ex4 p
inductive Ex5{A0 A1 A2 A3 A4:Type}(p:A0->A1->A2->A3->A4->Prop):Prop
 |mk (x0:A0) (x1:A1) (x2:A2) (x3:A3) (x4:A4) (h:p x0 x1 x2 x3 x4):Ex5 p
inductive Ex6{A0 A1 A2 A3 A4 A5:Type}(p:A0->A1->A2->A3->A4->A5->Prop):Prop
 |mk (x0:A0) (x1:A1) (x2:A2) (x3:A3) (x4:A4) (x5:A5) (h:p x0 x1 x2 x3 x4 x5):Ex6 p
inductive Ex7{A0 A1 A2 A3 A4 A5 A6:Type}(p:A0->A1->A2->A3->A4->A5->A6->Prop):Prop
 |mk (x0:A0) (x1:A1) (x2:A2) (x3:A3) (x4:A4) (x5:A5) (x6:A6) (h:p x0 x1 x2 x3 x4 x5 x6):Ex7 p
inductive An2(a0 a1:Prop):Prop
 |mk (h0:a0) (h1:a1):An2 a0 a1
inductive An3(a0 a1 a2:Prop):Prop
 |mk (h0:a0) (h1:a1) (h2:a2):An3 a0 a1 a2
inductive An4(a0 a1 a2 a3:Prop):Prop
 |mk (h0:a0) (h1:a1) (h2:a2) (h3:a3):An4 a0 a1 a2 a3
inductive An5(a0 a1 a2 a3 a4:Prop):Prop
 |mk (h0:a0) (h1:a1) (h2:a2) (h3:a3) (h4:a4):An5 a0 a1 a2 a3 a4
inductive An6(a0 a1 a2 a3 a4 a5:Prop):Prop
 |mk (h0:a0) (h1:a1) (h2:a2) (h3:a3) (h4:a4) (h5:a5):An6 a0 a1 a2 a3 a4 a5
inductive An7(a0 a1 a2 a3 a4 a5 a6:Prop):Prop
 |mk (h0:a0) (h1:a1) (h2:a2) (h3:a3) (h4:a4) (h5:a5) (h6:a6):An7 a0 a1 a2 a3 a4 a5 a6
inductive An8(a0 a1 a2 a3 a4 a5 a6 a7:Prop):Prop
 |mk (h0:a0) (h1:a1) (h2:a2) (h3:a3) (h4:a4) (h5:a5) (h6:a6) (h7:a7):An8 a0 a1 a2 a3 a4 a5 a6 a7
inductive An9(a0 a1 a2 a3 a4 a5 a6 a7 a8:Prop):Prop
 |mk (h0:a0) (h1:a1) (h2:a2) (h3:a3) (h4:a4) (h5:a5) (h6:a6) (h7:a7) (h8:a8):An9 a0 a1 a2 a3 a4 a5 a6 a7 a8
inductive xg(a0 a1 a2 a3 a4 a5 a6 a7 a8 a9:Prop):Prop
 |mk (h0:a0) (h1:a1) (h2:a2) (h3:a3) (h4:a4) (h5:a5) (h6:a6) (h7:a7) (h8:a8) (h9:a9):xg a0 a1 a2 a3 a4 a5 a6 a7 a8 a9
inductive aak(a0 a1 a2 a3 a4 a5 a6 a7 a8 a9 RR RS RT:Prop):Prop
 |mk (h0:a0) (h1:a1) (h2:a2) (h3:a3) (h4:a4) (h5:a5) (h6:a6) (h7:a7) (h8:a8) (h9:a9) (h10:RR) (h11:RS) (h12:RT):aak a0 a1 a2 a3 a4 a5 a6 a7 a8 a9 RR RS RT
end BB
namespace L2
open PySem PySem.Spec PyProof.Rows
end L2
namespace BB
open PySem L2
section
variable{d:Nat}
end
end BB
namespace L2
open PySem PySem.Spec PyProof.Rows
section
variable{X:Cx}{apos Ar:Z2}
end
section
variable{X:Cx}{apos Ar:Z2}
end
end L2
namespace PySem
open Sem (wp)
section
variable{ep:Nat}{od:Zb}{es:Array DictEntry}{ok ov:WT}
end
end PySem
namespace L2
open PySem PySem.Spec PyProof.Rows
section
variable{X:Cx}{apos Ar:Z2}
end
section
variable{X:Cx}{e1 e2:X9}{t:TA}{p2 Ay:Z2}
end
section
variable{X:Cx}
end
end L2
namespace BB
open PySem L2
theorem oC(pre:List Int)(n:Xp)(ts:List Th):callsOf (C! pre (.knot n ts))=callsOf (pls pre 0 ts):=by
 rw[C!];rfl
theorem oI(pre:List Int)(s k:Int):callsOf (C! pre (.call s k))=[(pre,s,k)]:=by
 rw[C!];rfl
theorem oK(pre:List Int)(i:Int)(t:Th)(ts:List Th):callsOf (pls pre i (t::ts))=callsOf (t.pl (pre++[i]))++callsOf (pls pre (i+1) ts):=by
 rw[pls,eL]
theorem nN:∀{l m:List α},l.Nodup->(∀a∈l,a∈m)->l.length<=m.length
 | [],m,_,_=>Xg _
 | a::l,m,h,hs=>by
   rw[ZM]at h;obtain⟨m1,m2,rfl⟩:=List.append_of_mem (hs a (Xh ..))
   have:l.length<=(m1++m2).length:=nN h.2 λb hb=>by
    rcases Xz.mp (hs b (Xe _ hb))with z|z
    .exact XT _ z
    .rcases W8.mp z with z|z
     .exact g! (z ▸ hb) h.1
     .exact XH _ z
   rw[Xd,W0]at*;rw[W0];lia
end BB
namespace L2
open PySem
theorem wD(Pv:Nat->St->Hp->Prop)(h0:Pv 0 Z H)(hl:∀i Z H,i<=xs.length->Pv i Z H->SqT K H a xs)
 (hs:∀i x p Z H,xs[i]?=A? x->H p=B?->Pv i Z H->g (.ref p) Z (upd H p (.tup [.int (i:Nat),x])) λAx H2=>tb {D with nx:=Pv (i+1),ct:=Pv (i+1),bk:=D.nx} Ax H2) (hd:∀Z H,Pv xs.length Z H->D.nx Z H) :
 ∃W:Nat->Nat->St->Hp->Prop,(∃m,W 0 m Z H)/\∀i m Z H,W i m Z H ->
   ((Ite K a).stop i H/\D.nx Z H)\/((Ite K a).go i H/\∃N:St->Hp->Prop,(∀Ab H',N Ab H'->∃m',m'<m/\W (i+1) m' Ab H')/\∀x H',(Ite K a).yld i H x H'->g x Z H' λAx H2=>tb {D with nx:=N,ct:=N,bk:=D.nx} Ax H2):=by
 refine⟨λi m Z H=>m=xs.length - i/\i<=xs.length/\Pv i Z H,⟨xs.length,by simp,Xg _,h0⟩,?_⟩;rintro i m Z H ⟨rfl,hi,p⟩;have q:=hl i Z H hi p;by_cases Ai:i<xs.length
 .refine .inr ⟨⟨xs,xs[i],q,by simp[Ai]⟩,Pv (i+1),λAb H' p'=>⟨xs.length - (i+1),by lia,rfl,Ai,p'⟩,λx H' y=>?_⟩;obtain⟨pa,y,hp,rfl,rfl,hy⟩:=y;exact hs i y pa Z H (hy xs q) hp p
 .have e:i=xs.length:=by lia
  subst e;exact .inl ⟨⟨xs,q,rfl⟩,hd Z H p⟩
theorem tw{ys:List V}(FV:xs.length=ys.length)(Pv:Nat->St->Hp->Prop)(h0:Pv 0 Z H)(hl:∀i Z H,i<=xs.length->Pv i Z H->SqT K H a xs/\SqT K H b ys)
 (hs:∀i x y p Z H,xs[i]?=A? x->ys[i]?=A? y->H p=B?->Pv i Z H->g (.ref p) Z (upd H p (.tup [x,y])) λAx H2=>tb {D with nx:=Pv (i+1),ct:=Pv (i+1),bk:=D.nx} Ax H2) (hd:∀Z H,Pv xs.length Z H->D.nx Z H) :
 ∃W:Nat->Nat->St->Hp->Prop,(∃m,W 0 m Z H)/\∀i m Z H,W i m Z H ->
   ((Itz K a b).stop i H/\D.nx Z H)\/((Itz K a b).go i H/\∃N:St->Hp->Prop,(∀Ab H',N Ab H'->∃m',m'<m/\W (i+1) m' Ab H')/\∀x H',(Itz K a b).yld i H x H'->g x Z H' λAx H2=>tb {D with nx:=N,ct:=N,bk:=D.nx} Ax H2):=by
 refine⟨λi m Z H=>m=xs.length - i/\i<=xs.length/\Pv i Z H,⟨xs.length,by simp,Xg _,h0⟩,?_⟩;rintro i m Z H ⟨rfl,hi,p⟩;obtain⟨q1,q2⟩:=hl i Z H hi p;by_cases Ai:i<xs.length
 .have OS:i<ys.length:=by lia
  refine .inr ⟨⟨xs,ys,xs[i],ys[i],q1,q2,by simp[Ai],by simp[OS]⟩,Pv (i+1),λAb H' p'=>⟨xs.length - (i+1),by lia,rfl,Ai,p'⟩,λx H' y=>?_⟩;obtain⟨pa,x,y,hp,rfl,rfl,hx,hy⟩:=y;exact hs i x y pa Z H (hx xs q1) (hy ys q2) hp p
 .have e:i=xs.length:=by lia
  subst e;exact .inl ⟨⟨xs,ys,q1,q2,.inl (WV _)⟩,hd Z H p⟩
end L2
namespace BB
open PySem L2
section
variable{C:WQ}{Dp:DP}{ok:Th->Prop}{L:Lv}{n:Nd}{B:Lv}{Hg:Hp}{B':Lv}{sp:List (Key×V)}
end
section
variable{C:WQ}{Dp:DP}{ok:Th->Prop}{H0:Hp}{L B:Lv}{L' B':Lv}
end
mutual
theorem gN{ks:List (Xp×Int)}:∀(t:Th)(pre:List Int),t.FitS ks S C->∀c∈callsOf (t.pl pre),0<=c.2.1/\c.2.1<S/\0<=c.2.2/\c.2.2<C
 | .call s k,pre,h,c,hc=>by
   rw[oI]at hc;rw[W9.mp hc];rw[z!]at h;exact h
 | .knot n ts,pre,h,c,hc=>by
   rw[oC]at hc;rw[z!]at h;exact l6 ts pre 0 h.2 c hc
theorem l6{ks:List (Xp×Int)}:∀(ts:List Th)(pre:List Int)(i:Int),FitSs ks S C ts->∀c∈callsOf (pls pre i ts),0<=c.2.1/\c.2.1<S/\0<=c.2.2/\c.2.2<C
 | [],pre,i,_,c,hc=>by rw[pls]at hc;cases hc
 | t::ts,pre,i,h,c,hc=>by
   rw[oK]at hc;rw[FitSs]at h;rcases Xz.mp hc with hc|hc
   .exact gN t _ h.1 c hc
   .exact l6 ts _ _ h.2 c hc
end
section
variable{mid:List (Xp×Int)}{S1 S2:Int}{EI EJ:Th}{EK EL:List (List Th)}
end
end BB
namespace L2
open PySem PySem.Spec PySem.SeqAt PyProof.Rows
def IsNesm(fl:Bool)(P:W5)(w:Xq)(h:Yh)(k:ay)(a:WQ):Prop:=∃(o:Zb)(n:Nat)(b:WQ)(u:WT),h.get? a=A? o/\o.cls=.type "tuple"/\o.data=.seq (bif fl then #[.ref b,u]else #[u,.ref b]) n/\IsTupleKey (au P w) h k.1 b/\im k.2 u=C?
theorem IsNesm.typeIs{k:ay}(x:IsNesm fl P w s.1 k a):s.TypeIs (.ref a) "tuple":=let⟨o,_,_,_,ho,hc,_⟩:=x;⟨o,ho,hc⟩
theorem IsNesm.inj{x y:ay}(hx:IsNesm fl P w h x a)(hy:IsNesm fl P w h y a):x=y:=by
 obtain⟨o,n,b,u,ho,_,hd,hb,hu⟩:=hx;obtain⟨o',n',b',u',BG,_,BH,AB,B8⟩:=hy;obtain rfl:o=o':=Xn (ho.symm.trans BG);rw[hd]at BH;injection BH with h1 _
 have h2:b=b'/\u=u':=by
  cases fl <;> (have h2:=h! Array.toList h1;cases h2;exact⟨D?,D?⟩)
 obtain⟨rfl,rfl⟩:=h2;exact Prod.ext (hb.inj AB) ((au P w).inj _ _ _ hu B8)
theorem IsNesm.keeps{k:ay}{o:Zb}{es ep}(x:IsNesm fl P w h k a)(ho:h.get? d=A? o)(hd:o.data=.dict es ep)(hs:YF d h h'):IsNesm fl P w h' k a:=by
 obtain⟨o',n,b,u,BG,hc,BH,hb,hu⟩:=x
 have Aq:a≠d:=by
  rintro rfl;obtain rfl:o'=o:=Xn (BG.symm.trans ho);rw[hd]at BH;exact nomatch BH
 exact⟨o',n,b,u,(hs.2 a Aq).trans BG,hc,BH,hb.keeps ho hd hs,hu⟩
theorem uE{x y:ay}(hx:IsNesm fl P w s.1 x a)(hy:IsNesm fl P w s.1 y b)(hu:A.units+1<YK):EqAt A s (.ref a) (.ref b) (decide (x=y)):=by
 by_cases CC:a=b
 .subst CC;obtain rfl:=hx.inj hy;rw[d! rfl];exact EqAt.same _
 .obtain⟨o,n,c,u,ho,hc,hd,hb,hk⟩:=hx;obtain⟨o',n',c',u',BG,AQ,BH,AB,Bb⟩:=hy;have p1:s.1.IsTuple a (bif fl then[Xl c,u]else[u,Xl c]).toArray:=⟨o,ho,hc,n,by rw[hd];cases fl <;> rfl⟩;have p2:s.1.IsTuple b (bif fl then[Xl c',u']else[u',Xl c']).toArray:=⟨o',BG,AQ,n',by rw[BH];cases fl <;> rfl⟩
  have h1:EqAt A.in1 s u u' (decide ((Zu x.2:Sum (List Key) Key)=Zu y.2)):=by
   rw[show decide ((Zu x.2:Sum (List Key) Key)=Zu y.2)=decide (x.2=y.2)from decide_eq_decide.mpr ⟨λz=>Sum.inr.inj z,λz=>h! _ z⟩];exact pW (A:=A.in1) (s:=s) hk Bb
  have h2:EqAt A.in1 s (.ref c) (.ref c') (decide ((Xo x.1:Sum (List Key) Key)=Xo y.1)):=by
   rw[show decide ((Xo x.1:Sum (List Key) Key)=Xo y.1)=decide (x.1=y.1)from decide_eq_decide.mpr ⟨λz=>YL z,λz=>h! _ z⟩];exact uO (A:=A.in1) hb AB (show A.units+1<YK from hu)
  have:=iE (A:=A) (ds:=bif fl then[Xo x.1,(Zu x.2:Sum (List Key) Key)]else[Zu x.2,Xo x.1]) (es:=bif fl then[Xo y.1,Zu y.2]else[Zu y.2,Xo y.1]) p1 p2 (by cases fl <;> rfl) (by cases fl <;> rfl) (by lia) λj d e v v' e1 e2 e3 e4=>by
   cases fl <;> (match j with
   |0=>cases e1;cases e2;cases e3;cases e4;first|exact h1|exact h2
   |1=>cases e1;cases e2;cases e3;cases e4;first|exact h1|exact h2
   |j+2=>cases e1)
  refine EqAt.of_refs CC ?_
  have e:decide (x=y)=decide ((bif fl then[Xo x.1,(Zu x.2:Sum (List Key) Key)]else[Zu x.2,Xo x.1])=bif fl then[Xo y.1,Zu y.2]else[Zu y.2,Xo y.1]):=decide_eq_decide.mpr ⟨λz=>by rw[z],λz=>by
   cases fl <;> (injection z with z1 z2;injection z2 with z2 _;first|exact Prod.ext (YL z1) (Sum.inr.inj z2)|exact Prod.ext (YL z2) (Sum.inr.inj z1))⟩
  rw[e];exact this
def i8(fl:Bool)(P:W5)(w:Xq)(k:ay):Int:=reduceHash (Yd (bif fl then[YU (au P w) k.1,(au P w).hash k.2]else[(au P w).hash k.2,YU (au P w) k.1]))
theorem rm{k:ay}{Q:Int->WX->Prop}(hu:A.units+1<YK)(hk:IsNesm fl P w s.1 k a)(h:Q (i8 fl P w k) {s with toks:=s.toks+(k.1.length+3)}) :
 W7 (Xw P w) A (pyHash (.ref a)) Q E s:=by
 cases fl with
 | false =>
   have hT:=hk.typeIs;obtain⟨o,n,c,u,ho,hc,hd,hb,hk⟩:=hk;unfold pyHash
   first|unfold pyHashByItsType|skip
   first|refine WN (wpAny_cRoomFor_or (.inr (by lia)) ?_)|skip
   refine WN (Yr hT Zw.lookup ?_);show W7 _ _ (if(A? (Value.builtin "tuple.__hash__") == A? Yp)=C? then _ else _) Q E s;rw[a! (by rw[beq_builtin_none];exact W6)];refine WN (Yr hT Zw.lookup ?_);show W7 _ _ (callSpecialIfBoundUnlessNone? (.ref a) "__hash__" _ >>= _) Q E s;refine WN (wpAny_callSpecialIfBoundUnlessNone?_slot hT Zw (X8 Zw hT F.entry_tuple_hash ?_ (F.args_tuple_hash_1 _)));show W7 _ _ (ZV (.ref a) >>= _) _ _ s;refine WN (wpAny_tupleItemsOf ho hd ?_);refine WN ?_;rw[<-Array.forIn_toList]
   refine wpAny_forIn_list _
    (λrest(b:Array Int)s'=>(rest=[u,.ref c]/\b=#[]/\s'=s)\/(rest=[.ref c]/\b=#[(au P w).hash k.2]/\s'={s with toks:=s.toks+1})\/(rest=[]/\b=#[(au P w).hash k.2,YU (au P w) k.1]/\s'={s with toks:=s.toks+1+(k.1.length+1)}))
    _ ?_ ?_ _ _ (.inl ⟨rfl,rfl,rfl⟩)
   .rintro x rest b s' (⟨e1,rfl,rfl⟩|⟨e1,rfl,rfl⟩|⟨e1,_⟩)
    .cases e1;refine WN ((au P w).pyHash hk ?_)
     first
      |exact WW (.inr (.inl ⟨rfl,rfl,rfl⟩))
      |exact WN (WW (WW (.inr (.inl ⟨rfl,rfl,rfl⟩))))
    .cases e1;refine WN (wpAny_pyHash_tuple (by show _<YK;first|exact hu|lia) hb ?_)
     first
      |exact WW (.inr (.inr ⟨rfl,rfl,rfl⟩))
      |exact WN (WW (WW (.inr (.inr ⟨rfl,rfl,rfl⟩))))
    .cases e1
   .rintro b s' (⟨e1,_⟩|⟨e1,_⟩|⟨_,rfl,rfl⟩)
    .cases e1
    .cases e1
    show W7 _ _ (retInt (Yd [(au P w).hash k.2,YU (au P w) k.1])) _ _ _;refine wpAny_ret_mkInt ?_;show W7 _ _ (if(decide (-(2:Int) ^ 63<=Yd [(au P w).hash k.2,YU (au P w) k.1]) && decide (Yd [(au P w).hash k.2,YU (au P w) k.1]<2 ^ 63))=C? then _ else _) Q E _;unfold i8 reduceHash at h;simp only[cond_true,cond_false]at h;by_cases hr:(decide (-(2:Int) ^ 63<=Yd [(au P w).hash k.2,YU (au P w) k.1]) && decide (Yd [(au P w).hash k.2,YU (au P w) k.1]<2 ^ 63))=C?
    .rw[b! hr];rw[b! hr]at h;exact WW (by rw[show k.1.length+3=1+(k.1.length+2)by lia]at h;simpa[Zv]using h)
    .rw[a! hr];rw[a! hr]at h;exact WN (Zx (WW (by rw[show k.1.length+3=1+(k.1.length+2)by lia]at h;simpa[Zv]using h)))
 | true =>
   have hT:=hk.typeIs;obtain⟨o,n,c,u,ho,hc,hd,hb,hk⟩:=hk;unfold pyHash
   first|unfold pyHashByItsType|skip
   first|refine WN (wpAny_cRoomFor_or (.inr (by lia)) ?_)|skip
   refine WN (Yr hT Zw.lookup ?_);show W7 _ _ (if(A? (Value.builtin "tuple.__hash__") == A? Yp)=C? then _ else _) Q E s;rw[a! (by rw[beq_builtin_none];exact W6)];refine WN (Yr hT Zw.lookup ?_);show W7 _ _ (callSpecialIfBoundUnlessNone? (.ref a) "__hash__" _ >>= _) Q E s;refine WN (wpAny_callSpecialIfBoundUnlessNone?_slot hT Zw (X8 Zw hT F.entry_tuple_hash ?_ (F.args_tuple_hash_1 _)));show W7 _ _ (ZV (.ref a) >>= _) _ _ s;refine WN (wpAny_tupleItemsOf ho hd ?_);refine WN ?_;rw[<-Array.forIn_toList]
   refine wpAny_forIn_list _
    (λrest(b:Array Int)s'=>(rest=[.ref c,u]/\b=#[]/\s'=s)\/(rest=[u]/\b=#[YU (au P w) k.1]/\s'={s with toks:=s.toks+(k.1.length+1)})\/(rest=[]/\b=#[YU (au P w) k.1,(au P w).hash k.2]/\s'={s with toks:=s.toks+(k.1.length+1)+1}))
    _ ?_ ?_ _ _ (.inl ⟨rfl,rfl,rfl⟩)
   .rintro x rest b s' (⟨e1,rfl,rfl⟩|⟨e1,rfl,rfl⟩|⟨e1,_⟩)
    .cases e1;refine WN (wpAny_pyHash_tuple (by show _<YK;first|exact hu|lia) hb ?_)
     first
      |exact WW (.inr (.inl ⟨rfl,rfl,rfl⟩))
      |exact WN (WW (WW (.inr (.inl ⟨rfl,rfl,rfl⟩))))
    .cases e1;refine WN ((au P w).pyHash hk ?_)
     first
      |exact WW (.inr (.inr ⟨rfl,rfl,rfl⟩))
      |exact WN (WW (WW (.inr (.inr ⟨rfl,rfl,rfl⟩))))
    .cases e1
   .rintro b s' (⟨e1,_⟩|⟨e1,_⟩|⟨_,rfl,rfl⟩)
    .cases e1
    .cases e1
    show W7 _ _ (retInt (Yd [YU (au P w) k.1,(au P w).hash k.2])) _ _ _;refine wpAny_ret_mkInt ?_;show W7 _ _ (if(decide (-(2:Int) ^ 63<=Yd [YU (au P w) k.1,(au P w).hash k.2]) && decide (Yd [YU (au P w) k.1,(au P w).hash k.2]<2 ^ 63))=C? then _ else _) Q E _;unfold i8 reduceHash at h;simp only[cond_true,cond_false]at h;by_cases hr:(decide (-(2:Int) ^ 63<=Yd [YU (au P w) k.1,(au P w).hash k.2]) && decide (Yd [YU (au P w) k.1,(au P w).hash k.2]<2 ^ 63))=C?
    .rw[b! hr];rw[b! hr]at h;exact WW (by simpa[Zv]using h)
    .rw[a! hr];rw[a! hr]at h;exact WN (Zx (WW (by simpa[Zv]using h)))
theorem sS{k:ay}{Q:Bool->WX->Prop}(hk:IsNesm fl P w s.1 k a)(h:Q C? s):W7 (Xw P w) A (eqIsQuiet 8 (.ref a)) Q E s:=by
 have hT:=hk.typeIs;obtain⟨o,n,c,u,ho,hc,hd,hb,hk⟩:=hk;unfold eqIsQuiet;refine WN (Yr hT F.slot_tuple_eq.lookup ?_);show W7 _ _ (isInstance (.ref a) (.type "tuple") >>= _) _ _ s;refine WN (ZJ hT isSubtype_tuple_tuple ?_);simp only[Bool.not_true,Ye,if_false];refine WN (YC ho hd ?_);refine WN ?_;show W7 _ _ (forIn (bif fl then #[Xl c,u]else #[u,Xl c]) _ _) _ _ s;rw[<-Array.forIn_toList];refine wpAny_forIn_list _ (λrest r s'=>r.1=B?/\s'=s/\∀v∈rest,v=.ref c\/v=u) _ ?_ ?_ _ _ ⟨rfl,rfl,λv hv=>by cases fl <;> simpa[or_comm]using hv⟩
 .rintro v rest r s' ⟨hr,rfl,Aa⟩;have GP:∀z∈rest,z=.ref c\/z=u:=λz hz=>Aa z (Xe _ hz);rcases Aa v Xh with rfl|rfl
  .refine WN (rW hb ?_);simp only[Bool.not_true,Ye,if_false];exact WW ⟨rfl,rfl,GP⟩
  .rw[eqIsQuiet_byValue _ ((au P w).byValue _ _ hk)];refine WN (WW ?_);simp only[Bool.not_true,Ye,if_false];exact WW ⟨rfl,rfl,GP⟩
 .rintro⟨r1,r2⟩ s' ⟨hr,rfl,_⟩;simp only at hr;subst hr;exact WW h
def cj(fl:Bool)(P:W5)(w:Xq):HeapKind P w ay where
 is:=IsNesm fl P w
 hash:=i8 fl P w
 draws:=λk=>k.1.length+3
 room:=λA=>A.units+1<YK
 inj:=λhx hy=>hx.inj hy
 keeps:=λx ho hd hs=>x.keeps ho hd hs
 pyHash:=λhu hk h=>rm hu hk h
 eqBool:=λhu hx hy h=>uE hx hy hu _ _ _ _ h
 quiet:=λhk h=>sS hk h
def qd(fl:Bool)(P:W5)(w:Xq)(xs:List (ay×WQ×WT))(a:WQ)(h:Yh):Prop:=∃o es ep,h.get? a=A? o/\o.ExactDict/\o.data=.dict es ep/\es.toList=xs.map (entryOfKey (cj fl P w))/\(xs.map (·.1)).Nodup
def MKAt(fl:Bool)(H:Hp)(k:ay)(b:WQ):Prop:=∃c,H b=A? (.tup (bif fl then[.ref c,kV k.2]else[kV k.2,.ref c]))/\H c=A? (.tup (k.1.map kV))
abbrev KTm(fl:Bool)(H:Hp):List (ay×V)->List (ay×WQ×WT)->Prop:=Xk λp q=>p.1=q.1/\MKAt fl H q.1 q.2.1/\RelV p.2 q.2.2
def DM(fl:Bool)(P:W5)(w:Xq)(H:Hp)(a:WQ)(f':List (ay×V)):Prop:=f'.length<=Xf/\(a == YO)=Cf/\∃xs φ,H a=A? (.ext φ)/\(∀h,φ h->qd fl P w xs a h)/\KTm fl H f' xs
theorem MKAt.mono(k:BB.KT H H'){n:ay}(h:MKAt fl H n b):MKAt fl H' n b:=by
 obtain⟨c,h1,h2⟩:=h;exact⟨c,k _ _ h1,k _ _ h2⟩
theorem KTm.mono(k:BB.KT H H'){xs:List (ay×WQ×WT)}(r:KTm fl H f' xs):KTm fl H' f' xs:=Xk.mapP r λ_ _ z=>⟨z.1,z.2.1.mono k,z.2.2⟩
theorem DM.mono(s:Same H H')(h:DM fl P w H a f'):DM fl P w H' a f':=by
 obtain⟨z,hd,xs,φ,e,f,r⟩:=h;exact⟨z,hd,xs,φ,s _ _ e,f,KTm.mono (j! s) r⟩
theorem fj{k:ay}(ok:HOk P w H h)(e:MKAt fl H k b):IsNesm fl P w h k b:=by
 obtain⟨c,h1,h2⟩:=e;obtain⟨_,its,n,r,e1⟩:=(show ObjOk P w H h b (.tup (bif fl then[.ref c,kV k.2]else[kV k.2,.ref c]))from ok b _ h1);cases fl with
 | false =>
   cases r with
   |cons r1 r =>
   cases r with
   |cons r2 r =>
   cases r;cases r2;exact⟨_,n,c,_,e1,D?,D?,ga ok h2,j1 (P:=P) (w:=w) r1⟩
 | true =>
   cases r with
   |cons r1 r =>
   cases r with
   |cons r2 r =>
   cases r;cases r1;exact⟨_,n,c,_,e1,D?,D?,ga ok h2,j1 (P:=P) (w:=w) r2⟩
theorem jh(ok:HOk P w H h)(e:DM fl P w H a f'):f'.length<=Xf/\(a == YO)=Cf/\∃xs φ,H a=A? (.ext φ)/\KTm fl H f' xs/\h.DictOfH (cj fl P w) a xs:=by
 obtain⟨z,y,xs,φ,ea,f,r⟩:=e;obtain⟨o,es,ep,h1,h2,h3,h4,h5⟩:=f h (ok a _ ea).1;refine⟨z,y,xs,φ,ea,r,o,es,ep,h1,h2,h3,h4,λx hx=>?_,h5⟩
 have all:∀{l:List (ay×V)}{m:List (ay×WQ×WT)},KTm fl H l m->∀x∈m,(cj fl P w).is h x.1 x.2.1:=by
  intro l m q;induction q with
  |nil=>intro x hx;exact nomatch hx
  | @cons p q ps qs hq t ih =>
    intro x hx;rcases W8.mp hx with e|hx
    .subst e;exact fj ok hq.2.1
    .exact ih x hx
 exact all r x hx
theorem KTm.val{xs:List (ay×WQ×WT)}(r:KTm fl H f' xs)(k:ay):RelO (aN f' k) ((atKey xs k).map (·.2)):=by
 induction r with
 |nil=>exact YT
 | @cons p q ps qs hq t ih =>
   by_cases e:p.1=k
   .rw[bP e];have:atKey (q::qs) k=A? q.2:=by simp[atKey,ZN,<-hq.1,e]
    rw[this];exact hq.2.2
   .rw[bM e];have:atKey (q::qs) k=atKey qs k:=by simp[atKey,ZN,<-hq.1,e]
    rw[this];exact ih
theorem KTm.put{xs:List (ay×WQ×WT)}(r:KTm fl H f' xs)(k:ay)(hb:MKAt fl H k b)(ry:RelV y u):KTm fl H (putK f' k y) (storedH xs k b u):=by
 have hv:=KTm.val r k;cases e:aN f' k with
 | none =>
   rw[e]at hv
   have hn:atKey xs k=none:=by
    cases q:atKey xs k with
    |none=>rfl
    |some p=>rw[q]at hv;exact hv.elim
   rw[gF y e,storedH_new hn];exact r! r (.cons ⟨rfl,hb,ry⟩ .nil)
 | some v0 =>
   rw[e]at hv
   obtain⟨p,hp⟩:∃p,atKey xs k=A? p:=by
    cases q:atKey xs k with
    |none=>rw[q]at hv;exact hv.elim
    |some p=>exact⟨p,D?⟩
   rw[storedH_old hp];unfold putK;rw[b! (by rw[eZ,e];rfl)]
   have all:∀{l:List (ay×V)}{m:List (ay×WQ×WT)},KTm fl H l m->KTm fl H (l.map λkv=>if kv.1=k then(kv.1,y)else kv) (m.map (putAt k u)):=by
    intro l m q;induction q with
    |nil=>exact .nil
    | @cons p q ps qs hq t ih =>
      refine .cons ?_ ih;unfold putAt;dsimp only;by_cases z:p.1=k
      .rw[b! z,b! (by rw[<-hq.1];exact z)];exact⟨hq.1,hq.2.1,ry⟩
      .rw[a! z,a! (by rw[<-hq.1];exact z)];exact hq
   exact all r
section
variable{X:Cx}{o i value:X9}{td ty tv:TE}
inductive wC(fl:Bool)(P:W5)(w:Xq)(x y:V)(H:Hp)(Q:VK):Prop
 |mk (a b:WQ) (k:ay) (f':List (ay×V)) (v:V) (z0:x=.ref a) (z1:y=.ref b) (z2:DM fl P w H a f') (z3:MKAt fl H k b) (z4:aN f' k=A? v) (z5:Q v H):wC fl P w x y H Q
def zO(fl:Bool)(P:W5)(w:Xq)(td ty:TE):TE:=λZ H Q=>td Z H λx H1=>ty Z H1 λy H2=>wC fl P w x y H2 Q
theorem vd(hu:X.A.units+2<YK)(ho:PE X o td)(hi:PE X i ty)(hs:yy i):PE X (.Subscript o i pos) (zO fl X.prog X.w td ty):=by
 intro U s Z H Q I h;refine oE PySem.F.slot_dict_getitem.lookup hs (thn (ho U s Z H _ I h) λu s1⟨x,H1,I1,rx,q1⟩=>thn (hi U s1 Z H1 _ I1 q1) λiv s2⟨y,H2,I2,ry,q2⟩=>?_);obtain⟨a,b,k,f',v,rfl,rfl,hd,hk,hv,q⟩:=q2;obtain rfl:u=Xl a:=rx;obtain rfl:iv=Xl b:=ry;obtain⟨_,_,xs,φ,ea,rel,dd⟩:=jh I2.hok hd;obtain⟨w',hw,Cj⟩:=RelO.some_of (v:=v) (o:=(atKey xs k).map (·.2)) (by rw[<-hv];exact KTm.val rel k);obtain⟨p,hp,AW⟩:=XM.mp hw;refine⟨dd.typeIs,wpAny_getItem_heap (knd:=cj fl X.prog X.w) (show X.A.units+1+1<YK from hu) (fj I2.hok hk) dd hp ?_⟩;rw[AW];exact⟨v,H2,I2.tok _,Cj,q⟩
inductive wv(fl:Bool)(P:W5)(w:Xq)(x y v:V)(H:Hp)(R:Hp->Prop):Prop
 |mk (a b:WQ) (k:ay) (f':List (ay×V)) (z0:x=.ref a) (z1:y=.ref b) (z2:DM fl P w H a f') (z3:MKAt fl H k b) (z4:f'.length<Xf) (z5:∀H',(∀c o,c≠a->H c=A? o->H' c=A? o)->DM fl P w H' a (putK f' k v)->R H'):wv fl P w x y v H R
def zn(fl:Bool)(P:W5)(w:Xq)(td ty tv:TE):TS:=λD Z H=>tv Z H λv H1=>td Z H1 λx H2=>ty Z H2 λy H3=>wv fl P w x y v H3 λH4=>D.nx Z H4
theorem qJ(hu:X.A.units+2<YK)(ho:PE X o td)(hi:PE X i ty)(hv:PE X value tv)(hs:swapsWith value (A? (.Subscript o i pos')) pos.line X.env=pure Cf) :
 PS X (.Assign [.Subscript o i pos'] value pos) (zn fl X.prog X.w td ty tv):=by
 intro U s Z H D I h;refine wpAny_Assign_Subscript (thn (hv U s Z H _ I h) λr s1⟨v,H1,I1,rv,q1⟩=>thn (ho U s1 Z H1 _ I1 q1) λu s2⟨x,H2,I2,rx,q2⟩=>thn (hi U s2 Z H2 _ I2 q2) λiv s3⟨y,H3,I3,ry,q3⟩=>?_) hs;obtain⟨a,b,k,f',rfl,rfl,hd,hk,hl,q⟩:=q3;obtain rfl:u=Xl a:=rx;obtain rfl:iv=Xl b:=ry;obtain⟨z,BH,xs,φ,ea,rel,dd⟩:=jh I3.hok hd;have hz:xs.length<=Xf:=by rw[<-WZ rel];exact z
 have Ho:(putK f' k v).length<=Xf:=by have:=bw f' k v;lia
 refine wpAny_setItem_heap (knd:=cj fl X.prog X.w) (hsz:=hz) (show X.A.units+1+1<YK from hu) (fj I3.hok hk) dd λh' Ds hs=>?_;obtain⟨ob,es,ep,hq,h2,h3,h4,_,h5⟩:=Ds;have ne:qd fl X.prog X.w (storedH xs k b r) a h':=⟨ob,es,ep,hq,h2,h3,h4,h5⟩
 have I4:=fX (ob:=.ext (qd fl X.prog X.w (storedH xs k b r) a)) (t':=s3.toks+(cj fl X.prog X.w).draws k) I3 (by rw[ea];exact YT) hs ⟨ob,hq⟩ ⟨ne,⟨ob,hq⟩,λh1 h2 p kk=>by
  obtain⟨o1,Kv,Kw,g1,g2⟩:=p;exact⟨o1,Kv,Kw,kk _ g1,g2⟩⟩
 have kt:BB.KT H3 (upd H3 a (.ext (qd fl X.prog X.w (storedH xs k b r) a))):=λc ys ec=>by
  rw[ai (cp ec ea (λz=>nomatch z))];exact ec
 exact⟨Z,_,I4,q _ (λc o hc e=>by rw[ai hc];exact e) ⟨Ho,BH,_,_,ac,λ_ p=>p,KTm.mono kt (KTm.put rel k hk rv)⟩⟩
def zI(fl:Bool)(P:W5)(w:Xq):TE:=λ_ H Q=>∀p H',H p=B?->Same H H'->DM fl P w H' p []->Q (.ref p) H'
theorem lR:PE X (.Dict [] [] pos) (zI fl X.prog X.w):=λU s Z H Q I h=>by
 have hn:H s.1.1.size=none:=I.hok.fresh (WV _);have ne:qd fl X.prog X.w [] s.1.1.size (s.1.push {cls:=.type "dict",data:=.dict #[]}):=⟨_,#[],0,W4 _ rfl,⟨rfl,rfl,rfl⟩,rfl,rfl,List.nodup_nil⟩;refine wpAny_Dict_empty ⟨.ref s.1.1.size,_,I.laid (a:=s.1.1.size) (o:=.ext (qd fl X.prog X.w [] s.1.1.size)) (t':=s.toks) (λ_ _ q=>WU _ q) (WV _) ⟨ne,⟨_,W4 _ rfl⟩,λh1 h2 p kk=>?_⟩,rfl,h _ _ hn (ae hn _) ⟨Xg _,beq_eq_false_iff_ne.mpr (YQ (XC I.big)),[],_,ac,λ_ p=>p,.nil⟩⟩;obtain⟨o1,Kv,Kw,g1,g2⟩:=p;exact⟨o1,Kv,Kw,kk _ g1,g2⟩
end
section
variable{X:Cx}{o i f:X9}{apos Ar:Z2}{td ty tx:TE}
theorem tZ{xs:List (ay×WQ×WT)}(rel:KTm fl H f' xs)(k:ay):(aN f' k).isSome=(atKey xs k).isSome:=by
 have q:=(KTm.val rel k).isSome_eq;rw[Option.isSome_map]at q;exact q
inductive zk(fl:Bool)(f:Bool->Bool)(P:W5)(w:Xq)(y x:V)(H:Hp)(Q:VK):Prop
 |mk (a b:WQ) (k:ay) (f':List (ay×V)) (z0:x=.ref a) (z1:y=.ref b) (z2:DM fl P w H a f') (z3:MKAt fl H k b) (z4:Q (.bl (f (aN f' k).isSome)) H):zk fl f P w y x H Q
def yS(fl:Bool)(f:Bool->Bool)(P:W5)(w:Xq)(ty td:TE):TE:=λZ H Q=>ty Z H λy H1=>td Z H1 λx H2=>zk fl f P w y x H2 Q
theorem yw(hu:X.A.units+2<YK)(hi:PE X i ty)(ho:PE X o td):PC X .In i o (yS fl (λb=>b) X.prog X.w ty td):=by
 intro U s Z H Q I h;refine thn (hi U s Z H _ I h) λiv s1⟨y,H1,I1,ry,q1⟩=>thn (ho U s1 Z H1 _ I1 q1) λu s2⟨x,H2,I2,rx,q2⟩=>?_;obtain⟨a,b,k,f',rfl,rfl,hd,hk,q⟩:=q2;obtain rfl:u=Xl a:=rx;obtain rfl:iv=Xl b:=ry;obtain⟨_,BH,xs,φ,ea,rel,dd⟩:=jh I2.hok hd;refine wpAny_in_heap (knd:=cj fl X.prog X.w) (show X.A.units+1+1<YK from hu) (fj I2.hok hk) BH dd ?_;rw[<-tZ rel k];exact⟨.bl _,H2,I2.tok _,D?,q⟩
theorem sD(hu:X.A.units+2<YK)(hi:PE X i ty)(ho:PE X o td):PC X .NotIn i o (yS fl (λb=>!b) X.prog X.w ty td):=by
 intro U s Z H Q I h;refine thn (hi U s Z H _ I h) λiv s1⟨y,H1,I1,ry,q1⟩=>thn (ho U s1 Z H1 _ I1 q1) λu s2⟨x,H2,I2,rx,q2⟩=>?_;obtain⟨a,b,k,f',rfl,rfl,hd,hk,q⟩:=q2;obtain rfl:u=Xl a:=rx;obtain rfl:iv=Xl b:=ry;obtain⟨_,BH,xs,φ,ea,rel,dd⟩:=jh I2.hok hd;refine wpAny_notIn_heap (knd:=cj fl X.prog X.w) (show X.A.units+1+1<YK from hu) (fj I2.hok hk) BH dd ?_;rw[<-tZ rel k];exact⟨.bl _,H2,I2.tok _,D?,q⟩
inductive uh(fl:Bool)(P:W5)(w:Xq)(x y z:V)(H:Hp)(Q:VK):Prop
 |mk (a b:WQ) (k:ay) (f':List (ay×V)) (z0:x=.ref a) (z1:y=.ref b) (z2:DM fl P w H a f') (z3:MKAt fl H k b) (z4:Q ((aN f' k).getD z) H):uh fl P w x y z H Q
def x9(fl:Bool)(P:W5)(w:Xq)(td ty tx:TE):TE:=λZ H Q=>td Z H λx H1=>∃a f',x=.ref a/\DM fl P w H1 a f'/\ty Z H1 λy H2=>tx Z H2 λz H3=>uh fl P w x y z H3 Q
theorem vE(I:Inv X U Z H s)(d:DM fl X.prog X.w H a f'):s.TypeIs (.ref a) "dict"/\(∀b,Xl a=.ref b->∃ob,s.1.get? b=A? ob/\ob.dict=B?):=by
 obtain⟨_,hd,xs,φ,_,_,dd⟩:=jh I.hok d;refine⟨dd.typeIs,λb q=>?_⟩;cases q;obtain⟨ob,_,_,h1,h2,_⟩:=dd;exact⟨ob,h1,h2.2.1⟩
theorem uN(hu:X.A.units+2<YK)(ho:PE X o td)(he:PE X e ty)(hf:PE X f tx)(m:M2 X o "get" apos e f Ar):PE X (.Call (.Attribute o "get" apos) [e,f] [] Ar) (x9 fl X.prog X.w td ty tx):=by
 intro U s Z H Q I h;refine wpAny_Call_method m.base m.few m.line PySem.F.plainAttrs_dict PySem.F.slot_dict_get PySem.F.type_dict_get (thn (ho U s Z H _ I h) λu s1⟨x,H1,I1,rx,a,U7,ex,d,q1⟩=>?_);subst ex;obtain rfl:u=Xl a:=rx;obtain⟨t1,t2⟩:=vE I1 d;refine⟨t1,t2,?_⟩;rw[m.trees]
 refine Calls.callWith_builtin rfl (Calls.evalArgs_plain (YJ (thn (he U s1 Z H1 _ I1 q1) λiv s2⟨y,H2,I2,ry,q2⟩ =>
  YJ (thn (hf U s2 Z H2 _ I2 q2) λfv s3⟨z,H3,I3,rz,q3⟩=>Zh ?_))))
 obtain⟨a',b,k,f',NT,rfl,hd,hk,q⟩:=q3;cases NT;obtain rfl:iv=Xl b:=ry;obtain⟨_,BH,xs,φ,ea,rel,dd⟩:=jh I3.hok hd;refine call_meetsIn PySem.F.slot_dict_get dd.typeIs PySem.F.entry_dict_get (PySem.F.args_dict_get_3 _ _ _) (meetsH_dict_get_default (cj fl X.prog X.w) a b BH fv) ⟨(show X.A.units+1+1<YK from hu),k,xs,fj I3.hok hk,dd,?_⟩;exact⟨_,H3,I3.tok _,(KTm.val rel k).getD rz,q⟩
inductive rn(fl:Bool)(P:W5)(w:Xq)(x:V)(vs:List V)(H:Hp)(Q:VK):Prop
 |mk (a b:WQ) (v:V) (k:ay) (f':List (ay×V)) (z0:x=.ref a) (z1:vs=[.ref b,v]) (z2:DM fl P w H a f') (z3:MKAt fl H k b) (z4:f'.length<Xf)
  (z5:∀u,aN f' k=A? u->Q u H) (z6:aN f' k=B?->∀H',(∀c o,c≠a->H c=A? o->H' c=A? o)->DM fl P w H' a (putK f' k v)->Q v H'):rn fl P w x vs H Q
theorem gz(hu:X.A.units+2<YK):MtM X "dict.setdefault" (rn fl X.prog X.w):=by
 intro U s Z H x vs v us Q I rx rv h;obtain⟨a,b,y,k,f',rfl,rfl,e,eb,l,q1,q2⟩:=h;cases rx;cases rv with
 |cons r1 rv =>
 cases rv with
 |cons r2 rv =>
 cases rv;cases r1;obtain⟨z,hd,xs,φ,ea,rel,dd⟩:=jh I.hok e;have hz:xs.length<=Xf:=by rw[<-WZ rel];exact z
 have hl:(putK f' k y).length<=Xf:=by have:=bw f' k y;lia
 have hT:s.TypeIs (.ref a) "dict":=dd.typeIs;refine call_meetsIn Zp hT PySem.F.entry_dict_setdefault (PySem.F.args_dict_setdefault_3 _ _ _) (bb_meets_setdefault (cj fl X.prog X.w) a b _ hd) ⟨(show X.A.units+1+1<YK from hu),k,xs,fj I.hok eb,dd,hz,λp hp=>?_,λhn h' Ds hs=>?_⟩
 .have hr:=KTm.val rel k;rw[hp]at hr;cases hv:aN f' k with
  |none=>rw[hv]at hr;exact hr.elim
  | some u =>
    rw[hv]at hr;exact⟨u,H,I.tok _,hr,q1 u hv⟩
 .have hr:=KTm.val rel k;rw[hn]at hr;cases hv:aN f' k with
  |some u=>rw[hv]at hr;exact hr.elim
  | none =>
    obtain⟨ob,es,ep,hq,h2,h3,h4,_,h5⟩:=Ds;have ne:qd fl X.prog X.w (storedH xs k b _) a h':=⟨ob,es,ep,hq,h2,h3,h4,h5⟩
    have I4:=fX (t':=s.toks+(cj fl X.prog X.w).draws k) I (by rw[ea];exact YT) hs ⟨ob,hq⟩ (ob:=.ext (qd fl X.prog X.w (storedH xs k b _) a)) ⟨ne,⟨ob,hq⟩,λh1 h2 p kk=>by
     obtain⟨o1,Kv,Kw,g1,g2⟩:=p;exact⟨o1,Kv,Kw,kk _ g1,g2⟩⟩
    have kt:∀ψ:Yh->Prop,BB.KT H (upd H a (.ext ψ)):=λψ c ys ec=>by
     rw[ai (cp ec ea (λz=>nomatch z))];exact ec
    exact⟨y,_,I4,r2,q2 hv _ (λc o hc e=>by rw[ai hc];exact e) ⟨hl,hd,_,_,ac,λ_ p=>p,KTm.mono (kt _) (KTm.put rel k eb r2)⟩⟩
inductive xp(fl:Bool)(P:W5)(w:Xq)(xs:List V)(H:Hp)(Q:VK):Prop
 |mk (a:WQ) (f':List (ay×V)) (z0:xs=[.ref a]) (z1:DM fl P w H a f') (z2:∀(l:WQ)(bs:List WQ),H l=B?->Xk (λkv b=>MKAt fl H kv.1 b) f' bs->Q (.ref l) (upd H l (.lst (bs.map i!)))):xp fl P w xs H Q
theorem xk{ys:List (ay×WQ×WT)}(rel:KTm fl H f' ys):Xk (λkv b=>MKAt fl H kv.1 b) f' (ys.map λy=>y.2.1):=by
 induction rel with
 |nil=>exact .nil
 |cons h t ih=>exact .cons (by rw[h.1];exact h.2.1) ih
theorem sL(hc:X.calm=C?):fH X (.type "list") (xp fl X.prog X.w):=by
 intro U s Z H xs us Q I r h;obtain⟨a,f',rfl,e,q⟩:=h;obtain⟨u,rfl,rx⟩:=vals1 r;cases rx;obtain⟨z,hd,ys,φ,ea,rel,dd⟩:=jh I.hok e;have hT:=dd.typeIs;obtain⟨o,es,ep,ho,UL,Jp,he,Jn,hn⟩:=dd;obtain⟨o',BG,Bm⟩:=hT;have eo:o'=o:=Xn (BG.symm.trans ho);subst eo;have hl:f'.length=ys.length:=WZ rel
 have HR:es.toList.map (·.key)=ys.map λy=>Xl y.2.1:=by
  rw[he,Y9];rfl
 have hsz:es.size<=Xf:=by
  have:=h! Zm HR;rw[WM,WM,XS]at this;lia
 have hh:X.A.in1.in1.handled=none:=I.ok.hd hc;refine bb_list_keys hh hd BG Bm Jp hsz λh' acc c hk hS Ao=>?_;have hp:Xk (λkv b=>MKAt fl H kv.1 b) f' (ys.map λy=>y.2.1):=xk rel;refine⟨.ref s.1.1.size,upd H s.1.1.size (.lst ((ys.map λy=>y.2.1).map i!)),?_,D?,q _ _ I.fresh hp⟩;refine I.laid (t':=s.toks) hk (WV _) ⟨by rw[WM,WM];lia,acc.toList,c,?_,hS⟩;rw[Ao,HR];clear hn Jn he HR Ao hS hl z rel hp q;induction ys with
 |nil=>exact .nil
 |cons y ys ih=>exact .cons rfl ih
def abo(fl:Bool)(P:W5)(w:Xq)(r:V->List V->Hp->VK->Prop)(to:TE)(t:TA):TE:=λZ H Q=>to Z H λx H1=>(∃a f',x=.ref a/\DM fl P w H1 a f')/\t Z H1 λxs H2=>r x xs H2 Q
theorem vN{to:TE}{t:TA}{name:Xp}{id:String}{r:V->List V->Hp->VK->Prop}(slot:Slot "dict" name id)(JV:typeOf (.builtin id)=pure (.type "method_descriptor"))(hm:MtR X id r)(ho:PE X o to)(ha:PA X (e::es) t)
 (BN:attributeBase o name X.env (Y2 o X.env)=Y2 o X.env:=by rfl)
 (Ht:((Z0 Ar (XG (e::es) X.env)).all (λx=>!x.1) && (backToKw Ar (keywordEach [] X.env)).all (λx=>x.1.isSome)
  && decide ((e::es).length+([]:List Keyword).length+(if([]:List Keyword).isEmpty then 0 else 1)<30))=true:=by rfl)
 (CL:(apos.endLine == Ar.line)=true:=by rfl) (hs:XG (e::es) X.env=(Cf,Y2 e X.env)::XG es X.env:=by rfl) (BO:(Z0 Ar (XG es X.env)).any (·.1)=false:=by rfl) :
 PE X (.Call (.Attribute o name apos) (e::es) [] Ar) (abo fl X.prog X.w r to t):=by
 intro U s Z H Q I h;refine wpAny_Call_method_late BN Ht CL rfl (thn (ho U s Z H _ I h) λv s1⟨x,H1,I1,r1,⟨a,f',ex,hd⟩,q1⟩=>?_);subst ex;obtain rfl:v=Xl a:=r1;obtain⟨h1,h2⟩:=vE I1 hd;refine⟨"dict",id,PySem.F.plainAttrs_dict,slot,JV,h1,h2,?_⟩;have hA:=ha Ar U s1 Z H1 _ I1 q1;rw[hs]at hA |-;refine Calls.callWith_builtin (by show(Cf ||(Z0 Ar (XG es X.env)).any (·.1))=Cf;rw[BO] <;> rfl) (Calls.evalArgs_plain ?_);exact thn hA λvs s2⟨xs,H2,I2,rv,q2⟩=>hm U s2 Z H2 (.ref a) xs (.ref a) vs Q I2 rfl rv q2
end
end L2
namespace BB
open PySem L2
theorem nv:∀{ps:List (List Int×Th)}{as:List WQ},PsAtK K H ps as->∃bs,Xk (λ(p:List Int×Th)b=>H b=A? (.tup (p.1.map q!))) ps bs/\bs.length=as.length/\∀(i:Nat)x b,(as.map i!)[i]?=A? x->bs[i]?=A? b->∃a ta,x=.ref a/\H a=A? (.tup [.ref b,.ref ta])
 |_,_,.nil=>⟨[],.nil,rfl,λi x b h=>by simp at h⟩
 | _,_,.cons r h=>by
   obtain⟨pa,ta,h1,h2,_⟩:=r;obtain⟨bs,g1,g2,g3⟩:=nv h;refine⟨pa::bs,.cons h2 g1,by rw[W0,W0,g2],λi x b hx hb=>?_⟩;cases i with
   | zero =>
     simp at hx hb;subst hx;subst hb;exact⟨_,ta,D?,h1⟩
   |succ i=>exact g3 i x b (by simpa using hx) (by simpa using hb)
theorem xn{F:Hp->α->WQ->Prop}{J:It}(zs:List α)(p:α->Bool)(hF:∀H1 H2 z p,KT H1 H2->F H1 z p->F H2 z p)(hz:zs.length=xs.length)(hn:xs.length<=1000000)
 (FL:∀i H2,k! H H2->i<xs.length->J.go i H2) (Bf:∀H2,k! H H2->J.stop xs.length H2) (Cm:∀(i:Nat)H2 x H3,k! H H2->i<xs.length->J.yld i H2 x H3->H3=H2/\xs[i]?=A? x)
 (hb:∀(i:Nat)x z H2(R:VK)(W':Hp->Prop),xs[i]?=A? x->zs[i]?=A? z->k! H H2->(p z=C?->∀H3 q,k! H2 H3->F H3 z q->R (.ref q) H3)->(p z=Cf->∀H3,k! H2 H3->W' H3)->g x (cσ js Z) H2 λAx H3=>tt Ax H3 λb H4=>if b=C? then te Ax H4 R else W' H4)
 (C0:∀D H' as,H D=B?->k! H H'->H' D=A? (.lst (as.map i!))->Xk (F H') (zs.filter p) as->fin D H') :
 ∀D,H D=B?->∃(n:Nat)(W:Nat->Hp->Prop),W 0 (upd H D (.lst []))/\g8 js g tt te Z J D n W λH'=>fin D H':=by
 intro D hD;refine⟨xs.length,λi H'=>i<=xs.length/\k! H H'/\∃as:List WQ,H' D=A? (.lst (as.map i!))/\Xk (F H') ((zs.take i).filter p) as,⟨Xg _,ae hD _,[],by rw[ac];rfl,.nil⟩,?_⟩;rintro i H' ⟨hi,s1,as,e1,hp⟩;by_cases Ai:i<xs.length
 .refine .inr ⟨Ai,FL i H' s1 Ai,λv H1 hy=>?_⟩;obtain⟨e,hx⟩:=Cm i H' v H1 s1 Ai hy;subst e;obtain⟨z,B7⟩:∃z,zs[i]?=A? z:=⟨_,WR (by lia)⟩;have hl:((zs.take i).filter p).length=as.length:=WZ hp;have Bz:=ZE p (zs.take i);rw[XF]at Bz;refine hb i v z _ _ _ hx B7 s1 (λJr H3 q s3 Om=>⟨_,s3 _ _ e1,?_,Ai,ao (s1.trans s3) hD,as++[q],?_,?_⟩) (λJr H3 s3=>⟨Ai,s1.trans s3,as,s3 _ _ e1,?_⟩)
  .rw[WM];have:Xf=16777216:=sizeLine_eq;lia
  .rw[ac,Xa];rfl
  .have kt:KT H3 (upd H3 D (.lst (as.map i!++[.ref q]))):=aI (s3 _ _ e1);rw[take_snoc B7,ZD,X1,b! Jr,List.filter_nil];exact r! (v! (λx y e=>hF _ _ _ _ ((j! s3).trans kt) e) hp) (.cons (hF _ _ _ _ kt Om) .nil)
  .rw[take_snoc B7,ZD,X1,a! (by rw[Jr];exact W6),List.filter_nil,XA];exact v! (λx y e=>hF _ _ _ _ (j! s3) e) hp
 .have AF:i=xs.length:=by lia
  subst AF;refine .inl ⟨Bf _ s1,C0 D H' as hD s1 e1 ?_⟩;rw[XZ (by lia)]at hp;exact hp
def eU(ins:List (Xp×Int)):Th:=.knot (((ins.filter λk=>decide (k.2=0))[0]?.map (·.1)).getD (Xm "")) []
theorem jr{k:Xp×Int}(h:(ins.filter λk=>decide (k.2=0))[0]?=A? k):eU ins=.knot k.1 []:=by
 unfold eU;rw[h];rfl
theorem sH(g:db ins):∃k,(ins.filter λk=>decide (k.2=0))[0]?=A? k/\k.2=0:=by
 obtain⟨k,hk,hz⟩:=g.zero;have hm:k∈ins.filter λk=>decide (k.2=0):=YZ.mpr ⟨hk,d! hz⟩;have hl:0<(ins.filter λk=>decide (k.2=0)).length:=List.length_pos_of_mem hm;refine⟨_,WR hl,?_⟩;exact e! (YZ.mp (List.getElem_mem hl)).2
def dj(ins:List (Xp×Int)):Nat:=ins.findIdx λk=>decide (k.2=0)
theorem jP:∀{ins:List (Xp×Int)}{k:Xp×Int},(ins.filter λk=>decide (k.2=0))[0]?=A? k->ins[dj ins]?=A? k
 | [],k,h=>by simp at h
 | x::xs,k,h=>by
   unfold dj;by_cases hx:x.2=0
   .rw[X1,b! (d! hx)]at h;rw[List.findIdx_cons,d! hx];simpa using h
   .rw[X1,a! (by simpa using hx)]at h;rw[List.findIdx_cons,c! hx];simpa[dj]using jP h
def MkAt(H:Hp)(ins:List (Xp×Int))(rows:List (List Th))(f':List (List Key×V)):Prop :=
 ∀(s k:Nat)(row:List Th)(p:Th),k<3->rows[s]?=A? row->row[dj ins]?=A? p->∃a,aN f' [Xo (s:Int),Xo (k:Int)]=A? (.ref a)/\At H p a
theorem MkAt.mono(kt:KT H H'){f':List (List Key×V)}(h:MkAt H ins rows f'):MkAt H' ins rows f':=λs k row p hk hr hp=>by
 obtain⟨a,h1,h2⟩:=h s k row p hk hr hp;exact⟨a,h1,h2.mono kt⟩
theorem r9:∀{ts:List Th}{i:Nat},(dvs ts)[i]?=(ts[i]?).map Th.dv
 | [],i=>by rw[dvs];simp
 |t::ts,0=>by rw[dvs];rfl
 |t::ts,i+1=>by rw[dvs,YN,YN];exact r9
theorem uo:∀ts:List Th,(dvs ts).length=ts.length
 | []=>by rw[dvs];rfl
 |t::ts=>by rw[dvs,W0,W0,uo ts]
theorem pO{f:α->Th}:∀{zs:List α}{as:List WQ},Xk (λz a=>At H (f z) a) zs as->Ats H (zs.map f) as
 |_,_,.nil=>.nil
 |_,_,.cons r h=>.cons r (pO h)
theorem cZ{x:List Int×Th}:∀{ts:List Th}{i:Int},x∈pls pre i ts↔∃(j:Nat)(t:Th),ts[j]?=A? t/\x∈t.pl (pre++[i+(j:Int)])
 | [],i=>by rw[pls];simp
 | t::ts,i=>by
   rw[pls,Xz,cZ (ts:=ts) (i:=i+1)];constructor
   .rintro(h|⟨j,u,hu,h⟩)
    .exact⟨0,t,D?,by simpa using h⟩
    .refine⟨j+1,u,by simpa using hu,?_⟩;rw[show i+((j+1:Nat):Int)=i+1+(j:Int)by lia];exact h
   .rintro⟨j,u,hu,h⟩;cases j with
    | zero =>
      simp at hu;subst hu;exact .inl (by simpa using h)
    | succ j =>
      refine .inr ⟨j,u,by simpa using hu,?_⟩;rw[show i+1+(j:Int)=i+((j+1:Nat):Int)by lia];exact h
theorem gA{n:Xp}{ks:List Th}{t:Th}(h:ks[j]?=A? t){x:List Int×Th}(hx:x∈t.pl (pre++[(j:Int)])):x∈(o! n ks).pl pre:=by
 rw[C!];refine Xe _ (cZ.mpr ⟨j,t,h,?_⟩);rw[X6];exact hx
theorem dE(t:Th)(pre:List Int):(pre,t)∈t.pl pre:=by rw[Th.pl_eq];exact Xh ..
theorem vP:∀(n:Nat)(l r:Th)(pre:List Int),l.size<=n->∀x∈(l.com r).pl pre,∃u,(x.1,u)∈l.pl pre
 |0,l,r,pre,hn=>by have:=l.size_pos;lia
 | n+1,.call a b,r,pre,hn=>λx hx=>by
   rw[jH,aE]at hx
   .rw[a! W6,hole,C!,pls]at hx;rw[W9.mp hx];exact⟨_,dE _ _⟩
   .intro _ _ _ _ h;cases h
 | n+1,.knot m ks,r,pre,hn=>λx hx=>by
   rw[jH]at hx;by_cases hs:aE (.knot m ks) r=C?
   .rw[b! hs,C!]at hx;rcases W8.mp hx with rfl|hx
    .exact⟨_,dE _ _⟩
    .obtain⟨j,t,ht,hx⟩:=cZ.mp hx;rw[X6]at hx;rw[WY,XM]at ht;obtain⟨p,hp,rfl⟩:=ht;obtain⟨h1,h2⟩:=Zd.mp hp;rw[p!]at hn;have hz:p.1.size<=aq ks:=aY (WS h1);obtain⟨u,hu⟩:=vP n p.1 p.2 _ (by lia) x hx;exact⟨u,gA h1 hu⟩
   .rw[a! hs,hole,C!,pls]at hx;rw[W9.mp hx];exact⟨_,dE _ _⟩
mutual
def Th.cut(D:List Int->Bool)(pre:List Int):Th->Th
 |.knot n ks=>if(o! n ks).isHole=C?\/D pre=C? then hole else .knot n (cz D pre 0 ks)
 |.call _ _=>hole
def cz(D:List Int->Bool)(pre:List Int)(i:Int):List Th->List Th
 | []=>[]
 |t::ts=>t.cut D (pre++[i])::cz D pre (i+1) ts
end
theorem lC{D:List Int->Bool}:∀{ts:List Th}{i:Int}{j:Nat},(cz D pre i ts)[j]?=(ts[j]?).map λt=>t.cut D (pre++[i+(j:Int)])
 | [],i,j=>by rw[cz];simp
 |t::ts,i,0=>by rw[cz];simp
 | t::ts,i,j+1=>by
   rw[cz,YN,YN,lC,show i+1+(j:Int)=i+((j+1:Nat):Int)by lia]
theorem eN{D:List Int->Bool}:∀{ts:List Th}{i:Int},(cz D pre i ts).length=ts.length
 | [],i=>by rw[cz]
 |t::ts,i=>by rw[cz,W0,W0,eN]
theorem fT:∀{as bs:List Th},(∀(i:Nat)(a b:Th),as[i]?=A? a->bs[i]?=A? b->a.lies b=C?)->aX as bs=C?
 | [],bs,_=>by rw[aX]
 |a::as,[],_=>by rw[aX]
 | a::as,b::bs,h=>by
   rw[aX,h 0 a b rfl rfl,fT λi x y hx hy=>h (i+1) x y (by simpa using hx) (by simpa using hy)];rfl
theorem gY:∀{as bs:List Th},aX as bs=C?->∀(i:Nat)(a b:Th),as[i]?=A? a->bs[i]?=A? b->a.lies b=C?
 | [],bs,_,i,a,b,ha,_=>by simp at ha
 |x::as,[],_,i,a,b,_,hb=>by simp at hb
 | x::as,y::bs,h,i,a,b,ha,hb=>by
   rw[aX,Yg]at h;cases i with
   | zero =>
     simp at ha hb;subst ha;subst hb;exact h.1
   |succ i=>exact gY h.2 i a b (by simpa using ha) (by simpa using hb)
theorem pL{n:Xp}{ks:List Th}{r:Th}(h:aE (.knot n ks) r=C?):∃us,r=.knot n us/\ks.length=us.length/\(o! n ks).isHole=false:=by
 cases r with
 |call a b=>rw[aE]at h;exact g! h W6;intro _ _ _ _ _ h;cases h
 | knot m us =>
   rw[aE,Yg,Yg]at h;obtain⟨⟨h1,h2⟩,h3⟩:=h;obtain rfl:=e! h2;exact⟨us,D?,e! h3,by simpa using h1⟩
theorem gd{n:Xp}{ks us:List Th}(h1:(o! n ks).isHole=Cf)(h2:ks.length=us.length):aE (.knot n ks) (.knot n us)=true:=by
 rw[aE,h1,d! rfl,d! h2];rfl
theorem lies_of{n:Xp}{ks:List Th}{r:Th}(h:(o! n ks).lies r=C?)(hh:(o! n ks).isHole=Cf):∃us,r=.knot n us/\ks.length=us.length/\aX ks us=true:=by
 rw[w!,hh,Bool.false_or,Yg]at h;obtain⟨us,rfl,hl,_⟩:=pL h.1;exact⟨us,D?,hl,h.2⟩
theorem iq(r:Th):hole.lies r=true:=by
 rw[hole,w!];have:(o! star []).isHole=true:=dL;rw[this];rfl
theorem pY{n:Xp}{ks cs:List Th}(hl:cs.length=ks.length)(h:(o! n ks).isHole=Cf):(o! n cs).isHole=false:=by
 rw[G!,decide_eq_false_iff_not]at h |-;rintro⟨h1,h2⟩;rw[h2]at hl;exact h ⟨h1,Yk.mp hl.symm⟩
theorem cV{c:List Int×Int×Int}{ps:List (List Int×Th)}:c∈callsOf ps↔(c.1,x! c.2.1 c.2.2)∈ps:=by
 unfold callsOf;rw[List.mem_filterMap];constructor
 .rintro⟨⟨pl,t⟩,hx,e⟩;cases t with
  |knot n ks=>rw[pE]at e;cases e
  |call a b=>rw[pE]at e;cases e;exact hx
 .intro h;exact⟨_,h,by rw[pE]⟩
theorem qa{n:Xp}{ks:List Th}{t:Th}(h:ks[j]?=A? t){c:List Int×Int×Int}(hc:c∈callsOf (t.pl (pre++[(j:Int)]))):c∈callsOf ((o! n ks).pl pre):=cV.mpr (gA h (cV.mp hc))
section
variable{D:Int->List Int->Bool}{mk f0:Int->Th}
theorem nQ{s l:Int}{q:List Int}(Hl:∀(r:List Int)(u:Th),D l r=C?->(q++r,u)∈(f0 s).pl []->D s (q++r)=C?)(Hh:∀(r:List Int)(u:Th),(r,u)∈(f0 l).pl []->u.isHole=C?->D l r=C?) :
 ∀(n:Nat)(f g m:Th)(r:List Int),f.size<=n->(∀x∈f.pl (q++r),x∈(f0 s).pl [])->(∀x∈g.pl r,x∈(f0 l).pl [])->f.noCall->g.noCall->f.lies m=C?->g.lies m=C?->(f.cut (D s) (q++r)).lies (g.cut (D l) r)=C?
 |0,f,g,m,r,hn=>by have:=f.size_pos;lia
 |n+1,.call a b,g,m,r,_=>λ_ _ h=>by rw[u!]at h;exact h.elim
 |n+1,.knot nm ks,.call a b,m,r,_=>λ_ _ _ h=>by rw[u!]at h;exact h.elim
 | n+1,.knot nm ks,.knot gm vs,m,r,hn=>λhF hG nf ng hf hg=>by
   rw[Th.cut];by_cases hc:(o! nm ks).isHole=C?\/D s (q++r)=C?
   .rw[b! hc];exact iq _
   .rw[a! hc];have h1:(o! nm ks).isHole=false:=YA.mpr λz=>hc (.inl z);have h2:¬D s (q++r)=true:=λz=>hc (.inr z);have h3:¬D l r=true:=λz=>h2 (Hl r _ z (hF _ (dE _ _)));have h4:(o! gm vs).isHole=false:=YA.mpr λz=>h3 (Hh r _ (hG _ (dE _ _)) z);obtain⟨us,rfl,l1,b1⟩:=lies_of hf h1;obtain⟨U8,e,l2,b2⟩:=lies_of hg h4;cases e;rw[Th.cut,a! (by rintro(z|z);(rw[h4]at z;cases z);exact h3 z)];rw[w!,gd (pY eN h1) (by rw[eN,eN];lia)];rw[p!]at hn;rw[u!]at nf ng
    have:aX (cz (D s) (q++r) 0 ks) (cz (D l) r 0 vs)=true:=fT λi a b ha hb=>by
     rw[lC,XM]at ha hb;obtain⟨k,hk,rfl⟩:=ha;obtain⟨v,hv,rfl⟩:=hb;have BI:=(glE hk);obtain⟨u,hu⟩:∃u,us[i]?=A? u:=⟨_,WR (by lia)⟩;have hz:=aY (WS hk);rw[X6,XO];refine nQ Hl Hh n k v u (r++[(i:Int)]) (by lia) (λx hx=>hF x (gA hk (by rw[XO];exact hx))) (λx hx=>hG x (gA hv hx)) (ce nf (WS hk)) (ce ng (WS hv)) (gY b1 i k u hk hu) (gY b2 i v u hv hu)
    show((o! nm (cz (D s) (q++r) 0 ks)).isHole ||(C? && aX (cz (D s) (q++r) 0 ks) (o! nm (cz (D l) r 0 vs)).kids))=C?;rw[show(o! nm (cz (D l) r 0 vs)).kids=cz (D l) r 0 vs from rfl,this,Bool.or_comm];rfl
theorem lB{s:Int}{pat:Th}(Hc:∀c∈callsOf (pat.pl []),(f0 c.2.1).lies (mk c.2.1)=C?/\(f0 c.2.1).noCall/\(∀(r:List Int)(u:Th),(r,u)∈(f0 c.2.1).pl []->u.isHole=C?->D c.2.1 r=C?)/\∀(r:List Int)(u:Th),D c.2.1 r=C?->(c.1++r,u)∈(f0 s).pl []->D s (c.1++r)=C?) :
 ∀(n:Nat)(f p:Th)(q:List Int),f.size<=n->(∀x∈f.pl q,x∈(f0 s).pl [])->(∀c∈callsOf (p.pl q),c∈callsOf (pat.pl []))->f.noCall->f.lies (p.fill λl _=>mk l)=C?->(f.cut (D s) q).lies (p.fill λl _=>(f0 l).cut (D l) [])=C?
 |0,f,p,q,hn=>by have:=f.size_pos;lia
 |n+1,.call a b,p,q,_=>λ_ _ h=>by rw[u!]at h;exact h.elim
 | n+1,.knot nm ks,.call l k,q,hn=>λhF hC nf hf=>by
   obtain⟨g1,g2,g3,g4⟩:=Hc (q,l,k) (hC _ (cV.mpr (dE _ _)));rw[A!]at hf |-;have:=nQ (q:=q) g4 g3 (n+1) (.knot nm ks) (f0 l) (mk l) [] hn (by rw[XA];exact hF) (λx hx=>hx) nf g2 hf g1;rw[XA]at this;exact this
 | n+1,.knot nm ks,.knot pm ps,q,hn=>λhF hC nf hf=>by
   rw[Th.cut];by_cases hc:(o! nm ks).isHole=C?\/D s q=C?
   .rw[b! hc];exact iq _
   .rw[a! hc];have h1:(o! nm ks).isHole=false:=YA.mpr λz=>hc (.inl z);rw[A!,eF]at hf |-;obtain⟨us,e,l1,b1⟩:=lies_of hf h1;cases e;rw[WM]at l1;rw[w!,gd (pY eN h1) (by rw[eN,WM];lia)];rw[p!]at hn;rw[u!]at nf
    have:aX (cz (D s) q 0 ks) (ps.map λt=>t.fill λl _=>(f0 l).cut (D l) [])=true:=fT λi a b ha hb=>by
     rw[lC,XM]at ha;rw[WY,XM]at hb;obtain⟨k,hk,rfl⟩:=ha;obtain⟨v,hv,rfl⟩:=hb;have hz:=aY (WS hk);rw[X6];refine lB Hc n k v (q++[(i:Int)]) (by lia) (λx hx=>hF x (gA hk hx)) (λc Dh=>hC c (qa hv Dh)) (ce nf (WS hk)) (gY b1 i k _ hk (gmE hv))
    show((o! nm (cz (D s) q 0 ks)).isHole ||(C? && aX (cz (D s) q 0 ks) (o! nm (ps.map λt=>t.fill λl _=>(f0 l).cut (D l) [])).kids))=C?;rw[show(o! nm (ps.map λt=>t.fill λl _=>(f0 l).cut (D l) [])).kids=ps.map λt=>t.fill λl _=>(f0 l).cut (D l) []from rfl,this,Bool.or_comm];rfl
end
theorem jN:∀(n:Nat)(t:Th),t.size<=n->t.noCall->t.lies t=C?
 |0,t,hn,_=>by have:=t.size_pos;lia
 |n+1,.call a b,_,h=>by rw[u!]at h;exact h.elim
 | n+1,.knot m ks,hn,h=>by
   by_cases hh:(o! m ks).isHole=C?
   .rw[w!,hh];rfl
   .have U9:(o! m ks).isHole=false:=YA.mpr hh;rw[p!]at hn;rw[u!]at h;rw[w!,gd U9 rfl]
    have:aX ks ks=true:=fT λi a b ha hb=>by
     rw[ha]at hb;cases hb;have:=aY (WS ha);exact jN n a (by lia) (ce h (WS ha))
    show((o! m ks).isHole ||(C? && aX ks (o! m ks).kids))=C?;rw[show(o! m ks).kids=ks from rfl,this,Bool.or_comm];rfl
def mkF(ins:List (Xp×Int))(rows:List (List Th))(l:Int):Th:=(rowOf rows l).getD (dj ins) hole
def frF(mk:Int->Th)(m:Th)(row:List Th):Th:=row.foldl (λf p=>f.com (p.fill λl _=>mk l)) m
theorem qX(mk:Int->Th)(m:Th)(row:List Th)(p:Th):frF mk m (row++[p])=(frF mk m row).com (p.fill λl _=>mk l):=by
 unfold frF;rw[List.foldl_append];rfl
theorem rR{mk:Int->Th}{m:Th}(h:m.noCall):∀row:List Th,(frF mk m row).noCall:=λrow=>by
 cases hr:row.reverse with
 | nil =>
   have:row=[]:=by simpa using hr
   subst this;exact h
 | cons p ps =>
   have:row=ps.reverse++[p]:=by
    have:=h! List.reverse hr;simpa using this
   rw[this,qX];exact lP _ _
theorem iR(mk:Int->Th)(m:Th)(row:List Th):(frF mk m row).size<=m.size/\(frF mk m row).tall<=m.tall:=by
 unfold frF;induction row generalizing m with
 |nil=>exact⟨WV _,WV _⟩
 | cons p row ih =>
   rw[List.foldl_cons];have h1:=ih (m.com (p.fill λl _=>mk l));have h2:=qB m (p.fill λl _=>mk l);lia
theorem wy(mk:Int->Th)(m:Th)(row:List Th):∀x∈(frF mk m row).pl [],∃u,(x.1,u)∈m.pl []:=by
 unfold frF;induction row generalizing m with
 |nil=>exactλx hx=>⟨x.2,hx⟩
 | cons p row ih =>
   rw[List.foldl_cons];intro x hx;obtain⟨u,hu⟩:=ih _ x hx;exact vP _ m _ [] (WV _) (x.1,u) hu
theorem qC{mk:Int->Th}(f:Th):∀(row:List Th)(m:Th),f.lies (frF mk m row)=C?->f.lies m=C?/\∀p∈row,f.lies (p.fill λl _=>mk l)=C?
 | [],m,h=>⟨h,λp hp=>by cases hp⟩
 | p::row,m,h=>by
   have h':f.lies (frF mk (m.com (p.fill λl _=>mk l)) row)=true:=h;obtain⟨h1,h2⟩:=qC f row _ h';rw[qN,Yg]at h1;refine⟨h1.1,λx hx=>?_⟩;rcases W8.mp hx with rfl|hx
   .exact h1.2
   .exact h2 x hx
def nk(s:Int)(pl:List Int):ay:=(pl.map Xo,Xo s)
theorem vz{s s':Int}{p p':List Int}(h:nk s p=nk s' p'):s=s'/\p=p':=by
 unfold nk at h;injection h with h1 h2;refine⟨YL h2,?_⟩;exact(List.map_inj_right (λ_ _ e=>YL e)).mp h1
theorem n6{s:Int}{pl:List Int}(h1:H b=A? (.tup [.int s,.ref c]))(h2:H c=A? (.tup (pl.map q!))):MKAt Cf H (nk s pl) b:=by
 refine⟨c,h1,?_⟩;rw[h2];unfold nk;rw[Y9];rfl
def But(p:WQ)(H H':Hp):Prop:=∀c o,c≠p->H c=A? o->H' c=A? o
theorem But.refl(p:WQ)(H:Hp):But p H H:=λ_ _ _ e=>e
theorem But.trans{Kx:Hp}(a:But p H H')(b:But p H' Kx):But p H Kx:=λc o hc e=>b c o hc (a c o hc e)
theorem Same.but(a:k! H H'):But p H H':=λc o _ e=>a c o e
theorem But.kt{φ:Yh->Prop}(a:But p H H')(e:H p=A? (.ext φ)):KT H H':=λc ys ec=>a c _ (λz=>by rw[z,e]at ec;cases ec) ec
theorem cB(h:DM Cf P w H a f'):∃φ,H a=A? (.ext φ):=by
 obtain⟨_,_,xs,φ,e,_⟩:=h;exact⟨φ,e⟩
theorem eE{k:ay}(h:aN f' k=B?):k∉f'.map (·.1):=by
 intro hk;obtain⟨p,hp,rfl⟩:=Xx.mp hk;have:=eZ p.1 f';rw[h]at this;have h2:(f'.any λkv=>decide (kv.1=p.1))=true:=List.any_eq_true.mpr ⟨p,hp,d! rfl⟩;rw[h2]at this;cases this
theorem fG{k:ay}(h:aN f' k=A? v):(k,v)∈f':=by
 induction f' with
 |nil=>cases h
 | cons p f' ih =>
   by_cases e:p.1=k
   .rw[bP e]at h;cases h;rw[<-e];exact Xh ..
   .rw[bM e]at h;exact Xe _ (ih h)
mutual
theorem sY{u:Th}:∀(t:Th)(pre:List Int),u∈t.walk->∃pl,(pl,u)∈t.pl pre
 | .call a b,pre,h=>by
   rw[Th.walk]at h;rw[W9.mp h];exact⟨pre,dE _ _⟩
 | .knot n ks,pre,h=>by
   rw[Th.walk]at h;rcases W8.mp h with rfl|h
   .exact⟨pre,dE _ _⟩
   .obtain⟨pl,hp⟩:=pG ks pre 0 h;exact⟨pl,by rw[C!];exact Xe _ hp⟩
theorem pG{u:Th}:∀(ts:List Th)(pre:List Int)(i:Int),u∈walks ts->∃pl,(pl,u)∈pls pre i ts
 | [],pre,i,h=>by rw[walks]at h;cases h
 | t::ts,pre,i,h=>by
   rw[walks]at h;rw[pls];rcases Xz.mp h with h|h
   .obtain⟨pl,hp⟩:=sY t (pre++[i]) h;exact⟨pl,XT _ hp⟩
   .obtain⟨pl,hp⟩:=pG ts pre (i+1) h;exact⟨pl,XH _ hp⟩
end
theorem jy{ks:List (Xp×Int)}{t:Th}(h:t.FitS ks S C){s k:Int}(hm:x! s k∈t.walk):0<=s/\s<S/\0<=k/\k<C:=by
 obtain⟨pl,hp⟩:=sY t [] hm;exact gN t [] h (pl,s,k) (cV.mpr hp)
theorem j0{ks:List (Xp×Int)}:∀(n:Nat)(t:Th),t.size<=n->t.FitS ks S 0->t.noCall
 |0,t,hn,_=>by have:=t.size_pos;lia
 |n+1,.call a b,_,h=>by rw[z!]at h;lia
 | n+1,.knot m us,hn,h=>by
   rw[z!]at h;rw[p!]at hn;rw[u!]
   have:∀(l:List Th),(∀t∈l,t.noCall)->ba l:=λl=>by
    induction l with
    |nil=>intro _;rw[ba];trivial
    |cons x l ih=>intro hl;rw[ba];exact⟨hl x (Xh ..),ih λt ht=>hl t (Xe _ ht)⟩
   refine this us λt ht=>?_;have hz:=aY ht;exact j0 n t (by lia) (FitSs.mem' h.2 t ht)
mutual
theorem wS:∀(t:Th)(a b:List Int),t.pl (a++b)=(t.pl b).map λx=>(a++x.1,x.2)
 |.call s k,a,b=>by rw[C!,C!];rfl
 |.knot n ks,a,b=>by rw[C!,C!,XB,ub ks a b 0]
theorem ub:∀(ts:List Th)(a b:List Int)(i:Int),pls (a++b) i ts=(pls b i ts).map λx=>(a++x.1,x.2)
 | [],a,b,i=>by rw[pls,pls];rfl
 |t::ts,a,b,i=>by rw[pls,pls,Xa,XO,wS t a (b++[i]),ub ts a b (i+1)]
end
theorem dZ{t:Th}{a:List Int}{x:List Int×Th}:x∈t.pl a↔∃r,x.1=a++r/\(r,x.2)∈t.pl []:=by
 have:=wS t a [];rw[XA]at this;rw[this,Xx];constructor
 .rintro⟨y,hy,rfl⟩;exact⟨y.1,D?,hy⟩
 .rintro⟨r,h1,h2⟩;exact⟨(r,x.2),h2,by rw[<-h1]⟩
theorem tW:∀(n:Nat){t u v:Th}{a r:List Int},t.size<=n->(a,u)∈t.pl []->(r,v)∈u.pl []->(a++r,v)∈t.pl []
 |0,t,_,_,_,_,hn=>by have:=t.size_pos;lia
 | n+1,.call s k,u,v,a,r,hn=>λh1 h2=>by
   rw[C!]at h1;cases W9.mp h1;exact h2
 | n+1,.knot m ks,u,v,a,r,hn=>λh1 h2=>by
   rw[C!]at h1;rcases W8.mp h1 with h1|h1
   .cases h1;exact h2
   .obtain⟨j,t,ht,hx⟩:=cZ.mp h1;obtain⟨r',e,Bv⟩:=dZ.mp hx;dsimp only at e Bv;rw[X6,YY]at e;rw[p!]at hn;have hz:=aY (WS ht);have:=tW n (by lia) Bv h2;refine gA ht (dZ.mpr ⟨r'++r,?_,this⟩);show a++r=[]++[(j:Int)]++(r'++r);rw[e,YY,XO]
theorem qr:∀(n:Nat){t v:Th}{a r:List Int}{u:Th},t.size<=n->(a++r,v)∈t.pl []->(∃w,(a,w)∈t.pl []/\(r,v)∈w.pl [])
 |0,t,_,_,_,_,hn=>by have:=t.size_pos;lia
 |n+1,t,v,[],r,_,hn=>λh=>⟨t,dE _ _,h⟩
 | n+1,.call s k,v,x::a,r,_,hn=>λh=>by
   rw[C!]at h;have:=h! Prod.fst (W9.mp h);cases this
 | n+1,.knot m ks,v,x::a,r,u,hn=>λh=>by
   rw[C!]at h;rcases W8.mp h with h|h
   .have:=h! Prod.fst h;cases this
   .obtain⟨j,t,ht,hx⟩:=cZ.mp h;obtain⟨r',e,Bv⟩:=dZ.mp hx;dsimp only at e Bv;rw[X6,YY]at e;injection e with e1 e2;have e2:a++r=r':=e2;rw[p!]at hn;have hz:=aY (WS ht);rw[<-e2]at Bv;obtain⟨w,h1,h2⟩:=qr n (u:=u) (by lia) Bv;refine⟨w,gA ht (dZ.mpr ⟨a,?_,h1⟩),h2⟩;show x::a=[]++[(j:Int)]++a;rw[e1];rfl
abbrev VlT:=Nat->ay->Th->Th->Prop
def PtV(H:Hp)(R:Th->Th->Prop)(v:V):Prop:=∃(pr ta tb:WQ)(t1 t2:Th),v=.ref pr/\H pr=A? (.tup [.ref ta,.ref tb])/\At H t1 ta/\At H t2 tb/\R t1 t2
theorem PtV.mono(k:KT H H'){R:Th->Th->Prop}(h:PtV H R v):PtV H' R v:=by
 obtain⟨pr,ta,tb,t1,t2,e,h1,h2,h3,h4⟩:=h;exact⟨pr,ta,tb,t1,t2,e,k _ _ h1,h2.mono k,h3.mono k,h4⟩
structure Pt(P:W5)(w:Xq)(Vl:VlT)(H:Hp)(pt:WQ)(f':List (ay×V))(Al:List ay):Prop where
 dm:DM Cf P w H pt f'
 nd:(f'.map (·.1)).Nodup
 al:∀p∈f',p.1∈Al
 vl:∀(j:Nat)(p:ay×V),f'[j]?=A? p->PtV H (Vl j p.1) p.2
theorem Pt.same{Vl:VlT}{pt:WQ}(h:Pt P w Vl H pt f' Al)(s:k! H H'):Pt P w Vl H' pt f' Al:=⟨h.dm.mono s,h.nd,h.al,λj p hp=>(h.vl j p hp).mono (j! s)⟩
theorem Pt.len{Vl:VlT}{pt:WQ}(h:Pt P w Vl H pt f' Al):f'.length<=Al.length:=by
 have:=nN (m:=Al) h.nd λk hk=>by
  obtain⟨p,hp,rfl⟩:=Xx.mp hk;exact h.al p hp
 rwa [WM]at this
theorem Pt.put{Vl:VlT}{pt:WQ}(h:Pt P w Vl H pt f' Al){k:ay}(hn:aN f' k=B?)(hb:But pt H H')(hd:DM Cf P w H' pt (putK f' k v))(hv:PtV H (Vl f'.length k) v)(hk:k∈Al):Pt P w Vl H' pt (putK f' k v) Al/\(putK f' k v).map (·.1)=f'.map (·.1)++[k]:=by
 obtain⟨φ,e⟩:=cB h.dm;have kt:=hb.kt e;rw[gF v hn]at hd |-;refine⟨⟨hd,?_,λp hp=>?_,λj p hp=>?_⟩,by rw[Xa];rfl⟩
 .rw[Xa];refine List.nodup_append.mpr ⟨h.nd,by simp,λa ha b AB=>?_⟩;simp at AB;subst AB;exactλz=>eE hn (z ▸ ha)
 .rcases Xz.mp hp with hp|hp
  .exact h.al p hp
  .rw[W9.mp hp];exact hk
 .by_cases hj:j<f'.length
  .rw[X0 hj]at hp;exact(h.vl j p hp).mono kt
  .rw[Yq (by lia)]at hp
   have U':j - f'.length=0:=by
    have:=(glE hp);have h1:[(k,v)].length=1:=rfl;lia
   rw[U']at hp;have GN:j=f'.length:=by lia
   cases hp;rw[GN];exact hv.mono kt
end BB
open BB.Same renaming but->H!
variable{Vl:BB.VlT}
namespace BB
open PySem L2
theorem sf:∀(n:Nat){t u v:Th}{a:List Int},t.size<=n->(a,u)∈t.pl []->(a,v)∈t.pl []->u=v
 |0,t,_,_,_,hn=>by have:=t.size_pos;lia
 | n+1,.call s k,u,v,a,hn=>λh1 h2=>by
   rw[C!]at h1 h2;cases W9.mp h1;cases W9.mp h2;rfl
 | n+1,.knot m ks,u,v,a,hn=>λh1 h2=>by
   rw[C!]at h1 h2;rcases W8.mp h1 with h1|h1
   .cases h1;rcases W8.mp h2 with h2|h2
    .cases h2;rfl
    .obtain⟨j,t,ht,hx⟩:=cZ.mp h2;obtain⟨r',e,_⟩:=dZ.mp hx;cases e
   .obtain⟨j,t,ht,hx⟩:=cZ.mp h1;obtain⟨r',e,Bv⟩:=dZ.mp hx;rcases W8.mp h2 with h2|h2
    .cases h2;cases e
    .obtain⟨j2,t2,Ky,B1⟩:=cZ.mp h2;obtain⟨r2,e2,HY⟩:=dZ.mp B1;dsimp only at e e2 Bv HY;rw[e]at e2;have e3:(0+(j:Int))::r'=(0+(j2:Int))::r2:=e2;injection e3 with e4 e5;have:j=j2:=by lia
     subst this;rw[ht]at Ky;cases Ky;subst e5;rw[p!]at hn;have hz:=aY (WS ht);exact sf n (by lia) Bv HY
abbrev LkT:=ay->Int->List Int->Xp×Int->Int->Prop
def LE(H:Hp)(ins:List (Xp×Int))(Al:List ay)(Lk:LkT)(k0:ay)(a:WQ):Prop:=∃(s kid:Int)(pl:List Int)(pa ka:WQ)(kd:Xp×Int),H a=A? (.tup [.int s,.ref pa,.ref ka,.int kid])/\H pa=A? (.tup (pl.map q!))/\KAt H kd ka/\kd∈ins/\nk s pl∈Al/\Lk k0 s pl kd kid
theorem LE.mono(k:KT H H'){Lk:LkT}{k0:ay}(h:LE H ins Al Lk k0 a):LE H' ins Al Lk k0 a:=by
 obtain⟨s,kid,pl,pa,ka,kd,h1,h2,h3,h4,h5⟩:=h;exact⟨s,kid,pl,pa,ka,kd,k _ _ h1,k _ _ h2,k _ _ h3,h4,h5⟩
abbrev LG:=List (ay×WQ×List WQ)
def lkv(G:LG):List (ay×V):=G.map λg=>(g.1,i! g.2.1)
structure LkI(P:W5)(w:Xq)(ins:List (Xp×Int))(Al:List ay)(Lk:LkT)(H0 H:Hp)(la:WQ)(G:LG)(N:Nat):Prop where
 sm:k! H0 H
 la0:H0 la=B?
 dm:DM Cf P w H la (lkv G)
 kn:(G.map (·.1)).Nodup
 an:(G.map (·.2.1)).Nodup
 ls:∀g∈G,H0 g.2.1=B?/\H g.2.1=A? (.lst (g.2.2.map i!))/\g.2.2.length<=N/\∀a∈g.2.2,LE H ins Al Lk g.1 a
 le:G.length<=N
def g7(H:Hp)(G:LG)(k:ay)(s:Int)(pl:List Int):Prop:=∃g∈G,g.1=k/\∃a∈g.2.2,∃(pa ka:WQ)(kid:Int),H a=A? (.tup [.int s,.ref pa,.ref ka,.int kid])/\H pa=A? (.tup (pl.map q!))
def LSub(H H':Hp)(G G':LG):Prop:=∀k s pl,g7 H G k s pl->g7 H' G' k s pl
theorem LSub.refl(H:Hp)(G:LG):LSub H H G G:=λ_ _ _ h=>h
theorem LSub.trans{Kx:Hp}{G G' RU:LG}(a:LSub H H' G G')(b:LSub H' Kx G' RU):LSub H Kx G RU:=λk s pl h=>b k s pl (a k s pl h)
theorem LSub.kt(k:KT H H')(G:LG):LSub H H' G G:=λ_ _ _⟨g,hg,e,a,ha,pa,ka,kid,h1,h2⟩=>⟨g,hg,e,a,ha,pa,ka,kid,k _ _ h1,k _ _ h2⟩
theorem sV(h:DM Cf P w H a f')(k:KT H H')(e:∀o,H a=A? o->H' a=A? o):DM Cf P w H' a f':=by
 obtain⟨z,hd,xs,φ,e1,f,r⟩:=h;exact⟨z,hd,xs,φ,e _ e1,f,KTm.mono k r⟩
section
variable{Lk:LkT}{H0:Hp}{G:LG}{N:Nat}
theorem LkI.ne(h:LkI P w ins Al Lk H0 H la G N){g:ay×WQ×List WQ}(hg:g∈G):g.2.1≠la:=λz=>by
 obtain⟨φ,e⟩:=cB h.dm;have:=(h.ls g hg).2.1;rw[z,e]at this;cases this
theorem LkI.same(h:LkI P w ins Al Lk H0 H la G N)(s:k! H H'):LkI P w ins Al Lk H0 H' la G N:=by
 refine⟨h.sm.trans s,h.la0,h.dm.mono s,h.kn,h.an,λg hg=>?_,h.le⟩;obtain⟨a,b,c,d⟩:=h.ls g hg;exact⟨a,s _ _ b,c,λx hx=>(d x hx).mono (j! s)⟩
theorem LkI.up(h:LkI P w ins Al Lk H0 H la G N){M:Nat}(hm:N<=M):LkI P w ins Al Lk H0 H la G M:=by
 refine⟨h.sm,h.la0,h.dm,h.kn,h.an,λg hg=>?_,Xs h.le hm⟩;obtain⟨a,b,c,d⟩:=h.ls g hg;exact⟨a,b,Xs c hm,d⟩
theorem LkI.new(h:LkI P w ins Al Lk H0 H la G N){k:ay}{l:WQ}(hn:aN (lkv G) k=B?)(hb:But la H H')(hd:DM Cf P w H' la (putK (lkv G) k (.ref l)))(Fl:H0 l=B?)(hl:H l=A? (.lst []))(hf:∀g∈G,g.2.1≠l):LkI P w ins Al Lk H0 H' la (G++[(k,l,[])]) (N+1)/\LSub H H' G (G++[(k,l,[])]):=by
 obtain⟨φ,e⟩:=cB h.dm;have kt:=hb.kt e;have OT:l≠la:=λz=>by rw[z,e]at hl;cases hl
 refine⟨⟨λc o ec=>hb c o (λz=>by rw[z,h.la0]at ec;cases ec) (h.sm _ _ ec),h.la0,?_,?_,?_,λg hg=>?_,by rw[Xd];have:=h.le;show G.length+1<=N+1;lia⟩,λk' s pl h'=>?_⟩
 .rw[gF _ hn]at hd;unfold lkv at hd |-;rw[Xa];exact hd
 .rw[Xa];refine List.nodup_append.mpr ⟨h.kn,by simp,λa ha b AB=>?_⟩;simp at AB;subst AB;intro z;subst z;refine eE hn ?_;unfold lkv;rw[Y9];exact ha
 .rw[Xa];refine List.nodup_append.mpr ⟨h.an,by simp,λa ha b AB=>?_⟩;simp at AB;subst AB;obtain⟨g,hg,rfl⟩:=Xx.mp ha;exact hf g hg
 .rcases Xz.mp hg with hg|hg
  .obtain⟨a,b,c,d⟩:=h.ls g hg;exact⟨a,hb _ _ (h.ne hg) b,by lia,λx hx=>(d x hx).mono kt⟩
  .rw[W9.mp hg];exact⟨Fl,hb _ _ OT hl,Xg _,λx hx=>by cases hx⟩
 .obtain⟨g,hg,r⟩:=LSub.kt kt G k' s pl h';exact⟨g,XT _ hg,r⟩
def f6(l en:WQ)(g:ay×WQ×List WQ):ay×WQ×List WQ:=if g.2.1=l then(g.1,g.2.1,g.2.2++[en])else g
theorem eM(l en:WQ)(g:ay×WQ×List WQ):(f6 l en g).1=g.1/\(f6 l en g).2.1=g.2.1:=by
 unfold f6;split <;> exact⟨D?,D?⟩
theorem LkI.app(h:LkI P w ins Al Lk H0 H la G N){g:ay×WQ×List WQ}(hg:g∈G){en:WQ}(he:LE H ins Al Lk g.1 en):LkI P w ins Al Lk H0 (upd H g.2.1 (.lst (g.2.2.map i!++[.ref en]))) la (G.map (f6 g.2.1 en)) (N+1)/\KT H (upd H g.2.1 (.lst (g.2.2.map i!++[.ref en])))/\LSub H (upd H g.2.1 (.lst (g.2.2.map i!++[.ref en]))) G (G.map (f6 g.2.1 en))/\(∀(s:Int)(pl:List Int)(pa ka:WQ)(kid:Int),H en=A? (.tup [.int s,.ref pa,.ref ka,.int kid])->H pa=A? (.tup (pl.map q!))->g7 (upd H g.2.1 (.lst (g.2.2.map i!++[.ref en]))) (G.map (f6 g.2.1 en)) g.1 s pl):=by
 obtain⟨gl,ge,gn,Va⟩:=h.ls g hg;have kt:KT H (upd H g.2.1 (.lst (g.2.2.map i!++[.ref en]))):=aI ge;have FN:=h.ne hg;have k1:(G.map (f6 g.2.1 en)).map (·.1)=G.map (·.1):=by rw[Y9];exact List.map_congr_left λx _=>(eM _ _ x).1
 have k2:(G.map (f6 g.2.1 en)).map (·.2.1)=G.map (·.2.1):=by rw[Y9];exact List.map_congr_left λx _=>(eM _ _ x).2
 have k3:lkv (G.map (f6 g.2.1 en))=lkv G:=by
  unfold lkv;rw[Y9];refine List.map_congr_left λx _=>?_;show((f6 g.2.1 en x).1,i! (f6 g.2.1 en x).2.1)=_;rw[(eM _ _ x).1,(eM _ _ x).2]
 refine⟨⟨ao h.sm gl,h.la0,?_,by rw[k1];exact h.kn,by rw[k2];exact h.an,λx hx=>?_,by rw[WM];have:=h.le;lia⟩,kt,λk s pl hh=>?_,λs pl pa ka kid h1 h2=>?_⟩
 .rw[k3];exact sV h.dm kt λo eo=>by rw[ai FN.symm];exact eo
 .obtain⟨y,hy,rfl⟩:=Xx.mp hx;obtain⟨a,b,c,d⟩:=h.ls y hy;by_cases hc:y.2.1=g.2.1
  .have Vb:y=g:=by
    obtain⟨i,hi⟩:=Xj.mp hy;obtain⟨j,hj⟩:=Xj.mp hg
    have GQ:i=j:=by
     have h1:(G.map (·.2.1))[i]?=A? y.2.1:=by rw[WY,hi];rfl
     have h2:(G.map (·.2.1))[j]?=A? y.2.1:=by rw[WY,hj,hc];rfl
     exact(List.getElem?_inj (by have:=(glE h1);exact this) h.an).mp (h1.trans h2.symm)
    subst GQ;rw[hi]at hj;exact Xn hj
   subst Vb;unfold f6;rw[b! rfl];refine⟨a,?_,?_,λx hx=>?_⟩
   .show(upd H y.2.1 _) y.2.1=_;rw[ac];show A? (HO.lst (y.2.2.map i!++[.ref en]))=A? (.lst ((y.2.2++[en]).map i!));rw[Xa];rfl
   .show(y.2.2++[en]).length<=N+1;rw[Xd];show y.2.2.length+1<=N+1;lia
   .rcases Xz.mp hx with hx|hx
    .exact(d x hx).mono kt
    .rw[W9.mp hx];exact he.mono kt
  .unfold f6;rw[a! hc];exact⟨a,by rw[ai hc];exact b,by lia,λx hx=>(d x hx).mono kt⟩
 .obtain⟨x,hx,e,a,ha,pa,ka,kid,h1,h2⟩:=hh;refine⟨f6 g.2.1 en x,Xx.mpr ⟨x,hx,D?⟩,by rw[(eM _ _ x).1];exact e,a,?_,pa,ka,kid,kt _ _ h1,kt _ _ h2⟩;unfold f6;split
  .exact XT _ ha
  .exact ha
 .refine⟨f6 g.2.1 en g,Xx.mpr ⟨g,hg,D?⟩,(eM _ _ g).1,en,?_,pa,ka,kid,kt _ _ h1,kt _ _ h2⟩;unfold f6;rw[b! rfl];exact XH _ (Xh ..)
end
theorem wH:∀{ps:List (List Int×Th)}{as:List WQ},PsAtK K H ps as->∃prs:List (List Key×V),Xk (PrA H) prs as/\(∀p∈prs,∃x∈ps,p.1=x.1.map Xo/\∃a,p.2=.ref a/\AtK .i K H x.2 a)/\∀x∈ps,∃p∈prs,p.1=x.1.map Xo
 |_,_,.nil=>⟨[],.nil,(λp hp=>by cases hp),(λp hp=>by cases hp)⟩
 | _,_,.cons (a:=x) r h=>by
   obtain⟨pa,ta,h1,h2,h3⟩:=r;obtain⟨prs,g1,g2,g3⟩:=wH h;refine⟨(x.1.map Xo,.ref ta)::prs,.cons ⟨pa,h1,by rw[h2,Y9];rfl⟩ g1,λp hp=>?_,λy hy=>?_⟩
   .rcases W8.mp hp with rfl|hp
    .exact⟨x,Xh ..,D?,ta,D?,h3⟩
    .obtain⟨y,hy,r⟩:=g2 p hp;exact⟨y,Xe _ hy,r⟩
   .rcases W8.mp hy with rfl|hy
    .exact⟨_,Xh ..,D?⟩
    .obtain⟨p,hp,e⟩:=g3 y hy;exact⟨p,Xe _ hp,e⟩
structure LQ(P:W5)(w:Xq)(ins:List (Xp×Int))(Al:List ay)(Lk:LkT)(H0:Hp)(la:WQ)(Hb:Hp)(Gb:LG)(Hc:Hp)(Gc:LG)(n:Nat):Prop where
 lk:LkI P w ins Al Lk H0 Hc la Gc n
 sub:LSub Hb Hc Gb Gc
 fr:∀c o,Hb c=A? o->c≠la->(∀g∈Gb,g.2.1≠c)->Hc c=A? o
 dom:∀c o,Hb c=A? o->∃o',Hc c=A? o'
 ext:∀g∈Gc,(∃g0∈Gb,g0.2.1=g.2.1)\/Hb g.2.1=B?
section
variable{Lk:LkT}{H0 Hb Hc Hd:Hp}{Gb Gc Gd:LG}{m:Nat}
theorem LQ.refl(h:LkI P w ins Al Lk H0 Hb la Gb n):LQ P w ins Al Lk H0 la Hb Gb Hb Gb n:=⟨h,LSub.refl _ _,λ_ _ e _ _=>e,λc o e=>⟨o,e⟩,λg hg=>.inl ⟨g,hg,rfl⟩⟩
theorem LQ.same(h:LQ P w ins Al Lk H0 la Hb Gb Hc Gc n)(s:k! Hc Hd):LQ P w ins Al Lk H0 la Hb Gb Hd Gc n :=
 ⟨h.lk.same s,h.sub.trans (LSub.kt (j! s) _),λc o e h1 h2=>s _ _ (h.fr c o e h1 h2),λc o e=>by obtain⟨o',e'⟩:=h.dom c o e;exact⟨o',s _ _ e'⟩,h.ext⟩
theorem LQ.up(h:LQ P w ins Al Lk H0 la Hb Gb Hc Gc n)(hm:n<=m):LQ P w ins Al Lk H0 la Hb Gb Hc Gc m:=⟨h.lk.up hm,h.sub,h.fr,h.dom,h.ext⟩
theorem LQ.trans(a:LQ P w ins Al Lk H0 la Hb Gb Hc Gc n)(b:LQ P w ins Al Lk H0 la Hc Gc Hd Gd m):LQ P w ins Al Lk H0 la Hb Gb Hd Gd m:=by
 refine⟨b.lk,a.sub.trans b.sub,λc o e h1 h2=>b.fr c o (a.fr c o e h1 h2) h1 λg hg=>?_,λc o e=>?_,λg hg=>?_⟩
 .rcases a.ext g hg with⟨g0,h3,h4⟩|h3
  .rw[<-h4];exact h2 g0 h3
  .intro z;rw[z,e]at h3;cases h3
 .obtain⟨o',e'⟩:=a.dom c o e;exact b.dom c o' e'
 .rcases b.ext g hg with⟨g0,h3,h4⟩|h3
  .rw[<-h4];exact a.ext g0 h3
  .refine .inr ?_;cases hh:Hb g.2.1 with
   |none=>rfl
   | some o =>
     obtain⟨o',e'⟩:=a.dom _ o hh;rw[h3]at e';cases e'
theorem LQ.kt(h:LQ P w ins Al Lk H0 la Hb Gb Hc Gc n)(L:LkI P w ins Al Lk H0 Hb la Gb m):KT Hb Hc:=λc ys e=>by
 obtain⟨φ,el⟩:=cB L.dm;refine h.fr c _ e (λz=>by rw[z,el]at e;cases e) λg hg z=>?_;have:=(L.ls g hg).2.1;rw[z,e]at this;cases this
theorem LQ.newG(a:LQ P w ins Al Lk H0 la Hb Gb Hc Gc n){k:ay}{l:WQ}{He:Hp}(hl:Hc l=B?)(hn:aN (lkv Gc) k=B?)(hb:But la (upd Hc l (.lst [])) He)(hd:DM Cf P w He la (putK (lkv Gc) k (.ref l))):LQ P w ins Al Lk H0 la Hb Gb He (Gc++[(k,l,[])]) (n+1):=by
 have s1:k! Hc (upd Hc l (.lst [])):=ae hl _;have L1:=a.lk.same s1
 obtain⟨h1,h2⟩:=L1.new hn hb hd (a.lk.sm.free hl) ac λg hg z=>by
  have:=(a.lk.ls g hg).2.1;rw[z,hl]at this;cases this
 refine a.trans ⟨h1,(LSub.kt (j! s1) _).trans h2,λc o e hc _=>hb c o hc (s1 _ _ e),λc o e=>?_,λg hg=>?_⟩
 .by_cases hc:c=la
  .obtain⟨φ,e'⟩:=cB hd;exact⟨_,by rw[hc];exact e'⟩
  .exact⟨o,hb c o hc (s1 _ _ e)⟩
 .rcases Xz.mp hg with hg|hg
  .exact .inl ⟨g,hg,rfl⟩
  .rw[W9.mp hg];exact .inr hl
theorem LQ.appG(a:LQ P w ins Al Lk H0 la Hb Gb Hc Gc n){g:ay×WQ×List WQ}(hg:g∈Gc){en:WQ}(he:LE Hc ins Al Lk g.1 en):LQ P w ins Al Lk H0 la Hb Gb (upd Hc g.2.1 (.lst (g.2.2.map i!++[.ref en]))) (Gc.map (f6 g.2.1 en)) (n+1)/\∀(s:Int)(pl:List Int)(pa ka:WQ)(kid:Int),Hc en=A? (.tup [.int s,.ref pa,.ref ka,.int kid])->Hc pa=A? (.tup (pl.map q!))->g7 (upd Hc g.2.1 (.lst (g.2.2.map i!++[.ref en]))) (Gc.map (f6 g.2.1 en)) g.1 s pl:=by
 obtain⟨h1,h2,h3,h4⟩:=a.lk.app hg he;refine⟨⟨h1,a.sub.trans h3,λc o e hc hf=>?_,λc o e=>?_,λx hx=>?_⟩,h4⟩
 .rw[ai]
  .exact a.fr c o e hc hf
  .intro z;rcases a.ext g hg with⟨g0,h5,h6⟩|h5
   .exact hf g0 h5 (h6.trans z.symm)
   .rw[<-z,e]at h5;cases h5
 .by_cases hc:c=g.2.1
  .exact⟨_,by rw[hc];exact ac⟩
  .rw[ai hc];exact a.dom c o e
 .obtain⟨y,hy,rfl⟩:=Xx.mp hx;rw[(eM _ _ y).2];exact a.ext y hy
theorem sW{G:LG}{k:ay}{u:V}(h:aN (lkv G) k=A? u):∃g∈G,g.1=k/\u=.ref g.2.1:=by
 have:=fG h;unfold lkv at this;obtain⟨g,hg,e⟩:=Xx.mp this;cases e;exact⟨g,hg,D?,D?⟩
end
theorem zi:∀(n:Nat)(t:Th)(pre:List Int),t.size<=n->∀x∈t.pl pre,x.2.size<=t.size/\x.2.tall<=t.tall
 |0,t,_,hn=>by have:=t.size_pos;lia
 | n+1,.call a b,pre,hn=>λx hx=>by
   rw[C!]at hx;rw[W9.mp hx];exact⟨WV _,WV _⟩
 | n+1,.knot m ks,pre,hn=>λx hx=>by
   rw[C!]at hx;rcases W8.mp hx with rfl|hx
   .exact⟨WV _,WV _⟩
   .obtain⟨j,t,ht,hx⟩:=cZ.mp hx;rw[p!]at hn;have hz:=aY (WS ht);have Ky:=bL (WS ht);obtain⟨h1,h2⟩:=zi n t _ (by lia) x hx;rw[p!,t!];lia
theorem fI(h:n<=16000000):n<Xf:=by
 have:Xf=16777216:=sizeLine_eq;lia
theorem xo:∀(n:Nat)(t:Th)(pre:List Int),t.size<=n->∀x∈t.pl pre,x.1.length<=pre.length+t.tall
 |0,t,_,hn=>by have:=t.size_pos;lia
 | n+1,.call a b,pre,hn=>λx hx=>by
   rw[C!]at hx;rw[W9.mp hx];exact Zj _ _
 | n+1,.knot m ks,pre,hn=>λx hx=>by
   rw[C!]at hx;rcases W8.mp hx with rfl|hx
   .exact Zj _ _
   .obtain⟨j,t,ht,hx⟩:=cZ.mp hx;rw[p!]at hn;have hz:=aY (WS ht);have Ky:=bL (WS ht);have h1:=xo n t _ (by lia) x hx;rw[Xd]at h1;rw[t!];have h2:[(0:Int)+(j:Int)].length=1:=rfl;lia
structure LkR(P:W5)(w:Xq)(ins:List (Xp×Int))(Al:List ay)(Lk:LkT)(H:Hp)(la:WQ)(G:LG):Prop where
 dm:DM Cf P w H la (lkv G)
 ls:∀g∈G,H g.2.1=A? (.lst (g.2.2.map i!))/\∀a∈g.2.2,LE H ins Al Lk g.1 a
 kn:(G.map (·.1)).Nodup
theorem LkI.r{Lk:LkT}{H0:Hp}{G:LG}{N:Nat}(h:LkI P w ins Al Lk H0 H la G N):LkR P w ins Al Lk H la G:=⟨h.dm,λg hg=>⟨(h.ls g hg).2.1,(h.ls g hg).2.2.2⟩,h.kn⟩
theorem LkR.but{Lk:LkT}{pt:WQ}{G:LG}{φ:Yh->Prop}(h:LkR P w ins Al Lk H la G)(hb:But pt H H')(e:H pt=A? (.ext φ))(hn:pt≠la):LkR P w ins Al Lk H' la G:=by
 have kt:=hb.kt e;refine⟨sV h.dm kt λo eo=>hb _ _ hn.symm eo,λg hg=>?_,h.kn⟩;obtain⟨h1,h2⟩:=h.ls g hg;exact⟨hb _ _ (λz=>by rw[z,e]at h1;cases h1) h1,λa ha=>(h2 a ha).mono kt⟩
theorem LkR.at{Lk:LkT}{G:LG}(h:LkR P w ins Al Lk H la G){g:ay×WQ×List WQ}(hg:g∈G){s:Int}{pl:List Int}(hh:g7 H G g.1 s pl):∃a∈g.2.2,∃(pa ka:WQ)(kid:Int),H a=A? (.tup [.int s,.ref pa,.ref ka,.int kid])/\H pa=A? (.tup (pl.map q!)):=by
 obtain⟨g',N3,e,r⟩:=hh
 have:g'=g:=by
  obtain⟨i,hi⟩:=Xj.mp N3;obtain⟨j,hj⟩:=Xj.mp hg;have h1:(G.map (·.1))[i]?=A? g.1:=by rw[WY,hi,<-e];rfl
  have h2:(G.map (·.1))[j]?=A? g.1:=by rw[WY,hj];rfl
  have GQ:i=j:=(List.getElem?_inj (by have:=(glE h1);exact this) h.kn).mp (h1.trans h2.symm);subst GQ;rw[hi]at hj;exact Xn hj
 subst this;exact r
theorem wU{G:LG}{k:ay}(h:aN (lkv G) k=B?){s:Int}{pl:List Int}:¬g7 H G k s pl:=λ⟨g,hg,e,_⟩=>by
 refine eE h ?_;unfold lkv;rw[Y9];exact Xx.mpr ⟨g,hg,e⟩
theorem qw{a b:List Int}(h:a.map q!=b.map q!):a=b:=(List.map_inj_right (λ_ _ e=>V.int.inj e)).mp h
theorem LkR.back{Lk:LkT}{G:LG}(R:LkR P w ins Al Lk H la G)(kt:KT H H'){k:ay}{s:Int}{pl:List Int}(hh:g7 H' G k s pl):g7 H G k s pl:=by
 obtain⟨g,hg,e,a,ha,pa,ka,kid,h1,h2⟩:=hh;obtain⟨s',Cq,B9,Fp,EH,kd',g1,g2,_⟩:=(R.ls g hg).2 a ha;have e1:=kt _ _ g1;rw[h1]at e1;cases e1;have e2:=kt _ _ g2;rw[h2]at e2;have:pl=B9:=qw (by injection e2 with e3;injection e3);subst this;exact⟨g,hg,e,a,ha,pa,ka,kid,g1,g2⟩
def Dk(f':List (ay×V))(s:Int)(pl:List Int):Bool:=(aN f' (nk s pl)).isSome
theorem lD{s:Int}{pl:List Int}:Dk f' s pl=C?↔nk s pl∈f'.map (·.1):=by
 unfold Dk;constructor
 .intro h;obtain⟨v,hv⟩:=ZY.mp h;exact Xx.mpr ⟨_,fG hv,rfl⟩
 .intro h;cases hv:aN f' (nk s pl)with
  |none=>exact g! h (eE hv)
  |some v=>rfl
def iA(D:List Int->Bool)(As:List (List Int×Th)):List Th:=As.flatMap λx=>(x.2.cut D x.1).walk
theorem qo(D:List Int->Bool)(a b:List (List Int×Th)):iA D (a++b)=iA D a++iA D b:=by unfold iA;rw[List.flatMap_append]
theorem nj(D:List Int->Bool)(pre:List Int):∀(i:Int)(ks:List Th),iA D (df pre i ks)=walks (cz D pre i ks)
 |i,[]=>by rw[df,cz,walks];rfl
 | i,k::ks=>by
   rw[df,cz,walks,<-nj D pre (i+1) ks];rfl
theorem qf(D:List Int->Bool):∀(n:Nat)(t:Th)(pre:List Int),t.size<=n->(t.cut D pre).size<=t.size
 |0,t,_,hn=>by have:=t.size_pos;lia
 |n+1,.call a b,pre,hn=>by rw[Th.cut,eG,p!];exact WV _
 | n+1,.knot m ks,pre,hn=>by
   rw[Th.cut];split
   .rw[eG,p!];lia
   .rw[p!]at hn;rw[p!,p!]
    have:∀(us:List Th)(i:Int),aq us<=n->aq (cz D pre i us)<=aq us:=λus=>by
     induction us with
     |nil=>intro i _;rw[cz];exact WV _
     | cons u us ih =>
       intro i h;rw[aq]at h;rw[cz,aq,aq];have h1:=ih (i+1) (by lia);have h2:=qf D n u (pre++[i]) (by lia);lia
    have:=this ks 0 (by lia);lia
inductive In:Th->List Int->Th->Prop
 |here {t:Th}:In t [] t
 |kid {n:Xp} {ks:List Th} {j:Nat} {u v:Th} {r:List Int} (h:ks[j]?=A? u) (i:In u r v):In (.knot n ks) ((j:Int)::r) v
theorem In.of:∀(n:Nat){t v:Th}{pl:List Int},t.size<=n->(pl,v)∈t.pl []->In t pl v
 |0,t,_,_,hn,_=>by have:=t.size_pos;lia
 | n+1,.call s k,v,pl,hn,h=>by
   rw[C!]at h;cases W9.mp h;exact .here
 | n+1,.knot m ks,v,pl,hn,h=>by
   rw[C!]at h;rcases W8.mp h with h|h
   .cases h;exact .here
   .obtain⟨j,t,ht,hx⟩:=cZ.mp h;obtain⟨r,e,hr⟩:=dZ.mp hx;dsimp only at e hr;rw[X6,YY]at e;rw[p!]at hn;have hz:=aY (WS ht);have e2:pl=(j:Int)::r:=e;rw[e2];exact .kid ht (In.of n (by lia) hr)
theorem In.to{t v:Th}{pl:List Int}(h:In t pl v):(pl,v)∈t.pl []:=by
 induction h with
 |here=>exact dE _ _
 | kid h i ih =>
   refine gA h (dZ.mpr ⟨_,?_,ih⟩);rfl
theorem In.iff{t v:Th}{pl:List Int}:(pl,v)∈t.pl []↔In t pl v:=⟨In.of _ (WV _),In.to⟩
structure FrK(ins outs:List (Xp×Int))(rows:List (List Th)):Prop where
 gi:db ins
 fit:yk ins outs (rows.length:Nat) rows
 le:rows.length<=20
 sz:∀row∈rows,∀p∈row,p.size<=200/\p.tall<=100
theorem FrK.mkd(F:FrK ins outs rows){l:Int}(h0:0<=l)(h1:l<(rows.length:Nat)):∃row p,rows[l.toNat]?=A? row/\row[dj ins]?=A? p/\mkF ins rows l=p/\p.size<=200/\p.tall<=100/\p.FitS outs (rows.length:Nat) 0:=by
 obtain⟨k0,CF,Kd⟩:=sH F.gi;have hI:=jP CF;obtain⟨row,hr,er,hl,_⟩:=om F.fit h0 h1;have Vc:=(glE hI);obtain⟨p,hp⟩:∃p,row[dj ins]?=A? p:=⟨_,WR (by lia)⟩;have hm:=WS hr;obtain⟨z1,z2⟩:=F.sz row hm p (WS hp);have hf:=(F.fit.row row hm).2 _ p k0 hp hI;rw[Kd]at hf;exact⟨row,p,hr,hp,by unfold mkF;rw[er,List.getD,hp];rfl,z1,z2,hf⟩
def frS(ins:List (Xp×Int))(rows:List (List Th))(s:Nat):Th:=frF (mkF ins rows) (mkF ins rows (s:Nat)) ((rows[s]?).getD [])
inductive Met(ins:List (Xp×Int))(rows:List (List Th)):Nat->List Int->Prop
 |hol {s i:Nat} {row:List Th} {x:List Int×Th} (hr:rows[s]?=A? row) (hi:i<=row.length) (hx:x∈(frF (mkF ins rows) (mkF ins rows (s:Nat)) (row.take i)).pl []) (hh:x.2.isHole=C?):Met ins rows s x.1
 |lnk {s:Nat} {row:List Th} {p u:Th} {c:List Int×Int×Int} {x:List Int×Th} (hr:rows[s]?=A? row) (hp:p∈row) (hc:c∈callsOf (p.pl [])) (hu:(c.1,u)∈(frS ins rows s).pl []) (hx:x∈u.pl []) (m:Met ins rows c.2.1.toNat x.1):Met ins rows s (c.1++x.1)
def Lk0(ins:List (Xp×Int))(rows:List (List Th)):LkT:=λk s pl kd kid=>∃(sn:Nat)(row:List Th)(i:Nat)(p:Th)(q x:List Int)(l:Int),s=(sn:Nat)/\rows[sn]?=A? row/\row[i]?=A? p/\ins[i]?=A? kd/\In p q (.call l kid)/\k=nk l x/\pl=q++x/\(∃u y,(q,u)∈(frS ins rows sn).pl []/\(x,y)∈u.pl [])
theorem wJ{ks:List (Xp×Int)}{n:Xp}{us:List Th}(h:(o! n us).FitS ks S C){u:Th}(hu:us[j]?=A? u):u.FitS ks S C:=by
 rw[z!]at h;exact FitSs.mem' h.2 u (WS hu)
theorem In.fit{ks:List (Xp×Int)}{p v:Th}{q:List Int}(h:In p q v):p.FitS ks S C->v.FitS ks S C:=by
 induction h with
 |here=>exactλh=>h
 |kid h i ih=>exactλhf=>ih (wJ hf h)
def gK(ins:List (Xp×Int))(n:Nat)(kid:Int)(t:Th):List Th:=(XD n).map λ(i:Nat)=>if(i:Int)=kid then t else eU ins
theorem mn(ins:List (Xp×Int))(n:Nat)(kid:Int)(t:Th):(gK ins n kid t).length=n:=by unfold gK;rw[WM,Xi]
def VlM(ins:List (Xp×Int))(rows:List (List Th)):VlT:=λ_ k _ _=>∃(s:Nat)(pl:List Int),k=nk (s:Nat) pl/\Met ins rows s pl
theorem vR{s:Nat}{row:List Th}(Af:rows[s]?=A? row)(i:Nat)(p:Th)(kd:Xp×Int)(pl:List Int)(u:Th)(j:Nat)(hp:row[i]?=A? p)(hk:ins[i]?=A? kd)(hu:(pl,u)∈(frF (mkF ins rows) (mkF ins rows (s:Nat)) (row.take (i+1))).pl [])(hh:u.isHole=C?)(hv:∀v,(pl,v)∈(frF (mkF ins rows) (mkF ins rows (s:Nat)) (row.take i)).pl []->v.isHole=Cf):VlM ins rows j (nk (s:Nat) pl) (eU ins) (.knot kd.1 (List.replicate kd.2.toNat (eU ins))) :=
 ⟨s,pl,rfl,.hol (x:=(pl,u)) (i:=i+1) Af (by have:=(glE hp);lia) hu hh⟩
theorem ya(F:FrK ins outs rows)(i j:Nat)(k:ay)(t1 t2:Th)(s:Int)(pl:List Int)(kd:Xp×Int)(kid:Int)(GQ:i<j)(hv:VlM ins rows i k t1 t2)(hk:kd∈ins)(hL:Lk0 ins rows k s pl kd kid)(t3 t4:Th):VlM ins rows j (nk s pl) t3 t4:=by
 obtain⟨s',B9,e,OU⟩:=hv;obtain⟨sn,row,i',p,q,x,l,rfl,hr,hp,hi,B0,e2,rfl,u0,y0,OV,EM⟩:=hL;have e3:=e.symm.trans e2;obtain⟨rfl,rfl⟩:=vz e3;exact⟨sn,q++B9,D?,.lnk (c:=(q,((s':Nat):Int),kid)) (x:=(B9,y0)) hr (WS hp) (cV.mpr (In.to B0)) OV EM (by rw[Xy];exact OU)⟩
theorem xY(hn:(f'.map (·.1)).Nodup){p:ay×V}(h:f'[j]?=A? p)(hv:aN f' p.1=A? v):v=p.2:=by
 obtain⟨i,hi⟩:=Xj.mp (fG hv);have h1:(f'.map (·.1))[i]?=A? p.1:=by rw[WY,hi];rfl
 have h2:(f'.map (·.1))[j]?=A? p.1:=by rw[WY,h];rfl
 have GQ:i=j:=(List.getElem?_inj (by have:=(glE h1);exact this) hn).mp (h1.trans h2.symm);subst GQ;rw[h]at hi;have e:=Xn hi;rw[e]
theorem xl{s:Nat}{row:List Th}(h:rows[s]?=A? row):frS ins rows s=frF (mkF ins rows) (mkF ins rows (s:Nat)) row:=by
 unfold frS;rw[h];rfl
structure FrD(ins:List (Xp×Int))(rows:List (List Th))(ks:List ay):Prop where
 hl:∀(s i:Nat)(row:List Th),rows[s]?=A? row->i<=row.length->∀x∈(frF (mkF ins rows) (mkF ins rows (s:Nat)) (row.take i)).pl [],x.2.isHole=C?->nk (s:Nat) x.1∈ks
 cl:∀(s:Nat)(row:List Th),rows[s]?=A? row->∀p∈row,∀c∈callsOf (p.pl []),∀u,(c.1,u)∈(frS ins rows s).pl []->∀x∈u.pl [],nk c.2.1 x.1∈ks->nk (s:Nat) (c.1++x.1)∈ks
theorem FrD.hol{ks:List ay}(h:FrD ins rows ks)(s:Nat)(hs:s<rows.length):∀x∈(frS ins rows s).pl [],x.2.isHole=C?->nk (s:Nat) x.1∈ks:=λx hx hh=>by
 obtain⟨row,hr⟩:∃row,rows[s]?=A? row:=⟨_,WR hs⟩;rw[xl hr]at hx;exact h.hl s row.length row hr (WV _) x (by rw[Yo];exact hx) hh
theorem FrD.met(F:FrK ins outs rows){ks:List ay}(h:FrD ins rows ks){s:Nat}{pl:List Int}(m:Met ins rows s pl):nk (s:Nat) pl∈ks:=by
 induction m with
 |hol hr hi hx hh=>exact h.hl _ _ _ hr hi _ hx hh
 | lnk hr hp hc hu hx m ih =>
   rename_i s row p u c x
   refine h.cl _ _ hr _ hp _ hc _ hu _ hx ?_;obtain⟨j,hj⟩:=Xj.mp hp;have C3:=(F.fit.row row (WS hr)).1;obtain⟨k0,CF⟩:∃k0,ins[j]?=A? k0:=⟨_,WR (by have:=(glE hj);lia)⟩;have:=gN p [] ((F.fit.row row (WS hr)).2 j p k0 hj CF) c hc;rw[Yu this.1]at ih;exact ih
def KeyM(ins:List (Xp×Int))(rows:List (List Th))(f':List (ay×V)):Prop:=∀(s:Nat)(pl:List Int),Dk f' (s:Nat) pl=C?↔Met ins rows s pl
theorem yE(F:FrK ins outs rows)(h:FrD ins rows (f'.map (·.1)))(hv:∀p∈f',∃j t1 t2,VlM ins rows j p.1 t1 t2):KeyM ins rows f':=λs pl=>by
 constructor
 .intro hd;obtain⟨p,hp,e⟩:=Xx.mp (lD.mp hd);obtain⟨j,t1,t2,s',B9,e2,hm⟩:=hv p hp;have e3:=e2.symm.trans e;obtain⟨e4,rfl⟩:=vz e3;have:s'=s:=by lia
  subst this;exact hm
 .exactλm=>lD.mpr (h.met F m)
theorem KeyM.eq{k1 k2:List (ay×V)}(h1:KeyM ins rows k1)(h2:KeyM ins rows k2)(s:Nat):Dk k1 (s:Nat)=Dk k2 (s:Nat):=funext λpl=>by
 rw[Bool.eq_iff_iff,h1,h2]
end BB
namespace L2
open PySem PySem.Spec PyProof.Rows
def vT(K:WO)(a:WQ):It:=⟨λi H=>∃xs x,SqL K H a xs/\xs[i]?=A? x,λi H x H'=>∃p y,H p=B?/\x=.ref p/\H'=upd H p (.tup [.int (i:Nat),y])/\∀xs,SqL K H a xs->xs[i]?=A? y,λi H=>∃xs,SqL K H a xs/\xs.length=i⟩
theorem rH{k1}(a e it:WQ):Turn P w K (.Tuple elts k1 pos) (vT K a) [e,it] e (λi h=>(∃old,IsEnum h e it ((i:Nat):Int) old)/\h.IsListIter it a i) where
 mem:=by simp
 obj:=λi h st b hb=>by
  obtain⟨⟨old,he⟩,o,e1,e2,e3⟩:=st;rcases W8.mp hb with rfl|hb
  .exact⟨_,he,λv z=>by cases z⟩
  .have:b=it:=by simpa using hb
   subst this;exact⟨o,e1,λv z=>by rw[e3]at z;cases z⟩
 keep:=λi h h' st k=>by
  obtain⟨⟨old,he⟩,o,e1,e2⟩:=st;exact⟨⟨old,k e (by simp) _ he⟩,o,k it (by simp) _ e1,e2⟩
 item:=by
  intro X hP hw hK hc i U s Z H E I hf st hg;subst hP hw hK;obtain⟨xs,x,hq,hx⟩:=hg;obtain⟨its,rv,p,hz⟩:=I.list hq;obtain⟨u,hu,ru⟩:=rv.get hx;obtain⟨⟨old,he⟩,hi⟩:=st
  have HC:e≠it:=by
   rintro rfl;obtain⟨o,e1,e2,_⟩:=hi;rw[he]at e1;cases e1;exact g! (YR e2) (by decide)
  have HE:a≠it:=by
   rintro rfl;obtain⟨o,e1,e2,_⟩:=hi;obtain⟨o',CT,CA,_⟩:=p.isList;rw[CT]at e1;cases e1;rw[CA]at e2;exact g! (YR e2) (by decide)
  have N6:a≠e:=by
   rintro rfl;obtain⟨o',CT,CA,_⟩:=p.isList;rw[he]at CT;cases CT;exact g! (YR CA) (by decide)
  have Ai:i<its.toArray.size:=by
   have:=(glE hu);simpa using this
  have N7:e<s.1.1.size:=Xb he;have CU:it<s.1.1.size:=by obtain⟨o,e1,_⟩:=hi;exact Xb e1
  refine wpAny_pyNext_enum_itemD (Draws.list (A:=X.A.in1) (show X.A.in1.handled=B? from I.ok.hd hc) it a HE its.toArray) he ⟨hi,p.isList⟩ Ai HC (by simp[HC,N6.symm]) λy h1 tk hy ho N8 hT hsz hk=>?_
  have N9:y=u:=by
   have:its[i]?=A? y:=by simpa using hy
   rw[hu]at this;exact(Xn this).symm
  subst N9;refine⟨_,D?,wpAny_letOwnedTupleGo_enum ho λh2 N' DX=>?_⟩;replace DX:YF e h1 h2:=DX
  have Aq:∀b∈[e,it],b<s.1.1.size:=λb hb=>by
   rcases W8.mp hb with rfl|hb
   .exact N7
   .have:b=it:=by simpa using hb
    subst this;exact CU
  have J4:H s.1.1.size=none:=I.hok.fresh (WV _)
  have IA:Inv X U Z (upd H s.1.1.size (.tup [.int (i:Nat),x])) {s with heap:=s.1.push {cls:=.type "tuple",data:=.seq #[.int (i:Nat) tk,y]},toks:=tk} :=
   I.laid (o:=.tup [.int (i:Nat),x]) (λb ob q=>WU _ q) (WV _) ⟨by show 2<=Xf;decide,[.int (i:Nat) tk,y],0,.cons ⟨tk,rfl⟩ (.cons ru .nil),W4 _ rfl⟩
  refine⟨.ref s.1.1.size,upd H s.1.1.size (.tup [.int (i:Nat),x]),?_,D?,⟨_,x,J4,D?,D?,λys J1=>by rw[I.list_inj J1 hq];exact hx⟩,⟨⟨y,by simpa using N'⟩,?_⟩,λb hb=>?_⟩
  .have IB:Inv X U Z (upd H s.1.1.size (.tup [.int (i:Nat),x])) {s with heap:=h2,toks:=tk+1}:=by
    refine Inv.turnedL (s:={s with heap:=s.1.push {cls:=.type "tuple",data:=.seq #[.int (i:Nat) tk,y]},toks:=tk}) (h':=h2) (fp:=[e,it]) (t':=tk+1) IA (λb o hb q=>?_) λb hb=>?_
    .have DT:b≠e:=λz=>hb (by simp[z]);have Oa:b≠it:=λz=>hb (by simp[z]);rw[DX.2 b DT];by_cases hb2:b=s.1.1.size
     .subst hb2;rw[hT];have q':(s.1.push {cls:=.type "tuple",data:=.seq #[.int (i:Nat) tk,y]}).get? s.1.1.size=A? o:=q;rw[W4 _ rfl]at q';exact q'
     .have AV:b<(s.1.push {cls:=.type "tuple",data:=.seq #[.int (i:Nat) tk,y]}).objs.size:=Xb q;rw[X5]at AV;refine hk b o DT Oa ?_;have q':(s.1.push {cls:=.type "tuple",data:=.seq #[.int (i:Nat) tk,y]}).get? b=A? o:=q;rw[Heap.get?_push_ne _ _ _ hb2]at q';exact q'
    .obtain⟨f0,f1⟩:=hf b hb;exact⟨by rw[ai (XC (Aq b hb))];exact f0,f1⟩
   exact IB
  .obtain⟨o,e1,r⟩:=N8.1;exact⟨o,(DX.2 it (YQ HC)).trans e1,r⟩
  .rw[ai (XC (Aq b hb))];exact(hf b hb).1
 done:=by
  intro X hP hw hK hc i U s Z H E I hf st hg;subst hP hw hK;obtain⟨xs,hq,hx⟩:=hg;obtain⟨its,rv,p,hz⟩:=I.list hq;obtain⟨⟨old,he⟩,hi⟩:=st
  have HE:a≠it:=by
   rintro rfl;obtain⟨o,e1,e2,_⟩:=hi;obtain⟨o',CT,CA,_⟩:=p.isList;rw[CT]at e1;cases e1;rw[CA]at e2;exact g! (YR e2) (by decide)
  have hn:its.toArray.size=i:=by
   have:=rv.length;rw[W3];lia
  refine wpAny_pyNext_enum_endD (Draws.list (A:=X.A.in1) (show X.A.in1.handled=B? from I.ok.hd hc) it a HE its.toArray) he (by rw[hn];exact⟨hi,p.isList⟩) λh' eb=>⟨rfl,?_⟩;exact I.turnedL (fp:=[e,it]) (t':=s.toks) (λb o hb q=>eb b o (λz=>hb (by simp[z])) q) hf
 self:=λ_ _ _ _ _ st h=>by
  obtain⟨⟨old,he⟩,_⟩:=st;exact wpAny_pyIter_enum he h
section
variable{X:Cx}{p2 Ay:Z2}
def aab(K:WO)(tl:TE):TI:=λZ H R=>tl Z H λx H1=>∃a,x=.ref a/\(∃xs,SqL K H1 a xs)/\R (vT K a) H1
theorem lX{k1}(g2:Gl X "enumerate")(m2:X.mg "enumerate"=B?)(he:PE X e te)(h2:XG [e] X.env=[(Cf,Y2 e X.env)]:=by rfl):PI X (.Tuple elts k1 pos) (.Call (.Name "enumerate" p2) [e] [] Ay) (aab X.K te):=by
 intro U s Z H R I h;refine Ym (dh I g2 m2 boot_enumerate (X2 ?_ h2 rfl));rw[h2];show W7 _ _ (spliced ((Cf,Y2 e X.env)::[])) _ _ s;refine YJ (thn (he U s Z H _ I h) λu s1⟨x,H1,I1,r1,a,ex,⟨xs,hq⟩,q⟩=>Zh ?_);subst ex;cases r1;obtain⟨its,rv,p,hz⟩:=I1.list hq;refine call_enumerate_list (show s1.1.IsList a its.toArray from p.isList) λh' g1 g2 g3 g4=>?_;refine wpAny_pyIter_enum (s:={s1 with heap:=h'}) g1 ?_;refine⟨s1.1.1.size+1,[s1.1.1.size+1,s1.1.1.size],_,_,H1,D?,I1.kept (t':=s1.toks) g4,rH a _ _,⟨⟨_,g1⟩,g2⟩,λb hb=>?_,q⟩
 have AB:s1.1.1.size<=b:=by
  rcases W8.mp hb with rfl|hb
  .lia
  .have:b=s1.1.1.size:=by simpa using hb
   exact Nat.le_of_eq this.symm
 exact I1.fpOk AB (I1.hok.fresh AB)
end
theorem ni(Pv:Nat->St->Hp->Prop)(h0:Pv 0 Z H)(hl:∀i Z H,i<=xs.length->Pv i Z H->SqL K H a xs)
 (hs:∀i x p Z H,xs[i]?=A? x->H p=B?->Pv i Z H->g (.ref p) Z (upd H p (.tup [.int (i:Nat),x])) λAx H2=>tb {D with nx:=Pv (i+1),ct:=Pv (i+1),bk:=D.nx} Ax H2) (hd:∀Z H,Pv xs.length Z H->D.nx Z H) :
 ∃W:Nat->Nat->St->Hp->Prop,(∃m,W 0 m Z H)/\∀i m Z H,W i m Z H ->
   ((vT K a).stop i H/\D.nx Z H)\/((vT K a).go i H/\∃N:St->Hp->Prop,(∀Ab H',N Ab H'->∃m',m'<m/\W (i+1) m' Ab H')/\∀x H',(vT K a).yld i H x H'->g x Z H' λAx H2=>tb {D with nx:=N,ct:=N,bk:=D.nx} Ax H2):=by
 refine⟨λi m Z H=>m=xs.length - i/\i<=xs.length/\Pv i Z H,⟨xs.length,by simp,Xg _,h0⟩,?_⟩;rintro i m Z H ⟨rfl,hi,p⟩;have q:=hl i Z H hi p;by_cases Ai:i<xs.length
 .refine .inr ⟨⟨xs,xs[i],q,by simp[Ai]⟩,Pv (i+1),λAb H' p'=>⟨xs.length - (i+1),by lia,rfl,Ai,p'⟩,λx H' y=>?_⟩;obtain⟨pa,y,hp,rfl,rfl,hy⟩:=y;exact hs i y pa Z H (hy xs q) hp p
 .have e:i=xs.length:=by lia
  subst e;exact .inl ⟨⟨xs,q,rfl⟩,hd Z H p⟩
section
variable{X:Cx}{o i:X9}{td ty:TE}
def zY(P:W5)(w:Xq)(H:Hp)(a:WQ)(y v:V):Prop:=DGet H a y (A? v)\/∃(fl:Bool)(b:WQ)(k:ay)(f':List (ay×V)),y=.ref b/\DM fl P w H a f'/\MKAt fl H k b/\aN f' k=A? v
def zt(P:W5)(w:Xq)(td ty:TE):TE:=λZ H Q=>td Z H λx H1=>ty Z H1 λy H2=>∃a v,x=.ref a/\zY P w H2 a y v/\Q v H2
theorem xc(hu:X.A.units+2<YK)(ho:PE X o td)(hi:PE X i ty)(hs:yy i):PE X (.Subscript o i pos) (zt X.prog X.w td ty):=by
 intro U s Z H Q I h;refine oE PySem.F.slot_dict_getitem.lookup hs (thn (ho U s Z H _ I h) λu s1⟨x,H1,I1,rx,q1⟩=>thn (hi U s1 Z H1 _ I1 q1) λiv s2⟨y,H2,I2,ry,a,v,ex,g,q⟩=>?_);subst ex;obtain rfl:u=Xl a:=rx;rcases g with g|⟨fl,b,k,f',rfl,hd,hk,hv⟩
 .exact⟨kj I2 g,nH (Nat.lt_of_succ_lt hu) I2 g ry λw' s3 I3 Cj=>⟨v,H2,I3,Cj,q⟩⟩
 obtain rfl:iv=Xl b:=ry;obtain⟨_,_,xs,φ,ea,rel,dd⟩:=jh I2.hok hd;obtain⟨w',hw,Cj⟩:=RelO.some_of (v:=v) (o:=(atKey xs k).map (·.2)) (by rw[<-hv];exact KTm.val rel k);obtain⟨p,hp,AW⟩:=XM.mp hw;refine⟨dd.typeIs,wpAny_getItem_heap (knd:=cj fl X.prog X.w) (show X.A.units+1+1<YK from hu) (fj I2.hok hk) dd hp ?_⟩;rw[AW];exact⟨v,H2,I2.tok _,Cj,q⟩
end
open BB
open PySem.Calls
abbrev cL(z:List (Int×Nat×Z2)×Z2):X9:=.List (z.1.map cI) z.2
def wA(zs:List Int):TA:=λ_ H Q=>Q (zs.map q!) H
theorem tm{X:Cx}:∀(zs:List (Int×Nat×Z2)),PA X (zs.map cI) (wA (zs.map (·.1)))
 | []=>ab
 | z::zs=>by
   have h:PA X (cI z::zs.map cI) (aD (tC (.int z.1)) (wA (zs.map (·.1)))):=aa (X:=X) ag (tm zs) rfl;exact h
def uG:List (List Int)->TA
 | []=>bY
 |z::zs=>aD (wP (wA z)) (uG zs)
theorem vq{X:Cx}:∀(zs:List (List (Int×Nat×Z2)×Z2)),PA X (zs.map cL) (uG (zs.map λz=>z.1.map (·.1)))
 | []=>ab
 |z::zs=>aa (X:=X) (bp (tm z.1)) (vq zs) rfl
theorem zR{X:Cx}(zs:List (List (Int×Nat×Z2)×Z2)):PE X (.List (zs.map cL) pos) (wP (uG (zs.map λz=>z.1.map (·.1)))):=bp (vq zs)
theorem nZ{X:Cx}{i:Nat}{x:Xp}{p0 p1 p2 p3:Z2}{e:X9}{te:TE}(zs:List (List (Int×Nat×Z2)×Z2))(hN:X.N.Nodup)(hi:X.N[i]?=A? x)(hx:Loc X.env.scope x)(hf:X.fn x=C?\/X.env.scope.names.lookup x=A? .local)(he:PE X e te)(hs:t6 e) :
 PS X (.Assign [.Name x p0] (.Subscript (.List (zs.map cL) p1) e p2) p3) (wT (tOp (uI X.K) (wP (uG (zs.map λz=>z.1.map (·.1)))) te) (ak i)):=wN hN hi hx (aC bj (zR zs) he hs) rfl hf
theorem qE:∀(zs:List (List Int))(Z:St)(H:Hp)(Q:List V->Hp->Prop),(∀z∈zs,z.length<=1000)->(∀(as:List WQ)(H':Hp),k! H H'->Xk (λz a=>H' a=A? (.lst (z.map q!))) zs as->Q (as.map i!) H')->uG zs Z H Q
 | [],Z,H,Q,_,q=>q [] H (.refl _) .nil
 | z::zs,Z,H,Q,hz,q=>by
   have hl:=hz z (Xh ..);refine⟨cQ (by rw[WM];lia),λp hp=>?_⟩;refine gU hp λH1 s1 e1=>?_;refine qE zs Z H1 _ (λy hy=>hz y (Xe _ hy)) λas H' s2 h2=>?_;exact q (p::as) H' (s1.trans s2) (.cons (s2 _ _ e1) h2)
theorem kg{zs:List (List Int)}{Q:VK}(hz:∀z∈zs,z.length<=1000)(hl:zs.length<=1000)(q:∀(D:WQ)(as:List WQ)(H1:Hp),k! H H1->H1 D=A? (.lst (as.map i!))->Xk (λz a=>H1 a=A? (.lst (z.map q!))) zs as->te Z H1 λy H2=>uI K (.ref D) y H2 Q):tOp (uI K) (wP (uG zs)) te Z H Q:=by
 refine qE zs Z H _ hz λas H1 s1 h1=>⟨cQ (by rw[WM,<-WZ h1];lia),λp hp=>?_⟩;exact q p as _ (s1.trans (ae hp _)) ac (v! (λ_ _ e=>(ae hp _) _ _ e) h1)
end L2
namespace BB
open PySem L2
mutual
def Th.nh:Th->Nat
 |.knot n ks=>if(o! n ks).isHole=C? then 1 else nhs ks
 |.call _ _=>0
def nhs:List Th->Nat
 | []=>0
 |t::ts=>t.nh+nhs ts
end
mutual
def Th.hg(g:Nat->Th):Th->Nat->Th
 |.knot n ks,i=>if(o! n ks).isHole=C? then g i else .knot n (hgs g ks i)
 |.call s k,_=>.call s k
def hgs(g:Nat->Th):List Th->Nat->List Th
 | [],_=>[]
 |t::ts,i=>t.hg g i::hgs g ts (i+t.nh)
end
theorem ox(g:Nat->Th):∀(ts:List Th)(i:Nat),(hgs g ts i).length=ts.length
 | [],i=>by rw[hgs]
 |t::ts,i=>by rw[hgs,W0,W0,ox g ts]
theorem oz{n:Xp}{ks us:List Th}(hl:ks.length=us.length)(hh:(o! n ks).isHole=Cf)(h:aX ks us=C?):(o! n ks).lies (.knot n us)=true:=by
 rw[w!,gd hh hl,show(o! n us).kids=us from rfl,h,Bool.or_comm];rfl
theorem iy{f t:Th}(h:f.isHole=C?):f.lies t=true:=by rw[pe h];exact iq _
mutual
theorem fP(g:Nat->Th):∀(f:Th)(i:Nat),f.noCall->f.lies (f.hg g i)=C?
 | .knot n ks,i,h=>by
   cases hh:(o! n ks).isHole with
   |true=>exact iy hh
   | false =>
     rw[Th.hg,a! (by rw[hh];exact W6)];exact oz (ox ..).symm hh (pS g ks i h)
 |.call s k,i,h=>by rw[u!]at h;exact h.elim
theorem pS(g:Nat->Th):∀(fs:List Th)(i:Nat),ba fs->aX fs (hgs g fs i)=C?
 | [],i,h=>by rw[aX]
 | f::fs,i,h=>by
   rw[ba]at h;rw[hgs,aX,fP g f i h.1,pS g fs _ h.2];rfl
end
mutual
theorem nb:∀(pre:List Int)(f t:Th),f.lies t=C?->(f.hw pre t).length=f.nh
 | pre,.knot n ks,t,h=>by
   rcases cD h with hh|⟨n',HM,us,e1,rfl,e3,hh,_,hl⟩
   .rw[gQ hh,Th.nh,b! hh];rfl
   .cases e1;rw[Th.hw,Th.nh,a! (by rw[hh];exact W6),a! (by rw[hh];exact W6)];exact vo pre 0 ks us e3 hl
 |pre,.call s k,t,h=>by rw[w!]at h;cases h
theorem vo:∀(pre:List Int)(i:Int)(ks us:List Th),ks.length=us.length->aX ks us=C?->(hws pre i ks us).length=nhs ks
 |pre,i,[],us,_,_=>by rw[hws,nhs];rfl
 |pre,i,k::ks,[],e,_=>by simp at e
 | pre,i,k::ks,u::us,e,h=>by
   rw[bC,Yg]at h;rw[hws,Xd,nhs,nb _ k u h.1,vo pre (i+1) ks us (by simpa using e) h.2]
end
mutual
theorem vh(g:Nat->Th):∀(pre:List Int)(f:Th)(i:Nat),f.noCall->(f.hw pre (f.hg g i)).map (·.2)=(List.range' i f.nh).map g
 | pre,.knot n ks,i,h=>by
   cases hh:(o! n ks).isHole with
   | true =>
     rw[gQ hh,Th.hg,Th.nh,b! hh,b! hh];rfl
   | false =>
     rw[Th.hg,Th.nh,a! (by rw[hh];exact W6),a! (by rw[hh];exact W6),Th.hw,a! (by rw[hh];exact W6)];exact vi g pre 0 ks i h
 |pre,.call s k,i,h=>by rw[u!]at h;exact h.elim
theorem vi(g:Nat->Th):∀(pre:List Int)(c:Int)(fs:List Th)(i:Nat),ba fs->(hws pre c fs (hgs g fs i)).map (·.2)=(List.range' i (nhs fs)).map g
 |pre,c,[],i,h=>by rw[hws,nhs];rfl
 | pre,c,f::fs,i,h=>by
   rw[ba]at h;rw[hgs,hws,nhs,Xa,vh g _ f i h.1,vi g pre (c+1) fs (i+f.nh) h.2,<-Xa,List.range'_append_1]
end
mutual
theorem lG:∀(f a b:Th),f.lies a=C?->a.lies b=C?->f.lies b=C?
 | .knot n ks,a,b,h,g=>by
   rcases cD h with hh|⟨n',HM,us,e1,rfl,e3,hh,_,hl⟩
   .exact iy hh
   .cases e1;rcases cD g with gh|⟨n',U8,vs,e1,rfl,e4,gh,_,gl⟩
    .rw[G!,decide_eq_true_iff]at gh;rw[G!,decide_eq_false_iff_not]at hh;exact g! ⟨gh.1,Yk.mp (by rw[e3,gh.2];rfl)⟩ hh
    .cases e1;exact oz (e3.trans e4) hh (ki ks us vs e3 e4 hl gl)
 |.call s k,a,b,h,g=>by rw[w!]at h;cases h
theorem ki:∀(fs as bs:List Th),fs.length=as.length->as.length=bs.length->aX fs as=C?->aX as bs=C?->aX fs bs=C?
 | [],as,bs,_,_,_,_=>by rw[aX]
 |f::fs,[],bs,e,_,_,_=>by simp at e
 |f::fs,a::as,[],_,e,_,_=>by simp at e
 | f::fs,a::as,b::bs,e1,e2,h,g=>by
   rw[bC,Yg]at h g;rw[bC,lG f a b h.1 g.1,ki fs as bs (by simpa using e1) (by simpa using e2) h.2 g.2];rfl
end
mutual
theorem nz{A B:Int->Int->Th}(KA:∀s k,0<=s->s<S->0<=k->k<C->(A s k).lies (B s k)=C?):∀(p f:Th),p.FitS EN S C->f.lies (p.fill A)=C?->f.lies (p.fill B)=C?
 | .call s k,f,hp,h=>by
   rw[z!]at hp;rw[A!]at h |-;exact lG _ _ _ h (KA s k hp.1 hp.2.1 hp.2.2.1 hp.2.2.2)
 | .knot m ps,f,hp,h=>by
   rw[z!]at hp;rw[A!]at h |-;rcases cD h with hh|⟨n',ks,us,rfl,e2,e3,hh,_,hl⟩
   .exact iy hh
   .cases e2;exact oz (by rw[e3,eF,eF,WM,WM]) hh (ll KA ps ks hp.2 hl)
theorem ll{A B:Int->Int->Th}(KA:∀s k,0<=s->s<S->0<=k->k<C->(A s k).lies (B s k)=C?):∀(ps fs:List Th),FitSs EN S C ps->aX fs (fills A ps)=C?->aX fs (fills B ps)=C?
 | [],fs,hp,h=>by rw[fills]at h |-;exact h
 |p::ps,[],hp,h=>by rw[aX]
 | p::ps,f::fs,hp,h=>by
   rw[FitSs]at hp;rw[fills,bC,Yg]at h;rw[fills,bC,nz KA p f hp.1 h.1,ll KA ps fs hp.2 h.2];rfl
end
mutual
theorem vV:∀(pre:List Int)(f t:Th),∀x∈f.hw pre t,∃r,x.1=pre++r/\t.sub r=A? x.2
 | pre,.knot n ks,t,x,hx=>by
   rw[Th.hw]at hx;by_cases hh:(o! n ks).isHole=C?
   .rw[b! hh]at hx;rw[W9.mp hx];exact⟨[],(XA _).symm,fb t⟩
   .rw[a! hh]at hx;obtain⟨j,u,r,h1,h2,h3⟩:=uu pre 0 ks t.kids x hx;rw[X6]at h2;exact⟨_,h2,by rw[kY (Int.natCast_nonneg j) (by rw[Xy];exact h1)];exact h3⟩
 |pre,.call s k,t,x,hx=>by rw[Th.hw]at hx;cases hx
theorem uu:∀(pre:List Int)(i:Int)(ks us:List Th),∀x∈hws pre i ks us,∃(j:Nat)(u:Th)(r:List Int),us[j]?=A? u/\x.1=pre++((i+(j:Int))::r)/\u.sub r=A? x.2
 |pre,i,[],us,x,hx=>by rw[hws]at hx;cases hx
 |pre,i,k::ks,[],x,hx=>by rw[hws]at hx;cases hx
 | pre,i,k::ks,u::us,x,hx=>by
   rw[hws]at hx;rcases Xz.mp hx with hx|hx
   .obtain⟨r,h1,h2⟩:=vV (pre++[i]) k u x hx;exact⟨0,u,r,D?,by rw[h1,XO];simp,h2⟩
   .obtain⟨j,v,r,h1,h2,h3⟩:=uu pre (i+1) ks us x hx;exact⟨j+1,v,r,by simpa using h1,by rw[h2,show i+((j+1:Nat):Int)=i+1+(j:Int)by lia],h3⟩
end
theorem ud:∀{ts:List Th}{t:Th},t∈ts->t.kn<=kns ts/\cnT t<=cM ts
 | u::ts,t,h=>by
   rw[kns,cM];rcases W8.mp h with rfl|h
   .lia
   .have:=ud h;lia
theorem oj:∀{r:List Int}{t u:Th},t.sub r=A? u->Small t->Small u
 | [],t,u,h,hs=>by
   rw[fb]at h;cases h;exact hs
 | i::r,t,u,h,hs=>by
   obtain⟨h0,w,hw,h⟩:=oY h;have hm:=WS hw;have h1:=ud hm;have h2:=yU t;have h3:=yX t;have h4:=t.tall_eq;have h5:=bL hm;obtain⟨a,b,c⟩:=hs;exact oj h ⟨by lia,by lia,by lia⟩
def hgF(F:Nat->Th)(l k:Int):Th:=(F l.toNat).hg (λj=>.call (enc l (j:Nat)) k) 0
mutual
theorem tu{g:Nat->Th}(hg:∀j,(g j).size<=1/\(g j).tall<=1):∀(f:Th)(i:Nat),(f.hg g i).size<=f.size/\(f.hg g i).tall<=f.tall
 | .knot n ks,i=>by
   rw[Th.hg];by_cases hh:(o! n ks).isHole=C?
   .rw[b! hh];have:=hg i;have:=(o! n ks).size_pos;rw[t!];lia
   .rw[a! hh,p!,p!,t!,t!];have:=qb hg ks i;lia
 |.call s k,i=>⟨WV _,WV _⟩
theorem qb{g:Nat->Th}(hg:∀j,(g j).size<=1/\(g j).tall<=1):∀(fs:List Th)(i:Nat),aq (hgs g fs i)<=aq fs/\aJ (hgs g fs i)<=aJ fs
 | [],i=>⟨WV _,WV _⟩
 | f::fs,i=>by
   rw[hgs,aq,aq,aJ,aJ];have h1:=tu hg f i;have h2:=qb hg fs (i+f.nh);lia
end
theorem mD(F:Nat->Th)(l k:Int):(hgF F l k).size<=(F l.toNat).size/\(hgF F l k).tall<=(F l.toNat).tall:=tu (λj=>by rw[p!,t!];decide) _ _
mutual
theorem iL(f:Int->Int->Th):∀t:Th,t.size<=(t.fill f).size
 | .call s k=>by
   have:=(f s k).size_pos;rw[A!,p!];lia
 | .knot n ks=>by
   have:=pZ f ks;rw[A!,p!,p!];lia
theorem pZ(f:Int->Int->Th):∀ts:List Th,aq ts<=aq (fills f ts)
 | []=>by rw[fills];exact WV _
 | t::ts=>by
   have h1:=iL f t;have h2:=pZ f ts;rw[fills,aq,aq];lia
end
def eaP(F:Nat->Th)(p:Th):Th:=p.fill (hgF F)
def eaU(F:Nat->Th)(x:Int)(p:Th):Th:=(((F (x / 1000).toNat).hw [] (eaP F p))[(x%1000).toNat]?.map (·.2)).getD hole
def eaR(F:Nat->Th)(rows:List (List Th))(x:Int):List Th:=(rowOf rows (x / 1000)).map (eaU F x)
structure EaOk(ins outs:List (Xp×Int))(F:Nat->Th)(head:Th)(rows:List (List Th)):Prop where
 gi:db ins
 fit:yk ins outs (rows.length:Nat) rows
 hd:head.FitS outs (rows.length:Nat) 1
 fr:∀s,s<rows.length->(F s).noCall/\(F s).size<=200/\(F s).tall<=100
 clo:∀(s:Nat)(row:List Th)(p:Th),rows[s]?=A? row->p∈row->(F s).lies (p.fill λl _=>F l.toNat)=C?
 smH:Small (eaP F head)
 smR:∀row∈rows,∀p∈row,Small (eaP F p)
 many:((XD rows.length).map λs=>(F s).nh).sum<=20
def kC(F:Nat->Th)(N:Nat)(x:Int):Prop:=0<=x / 1000/\(x / 1000).toNat<N/\(x%1000).toNat<(F (x / 1000).toNat).nh
section
variable{F:Nat->Th}
theorem wa:∀{l:List Nat}{s:Nat}(f:Nat->Nat),s∈l->f s<=(l.map f).sum
 | x::l,s,f,h=>by
   rw[XB,List.sum_cons];rcases W8.mp h with rfl|h
   .lia
   .have:=wa f h;lia
theorem EaOk.nh(J:EaOk ins outs F head rows){s:Nat}(hs:s<rows.length):(F s).nh<=20:=Xs (wa (λs=>(F s).nh) (YW.mpr hs)) J.many
theorem xG{l:Int}(hj:j<1000):enc l (j:Nat) / 1000=l/\(enc l (j:Nat)%1000).toNat=j:=by
 unfold enc;lia
mutual
theorem yT{g:Nat->Th}{q:Int->Prop}:∀(f:Th)(i:Nat),f.noCall->(∀j,i<=j->j<i+f.nh->∀x∈stT (g j),q x)->∀x∈stT (f.hg g i),q x
 | .knot n ks,i,h,hq,x,hx=>by
   rw[Th.hg]at hx;rw[Th.nh]at hq;by_cases hh:(o! n ks).isHole=C?
   .rw[b! hh]at hx hq;exact hq i (WV _) (by lia) x hx
   .rw[a! hh]at hx hq;rw[eR]at hx;exact xv ks i h hq x hx
 |.call s k,i,h,_,x,hx=>by rw[u!]at h;exact h.elim
theorem xv{g:Nat->Th}{q:Int->Prop}:∀(fs:List Th)(i:Nat),ba fs->(∀j,i<=j->j<i+nhs fs->∀x∈stT (g j),q x)->∀x∈bK (hgs g fs i),q x
 | [],i,h,_,x,hx=>by rw[hgs]at hx;cases hx
 | f::fs,i,h,hq,x,hx=>by
   rw[ba]at h;rw[nhs]at hq;rw[hgs]at hx;have AY:x∈stT (f.hg g i)++bK (hgs g fs (i+f.nh)):=hx;rcases Xz.mp AY with hx|hx
   .exact yT f i h.1 (λj h1 h2=>hq j h1 (by lia)) x hx
   .exact xv fs _ h.2 (λj h1 h2=>hq j (by lia) (by lia)) x hx
end
theorem EaOk.st(J:EaOk ins outs F head rows){p:Th}(hp:p.FitS outs (rows.length:Nat) C):∀x∈stT (eaP F p),kC F rows.length x:=by
 refine tH (hgF F) (λs c h0 h1 _ _ x hx=>?_) p hp;have hs:s.toNat<rows.length:=by lia
 have hn:=J.nh hs;refine yT (F s.toNat) 0 (J.fr _ hs).1 (λj _ hj y hy=>?_) x hx;rw[gB,W9]at hy;obtain⟨e1,e2⟩:=xG (l:=s) (j:=j) (by lia);rw[hy];exact⟨by rw[e1];exact h0,by rw[e1];exact hs,by rw[e1,e2];lia⟩
theorem EaOk.row(J:EaOk ins outs F head rows){x:Int}(hx:kC F rows.length x):∃row,rows[(x / 1000).toNat]?=A? row/\rowOf rows (x / 1000)=row/\row.length=ins.length/\∀p∈row,∃C,p.FitS outs (rows.length:Nat) C/\C<=3:=by
 obtain⟨row,h1,h2,h3,_⟩:=om J.fit hx.1 (by have:=hx.2.1;lia);refine⟨row,h1,h2,h3,λp hp=>?_⟩;obtain⟨j,hj⟩:=Xj.mp hp;obtain⟨k,hk⟩:∃k,ins[j]?=A? k:=⟨_,WR (by have:=(glE hj);lia)⟩;exact⟨k.2,(J.fit.row row (WS h1)).2 j p k hj hk,(J.gi.num k (WS hk)).2⟩
theorem EaOk.lies(J:EaOk ins outs F head rows){s:Nat}{row:List Th}{p:Th}(hr:rows[s]?=A? row)(hp:p∈row)(hf:p.FitS outs (rows.length:Nat) C):(F s).lies (eaP F p)=true:=by
 refine nz (λl k h0 h1 _ _=>?_) p (F s) hf (J.clo s row p hr hp);exact fP _ _ _ (J.fr _ (by lia)).1
theorem EaOk.at(J:EaOk ins outs F head rows){x:Int}(hx:kC F rows.length x){row:List Th}{p:Th}(hr:rows[(x / 1000).toNat]?=A? row)(hp:p∈row):∃pl,(F (x / 1000).toNat).hw [] (eaP F p)≠[]/\((F (x / 1000).toNat).hw [] (eaP F p))[(x%1000).toNat]?=A? (pl,eaU F x p)/\(eaP F p).sub pl=A? (eaU F x p)/\Small (eaU F x p):=by
 obtain⟨BE,Bv,_,_,hf⟩:=J.row hx;rw[hr]at Bv;cases Bv;obtain⟨C,hC,_⟩:=hf p hp;have hl:=J.lies hr hp hC;have hn:=nb [] _ _ hl;have Ai:(x%1000).toNat<((F (x / 1000).toNat).hw [] (eaP F p)).length:=by rw[hn];exact hx.2.2
 obtain⟨y,hy⟩:∃y,((F (x / 1000).toNat).hw [] (eaP F p))[(x%1000).toNat]?=A? y:=⟨_,WR Ai⟩
 have e:eaU F x p=y.2:=by
  unfold eaU;rw[hy];rfl
 obtain⟨r,h1,h2⟩:=vV [] _ _ y (WS hy);rw[YY]at h1;rw[<-h1]at h2;refine⟨y.1,List.ne_nil_of_length_pos (by lia),by rw[hy,e],by rw[e];exact h2,?_⟩;rw[e];exact oj h2 (J.smR row (WS hr) p hp)
theorem wK:∀{r:List Int}{t u:Th},t.sub r=A? u->∀x∈stT u,x∈stT t
 | [],t,u,h,x,hx=>by
   rw[fb]at h;cases h;exact hx
 | i::r,t,u,h,x,hx=>by
   obtain⟨h0,w,hw,h⟩:=oY h;have:=wK h x hx;cases t with
   |call s k=>cases hw
   |knot n ks=>rw[eR];exact lb (WS hw) this
theorem EaOk.stR(J:EaOk ins outs F head rows){x:Int}(hx:kC F rows.length x):∀y∈bK (eaR F rows x),kC F rows.length y:=λy hy=>by
 obtain⟨t,ht,hy⟩:=List.mem_flatMap.mp hy;obtain⟨p,hp,rfl⟩:=Xx.mp ht;obtain⟨row,hr,e,_,hf⟩:=J.row hx;rw[e]at hp;obtain⟨pl,_,_,h3,_⟩:=J.at hx hr hp;obtain⟨C,hC,_⟩:=hf p hp;exact J.st hC y (wK h3 y hy)
theorem EaOk.met(J:EaOk ins outs F head rows):∀x∈bS (eaR F rows) (eaP F head),kC F rows.length x :=
 vA _ (kC F rows.length) (λs hs x hx=>J.stR hs x hx) _ _ _ λx hx=>(eQ.mp hx).elim (λz=>by cases z) (J.st J.hd x)
def eaA(F:Nat->Th)(N:Nat):List Int:=(XD N).flatMap λs=>(XD (F s).nh).map λj=>enc (s:Nat) (j:Nat)
theorem vM[DecidableEq α]:∀{l m:List α},l.Nodup->(∀x∈l,x∈m)->l.length<=m.length
 | [],m,_,_=>Xg _
 | a::l,m,h,hs=>by
   have ha:=hs a (Xh ..);have h1:=vM (l:=l) (m:=m.erase a) (ZM.mp h).2 λx hx=>(List.mem_erase_of_ne (λz=>(ZM.mp h).1 (by rw[<-z];exact hx))).mpr (hs x (Xe _ hx));rw[List.length_erase_of_mem ha]at h1;have:=List.length_pos_of_mem ha;rw[W0];lia
theorem EaOk.len(J:EaOk ins outs F head rows):(bS (eaR F rows) (eaP F head)).length<=20:=by
 have h:=vM (m:=eaA F rows.length) (xV _ _) λx hx=>by
  obtain⟨h0,h1,h2⟩:=J.met x hx;refine List.mem_flatMap.mpr ⟨(x / 1000).toNat,YW.mpr h1,Xx.mpr ⟨(x%1000).toNat,YW.mpr h2,?_⟩⟩;unfold enc;lia
 refine Xs h (Xs (Nat.le_of_eq ?_) J.many);unfold eaA;rw[List.length_flatMap];congr 1;exact List.map_congr_left λs _=>by rw[WM,Xi]
theorem EaOk.small(J:EaOk ins outs F head rows){x:Int}(hx:kC F rows.length x):(eaR F rows x).length<=8/\∀t∈eaR F rows x,Small t:=by
 obtain⟨row,hr,e,hl,_⟩:=J.row hx;unfold eaR;rw[e];refine⟨by rw[WM,hl];exact J.gi.le,λt ht=>?_⟩;obtain⟨p,hp,rfl⟩:=Xx.mp ht;obtain⟨_,_,_,_,h⟩:=J.at hx hr hp;exact h
end
end BB
namespace L2
open PySem
theorem abi{X:Cx}{y z u:Xp}{e:WQ}(h1:X.env.cells.lookup y=A? c)(h2:X.fn y=C?)(h3:X.env.kindOf y=A? .cell)(g1:X.env.cells.lookup z=A? d)(g2:X.fn z=C?)(g3:X.env.kindOf z=A? .cell)(k1:X.env.cells.lookup u=A? e)(k2:X.fn u=C?)(k3:X.env.kindOf u=A? .cell):iQ X [(y,c),(z,d),(u,e)]:=by
 have h:=abr h1 h2 h3 g1 g2 g3;have k:=abp k1 k2 k3;have hm:∀{p:Xp×WQ},p∈[(y,c),(z,d),(u,e)]->p∈[(y,c),(z,d)]\/p∈[(u,e)]:=λhp=>Xz.mp (by exact hp);exact⟨λa b hp=>(hm hp).elim (h.1 a b) (k.1 a b),λa b hp=>(hm hp).elim (h.2 a b) (k.2 a b),λa b hp=>(hm hp).elim (h.3 a b) (k.3 a b)⟩
theorem zX(nd:(cl.map (·.2)).Nodup){y:Xp}(h1:cl.lookup x=A? c)(h2:cl.lookup y=A? c):x=y:=by
 obtain⟨i,hi⟩:=Xj.mp (Yl h1);obtain⟨j,hj⟩:=Xj.mp (Yl h2);have e:(cl.map (·.2))[i]?=(cl.map (·.2))[j]?:=by rw[WY,WY,hi,hj];rfl
 have:=(List.getElem?_inj (by rw[WM];exact(glE hi)) nd).mp e;subst this;rw[hi]at hj;cases hj;rfl
theorem pV{S:List WQ}(hx:Exts S H)(e:H b=A? o)(hn:∀φ,o≠.ext φ):fgt S H b=A? o:=by
 rw[bX λz=>?_]
 .exact e
 .obtain⟨φ,h⟩:=hx b z;rw[h]at e;cases e;exact hn φ rfl
end L2
namespace BB
open PySem L2
mutual
def Th.lf:Th->Nat
 |.knot _ ks=>max 1 (lfs ks)
 |.call _ _=>1
def lfs:List Th->Nat
 | []=>0
 |t::ts=>t.lf+lfs ts
end
def szB(W:Nat):Nat->Nat
 |0=>1
 |n+1=>1+W * szB W n
theorem tU(W n:Nat):1<=szB W n:=by cases n <;> unfold szB <;> lia
structure PB(outs:List (Xp×Int))(S k:Int)(W d:Nat)(t:Th):Prop where
 fit:t.FitS outs S k
 tall:t.tall<=d+1
 lf:t.lf<=W ^ d
 sz:t.size<=szB W d
theorem tE:∀{ts:List Th},(∀t∈ts,t.lf<=B)->lfs ts<=ts.length * B
 | [],_=>Xg _
 | t::ts,h=>by
   have h1:=h t (Xh ..);have h2:=tE (ts:=ts) λu hu=>h u (Xe _ hu);rw[lfs,W0,Nat.succ_mul];lia
theorem jo:∀{ts:List Th},(∀t∈ts,t.size<=B)->aq ts<=ts.length * B
 | [],_=>Xg _
 | t::ts,h=>by
   have h1:=h t (Xh ..);have h2:=jo (ts:=ts) λu hu=>h u (Xe _ hu);rw[aq,W0,Nat.succ_mul];lia
theorem PB.call{k s c:Int}{d:Nat}(hW:1<=W)(h:(x! s c).FitS outs S k):PB outs S k W d (.call s c) :=
 ⟨h,by rw[t!];lia,by rw[Th.lf];exact Nat.pow_pos hW,by rw[p!];exact tU _ _⟩
theorem PB.over{k:Int}{d:Nat}(hW:1<=W){n:Xp}(hm:(n,(ts.length:Int))∈outs)(hl:ts.length<=W)(h:∀t∈ts,PB outs S k W d t):PB outs S k W (d+1) (.knot n ts):=by
 have hp:1<=W ^ d:=Nat.pow_pos hW;have h1:=tE λt ht=>(h t ht).lf;have h2:=jo λt ht=>(h t ht).sz;have h3:ts.length * W ^ d<=W * W ^ d:=Y3 _ hl;have h4:ts.length * szB W d<=W * szB W d:=Y3 _ hl;have h5:1 * 1<=W * W ^ d:=Nat.mul_le_mul hW hp;have h6:=ny λt ht=>(h t ht).tall;refine⟨by rw[z!];exact⟨hm,FitSs.of λt ht=>(h t ht).fit⟩,by rw[t!];lia,?_,?_⟩
 .rw[Th.lf,Nat.pow_succ,Nat.mul_comm];lia
 .rw[p!,szB];lia
theorem PB.leaf{k:Int}(d:Nat)(hW:1<=W){n:Xp}(hm:(n,(0:Int))∈outs):PB outs S k W d (.knot n []) :=
 ⟨by rw[z!];exact⟨hm,by rw[FitSs];trivial⟩,by rw[t!,aJ];lia,by rw[Th.lf,lfs];exact Nat.pow_pos hW,by rw[p!,aq];exact tU _ _⟩
theorem zo(hW:1<=W)(n:Nat):szB W n<=szB W (n+1):=by
 rw[show szB W (n+1)=1+W * szB W n from rfl];have:1 * szB W n<=W * szB W n:=Y3 _ hW;lia
mutual
theorem o0{ks:List (Xp×Int)}{C':Int}(hS:S<=S')(hC:C<=C'):∀t:Th,t.FitS ks S C->t.FitS ks S' C'
 |.call s k,h=>by rw[z!]at h |-;lia
 |.knot n ts,h=>by rw[z!]at h |-;exact⟨h.1,qt hS hC ts h.2⟩
theorem qt{ks:List (Xp×Int)}{C':Int}(hS:S<=S')(hC:C<=C'):∀ts:List Th,FitSs ks S C ts->FitSs ks S' C' ts
 | [],_=>by rw[FitSs];trivial
 |t::ts,h=>by rw[FitSs]at h |-;exact⟨o0 hS hC t h.1,qt hS hC ts h.2⟩
end
theorem PB.up{k k':Int}{d:Nat}{t:Th}(hW:1<=W)(hS:S<=S')(hk:k<=k')(h:PB outs S k W d t):PB outs S' k' W (d+1) t :=
 ⟨o0 hS hk t h.fit,Nat.le_succ_of_le h.tall,Xs h.lf (Nat.pow_le_pow_right hW (Nat.le_succ _)),Xs h.sz (zo hW _)⟩
theorem PB.wide{k k':Int}{d:Nat}{t:Th}(hS:S<=S')(hk:k<=k')(h:PB outs S k W d t):PB outs S' k' W d t :=
 ⟨o0 hS hk t h.fit,h.tall,h.lf,h.sz⟩
structure Drw(ins outs:List (Xp×Int))(W D:Nat)(head:Th)(rows:List (List Th)):Prop where
 gi:db ins
 go:db outs
 w1:1<=W
 hd:PB outs (rows.length:Nat) 1 W D head
 row:∀row∈rows,row.length=ins.length/\∀(j:Nat)(p:Th)(k:Xp×Int),row[j]?=A? p->ins[j]?=A? k->PB outs (rows.length:Nat) k.2 W D p
 le:rows.length<=5
 lim:D<=3/\W ^ D<=9/\szB W D<=15/\rows.length * W ^ D<=20
section
variable{D:Nat}
theorem Drw.fit(h:Drw ins outs W D head rows):yk ins outs (rows.length:Nat) rows:=⟨rfl,λrow hr=>⟨(h.row row hr).1,λj p k hp hk=>((h.row row hr).2 j p k hp hk).fit⟩⟩
theorem Drw.pat(h:Drw ins outs W D head rows){row:List Th}(hr:row∈rows){p:Th}(hp:p∈row):∃C,C<=3/\PB outs (rows.length:Nat) C W D p:=by
 obtain⟨j,hj⟩:=Xj.mp hp;obtain⟨hl,hf⟩:=h.row row hr;obtain⟨k,hk⟩:∃k,ins[j]?=A? k:=⟨_,WR (by have:=(glE hj);lia)⟩;exact⟨k.2,(h.gi.num k (WS hk)).2,hf j p k hj hk⟩
mutual
theorem vL:∀(n:Nat)(l r:Th),l.size<=n->(l.com r).lf<=l.lf
 |0,l,r,h=>by have:=l.size_pos;lia
 | n+1,l,r,h=>by
   rw[jH];have hl:1<=l.lf:=by cases l <;> rw[Th.lf] <;> lia
   by_cases hs:aE l r=C?
   .rw[b! hs];obtain⟨m,ks,us,rfl,rfl,e,_⟩:=bG hs;rw[p!]at h;have:=tM n ks us (by lia);show(o! m ((ks.zip us).map λp=>p.1.com p.2)).lf<=_;rw[Th.lf,Th.lf];lia
   .rw[a! hs,hole,Th.lf,lfs];lia
theorem tM:∀(n:Nat)(ks us:List Th),aq ks<=n->lfs ((ks.zip us).map λp=>p.1.com p.2)<=lfs ks
 |n,[],us,h=>by rw[List.zip_nil_left];exact WV _
 |n,k::ks,[],h=>by rw[List.zip_nil_right];exact Xg _
 | n,k::ks,u::us,h=>by
   rw[aq]at h;have h1:=vL n k u (by lia);have h2:=tM n ks us (by lia);rw[ZA,XB,lfs,lfs];show(k.com u).lf+_<=_;lia
end
theorem ve(mk:Int->Th):∀(row:List Th)(m:Th),(frF mk m row).lf<=m.lf
 | [],m=>WV _
 |p::row,m=>Xs (ve mk row _) (vL _ m _ (WV _))
mutual
theorem wE(D:List Int->Bool):∀(t:Th)(pre:List Int),(t.cut D pre).lf<=t.lf/\(t.cut D pre).tall<=t.tall/\(t.cut D pre).noCall
 | .call a b,pre=>by
   rw[Th.cut,Th.lf,t!,hole,Th.lf,t!,u!,lfs,aJ,ba];exact⟨WV _,WV _,trivial⟩
 | .knot n ks,pre=>by
   rw[Th.cut];obtain⟨h1,h2,h3⟩:=uj D ks pre 0;split
   .rw[hole,Th.lf,t!,Th.lf,t!,u!,lfs,aJ,ba];exact⟨by lia,by lia,trivial⟩
   .rw[Th.lf,t!,Th.lf,t!,u!];exact⟨by lia,by lia,h3⟩
theorem uj(D:List Int->Bool):∀(ts:List Th)(pre:List Int)(i:Int),lfs (cz D pre i ts)<=lfs ts/\aJ (cz D pre i ts)<=aJ ts/\ba (cz D pre i ts)
 | [],pre,i=>by rw[cz,ba];exact⟨WV _,WV _,trivial⟩
 | t::ts,pre,i=>by
   obtain⟨h1,h2,h3⟩:=wE D t (pre++[i]);obtain⟨g1,g2,g3⟩:=uj D ts pre (i+1);rw[cz,lfs,lfs,aJ,aJ,ba];exact⟨by lia,by lia,h3,g3⟩
end
mutual
theorem wO:∀t:Th,t.nh<=t.lf
 |.call a b=>Xg _
 | .knot n ks=>by
   rw[Th.nh,Th.lf];have:=wB ks;split <;> lia
theorem wB:∀ts:List Th,nhs ts<=lfs ts
 | []=>WV _
 | t::ts=>by
   have h1:=wO t;have h2:=wB ts;rw[nhs,lfs];lia
end
mutual
theorem ze:∀t:Th,cnT t<=t.lf
 |.call a b=>WV _
 | .knot n ks=>by
   rw[cnT,Th.lf];have:=xb ks;lia
theorem xb:∀ts:List Th,cM ts<=lfs ts
 | []=>WV _
 | t::ts=>by
   have h1:=ze t;have h2:=xb ts;rw[cM,lfs];lia
end
mutual
theorem tT(f:Int->Int->Th){m:Nat}(hf:∀s k,0<=s->s<S->0<=k->k<C->cnT (f s k)<=m):∀t:Th,t.FitS EN S C->cnT (t.fill f)<=cnT t * m
 | .call s k,h=>by
   rw[z!]at h;rw[A!,cnT,Nat.one_mul];exact hf s k h.1 h.2.1 h.2.2.1 h.2.2.2
 | .knot n ts,h=>by
   rw[z!]at h;rw[A!,cnT,cnT];exact rf f hf ts h.2
theorem rf(f:Int->Int->Th){m:Nat}(hf:∀s k,0<=s->s<S->0<=k->k<C->cnT (f s k)<=m):∀ts:List Th,FitSs EN S C ts->cM (fills f ts)<=cM ts * m
 | [],_=>Xg _
 | t::ts,h=>by
   rw[FitSs]at h;have h1:=tT f hf t h.1;have h2:=rf f hf ts h.2;rw[fills,cM,cM,Nat.add_mul];lia
end
mutual
theorem ui(f:Int->Int->Th){m l:Nat}(hm:1<=m)(hf:∀s k,0<=s->s<S->0<=k->k<C->(f s k).size<=m/\(f s k).tall<=l+1):∀t:Th,t.FitS EN S C->(t.fill f).size<=t.size * m/\(t.fill f).tall<=t.tall+l
 | .call s k,h=>by
   rw[z!]at h;have:=hf s k h.1 h.2.1 h.2.2.1 h.2.2.2;rw[A!,p!,t!];lia
 | .knot n ts,h=>by
   rw[z!]at h;have:=pP f hm hf ts h.2;rw[A!,p!,t!,p!,t!,Nat.add_mul];lia
theorem pP(f:Int->Int->Th){m l:Nat}(hm:1<=m)(hf:∀s k,0<=s->s<S->0<=k->k<C->(f s k).size<=m/\(f s k).tall<=l+1):∀ts:List Th,FitSs EN S C ts->aq (fills f ts)<=aq ts * m/\aJ (fills f ts)<=aJ ts+l
 | [],_=>⟨Xg _,Xg _⟩
 | t::ts,h=>by
   rw[FitSs]at h;have h1:=ui f hm hf t h.1;have h2:=pP f hm hf ts h.2;rw[fills,aq,aq,aJ,aJ,Nat.add_mul];lia
end
mutual
theorem y8{g:Nat->Th}(hg:∀j,cnT (g j)<=1):∀(f:Th)(i:Nat),f.noCall->cnT (f.hg g i)<=f.nh
 | .knot n ks,i,h=>by
   rw[Th.hg,Th.nh];split
   .exact hg i
   .rw[cnT];exact wd hg ks i h
 |.call s k,i,h=>by rw[u!]at h;exact h.elim
theorem wd{g:Nat->Th}(hg:∀j,cnT (g j)<=1):∀(fs:List Th)(i:Nat),ba fs->cM (hgs g fs i)<=nhs fs
 | [],i,_=>Xg _
 | f::fs,i,h=>by
   rw[ba]at h;have h1:=y8 hg f i h.1;have h2:=wd hg fs (i+f.nh) h.2;rw[hgs,cM,nhs];lia
end
theorem Drw.small(h:Drw ins outs W D head rows){F:Nat->Th}(hF:∀s,s<rows.length->(F s).noCall/\(F s).lf<=W ^ D/\(F s).size<=15/\(F s).tall<=4){p:Th}(hp:PB outs (rows.length:Nat) C W D p):Small (eaP F p):=by
 obtain⟨l1,l2,l3,_⟩:=h.lim;have hc:=tT (hgF F) (m:=9) (λs k h0 h1 _ _=>?_) p hp.fit
 .have hz:=ui (hgF F) (m:=15) (l:=3) (by decide) (λs k h0 h1 _ _=>?_) p hp.fit
  .have z1:=pq (p.fill (hgF F));have z2:p.size * 15<=15 * 15:=Y3 _ (Xs hp.sz l3);have z3:=hp.tall;have z4:cnT p * 9<=9 * 9:=Y3 _ (Xs (ze p) (Xs hp.lf l2));exact⟨by show(p.fill (hgF F)).tall<=20;lia,by show(p.fill (hgF F)).kn<=400;lia,by show cnT (p.fill (hgF F))<=200;lia⟩
  .have hs:=hF s.toNat (by lia);have:=mD F s k;lia
 .have hs:=hF s.toNat (by lia);have:=y8 (g:=λj=>x! (enc s (j:Nat)) k) (λj=>WV _) (F s.toNat) 0 hs.1;have:=wO (F s.toNat);show cnT ((F s.toNat).hg _ 0)<=9;lia
theorem Drw.many(h:Drw ins outs W D head rows){F:Nat->Th}(hF:∀s,s<rows.length->(F s).lf<=W ^ D):((XD rows.length).map λs=>(F s).nh).sum<=20:=by
 refine Xs ?_ h.lim.2.2.2
 have:∀(l:List Nat),(∀s∈l,(F s).nh<=W ^ D)->(l.map λs=>(F s).nh).sum<=l.length * W ^ D:=λl=>by
  induction l with
  |nil=>intro _;exact Xg _
  | cons x l ih =>
    intro hl;have h1:=hl x (Xh ..);have h2:=ih λs hs=>hl s (Xe _ hs);rw[XB,List.sum_cons,W0,Nat.succ_mul];lia
 have h2:=this (XD rows.length) λs hs=>Xs (wO _) (hF s (YW.mp hs));rw[Xi]at h2;exact h2
end
theorem j4{kr:WQ}{B2:List WQ}{ks:List (Xp×Int)}(p:Xp×Int->Bool)(e:H kr=A? (.tup (B2.map i!)))(Df:KsAt H ks B2)(hl:ks.length<=1000)
 (Jl:∀(z:Xp×Int)(ka:WQ)(H2:Hp)(R:Bool->Hp->Prop),k! H H2->KAt H2 z ka->R (p z) H2->tt ((cσ js Z).set 0 (A? (.ref ka))) H2 R)
 (J3:∀(ka:WQ)(H2:Hp)(R:VK),R (.ref ka) H2->te ((cσ js Z).set 0 (A? (.ref ka))) H2 R)
 (q:∀(D:WQ)(bs:List ((Xp×Int)×WQ))(H':Hp),H D=B?->H'=upd H D (.lst (bs.map λz=>i! z.2))->((∃k∈ks,p k=C?)->1<=bs.length)->bs.length<=ks.length->(∀z∈bs,z.1∈ks/\p z.1=C?/\KAt H z.1 z.2)->fin D H') :
 ∀D,H D=B?->∃(n:Nat)(W:Nat->Hp->Prop),W 0 (upd H D (.lst []))/\g8 js (ak 0) tt te Z (Itt K kr) D n W λH'=>fin D H':=by
 have BI:ks.length=B2.length:=WZ Df;have RX:(ks.zip B2).length=ks.length:=by rw[List.length_zip];lia
 have Jm:∀(i:Nat)(x:V)(z:(Xp×Int)×WQ),(B2.map i!)[i]?=A? x->(ks.zip B2)[i]?=A? z->x=.ref z.2:=λi x z hx hz=>by
  obtain⟨ka,rfl,AZ⟩:=aG hx;obtain⟨h1,h2⟩:=Zd.mp hz;rw[AZ]at h2;cases h2;rfl
 refine qx (ks.zip B2) (λz=>p z.1) (λz=>.ref z.2) (n! e) (by rw[RX,WM];exact BI) (by rw[WM];lia) (λi x z H2 R hx hz sm r=>?_) (λi x z H2 R hx hz _ sm r=>?_) (λD hD=>?_)
 .rw[Jm i x z hx hz];have:=(lS Df z (WS hz)).2;exact Jl z.1 z.2 H2 R sm (sm _ _ this) r
 .rw[Jm i x z hx hz];exact J3 z.2 H2 R r
 .refine q D _ _ hD rfl ?_ ?_ ?_
  .rintro⟨k,hk,Ve⟩;obtain⟨i,hi,rfl⟩:=List.getElem_of_mem hk;have hz:(ks.zip B2)[i]'(by lia)∈(ks.zip B2).filter λz=>p z.1:=YZ.mpr ⟨List.getElem_mem _,by rw[List.getElem_zip];exact Ve⟩;exact List.length_pos_of_mem hz
  .exact Xs (ZE _ _) (by lia)
  .intro z hz;obtain⟨h1,h2⟩:=YZ.mp hz;obtain⟨h3,h4⟩:=lS Df z h1;exact⟨h3,h2,h4⟩
section
variable{F:Nat->Th}
section
variable{M:List Int}(J:EaOk ins outs F head rows)(hM:M=bS (eaR F rows) (eaP F head))
include J hM
end
end
end BB
namespace L2
open PySem PySem.Spec PyProof.Rows
section
variable{X:Cx}{t:TA}{p p2 Ay:Z2}
end
end L2
namespace BB
open PySem L2
end BB
namespace LAW
open PySem L2 BB
def top(i:Nat):Stmt:=PySem.Challenge.pw_boughbook_k67_written_early.main.body.getD i (.Pass ⟨0,0,0,0⟩)
theorem scm{P:List Xp}(a:sc.kind=.function:=by rfl)(b:sc.isCoroutine=false:=by rfl)(c:sc.isGenerator=false:=by rfl)(d:N.Nodup:=by decide +kernel)(e:N.take P.length=P:=by rfl)(f:∀x∈P,sc.names.lookup x=A? .local\/sc.names.lookup x=A? .cell:=by decide +kernel)(g:∀y∈sc.names,y.2≠.free:=by decide +kernel):dX N P sc:=⟨a,b,c,d,e,f,g⟩
abbrev ND(l:List Xp):Prop:=l.Nodup
abbrev sC(N:List Xp)(k i:Nat):Prop:=dX N (N.take k) (aO (top i))
theorem o6:sC ["thing"] 1 8:=scm
theorem qh:sC ["number","bound"] 2 9:=scm
theorem sJ:sC ["thing"] 1 10:=scm
theorem gO:sC ["thing","met","ahead","part"] 1 11:=scm
theorem ej:sC ["thing","met","ahead","place","part","kids"] 1 12:=scm
theorem ja:sC ["tops","done","top","many"] 1 13:=scm
theorem uY:sC ["tree"] 1 14:=scm
theorem nX:sC ["thing","number","kids"] 2 15:=scm
theorem fQ:sC ["tree","place","part","number"] 2 16:=scm
theorem rN:sC ["thing"] 1 19:=scm
theorem rX:sC ["thing"] 1 20:=scm
theorem si:sC ["thing"] 1 21:=scm
theorem oH:sC ["call"] 1 22:=scm
theorem qP:sC ["pattern"] 1 23:=scm
theorem pi:sC ["pattern"] 1 24:=scm
theorem qM:sC ["front"] 1 25:=scm
theorem ol:sC ["part","many"] 1 26:=scm
theorem jI:sC ["pattern","table","tops","part"] 2 27:=scm
theorem ff:sC ["pattern","names","table","state","kid"] 2 28:=scm
theorem jb:sC ["front","parts","tops","used","part"] 2 29:=scm
theorem qQ:sC ["one","two"] 2 30:=scm
theorem ck:sC ["one","two","met","ahead","left","right"] 2 31:=scm
theorem gW:sC ["one","two","tops","left","right"] 2 32:=scm
theorem kD:dX ["self"] ["self"] (aO (inClass (top 38) 0)):=scm
theorem jK:dX ["self","part","row"] ["self","part","row"] (aO (inClass (top 38) 1)):=scm
theorem dI:sC ["pattern","measure","ahead","part","row"] 1 39:=scm
theorem uT:sC ["book"] 1 40:=scm
theorem sh:sC ["book"] 1 41:=scm
theorem rD:sC ["book"] 1 42:=scm
theorem qW:sC ["book"] 1 43:=scm
theorem oy:sC ["book"] 1 44:=scm
theorem mR:sC ["ins"] 1 46:=scm
theorem fD:sC ["ins","kind","kids","name","many"] 3 47:=scm
theorem bA:sC ["book","names","at","made","state","patterns","kid"] 1 48:=scm
theorem bN:sC ["book","state","made","partings","ins","front","kind","pattern","place"] 4 49:=scm
theorem bV:sC ["book","state","front","links","parts","kind","pattern","place","lower","kid","inner"] 4 50:=scm
theorem cu:sC ["ins","links","partings","holes","at","one","two","state","place","kind","kid"] 3 51:=scm
theorem cG:sC ["front","state","partings","tops","ahead","place","part","kids"] 3 52:=scm
theorem bD:sC ["book","made","partings","firsts","links","state","front"] 1 53:=scm
theorem fV:sC ["book","fronts","partings"] 1 54:=scm
theorem iu:sC ["pattern","numbers","thing","kid"] 2 56:=scm
theorem dJ:sC ["ins","outs","head","patterns_of","numbers","fresh_head","rules","thing"] 4 57:=scm
theorem b9:sC ["fronts","table","state","front","kid","calls"] 1 59:=scm
theorem rP:sC ["pattern"] 1 60:=scm
abbrev iD:Stmt:=top 61
theorem fg:sC ["book","fronts","table","patterns_of"] 1 61:=scm
theorem kG:sC ["script","k"] 2 63:=scm
theorem g9:sC ["cell","k","stir"] 2 64:=scm
theorem jj:sC ["base","n","tail"] 2 65:=scm
theorem mS:sC ["base","menu"] 2 66:=scm
theorem cN:sC ["cell","deep","outs","states","kids","some","kind","parts"] 5 67:=scm
theorem cC:sC ["seed","cell","deep","outs","states","kids","some","kind","parts","j"] 6 68:=scm
theorem dF:sC ["script","many","cells","k","more"] 2 69:=scm
theorem aK:sC ["script","first","menu","ins","outs","states","deep","cells","rules","s","seed","row","j"] 1 70:=scm
theorem dC:sC ["pattern","found","part"] 1 71:=scm
theorem ky:sC ["pattern","numbers"] 2 72:=scm
theorem aL:sC ["head","rules","met","rows","ahead","call","pattern","numbers","k","made"] 2 73:=scm
theorem dA:sC ["front","found","k"] 1 74:=scm
theorem oR:sC ["front","calls"] 2 75:=scm
theorem fk:sC ["pattern","fronts","front","many"] 2 76:=scm
theorem io:sC ["thing","spot","k"] 2 77:=scm
theorem bJ:sC ["book","fronts","rules","s","spots","k","made"] 2 78:=scm
theorem wx:sC ["script","book"] 1 79:=scm
structure FX(K:WO)(mg:Xp->Option WT)(n:Xp)(i:Nat)(ps:List Xp) where
 f:WQ
 d:ZU
 F:Fun K n n (top i) f d
 b:Binds K d ps []
 m:mg n=A? (.ref f)
structure CTX(K:WO)(mg:Xp->Option WT)(n:Xp)(xs:List V) where
 a:WQ
 c:mg n=A? (.ref a)
 q:∀H:Hp,SqT K H a xs
structure FT(K:WO)(mg:Xp->Option WT)(n:Xp)(i:Nat)(ps:List Xp) extends FX K mg n i ps where
 tc:WQ
 tp:WQ
 th:d.code=.ref tc
 t:PySem.W.tabIn K n=A? (tc,tp)
 u:K.lookup tp=B?
structure FM(K:WO)(e:WQ)(n q:Xp)(s:Stmt)(ps:List Xp) where
 f:WQ
 d:ZU
 F:Fun K n q s f d
 b:Binds K d ps []
 me:Meth K e n f
section
open PySem.W
variable{K:Frag}{n q:Xp}{st:Stmt}{e:WQ}{kV dc pm cd ct:WT}{an:Option WQ}{sl:Array (Option WT)}{tk:Tok}
abbrev HB(n q:Xp)(st:Stmt)(ps:List Xp):Prop:=∀(kV dc pm:WT)(an:Option WQ)(cd ct:WT)(us:List WT),us.length=ps.length->bindArgs (fnOf n q (cg st) (bR st) (aO st) .none kV dc pm an cd ct) ⟨us,[]⟩=pure (ps.zip us)
theorem hb1{p0:Xp}(h:∀(kV dc pm:WT)(an:Option WQ)(cd ct u0:WT),bindArgs (fnOf n q (cg st) (bR st) (aO st) .none kV dc pm an cd ct) ⟨[u0],[]⟩=pure [(p0,u0)]):HB n q st [p0]:=λa b c d e f us hl=>by obtain⟨u0,rfl⟩:=us1 hl;exact h a b c d e f u0
theorem hb2{p0:Xp}(h:∀(kV dc pm:WT)(an:Option WQ)(cd ct u0 u1:WT),bindArgs (fnOf n q (cg st) (bR st) (aO st) .none kV dc pm an cd ct) ⟨[u0,u1],[]⟩=pure [(p0,u0),(p1,u1)]):HB n q st [p0,p1]:=λa b c d e f us hl=>by obtain⟨u0,u1,rfl⟩:=us2 hl;exact h a b c d e f u0 u1
theorem hb3{p0:Xp}(h:∀(kV dc pm:WT)(an:Option WQ)(cd ct u0 u1 u2:WT),bindArgs (fnOf n q (cg st) (bR st) (aO st) .none kV dc pm an cd ct) ⟨[u0,u1,u2],[]⟩=pure [(p0,u0),(p1,u1),(p2,u2)]):HB n q st [p0,p1,p2]:=λa b c d e f us hl=>by obtain⟨u0,u1,u2,rfl⟩:=us3 hl;exact h a b c d e f u0 u1 u2
theorem hb4{p0:Xp}(h:∀(kV dc pm:WT)(an:Option WQ)(cd ct u0 u1 u2 u3:WT),bindArgs (fnOf n q (cg st) (bR st) (aO st) .none kV dc pm an cd ct) ⟨[u0,u1,u2,u3],[]⟩=pure [(p0,u0),(p1,u1),(p2,u2),(p3,u3)]):HB n q st [p0,p1,p2,p3]:=λa b c d e f us hl=>by obtain⟨u0,u1,u2,u3,rfl⟩:=us4 hl;exact h a b c d e f u0 u1 u2 u3
theorem hb5{p0 p4:Xp}(h:∀(kV dc pm:WT)(an:Option WQ)(cd ct u0 u1 u2 u3 u4:WT),bindArgs (fnOf n q (cg st) (bR st) (aO st) .none kV dc pm an cd ct) ⟨[u0,u1,u2,u3,u4],[]⟩=pure [(p0,u0),(p1,u1),(p2,u2),(p3,u3),(p4,u4)]):HB n q st [p0,p1,p2,p3,p4]:=λa b c d e f us hl=>by obtain⟨u0,u1,u2,u3,u4,rfl⟩:=us5 hl;exact h a b c d e f u0 u1 u2 u3 u4
theorem hb6{p0 p4 p5:Xp}(h:∀(kV dc pm:WT)(an:Option WQ)(cd ct u0 u1 u2 u3 u4 u5:WT),bindArgs (fnOf n q (cg st) (bR st) (aO st) .none kV dc pm an cd ct) ⟨[u0,u1,u2,u3,u4,u5],[]⟩=pure [(p0,u0),(p1,u1),(p2,u2),(p3,u3),(p4,u4),(p5,u5)]):HB n q st [p0,p1,p2,p3,p4,p5]:=λa b c d e f us hl=>match us,hl with| [u0,u1,u2,u3,u4,u5],_=>h a b c d e f u0 u1 u2 u3 u4 u5
noncomputable def fm(a:findIn K (.ref e) n=A? (A? (.ref f)):=by k_is)(i:isFn K (.ref f)=true:=by k_is)(l:K.lookup f=A? ⟨oc,od,.func (fnOf n q (cg st) (bR st) (aO st) .none kV dc pm an cd ct),sl⟩:=by k_is)(c:codeIn K cd q=true:=by k_is)(k:keepIn K (.ref f)=true:=by k_is)(hb:HB n q (st) ps:=by first|exact LAW.hb1 λ_ _ _ _ _ _ _=>rfl|exact LAW.hb2 λ_ _ _ _ _ _ _ _=>rfl|exact LAW.hb3 λ_ _ _ _ _ _ _ _ _=>rfl|exact LAW.hb4 λ_ _ _ _ _ _ _ _ _ _=>rfl|exact LAW.hb5 λ_ _ _ _ _ _ _ _ _ _ _=>rfl|exact LAW.hb6 λ_ _ _ _ _ _ _ _ _ _ _ _=>rfl):FM K e n q st ps:=⟨f,_,lV l c k,(lV l c k).binds hb,⟨a,i,k⟩⟩
theorem na(a:findIn K (.ref e) n=A? none:=by k_is):NoAttr K e n:=a
variable(X:K.In h)(G:h.Ns Yn mg)
noncomputable def fx{i:Nat}(a:nsIn K Yn n=A? (A? (.ref f)):=by k_is)(l:K.lookup f=A? ⟨oc,od,.func (fnOf n n (cg (top i)) (bR (top i)) (aO (top i)) .none kV dc pm an cd ct),sl⟩:=by k_is)(c:codeIn K cd n=true:=by k_is)(k:keepIn K (.ref f)=true:=by k_is)(hb:HB n n (top i) ps:=by first|exact LAW.hb1 λ_ _ _ _ _ _ _=>rfl|exact LAW.hb2 λ_ _ _ _ _ _ _ _=>rfl|exact LAW.hb3 λ_ _ _ _ _ _ _ _ _=>rfl|exact LAW.hb4 λ_ _ _ _ _ _ _ _ _ _=>rfl|exact LAW.hb5 λ_ _ _ _ _ _ _ _ _ _ _=>rfl|exact LAW.hb6 λ_ _ _ _ _ _ _ _ _ _ _ _=>rfl):FX K mg n i ps:=⟨f,_,lV l c k,(lV l c k).binds hb,mg_of X G a⟩
noncomputable def ft{i:Nat}{tc tp:WQ}{to:Zb}(a:nsIn K Yn n=A? (A? (.ref f)):=by k_is)(l:K.lookup f=A? ⟨oc,od,.func (fnOf n n (cg (top i)) (bR (top i)) (aO (top i)) .none kV dc pm an cd ct),sl⟩:=by k_is)(c:codeIn K cd n=true:=by k_is)(k:keepIn K (.ref f)=true:=by k_is)(hb:HB n n (top i) ps:=by first|exact LAW.hb1 λ_ _ _ _ _ _ _=>rfl|exact LAW.hb2 λ_ _ _ _ _ _ _ _=>rfl|exact LAW.hb3 λ_ _ _ _ _ _ _ _ _=>rfl|exact LAW.hb4 λ_ _ _ _ _ _ _ _ _ _=>rfl|exact LAW.hb5 λ_ _ _ _ _ _ _ _ _ _ _=>rfl|exact LAW.hb6 λ_ _ _ _ _ _ _ _ _ _ _ _=>rfl)(e:cd=.ref tc:=by rfl)(v:K.lookup tc=A? to:=by k_is)(x:tabAt to=A? tp:=by rfl)(u:K.lookup tp=none:=by kernel_rfl):FT K mg n i ps:=have t:=zu a l e v x;⟨fx X G a l c k hb,tc,tp,xW (lV l c k) a t,t,u⟩
include X G
theorem bn(a:nsIn K Yn n=A? none:=by k_is):mg n=none:=mg_none_of X G a
theorem gn(a:nsIn K Yn n=A? (A? (.ref f)):=by k_is):mg n=A? (.ref f):=mg_of X G a
theorem cs(a:nsIn K Yn n=A? (A? (.str x tk)):=by k_is):∃tk,mg n=A? (.str x tk):=⟨tk,mg_of X G a⟩
theorem ci{x:Int}(a:nsIn K Yn n=A? (A? (.int x tk)):=by k_is):∃tk,mg n=A? (.int x tk):=⟨tk,mg_of X G a⟩
noncomputable def ck1{oc:Option WQ}{m:Nat}{sc:Array (Option WT)}{x0:Xp}{t0:Tok}(a:nsIn K Yn n=A? (A? (.ref f)):=by k_is)(w:K.lookup f=A? ⟨.type "tuple",oc,.seq #[.str x0 t0] m,sc⟩:=by k_is):CTX K mg n [.str x0]:=⟨f,mg_of X G a,λH=>.inr ⟨_,_,_,w,rfl,rfl,(by show 1<=Xf;decide),.cons ⟨_,rfl⟩ (.nil)⟩⟩
end
theorem pcF{X:Cx}{kk k:Nat}{n:Xp}{st:Nat}{t:TA}{p:Z2}(g:FX X.K X.mg n st ps)(F:aT X.prog X.w X.K X.mg X.base CX0 k g.f g.d ps sp)(hr:Room kk X.A)(ha:PA X (e::es) t)(hle:k<=kk:=by first|decide|lia)(hg:Gl X n:=by rfl)(DU:(n == ("__debug__":Xp))=false:=by decide)(he:XG (e::es) X.env=(Cf,Y2 e X.env)::XG es X.env:=by rfl)(AU:(Z0 pos (XG es X.env)).any (·.1)=false:=by rfl):PE X (.Call (.Name n p) (e::es) [] pos) (cx sp [] E0 t) :=
 cR F (hr.mono hle) hg g.m g.F.kp g.b .nil eS ha DU he AU
structure TX(K:WO)(mg:Xp->Option WT) where
 c_CALL_SIGN:∃tk,mg "CALL_SIGN"=A? (.str (Xm "?") tk)
 c_MOST_KIDS:∃tk,mg "MOST_KIDS"=A? (.int (3) tk)
 k_HOLE:CTX K mg "HOLE" [.str (Xm "*")]
 c_MOST_STATES:∃tk,mg "MOST_STATES"=A? (.int (20) tk)
 c_MOST_ROWS:∃tk,mg "MOST_ROWS"=A? (.int (20) tk)
 c_MOST_KNOTS:∃tk,mg "MOST_KNOTS"=A? (.int (400) tk)
 c_MOST_CALLS:∃tk,mg "MOST_CALLS"=A? (.int (200) tk)
 g_0:FX K mg "is_number" 8 ["thing"]
 g_1:FX K mg "is_below" 9 ["number","bound"]
 g_2:FX K mg "kids_of" 10 ["thing"]
 g_3:FX K mg "walked" 11 ["thing"]
 g_4:FX K mg "placed" 12 ["thing"]
 g_5:FX K mg "built" 13 ["tops"]
 g_6:FX K mg "places" 14 ["tree"]
 g_7:FX K mg "kid_at" 15 ["thing","number"]
 g_8:FX K mg "knot_at" 16 ["tree","place"]
 g_9:FX K mg "is_call" 19 ["thing"]
 g_10:FX K mg "is_hole" 20 ["thing"]
 g_11:FX K mg "is_knot" 21 ["thing"]
 g_12:FX K mg "called_by" 22 ["call"]
 g_13:FX K mg "calls_in" 23 ["pattern"]
 g_14:FX K mg "called_in" 24 ["pattern"]
 g_15:FX K mg "holes_in" 25 ["front"]
 g_16:FX K mg "top_of" 26 ["part"]
 g_17:FX K mg "filled" 27 ["pattern","table"]
 g_18:FX K mg "restated" 28 ["pattern","names"]
 g_19:FX K mg "hung" 29 ["front","parts"]
 g_20:FX K mg "same_top" 30 ["one","two"]
 g_21:FX K mg "side_by_side" 31 ["one","two"]
 g_22:FX K mg "common" 32 ["one","two"]
 g_25:FX K mg "is_small" 39 ["pattern"]
 g_26:FX K mg "ins_of" 40 ["book"]
 g_27:FX K mg "outs_of" 41 ["book"]
 g_28:FX K mg "head_of" 42 ["book"]
 g_29:FX K mg "rules_of" 43 ["book"]
 g_30:FX K mg "states_of" 44 ["book"]
 g_31:FX K mg "small_tree" 46 ["ins"]
 g_32:FX K mg "knot_above" 47 ["ins","kind","kids"]
 g_33:FX K mg "first_makings" 48 ["book"]
 g_34:FX K mg "first_front" 49 ["book","state","made","partings"]
 g_35:FX K mg "put_links" 50 ["book","state","front","links"]
 g_36:FX K mg "spread" 51 ["ins","links","partings"]
 g_37:FX K mg "cut_front" 52 ["front","state","partings"]
 g_38:FX K mg "found_fronts" 53 ["book"]
 g_39:FX K mg "fronts_of" 54 ["book"]
 g_40:FX K mg "renamed" 56 ["pattern","numbers"]
 g_41:FX K mg "numbered" 57 ["ins","outs","head","patterns_of"]
 g_42:FX K mg "early_table" 59 ["fronts"]
 g_43:FX K mg "checked" 60 ["pattern"]
 g_44:FT K mg "earliest" 61 ["book"]
 g_45:FX K mg "_law_cell_at" 63 ["script","k"]
 g_46:FX K mg "_law_mixed" 64 ["cell","k"]
 g_47:FX K mg "_law_name" 65 ["base","n"]
 g_48:FX K mg "_law_kinds" 66 ["base","menu"]
 g_49:FX K mg "_law_pattern" 67 ["cell","deep","outs","states","kids"]
 g_50:FX K mg "_law_capped" 68 ["seed","cell","deep","outs","states","kids"]
 g_51:FX K mg "_law_cells" 69 ["script","many"]
 g_52:FX K mg "_law_book" 70 ["script"]
 g_53:FX K mg "_law_calls" 71 ["pattern"]
 g_54:FX K mg "_law_renamed" 72 ["pattern","numbers"]
 g_55:FX K mg "_law_numbered" 73 ["head","rules"]
 g_56:FX K mg "_law_holes" 74 ["front"]
 g_57:FX K mg "_law_hung" 75 ["front","calls"]
 g_58:FX K mg "_law_early" 76 ["pattern","fronts"]
 g_59:FX K mg "_law_at" 77 ["thing","spot"]
 g_60:FX K mg "_law_earliest" 78 ["book","fronts"]
 g_61:FX K mg "law" 79 ["script"]
 e_Measure:WQ
 x_Measure:mg "Measure"=A? (.ref e_Measure)
 cl_Measure:Cls K e_Measure
 g_23:FM K e_Measure "__init__" "Measure.__init__" (inClass (top 38) 0) ["self"]
 g_24:FM K e_Measure "takes" "Measure.takes" (inClass (top 38) 1) ["self","part","row"]
 mi_Measure:PySem.W.makesIn K e_Measure=C?/\PySem.W.keepIn K (.ref e_Measure)=C?
 na_Measure_met_knots:NoAttr K e_Measure "met_knots"
 na_Measure_met_calls:NoAttr K e_Measure "met_calls"
 n_0:mg "bool"=B?
 n_1:mg "dict"=B?
 n_2:mg "enumerate"=B?
 n_3:mg "int"=B?
 n_4:mg "isinstance"=B?
 n_5:mg "len"=B?
 n_6:mg "list"=B?
 n_7:mg "max"=B?
 n_8:mg "min"=B?
 n_9:mg "range"=B?
 n_10:mg "reversed"=B?
 n_11:mg "tuple"=B?
 n_12:mg "zip"=B?
theorem xC:ND ["number","kid","place"]:=by decide +kernel
theorem aba:ND ["number","done"]:=by decide +kernel
theorem aaD:ND ["place","knot"]:=by decide +kernel
theorem xL:ND ["place","part"]:=by decide +kernel
theorem x8:ND ["name","many"]:=by decide +kernel
theorem abF:ND ["kid","kids","ins"]:=by decide +kernel
theorem abx:ND ["state","book","made","partings"]:=by decide +kernel
theorem aav:ND ["state","front","partings"]:=by decide +kernel
theorem abb:ND ["kid","row"]:=by decide +kernel
theorem abk:ND ["part"]:=by decide +kernel
theorem zc:ND ["pattern","numbers"]:=by decide +kernel
theorem aaO:ND ["hole","kid","state"]:=by decide +kernel
theorem aa3:ND ["pattern","place","table"]:=by decide +kernel
theorem aaX:ND ["n","base","menu"]:=by decide +kernel
theorem aas:ND ["kind","deep"]:=by decide +kernel
theorem aaN:ND ["j","outs","states","kids","cell","deep"]:=by decide +kernel
theorem aaJ:ND ["kind","seed"]:=by decide +kernel
theorem aay:ND ["k"]:=by decide +kernel
theorem aaL:ND ["part","numbers"]:=by decide +kernel
theorem aaP:ND ["spot","k"]:=by decide +kernel
theorem aaw:ND ["part","calls"]:=by decide +kernel
theorem aa1:ND ["k","pattern"]:=by decide +kernel
theorem aa0:ND ["part","fronts"]:=by decide +kernel
theorem aa4:ND ["row","numbers"]:=by decide +kernel
theorem aa6:ND ["pattern","fronts","spots","k"]:=by decide +kernel
section
variable(T:TX K mg)
inductive ld(K:WO)(vs:List V)(H:Hp)(Q:VK)(_E:XK):Prop
 |mk {rq:Rep} (a:WQ) (t:Th):vs=[.ref a]->AtK rq K H t a->(∀(r:WQ)(as:List WQ)(H':Hp),k! H H'->H' r=A? (.tup (as.map i!))->AtsK rq K H' t.kids as->Q (.ref r) H')->ld K vs H Q _E
theorem eO:aT P w K mg base CX0 1 T.g_2.f T.g_2.d ["thing"] (ld K):=by
 refine T.g_2.F.okA sJ λAg A outer s H vs Q E hr h=>?_;obtain@⟨rq,a,t,rfl,hA,k⟩:=h
 refine⟨_,(ad (bZ (bh eJ (aC aF (pv 0) ag (λ_ _=>rfl)) (cH (v:=.str (Xm "?")) rfl T.c_CALL_SIGN.choose_spec ⟨_,D?⟩) (aZ _)) (af (ax (az ab))) bB)
  (af (ax (cK fR (pv 0) (cW ag) dG)))),?_⟩
 try dsimp only[Av,Ad]
 cases t with
 | knot n ks =>
   rw[AtK]at hA;refine hid λZZ kZ=>?_;obtain⟨hn,as,h1,h2⟩:=hA;refine kZ ?_;refine⟨_,D?,a,_,0,.str n,D?,D?,h1.sq,at0,D?,_,D?,?_⟩;refine cy (λc=>g! (e! c) (λz=>hn (V.str.inj z))) (λ_=>?_);refine⟨_,D?,1,D?,a,_,D?,h1.sq,?_,λr hr=>?_⟩
   .intro z;have:=z.1;simp[I!]at this
   .rw[dP];exact k r as _ (ae hr _) ac (h2.mono (dR hr))
 | call sn kn =>
   rw[AtK]at hA;obtain⟨v,hA,_⟩:=hA;refine⟨_,D?,a,_,0,.str q,D?,D?,hA.sq,at0,D?,_,D?,?_⟩;refine cy (λ_=>?_) (λc=>g! (d! rfl) c);refine⟨by show 0<=Xf;decide,λr hr=>?_⟩;exact k r [] _ (ae hr _) ac .nil
inductive nA(K:WO)(vs:List V)(H:Hp)(Q:VK)(_E:XK):Prop
 |mk {rq:Rep} (a:WQ) (t:Th):vs=[.ref a]->AtK rq K H t a->t.size<=100000->(∀(r:WQ)(as:List WQ)(H':Hp),k! H H'->H r=B?->H' r=A? (.lst (as.map i!))->AtsK rq K H' t.walk as->Q (.ref r) H')->nA K vs H Q _E
theorem jR:aT P w K mg base CX0 2 T.g_3.f T.g_3.d ["thing"] (nA K):=by
 refine T.g_3.F.okA gO λAg A outer s H vs Q E hr h=>?_;obtain@⟨rq,a,t,rfl,hA,hsz,k⟩:=h
 refine⟨_,(ad (aj 1 gO.nd (bp ab))
  (ad (aj 2 gO.nd (bp (aa (pv 0) ab)))
  (ad (dO Xr (bz (pv 2) (λ_=>rfl)) (ad (aj 3 gO.nd (jz Xc Zg Zf jt (pv 2)))
  (ad (aS (bT Xc Xv Xu aQ (pv 1) (aa (pv 3) ab)))
  (af (aS (bT Xc ZX ZW sF (pv 2) (aa (uy zC (pcF T.g_2 (eO T) hr (aa (pv 3) ab))) ab)))))))
  (af (ax (pv 1)))))),?_⟩
 try dsimp only[Av,Ad]
 refine⟨by show 0<=Xf;decide,λmt Ca=>?_⟩;refine⟨_,D?,by show 1<=Xf;decide,λah BK=>?_⟩;have Cb:H ah=none:=(ae Ca _).free BK;have Aq:ah≠mt:=λz=>by rw[z,ac]at BK;cases BK
 refine⟨λm Z H2=>Ex5 λ(ms as:List WQ)(Ms As:List Th)(p:Option V)=>An8 (Z=[A? (.ref a),A? (.ref mt),A? (.ref ah),p]) (k! H H2) (H2 mt=A? (.lst (ms.map i!))) (H2 ah=A? (.lst (as.map i!))) (AtsK rq K H2 Ms ms) (AtsK rq K H2 As as) (Ms++walks As.reverse=t.walk) (m=aq As),⟨_,[],[a],[],[t],B?,D?,?_,?_,?_,.nil,.cons (hA.mono ?_) .nil,?_,D?⟩,?_⟩
 .exact ao (ae Ca _) Cb
 .rw[ai Aq.symm,ac];rfl
 .rw[ac];rfl
 .exact j! (ao (ae Ca _) Cb)
 .simp[walks]
 rintro m Z H2 ⟨ms,as,Ms,As,p,rfl,sm,e1,e2,a1,a2,hw,rfl⟩
 have hlen:ms.length+aq As<=100000:=by
  have h1:=h! Zm hw;rw[Xd,jD,K!,<-a1.length]at h1;have h2:=mY As;lia
 refine⟨_,D?,_,.inl ⟨_,l! e2,D?⟩,?_⟩;refine cy (λc=>?_) (λc=>?_)
 ·-- a part is taken off
  refine⟨λAb H'=>∃m',m'<aq As/\Ex5 λ(ms as:List WQ)(Ms As:List Th)(p:Option V)=>An8 (Ab=[A? (.ref a),A? (.ref mt),A? (.ref ah),p]) (k! H H') (H' mt=A? (.lst (ms.map i!))) (H' ah=A? (.lst (as.map i!))) (AtsK rq K H' Ms ms) (AtsK rq K H' As as) (Ms++walks As.reverse=t.walk) (m'=aq As),λAb H' h=>h,?_⟩;have Bg:as≠[]:=by intro z;subst z;simp at c
  obtain⟨Au,b,rfl⟩:∃Au b,as=Au++[b]:=⟨as.dropLast,as.getLast Bg,(Y1 Bg).symm⟩;obtain⟨Us,x,rfl,a3,a4⟩:=a2.snoc_inv;have hs:aq (Us++[x])=aq Us+x.size:=by rw[bF,aq,aq];lia
  have FW:=x.size_eq;rw[hs]at hlen;refine⟨_,D?,.inl ⟨D?,_,l! e2⟩,ah,_,.ref b,D?,D?,e2,by simp,?_⟩;have d1:((Au++[b]).map i!).dropLast=Au.map i!:=by simp
  rw[d1];refine⟨_,D?,.inl ⟨D?,_,l! (by rw[ai Aq.symm];exact e1)⟩,_,D?,mt,_,.ref b,D?,D?,by rw[ai Aq.symm];exact e1,lbE (by lia),?_⟩;have k1:KT H2 (upd (upd H2 ah (.lst (Au.map i!))) mt (.lst (ms.map i!++[.ref b]))):=(aI e2).trans (aI (xs:=ms.map i!) (by rw[ai Aq.symm];exact e1));refine⟨_,D?,.inl ⟨D?,_,l! (by rw[ai Aq,ac])⟩,_,D?,b,x,D?,a4.mono k1,λr ks H3 s3 e3 a5=>?_⟩;refine⟨r,_,D?,n! e3,λl hl=>?_⟩;have l1:l≠ah:=λz=>by rw[z,s3 ah _ (by rw[ai Aq,ac])]at hl;cases hl
  have l2:l≠mt:=λz=>by rw[z,s3 mt _ ac]at hl;cases hl
  refine⟨ah,l,_,_,D?,D?,by rw[ai l1.symm];exact s3 ah _ (by rw[ai Aq,ac]),n! ac,ZS (bE ?_),?_⟩
  .have q1:=a3.length;have q2:=a5.length;have q3:=bI Us;have q4:=bI x.kids;rw[WM,Yt,WM];lia
  .have k2:KT H2 (upd (upd H3 l (.tup (ks.map i!).reverse)) ah (.lst (Au.map i!++(ks.map i!).reverse))) :=
    k1.trans ((j! s3).trans ((dR hl).trans (aI (xs:=Au.map i!) (by rw[ai l1.symm];exact s3 ah _ (by rw[ai Aq,ac])))))
   have k3:KT H3 (upd (upd H3 l (.tup (ks.map i!).reverse)) ah (.lst (Au.map i!++(ks.map i!).reverse))) :=
    (dR hl).trans (aI (xs:=Au.map i!) (by rw[ai l1.symm];exact s3 ah _ (by rw[ai Aq,ac])))
   refine⟨aq (Us++x.kids.reverse),?_,ms++[b],Au++ks.reverse,Ms++[x],Us++x.kids.reverse,A? (.ref b),D?,?_,?_,?_,?_,?_,?_,D?⟩
   .rw[bF,mY,hs];lia
   .have s4:k! H (upd (upd H2 ah (.lst (Au.map i!))) mt (.lst (ms.map i!++[.ref b]))):=ao (ao sm Cb) Ca;have nl:H l=none:=s4.free (s3.free hl);exact ao (ao (s4.trans s3) nl) Cb
   .rw[ai Aq.symm,ai l2.symm,s3 mt _ ac,Xa];rfl
   .rw[ac,Xa,List.map_reverse]
   .exact(a1.mono k2).append (.cons (a4.mono k2) .nil)
   .exact(a3.mono k2).append (a5.mono k3).reverse
   .rw[<-hw,XO,YD,YD,Y4,i3];show Ms++([x]++(walks x.kids++walks Us.reverse))=Ms++walks (x::Us.reverse);rw[walks,x.walk_eq];rfl
 .have hz:as=[]:=by
   cases as with
   |nil=>rfl
   |cons y ys=>simp at c
  subst hz;have B3:As=[]:=Yk.mp a2.length.symm;subst B3;refine⟨_,D?,k mt ms H2 sm Ca e1 ?_⟩;have Fn:Ms=t.walk:=by simpa[walks]using hw
  rw[<-Fn];exact a1
inductive m8(K:WO)(vs:List V)(H:Hp)(Q:VK)(_E:XK):Prop
 |mk (a:WQ) (t:Th):vs=[.ref a]->AtK .i K H t a->t.size<=100000->t.tall<=100000->(∀(r:WQ)(as:List WQ)(H':Hp),k! H H'->H r=B?->H' r=A? (.lst (as.map i!))->PsAtK K H' (t.pl []) as->Q (.ref r) H')->m8 K vs H Q _E
theorem gP:aT P w K mg base CX0 2 T.g_4.f T.g_4.d ["thing"] (m8 K):=by
 refine T.g_4.F.okA ej λAg A outer s H vs Q E hr h=>?_;obtain⟨a,t,rfl,hA,hsz,Aw,k⟩:=h
 refine⟨_,(ad (aj 1 ej.nd (bp ab))
  (ad (aj 2 ej.nd (bp (aa (az (aa (az ab) (aa (pv 0) ab))) ab)))
  (ad (dO Xr (bz (pv 2) (λ_=>rfl)) (ad (fB (jz Xc Zg Zf jt (pv 2)) (bx rfl (am (pgN 3 ej.nd) (am (pgN 4 ej.nd) aU))))
  (ad (aS (bT Xc Xv Xu aQ (pv 1) (aa (az (aa (pv 3) (aa (pv 4) ab))) ab)))
  (ad (du (i:=5) (N:=["number","kid","place"]) (js:=[B?,B?,A? 3]) (g:=(mQ K 2 (dg (ak 0) (dg (ak 1) mM)))) (tt:=bi) (te:=(iz (aD (tOp (m7 K) (aR 2) (iz (aD (aR 0) bY))) (aD (aR 1) bY)))) ej.nd rfl (Or.inl rfl) rfl (bU rfl (by decide +kernel) (by decide +kernel) rfl rfl rfl) (pf rfl T.n_2 (pcF T.g_2 (eO T) hr (aa (pv 4) ab))) (λ_ _ _ _ _ _=>(bx rfl (am (pgN 0 xC) (am (pgN 1 xC) aU)))) (gG (bW bc (aH rfl) (bW bc (aH rfl) gD))) (λ_ _ _ _ _ _=>bt) (λ_ _ _ _ _ _=>(az (aa (aB cY (pv 2) (az (aa (pv 0) ab))) (aa (pv 1) ab)))))
  (af (aS (bT Xc ZX ZW gS (pv 2) (aa (uy yF (pv 5)) ab))))))))
  (af (ax (pv 1)))))),?_⟩
 try dsimp only[Av,Ad]
 refine⟨lnE rfl,λmt Ca=>?_⟩;have s1:k! H (upd H mt (.lst [])):=ae Ca _;have Ia:(upd H mt (.lst [])) mt=A? (.lst []):=ac;generalize upd H mt (.lst [])=H1 at s1 Ia |-;refine⟨lnE rfl,λp0 FY=>?_⟩;refine⟨_,D?,lnE rfl,λp1 CB=>?_⟩;refine⟨lnE rfl,λah BK=>?_⟩;have s2:k! H1 (upd (upd H1 p0 (.tup [])) p1 (.tup [.ref p0,.ref a])):=(ae FY _).trans (ae CB _);have e1:(upd (upd H1 p0 (.tup [])) p1 (.tup [.ref p0,.ref a])) p1=A? (.tup [.ref p0,.ref a]):=ac;have e0:(upd (upd H1 p0 (.tup [])) p1 (.tup [.ref p0,.ref a])) p0=A? (.tup []):=ae CB _ _ _ ac;generalize(upd (upd H1 p0 (.tup [])) p1 (.tup [.ref p0,.ref a]))=H2 at s2 e1 e0 BK |-;have Du:H1 ah=none:=s2.free BK;have Cb:H ah=none:=s1.free Du;have Aq:ah≠mt:=λz=>by rw[z,Ia]at Du;cases Du
 refine⟨λm Z H3=>Ex7 λ(ms as:List WQ)(Ms As:List (List Int×Th))(c3 c4 c5:Option V)=>An9 (Z=[A? (.ref a),A? (.ref mt),A? (.ref ah),c3,c4,c5]) (k! H H3) (H3 mt=A? (.lst (ms.map i!))) (H3 ah=A? (.lst (as.map i!))) (PsAtK K H3 Ms ms) (PsAtK K H3 As as) (Ms++plP As.reverse=t.pl []) ((∀p∈As,p.1.length+p.2.tall<=100000)) (m=szP As),⟨_,[],[p1],[],[([],t)],B?,B?,B?,D?,?_,?_,?_,.nil,.cons ⟨p0,a,?_,?_,?_⟩ .nil,?_,?_,D?⟩,?_⟩
 .exact ao (s1.trans s2) Cb
 .rw[ai Aq.symm];exact s2 _ _ Ia
 .rw[ac];rfl
 .exact ae BK _ _ _ e1
 .exact ae BK _ _ _ e0
 .exact hA.mono (j! (ao (s1.trans s2) Cb))
 .simp[plP]
 .intro p hp;rw[W9]at hp;subst hp;simpa using Aw
 rintro m Z H3 ⟨ms,as,Ms,As,c3,c4,c5,rfl,sm,em,ea,a1,a2,hw,hb,rfl⟩
 have hlen:ms.length+szP As<=100000:=by
  have h1:=h! Zm hw;rw[Xd,tP,D!,kR]at h1;have h2:=WZ a1;lia
 refine⟨_,D?,_,.inl ⟨_,l! ea,D?⟩,?_⟩;refine cy (λc=>?_) (λc=>?_)
 .refine⟨λAb H'=>∃m',m'<szP As/\Ex7 λ(ms as:List WQ)(Ms As:List (List Int×Th))(c3 c4 c5:Option V)=>An9 (Ab=[A? (.ref a),A? (.ref mt),A? (.ref ah),c3,c4,c5]) (k! H H') (H' mt=A? (.lst (ms.map i!))) (H' ah=A? (.lst (as.map i!))) (PsAtK K H' Ms ms) (PsAtK K H' As as) (Ms++plP As.reverse=t.pl []) ((∀p∈As,p.1.length+p.2.tall<=100000)) (m'=szP As),λAb H' h=>h,?_⟩;have Bg:as≠[]:=by intro z;subst z;simp at c
  refine hid λZZ kZ=>?_;obtain⟨Au,b,rfl⟩:∃Au b,as=Au++[b]:=⟨as.dropLast,as.getLast Bg,(Y1 Bg).symm⟩;obtain⟨Us,⟨pre,x⟩,rfl,a3,pa,ta,eb,Bu,Cc⟩:=P2.snoc_inv a2;refine kZ ?_;have KC:szP (Us++[(pre,x)])=szP Us+x.size:=by rw[cS,szP,szP];rfl
  have FW:=x.size_eq;rw[KC]at hlen;have MX:=hb (pre,x) (by simp);simp only at MX Bu Cc;refine⟨_,D?,.inl ⟨D?,_,l! ea⟩,ah,_,.ref b,D?,D?,ea,by simp,?_⟩;have d1:((Au++[b]).map i!).dropLast=Au.map i!:=by simp
  rw[d1];have k1:KT H3 (upd H3 ah (.lst (Au.map i!))):=aI ea;have GR:k! H (upd H3 ah (.lst (Au.map i!))):=ao sm Cb;have DL:(upd H3 ah (.lst (Au.map i!))) mt=A? (.lst (ms.map i!)):=by rw[ai Aq.symm];exact em
  have Fq:(upd H3 ah (.lst (Au.map i!))) ah=A? (.lst (Au.map i!)):=ac;generalize(upd H3 ah (.lst (Au.map i!)))=H4 at k1 GR DL Fq |-;refine⟨b,_,D?,n! (k1 _ _ eb),D?,_,_,D?,_,_,D?,D?,?_⟩
  refine⟨_,D?,.inl ⟨D?,_,l! DL⟩,_,D?,_,D?,lnE rfl,λpr Bc=>?_⟩;have OW:mt≠pr:=av DL Bc;refine⟨mt,_,_,D?,D?,ae Bc _ _ _ DL,lbE (by lia),?_⟩;have OX:(upd H4 pr (.tup [.ref pa,.ref ta])) mt=A? (.lst (ms.map i!)):=ae Bc _ _ _ DL;have k2:KT H4 (upd (upd H4 pr (.tup [.ref pa,.ref ta])) mt (.lst (ms.map i!++[.ref pr]))):=(dR Bc).trans (aI OX);have OY:k! H (upd (upd H4 pr (.tup [.ref pa,.ref ta])) mt (.lst (ms.map i!++[.ref pr]))):=ao (ao GR (GR.free Bc)) Ca;have RY:(upd (upd H4 pr (.tup [.ref pa,.ref ta])) mt (.lst (ms.map i!++[.ref pr]))) mt=A? (.lst ((ms++[pr]).map i!)):=uAE;have RZ:(upd (upd H4 pr (.tup [.ref pa,.ref ta])) mt (.lst (ms.map i!++[.ref pr]))) ah=A? (.lst (Au.map i!)):=by rw[ai Aq,ai (av Fq Bc)];exact Fq
  have Js:(upd (upd H4 pr (.tup [.ref pa,.ref ta])) mt (.lst (ms.map i!++[.ref pr]))) pr=A? (.tup [.ref pa,.ref ta]):=by rw[ai OW.symm,ac]
  generalize(upd (upd H4 pr (.tup [.ref pa,.ref ta])) mt (.lst (ms.map i!++[.ref pr])))=H5 at k2 OY RY RZ Js |-;have Jt:KT H3 H5:=k1.trans k2;have OZ:=Jt _ _ Bu
  refine⟨_,D?,ta,x,D?,Cc.mono Jt,λr ks H6 s6 er Df=>⟨r,D?,⟨_,n! er⟩,?_⟩⟩;have BI:ks.length=x.kids.length:=Df.length;have Ju:=bI x.kids;intro D hD;have O0:=s6 _ _ OZ;refine⟨ks.length,λj H7=>An3 (j<=ks.length) (k! H6 H7) (Ex1 λ(bs:List WQ)=>An2 (H7 D=A? (.lst (bs.map i!))) (PsAtK K H7 ((df pre 0 x.kids).take j) bs)),⟨Xg _,ae hD _,[],ac,.nil⟩,?_⟩;rintro j H7 ⟨hj,s7,bs,eD,Ah⟩;by_cases Cd:j=ks.length
  .left;refine⟨⟨_,n! (s7 _ _ er),by rw[WM];exact Cd.symm⟩,?_⟩;have Aa:(df pre 0 x.kids).take j=df pre 0 x.kids:=by rw[Cd,BI,<-gE pre 0 x.kids,Yo]
   rw[Aa]at Ah;have O1:=s7 _ _ (s6 _ _ RZ);have Fs:=s7 _ _ (s6 _ _ RY)
   have AV:bs.length=x.kids.length:=by
    have:=WZ Ah;rw[gE]at this;exact this.symm
   refine⟨_,D?,.inl ⟨D?,_,l! O1⟩,_,D?,D,_,D?,l! eD,λl hl=>?_⟩;have FN:ah≠l:=av O1 hl;have FZ:mt≠l:=av Fs hl;have KD:(upd H7 l (.lst (bs.map i!).reverse)) ah=A? (.lst (Au.map i!)):=by rw[ai FN];exact O1
   have q3:Au.length=Us.length:=(WZ a3).symm;have q4:=pD Us;refine⟨ah,l,_,_,D?,D?,KD,ac,cQ ?_,?_⟩
   .rw[WM,Yt,WM];lia
   have k8:KT H7 (upd (upd H7 l (.lst (bs.map i!).reverse)) ah (.lst (Au.map i!++(bs.map i!).reverse))):=(dR hl).trans (aI KD);have GS:KT H3 (upd (upd H7 l (.lst (bs.map i!).reverse)) ah (.lst (Au.map i!++(bs.map i!).reverse))):=Jt.trans ((j! (s6.trans s7)).trans k8);refine⟨szP (Us++(df pre 0 x.kids).reverse),?_,ms++[pr],Au++bs.reverse,Ms++[(pre,x)],Us++(df pre 0 x.kids).reverse,_,_,_,D?,?_,?_,?_,?_,?_,?_,?_,D?⟩
   .rw[cS,kR,iX,KC];lia
   .exact ao (ao ((OY.trans s6).trans s7) ((OY.trans s6).trans s7 |>.free hl)) Cb
   .rw[ai Aq.symm,ai FZ];exact Fs
   .rw[ac,Xa,List.map_reverse]
   .exact r! (a1.mono GS) (.cons ⟨pa,ta,k8 _ _ (s7 _ _ (s6 _ _ Js)),GS _ _ Bu,Cc.mono GS⟩ .nil)
   .exact r! (J! GS a3) (P2.reverse (J! k8 Ah))
   .rw[<-hw,XO,YD,YD,Y4,l4,rh];show Ms++([(pre,x)]++(pls pre 0 x.kids++plP Us.reverse))=Ms++plP ((pre,x)::Us.reverse);rw[plP,x.pl_eq pre];rfl
   .intro p hp;rcases Xz.mp hp with hp|hp
    .exact hb p (XT _ hp)
    .obtain⟨g1,g2⟩:=lA pre 0 x.kids p (List.mem_reverse.mp hp);have:=o5 g2;lia
  .right;have Ap:j<ks.length:=by lia
   refine⟨Ap,⟨_,.ref ks[j],n! (s7 _ _ er),by rw[WY,WR Ap];rfl⟩,?_⟩;rintro y H8 ⟨p,v,hp,rfl,rfl,hv⟩;have Bj:=hv _ (n! (s7 _ _ er));obtain⟨kd,rfl,FR⟩:=aG Bj;obtain⟨tk,AR,O2⟩:=Df.get FR;have s8:k! H7 (upd H7 p (.tup [.int (j:Nat),.ref kd])):=ae hp _;refine⟨p,_,D?,n! ac,D?,_,_,D?,_,_,D?,D?,?_⟩;generalize(upd H7 p (.tup [.int (j:Nat),.ref kd]))=H8 at s8 |-;refine⟨_,D?,_,D?,lnE rfl,λn1 Ft=>?_⟩;refine gU Ft λH9 s9 e9=>?_;refine mH (s9 _ _ (s8 _ _ (s7 _ _ O0))) e9 (by rw[WM];show pre.length+1<=1000000;lia) λn2 BP AS KG=>?_;refine⟨_,D?,lnE rfl,λn3 GU=>?_⟩;have B6:k! H7 (upd BP n3 (.tup [.ref n2,.ref kd])):=(s8.trans (s9.trans AS)).trans (ae GU _);have KH:=B6 _ _ eD;refine⟨_,KH,bE ?_,Ap,?_,bs++[n3],?_,?_⟩
   .have:=WZ Ah;rw[XF]at this;rw[WM];lia
   .exact ao (s7.trans B6) hD
   .rw[ac,Xa];rfl
   .have MY:KT (upd BP n3 (.tup [.ref n2,.ref kd])) (upd (upd BP n3 (.tup [.ref n2,.ref kd])) D (.lst (bs.map i!++[.ref n3]))):=aI KH;rw[XU,l9 pre 0 x.kids j tk AR];refine r! (J! ((j! B6).trans MY) Ah) (.cons ⟨n2,kd,MY _ _ ac,MY _ _ (ae GU _ _ _ ?_),?_⟩ .nil)
    .rw[KG,Xa,X6];rfl
    .exact O2.mono ((j! (s7.trans B6)).trans MY)
 .have hz:as=[]:=by
   cases as with
   |nil=>rfl
   |cons y ys=>simp at c
  subst hz;have B3:As=[]:=Yk.mp (WZ a2);subst B3;refine⟨_,D?,k mt ms H3 sm Ca em ?_⟩;have Fn:Ms=t.pl []:=by simpa[plP]using hw
  rw[<-Fn];exact a1
inductive ql(K:WO)(vs:List V)(H:Hp)(Q:VK)(_E:XK):Prop
 |mk {rq:Rep} (l:WQ) (as:List WQ) (tops:List Top) (u:Th):vs=[.ref l]->H l=A? (.lst (as.map i!))->Xk (TopAtK rq K H) tops as->tops.length<=100000->TopsOk tops->(∀t,Top.th t∈tops->t.size<=100000)->bl tops=[u]->(∀(r:WQ)(H':Hp),k! H H'->AtK rq K H' u r->Q (.ref r) H')->ql K vs H Q _E
theorem ji:aT P w K mg base CX0 1 T.g_5.f T.g_5.d ["tops"] (ql K):=by
 refine T.g_5.F.okA ja λAg A outer s H vs Q E hr h=>?_;obtain@⟨rq,l,as,tops,u,rfl,el,hT,hlen,hok,O3,hu,k⟩:=h
 refine⟨_,(ad (aj 1 ja.nd (bp ab))
  (ad (bq Xr rfl (zx rfl T.n_10 (pv 0)) (bx rfl (am (pgN 2 ja.nd) (am (pgN 3 ja.nd) aU))) (af (bZ (bh qy (pv 3) ag (aZ _)) (af (aS (bT Xc Xv Xu aQ (pv 1) (aa (aB cY (pv 2) (bd aP rfl T.n_11 XX (aa (bH (N:=["number","done"]) (js:=[B?,A? 1]) (g:=(ak 0)) (tt:=bi) (te:=(aaG K "list" (aaS) (aR 1))) rfl (bU rfl (by decide +kernel) (by decide +kernel) rfl rfl rfl) (bu rfl T.n_9 (aa (pv 3) ab)) (λ_ _ _ _ _ _=>(pgN 0 aba)) (aH rfl) (λ_ _ _ _ _ _=>bt) (λ_ _ _ _ _ _=>(jz Xc Zg Zf jt (pv 1)))) ab))) ab)))) (af (aS (bT Xc Xv Xu aQ (pv 1) (aa (pv 2) ab)))))))
  (af (ax (aC bj (pv 1) ag (λ_ _=>rfl)))))),?_⟩
 try dsimp only[Av,Ad]
 have AN:tops.length=as.length:=WZ hT;refine⟨lnE rfl,λdn MZ=>?_⟩;refine⟨_,D?,l,_,D?,l! (ae MZ _ _ _ el),?_⟩
 refine ye (K:=K) (a:=l) (xs:=as.map i!) (λi Z H2=>Ex3 λc2 c3 ds=>An4 (Z=[A? (.ref l),A? (.ref dn),c2,c3]) (k! H H2) (H2 dn=A? (.lst (ds.map i!))) (AtsK rq K H2 (bl (tops.drop (tops.length - i))).reverse ds))
  ⟨B?,B?,[],rfl,ae MZ _,ac,by rw[Nat.sub_zero,List.drop_length];exact .nil⟩ (λi Z H2 _⟨_,_,_,_,s2,_,_⟩=>l! (s2 _ _ el)) ?_ ?_
 .rintro i y Z H2 hi hy ⟨c2,c3,ds,rfl,s2,F0,Bl⟩;rw[WM,<-AN]at hi hy;obtain⟨pr,rfl,Bc⟩:=aG hy;obtain⟨x,hx,O4⟩:=y! hT Bc;have KI:=O4.mono (j! s2);have hn:tops.length - 1 - i<tops.length:=by lia
  have M0:tops.drop (tops.length - 1 - i)=x::tops.drop (tops.length - i):=by
   rw[ZK hn,show tops.length - 1 - i+1=tops.length - i by lia];congr 1;rw[WR hn]at hx;exact Xn hx
  have F1:=hok.drop (tops.length - 1 - i);rw[M0]at F1;have GV:tops.length - (i+1)=tops.length - 1 - i:=by lia
  have Oh:(bl (tops.drop (tops.length - i))).length<=100000:=by
   have:=sw (tops.drop (tops.length - i));rw[Z5]at this;lia
  generalize tops.drop (tops.length - i)=S at M0 Bl F1 Oh;refine hid λZZ kZ=>?_
  obtain⟨ta,m,xs,Js,eta,hm,hxl,C0⟩:∃(ta:WQ)(m:Nat)(xs:List V),H2 pr=A? (.tup [.ref ta,.int (m:Nat)])/\TK K H2 ta xs/\m<=(bl S).length/\xs.length<=200000/\∀(H':Hp)(p:WQ)(ks:List WQ),KT H2 H'->AtsK rq K H' ((bl S).take m) ks->TK K H' p (xs++ks.map i!)->∃u',bl (x::S)=u'::(bl S).drop m/\AtK rq K H' u' p:=by
   cases x with
   | nm n m =>
     rw[TopsOk]at F1;obtain⟨ta,h1,h2,h3⟩:=KI;refine⟨ta,m,_,h1,h3,F1.1,(by show 1<=200000;decide),λH' p ks kt hk hp=>⟨_,by rw[bl],?_⟩⟩;rw[AtK];exact⟨h2,ks,hp,hk⟩
   | th t =>
     obtain⟨ta,h1,h2⟩:=KI;obtain⟨xs,h3,hw,h4⟩:=h2.whole;have AB:=O3 t (WS hx);refine⟨ta,0,_,h1,h3,Xg _,by lia,λH' p ks kt hk hp=>⟨t,by rw[bl,Z6],?_⟩⟩;rw[ZC,AtsK]at hk;subst hk;rw[Y0,XA]at hp;exact h4 _ _ kt hp
  refine kZ ?_;refine⟨pr,_,D?,n! Js,D?,_,_,D?,_,_,D?,D?,?_⟩;have O5:=Bl.length;rw[Yt]at O5;refine cA (λb H'=>An2 (H'=H2) (b=decide ((0:Int)<(m:Int)))) (λkk AO=>?_) (λH' hb=>?_) (λH' hb=>?_)
  .exact⟨_,D?,_,_,D?,D?,_,D?,AO _ _ ⟨D?,D?⟩⟩
  rotate_left
  .obtain⟨rfl,hb⟩:=hb
   have Vf:m=0:=by
    have:=of_decide_eq_false hb.symm;lia
   subst Vf;obtain⟨u',B8,A9⟩:=C0 H' ta [] (j! (.refl _)) (by rw[ZC];exact .nil) (by rw[Y0,XA];exact eta);refine⟨_,D?,.inl ⟨D?,_,l! F0⟩,_,D?,dn,_,_,D?,D?,F0,lbE (by lia),?_⟩;have k6:KT H' (upd H' dn (.lst (ds.map i!++[.ref ta]))):=aI F0;refine⟨_,_,ds++[ta],D?,?_,uAE,?_⟩
   .intro b o e;rw[ai (av e MZ)];exact s2 b o e
   .rw[GV,M0,B8,Yb];rw[Z6];exact(Bl.mono k6).append (.cons (A9.mono k6) .nil)
  obtain⟨rfl,hb⟩:=hb;refine⟨_,D?,.inl ⟨D?,_,l! F0⟩,_,D?,?_⟩;refine⟨_,D?,(m:Int),D?,by lia,by lia,λD hD=>?_⟩;have O6:D≠dn:=λz=>by rw[z,F0]at hD;cases hD
  have Ca:((m:Nat):Int).toNat=m:=Xy m
  refine⟨m,λj H3=>An3 (j<=m) ((∀b o,H' b=A? o->b≠dn->H3 b=A? o)) (Ex2 λ(F2 ks:List WQ)=>An4 (H3 dn=A? (.lst (F2.map i!))) (H3 D=A? (.lst (ks.map i!))) (AtsK rq K H3 ((bl S).drop j).reverse F2) (AtsK rq K H3 ((bl S).take j) ks)),
   ⟨Xg _,λb o e hb=>?_,ds,[],?_,?_,?_,?_⟩,?_⟩
  .rw[ai (av e hD)];exact e
  .rw[ai O6.symm];exact F0
  .rw[ac];rfl
  .rw[Z6];exact Bl.mono (dR hD)
  .rw[ZC];exact .nil
  rintro j H3 ⟨hj,kp,F2,ks,ed,eD,KJ,hd2⟩;by_cases R1:j=m
  .left;refine⟨(by show((m:Nat):Int).toNat<=j;rw[Ca,R1];exact WV _),?_⟩;subst R1;have KL:KT H' H3:=λb xs' e=>kp b _ e (cp e F0 (by intro z;cases z));refine⟨D,_,D?,.inl ⟨l! eD,λtp Bn=>?_⟩⟩;refine gU Bn λH4 s4 e4=>?_;have BI:=hd2.length;refine abe ((eta.mono KL).mono (j! s4)) (.of e4) (by rw[WM,BI,XF];lia) λp H5 s5 e5=>?_;have Fu:=s4.trans s5;have R4:=Fu _ _ ed;have F3:=KL.trans (j! Fu);obtain⟨u',B8,A9⟩:=C0 H5 p ks F3 (hd2.mono (j! Fu)) e5;have DK:=KJ.length;rw[Yt,Z5]at DK;refine⟨dn,_,_,D?,D?,R4,lbE (by lia),?_⟩;have k6:KT H5 (upd H5 dn (.lst (F2.map i!++[.ref p]))):=aI R4;refine⟨_,_,F2++[p],D?,?_,uAE,?_⟩
   .intro b o e;have hb:b≠dn:=av e MZ;rw[ai hb];exact Fu _ _ (kp b o (s2 b o e) hb)
   .rw[GV,M0,B8,Yb];exact(KJ.mono ((j! Fu).trans k6)).append (.cons (A9.mono k6) .nil)
  .right;have Ap:j<m:=by lia
   refine⟨Ap,(by show j<((m:Nat):Int).toNat;rw[Ca];exact Ap),?_⟩;rintro x' H4 ⟨e1,e2⟩;have CA:H4=H3:=e1;subst CA;have R5:j<(bl S).length:=by lia
   have Vg:(bl S).drop j=(bl S)[j]::(bl S).drop (j+1):=ZK R5;rw[Vg,Yb]at KJ
   have Aq:F2≠[]:=by
    intro z;subst z;have:=KJ.length;rw[Xd]at this;simp at this
   refine hid λZZ kZ=>?_;obtain⟨Ib,b,rfl⟩:∃Ib b,F2=Ib++[b]:=⟨F2.dropLast,F2.getLast Aq,(Y1 Aq).symm⟩;obtain⟨Us,x2,e3,hU,hb2⟩:=KJ.snoc_inv;have e4:=List.append_inj' e3 rfl;obtain⟨e5,e6⟩:=e4;refine kZ ?_;cases e6;subst e5;refine⟨_,D?,.inl ⟨D?,_,l! ed⟩,dn,_,.ref b,D?,D?,ed,by simp,?_⟩;have d1:((Ib++[b]).map i!).dropLast=Ib.map i!:=by simp
   rw[d1];have GW:(upd H4 dn (.lst (Ib.map i!))) D=A? (.lst (ks.map i!)):=by rw[ai O6];exact eD
   have k5:KT H4 (upd (upd H4 dn (.lst (Ib.map i!))) D (.lst (ks.map i!++[.ref b]))):=(aI ed).trans (aI GW);refine⟨_,GW,bE (by rw[WM,hd2.length,XF];lia),Ap,λb' o e AB=>?_,Ib,ks++[b],?_,?_,hU.mono k5,?_⟩
   .rw[ai (av e hD),ai AB];exact kp b' o e AB
   .rw[ai O6.symm,ac]
   .rw[ac,Xa];rfl
   .rw[XU,WR R5];exact(hd2.mono k5).append (.cons (hb2.mono k5) .nil)
 .rintro Z H2 ⟨c2,c3,ds,rfl,s2,F0,Bl⟩;rw[WM,<-AN,Nat.sub_self,Z6,hu]at Bl;have KN:AtsK rq K H2 [u] ds:=Bl;rw[AtsK]at KN;obtain⟨b,r,rfl,hb,HY⟩:=KN;exact⟨_,D?,dn,_,0,.ref b,D?,D?,l! F0,at0,k b H2 s2 hb⟩
inductive nF(K:WO)(vs:List V)(H:Hp)(Q:VK)(_E:XK):Prop
 |mk (a:WQ) (t:Th):vs=[.ref a]->AtK .i K H t a->t.size<=100000->t.tall<=100000->(∀(r:WQ)(ps:List WQ)(H':Hp),k! H H'->H r=B?->H' r=A? (.lst (ps.map i!))->Xk (λ(p:List Int×Th)b=>H' b=A? (.tup (p.1.map q!))) (t.pl []) ps->Q (.ref r) H')->nF K vs H Q _E
theorem uF:aT P w K mg base CX0 3 T.g_6.f T.g_6.d ["tree"] (nF K):=by
 refine T.g_6.F.okA uY λAg A outer s H vs Q E hr h=>?_;obtain⟨a,t,rfl,hA,hsz,Aw,k⟩:=h;refine⟨_,(af (ax (bH (N:=["place","knot"]) (js:=[B?,B?]) (g:=(mQ K 2 (dg (ak 0) (dg (ak 1) mM)))) (tt:=bi) (te:=(aR 0)) rfl (bU rfl (by decide +kernel) (by decide +kernel) rfl rfl rfl) (bQ (pcF T.g_4 (gP T) hr (aa (pv 0) ab))) (λ_ _ _ _ _ _=>(bx rfl (am (pgN 0 aaD) (am (pgN 1 aaD) aU)))) (gG (bW bc (aH rfl) (bW bc (aH rfl) gD))) (λ_ _ _ _ _ _=>bt) (λ_ _ _ _ _ _=>(pv 0))))),?_⟩
 try dsimp only[Av,Ad]
 refine⟨_,D?,a,t,D?,hA,hsz,Aw,λr as H1 s1 nr er Bt=>⟨r,D?,⟨_,l! er⟩,?_⟩⟩;have AN:(t.pl []).length=as.length:=WZ Bt;rw[D!]at AN;refine hid λZZ kZ=>?_;obtain⟨bs,hb1,hb2,hb3⟩:=nv Bt;refine kZ ?_;refine ie bs (λ_=>C?) i! (l! er) (by rw[WM];exact hb2) (by rw[WM];lia) (λi x z H2 R R0 hx hz sm g1 g2=>?_) (λD hD=>?_)
 .obtain⟨a',ta,rfl,ea⟩:=hb3 i x z hx hz;refine⟨a',_,D?,n! (sm _ _ ea),D?,_,_,D?,_,_,D?,D?,?_⟩;refine sg (B:=R0 H2) ?_;exact⟨_,D?,g1 rfl⟩
 .rw[filter_tt];exact k D bs _ (s1.trans (ae hD _)) (s1.free hD) ac (v! (λ_ _ e=>ae hD _ _ _ e) hb1)
inductive f9(K:WO)(vs:List V)(H:Hp)(Q:VK)(_E:XK):Prop
 |mk {rq:Rep} (a:WQ) (t:Th):vs=[.ref a]->AtK rq K H t a->Q (.bl t.isCall) H->f9 K vs H Q _E
theorem eX:aT P w K mg base CX0 1 T.g_9.f T.g_9.d ["thing"] (f9 K):=by
 refine T.g_9.F.okA rN λAg A outer s H vs Q E hr h=>?_;obtain@⟨rq,a,t,rfl,hA,k⟩:=h;refine⟨_,(af (ax (dB eJ (aC aF (pv 0) ag (λ_ _=>rfl)) (cH (v:=.str (Xm "?")) rfl T.c_CALL_SIGN.choose_spec ⟨_,D?⟩) (aZ _)))),?_⟩
 try dsimp only[Av,Ad]
 cases t with
 | knot n ks =>
   rw[AtK]at hA;refine hid λZZ kZ=>?_;obtain⟨hn,as,h1,h2⟩:=hA;refine kZ ?_;refine⟨_,D?,a,_,0,.str n,D?,D?,h1.sq,at0,D?,?_⟩;have e:decide (N! n=N! (Xm "?"))=false:=c! (λz=>hn (V.str.inj z));rw[e];exact k
 | call sn kn =>
   rw[AtK]at hA;obtain⟨v,hA,_⟩:=hA;refine⟨_,D?,a,_,0,.str q,D?,D?,hA.sq,at0,D?,?_⟩;have e:decide (N! q=N! (Xm "?"))=true:=d! rfl;rw[e];exact k
inductive iw(K:WO)(vs:List V)(H:Hp)(Q:VK)(_E:XK):Prop
 |mk (a:WQ) (t:Th):vs=[.ref a]->AtK .i K H t a->t.tall<=150->Q (.bl t.isHole) H->iw K vs H Q _E
theorem fZ:aT P w K mg base CX0 1 T.g_10.f T.g_10.d ["thing"] (iw K):=by
 refine T.g_10.F.okA rX λAg A outer s H vs Q E hr h=>?_;obtain⟨a,t,rfl,hA,Aw,k⟩:=h;refine⟨_,(af (ax (dB (kL (B:=150) (eY hr)) (pv 0) (cH (v:=.ref T.k_HOLE.a) rfl T.k_HOLE.c rfl) (aZ _)))),?_⟩
 try dsimp only[Av,Ad]
 refine⟨_,D?,?_⟩;exact oN hA (TK.const T.k_HOLE.q) Aw k
inductive l7(K:WO)(vs:List V)(H:Hp)(Q:VK)(_E:XK):Prop
 |mk (a:WQ) (t:Th):vs=[.ref a]->AtK .i K H t a->t.tall<=150->Q (.bl t.isKnot) H->l7 K vs H Q _E
theorem rJ:aT P w K mg base CX0 2 T.g_11.f T.g_11.d ["thing"] (l7 K):=by
 refine T.g_11.F.okA si λAg A outer s H vs Q E hr h=>?_;obtain⟨a,t,rfl,hA,Aw,k⟩:=h;refine⟨_,(af (ax (gI (rS (pcF T.g_9 (eX T) hr (aa (pv 0) ab))) (jF (rS (pcF T.g_10 (fZ T) hr (aa (pv 0) ab))))))),?_⟩
 try dsimp only[Av,Ad]
 refine⟨_,D?,a,t,D?,hA,_,D?,_,D?,?_⟩;refine cy (λc=>?_) (λc=>?_)
 .refine⟨_,D?,a,t,D?,hA,Aw,_,D?,?_⟩;have e:t.isKnot=!t.isHole:=by unfold Th.isKnot;rw[c];rfl
  rw[e]at k;exact k
 .have e:t.isKnot=false:=by unfold Th.isKnot;rw[YA.mpr c];rfl
  rw[e]at k;exact k
inductive eh(K:WO)(vs:List V)(H:Hp)(Q:VK)(_E:XK):Prop
 |mk {rq:Rep} (a:WQ) (sn kn:Int):vs=[.ref a]->AtK rq K H (.call sn kn) a->(∀p v,StV rq H sn v->H p=B?->Q (.ref p) (upd H p (.tup [v,.int kn])))->eh K vs H Q _E
theorem f7:aT P w K mg base CX0 1 T.g_12.f T.g_12.d ["call"] (eh K):=by
 refine T.g_12.F.okA oH λAg A outer s H vs Q E hr h=>?_;obtain@⟨rq,a,sn,kn,rfl,hA,k⟩:=h;refine⟨_,(af (ax (az (aa (aC aF (pv 0) ag (λ_ _=>rfl)) (aa (aC aF (pv 0) ag (λ_ _=>rfl)) ab))))),?_⟩
 try dsimp only[Av,Ad]
 rw[AtK]at hA;obtain⟨v,hA,hv⟩:=hA;exact⟨_,D?,a,_,1,_,D?,D?,hA.sq,at1,_,D?,a,_,2,_,D?,D?,hA.sq,at2,lnE rfl,λp hp=>k p v hv hp⟩
inductive j9(K:WO)(vs:List V)(H:Hp)(Q:VK)(_E:XK):Prop
 |mk (a:WQ) (t:Th):vs=[.ref a]->AtK .i K H t a->t.size<=100000->t.tall<=100000->(∀(r:WQ)(as:List WQ)(H':Hp),k! H H'->H r=B?->H' r=A? (.lst (as.map i!))->CsAt H' (callsOf (t.pl [])) as->Q (.ref r) H')->j9 K vs H Q _E
theorem qF:aT P w K mg base CX0 3 T.g_13.f T.g_13.d ["pattern"] (j9 K):=by
 refine T.g_13.F.okA qP λAg A outer s H vs Q E hr h=>?_;obtain⟨a,t,rfl,hA,hsz,Aw,k⟩:=h;refine⟨_,(af (ax (bH (N:=["place","part"]) (js:=[B?,B?]) (g:=(mQ K 2 (dg (ak 0) (dg (ak 1) mM)))) (tt:=(λZ H Q=>(cx (f9 K) [] E0 (aD (aR 1) bY)) Z H λx H1=>∃k,we K x H1 k/\Q k H1)) (te:=(iz (aD (aR 0) (aD (cx (eh K) [] E0 (aD (aR 1) bY)) bY)))) rfl (bU rfl (by decide +kernel) (by decide +kernel) rfl rfl rfl) (bQ (pcF T.g_4 (gP T) hr (aa (pv 0) ab))) (λ_ _ _ _ _ _=>(bx rfl (am (pgN 0 xL) (am (pgN 1 xL) aU)))) (gG (bW bc (aH rfl) (bW bc (aH rfl) gD))) (λ_ _ _ _ _ _=>gR (bz (pcF T.g_9 (eX T) hr (aa (pv 1) ab)) (λ_=>rfl))) (λ_ _ _ _ _ _=>(az (aa (pv 0) (aa (pcF T.g_12 (f7 T) hr (aa (pv 1) ab)) ab))))))),?_⟩
 try dsimp only[Av,Ad]
 refine⟨_,D?,a,t,D?,hA,hsz,Aw,λr as H1 s1 nr er Bt=>⟨r,D?,⟨_,l! er⟩,?_⟩⟩;have AN:(t.pl []).length=as.length:=WZ Bt;have AU:=D! [] t;intro D hD;refine⟨as.length,λj H2=>An3 (j<=as.length) (k! H1 H2) (Ex1 λ(bs:List WQ)=>An2 (H2 D=A? (.lst (bs.map i!))) (CsAt H2 (callsOf ((t.pl []).take j)) bs)),⟨Xg _,ae hD _,[],ac,.nil⟩,?_⟩;rintro j H2 ⟨hj,s2,bs,eD,Ah⟩;by_cases Cd:j=as.length
 .left;refine⟨⟨_,l! (s2 _ _ er),by rw[WM,Cd];exact WV _⟩,?_⟩;have Aa:(t.pl []).take j=t.pl []:=by rw[Cd,<-AN,Yo]
  rw[Aa]at Ah;exact k D bs H2 (s1.trans s2) (s1.free hD) eD Ah
 .right;have Ap:j<as.length:=by lia
  refine⟨Ap,⟨_,.ref as[j],l! (s2 _ _ er),by rw[WY,WR Ap];rfl⟩,?_⟩;rintro y H3 ⟨rfl,hv⟩;have Bj:=hv _ (l! (s2 _ _ er));refine hid λZZ kZ=>?_;obtain⟨pr,rfl,Bc⟩:=aG Bj;obtain⟨⟨p,u⟩,O7,pa,ta,e1,e2,e3⟩:=y! (Bt.mono (j! s2)) Bc;refine kZ ?_;simp only at e2 e3;have AR:(t.pl []).take (j+1)=(t.pl []).take j++[(p,u)]:=by rw[XU,O7];rfl
  have AV:bs.length<=j:=by
   have g1:=WZ Ah;have g2:=j5 ((t.pl []).take j);rw[XF]at g2;lia
  refine⟨pr,_,D?,n! e1,D?,_,_,D?,_,_,D?,D?,?_⟩;refine⟨_,D?,ta,u,D?,e3,_,D?,?_⟩;cases u with
  | knot n ks =>
    refine yv ⟨Ap,s2,bs,eD,?_⟩;rw[AR,eL];show CsAt H3 (callsOf ((t.pl []).take j)++[]) bs;rw[XA];exact Ah
  | call sn kn =>
    refine sg ?_;refine⟨_,D?,_,D?,ta,sn,kn,D?,e3,λca v hv Cr=>⟨lnE rfl,λn3 GU=>?_⟩⟩;cases(show v=.int sn from hv);have s4:k! H3 (upd (upd H3 ca (.tup [.int sn,.int kn])) n3 (.tup [.ref pa,.ref ca])):=(ae Cr _).trans (ae GU _);have EO:=s4 _ _ eD;refine⟨_,EO,lbE (by lia),Ap,ao (s2.trans s4) hD,bs++[n3],?_,?_⟩
    .rw[ac,Xa];rfl
    .have k5:KT (upd (upd H3 ca (.tup [.int sn,.int kn])) n3 (.tup [.ref pa,.ref ca])) (upd (upd (upd H3 ca (.tup [.int sn,.int kn])) n3 (.tup [.ref pa,.ref ca])) D (.lst (bs.map i!++[.ref n3]))):=aI EO;rw[AR,eL];exact r! (CsAt.mono ((j! s4).trans k5) Ah) (.cons ⟨pa,ca,k5 _ _ ac,k5 _ _ (s4 _ _ e2),k5 _ _ (ae GU _ _ _ ac)⟩ .nil)
inductive j7(K:WO)(vs:List V)(H:Hp)(Q:VK)(_E:XK):Prop
 |mk (a:WQ) (t:Th):vs=[.ref a]->AtK .i K H t a->t.size<=100000->t.tall<=150->(∀(r:WQ)(ps:List WQ)(H':Hp),k! H H'->H' r=A? (.lst (ps.map i!))->Xk (λ(p:List Int)b=>H' b=A? (.tup (p.map q!))) (((t.pl []).filter λp=>p.2.isHole).map (·.1)) ps->Q (.ref r) H')->j7 K vs H Q _E
theorem gL:aT P w K mg base CX0 3 T.g_15.f T.g_15.d ["front"] (j7 K):=by
 refine T.g_15.F.okA qM λAg A outer s H vs Q E hr h=>?_;obtain⟨a,t,rfl,hA,hsz,Aw,k⟩:=h;refine⟨_,(af (ax (bH (N:=["place","part"]) (js:=[B?,B?]) (g:=(mQ K 2 (dg (ak 0) (dg (ak 1) mM)))) (tt:=(λZ H Q=>(cx (iw K) [] E0 (aD (aR 1) bY)) Z H λx H1=>∃k,we K x H1 k/\Q k H1)) (te:=(aR 0)) rfl (bU rfl (by decide +kernel) (by decide +kernel) rfl rfl rfl) (bQ (pcF T.g_4 (gP T) hr (aa (pv 0) ab))) (λ_ _ _ _ _ _=>(bx rfl (am (pgN 0 xL) (am (pgN 1 xL) aU)))) (gG (bW bc (aH rfl) (bW bc (aH rfl) gD))) (λ_ _ _ _ _ _=>gR (bz (pcF T.g_10 (fZ T) hr (aa (pv 1) ab)) (λ_=>rfl))) (λ_ _ _ _ _ _=>(pv 0))))),?_⟩
 try dsimp only[Av,Ad]
 refine⟨_,D?,a,t,D?,hA,hsz,by lia,λr as H1 s1 nr er Bt=>⟨r,D?,⟨_,l! er⟩,?_⟩⟩;have AN:(t.pl []).length=as.length:=WZ Bt;have AU:=D! [] t;obtain⟨bs,hb1,hb2⟩:=pick (G:=λ(p:List Int×Th)a b=>∃ta,H1 a=A? (.tup [.ref b,.ref ta])/\H1 b=A? (.tup (p.1.map q!))/\AtK .i K H1 p.2 ta) (λp a⟨pa,ta,h1,h2,h3⟩=>⟨pa,ta,h1,h2,h3⟩) Bt;refine ie ((t.pl []).zip bs) (λz=>z.1.2.isHole) (λz=>i! z.2) (l! er) (by rw[WM,List.length_zip];lia) (by rw[WM];lia) (λi x z H2 R R0 hx hz sm g1 g2=>?_) (λD hD=>?_)
 .rw[Zd]at hz;refine hid λZZ kZ=>?_;obtain⟨a',rfl,DW⟩:=aG hx;obtain⟨ta,f1,f2,f3⟩:=hb2 i _ _ _ hz.1 DW hz.2;obtain⟨_,_,_,hm3,_⟩:=wj t [] z.1.1 z.1.2 (WS hz.1);refine kZ ?_;refine⟨a',_,D?,n! (sm _ _ f1),D?,_,_,D?,_,_,D?,D?,?_⟩;refine⟨_,D?,ta,z.1.2,D?,f3.mono (j! sm),by lia,_,D?,?_⟩;refine cy (λc=>?_) (λc=>?_)
  .exact⟨_,D?,g1 c⟩
  .exact g2 (YA.mpr c)
 .refine k D ((((t.pl []).zip bs).filter λz=>z.1.2.isHole).map (·.2)) _ (s1.trans (ae hD _)) (by rw[ac,Y9];rfl) ?_;refine P2.mapl (·.1) (tL (xs:=t.pl []) (cs:=bs) (λp:List Int×Th=>p.2.isHole) (by lia) λi x c e1 e2=>?_);refine hid λZZ kZ=>?_;obtain⟨a',DW⟩:∃a',as[i]?=A? a':=⟨_,WR (by have:=(glE e2);lia)⟩;obtain⟨ta,f1,f2,f3⟩:=hb2 i _ _ _ e1 DW e2;refine kZ ?_;exact ae hD _ _ _ f2
inductive nL(K:WO)(vs:List V)(H:Hp)(Q:VK)(_E:XK):Prop
 |mk {rq:Rep} (a:WQ) (n:Xp) (ks:List Th):vs=[.ref a]->AtK rq K H (.knot n ks) a->(∀(r:WQ)(H':Hp),k! H H'->TopAtK rq K H' (.nm n ks.length) r->Q (.ref r) H')->nL K vs H Q _E
theorem jE:aT P w K mg base CX0 2 T.g_16.f T.g_16.d ["part"] (nL K):=by
 refine T.g_16.F.okA ol λAg A outer s H vs Q E hr h=>?_;obtain@⟨rq,a,n,ks,rfl,hA,k⟩:=h
 refine⟨_,(ad (aj 1 ol.nd (aA aw rfl T.n_5 XE (aa (pcF T.g_2 (eO T) hr (aa (pv 0) ab)) ab)))
  (af (ax (az (aa (cK tI (pv 0) dG (cW (aB pA (aA aw rfl T.n_5 XE (aa (pv 0) ab)) (pv 1)))) (aa (pv 1) ab)))))),?_⟩
 try dsimp only[Av,Ad]
 refine⟨_,D?,a,.knot n ks,D?,hA,λr as H1 s1 er Df=>⟨r,_,D?,.inr (n! er),?_⟩⟩;rw[AtK]at hA;refine hid λZZ kZ=>?_;obtain⟨hn,ka,ea,AZ⟩:=hA;refine kZ ?_;have BI:ka.length=ks.length:=AZ.length;have AN:as.length=ks.length:=Df.length;refine⟨_,D?,_,D?,a,_,D?,.inr ((ea.mono (j! s1)).sq),_,D?,_,_,D?,D?,_,D?,a,_,D?,ea.mono (j! s1),λp H2 s2 e2=>?_⟩
 have e1:((N! n::ka.map i!).length:Int) - ((as.map i!).length:Int)=1:=by
  rw[W0,WM,WM,BI,AN];lia
 have e3:TK K H2 p [.str n]:=by
  have CA:TK K H2 p (jO (N! n::ka.map i!) B? (A? (((N! n::ka.map i!).length:Int) - ((as.map i!).length:Int)))):=e2;rw[e1,um]at CA;exact CA
 refine⟨_,D?,lnE rfl,λl hl=>?_⟩;refine k l _ (s1.trans (s2.trans (ae hl _))) ⟨p,?_,hn,e3.mono (dR hl)⟩;rw[ac,WM,AN]
inductive jL(P:W5)(w:Xq)(K:WO)(vs:List V)(H:Hp)(Q:VK)(_E:XK):Prop
 |mk {rq:Rep} (rs:Rep) (a ta:WQ) (t:Th) (f:Int->Int->Th):vs=[.ref a,.ref ta]->AtK rq K H t a->t.size<=100000->(∀s k,x! s k∈t.walk->∃v,AtK rs K H (f s k) v/\(f s k).size<=100000/\∀(H2:Hp)(ca:WQ)(sv:V),k! H H2->StV rq H2 s sv->H2 ca=A? (.tup [sv,.int k])->zY P w H2 ta (.ref ca) (.ref v))->(∀(r:WQ)(H':Hp),k! H H'->AtK rs K H' (t.fill f) r->Q (.ref r) H')->jL P w K vs H Q _E
theorem gZ:aT P w K mg base CX0 3 T.g_17.f T.g_17.d ["pattern","table"] (jL P w K):=by
 refine T.g_17.F.okA jI λAg A outer s H vs Q E hr h=>?_;obtain@⟨rq,rs,a,ta,t,f,rfl,hA,hsz,F4,k⟩:=h
 refine⟨_,(ad (aj 2 jI.nd (bp ab))
  (ad (bq Xr rfl (bQ (pcF T.g_3 (jR T) hr (aa (pv 0) ab))) (pgN 3 jI.nd) (af (bZ (bz (pcF T.g_9 (eX T) hr (aa (pv 3) ab)) (λ_=>rfl)) (af (aS (bT Xc Xv Xu aQ (pv 2) (aa (az (aa (xc (fU hr) (pv 1) (pcF T.g_12 (f7 T) hr (aa (pv 3) ab)) (λ_ _=>rfl)) (aa ag ab))) ab)))) (af (aS (bT Xc Xv Xu aQ (pv 2) (aa (pcF T.g_16 (jE T) hr (aa (pv 3) ab)) ab)))))))
  (af (ax (pcF T.g_5 (ji T) hr (aa (pv 2) ab)))))),?_⟩
 try dsimp only[Av,Ad]
 refine⟨lnE rfl,λtl Aw=>?_⟩;refine⟨_,D?,a,t,D?,hA.mono (dR Aw),hsz,λwl as H1 s1 KO KP hw=>?_⟩;have Ew:as.length=t.walk.length:=hw.length;have Vh:=K! t;have KQ:k! H H1:=(ae Aw _).trans s1;have O8:wl≠tl:=λz=>by rw[z,ac]at KO;cases KO
 refine⟨wl,D?,⟨_,l! KP⟩,?_⟩
 refine cE (K:=K) (a:=wl) (xs:=as.map i!) (λi Z H2=>Ex2 λc bs=>An6 (Z=[A? (.ref a),A? (.ref ta),A? (.ref tl),c]) (k! H H2) (H2 wl=A? (.lst (as.map i!))) (AtsK rq K H2 t.walk as) (H2 tl=A? (.lst (bs.map i!))) (Xk (TopAtK rs K H2) ((t.walk.take i).map (fe f)) bs))
  ⟨B?,[],rfl,KQ,KP,hw,s1 _ _ ac,.nil⟩ (λi Z H2 _⟨_,_,_,_,e,_,_,_⟩=>l! e) ?_ ?_
 .rintro i x Z H2 hx ⟨c,bs,rfl,s2,ER,Ic,BS,Ah⟩;obtain⟨xa,rfl,Ie⟩:=aG hx;obtain⟨tx,ES,Fv⟩:=Ic.get Ie;have El:tx∈t.walk:=WS ES;have AR:t.walk.take (i+1)=t.walk.take i++[tx]:=by rw[XU,ES];rfl
  have AV:bs.length<=100000:=by
   have:=WZ Ah;rw[WM,XF]at this;lia
  refine⟨_,D?,xa,tx,D?,Fv,_,D?,?_⟩
  have push:∀(H3:Hp)(p:WQ),k! H2 H3->TopAtK rs K H3 (fe f tx) p->Ex2 λc F5=>An6 (([A? (.ref a),A? (.ref ta),A? (.ref tl),A? (.ref xa)]:St)=[A? (.ref a),A? (.ref ta),A? (.ref tl),c]) (k! H (upd H3 tl (.lst (bs.map i!++[.ref p])))) ((upd H3 tl (.lst (bs.map i!++[.ref p]))) wl=A? (.lst (as.map i!))) (AtsK rq K (upd H3 tl (.lst (bs.map i!++[.ref p]))) t.walk as) ((upd H3 tl (.lst (bs.map i!++[.ref p]))) tl=A? (.lst (F5.map i!))) (Xk (TopAtK rs K (upd H3 tl (.lst (bs.map i!++[.ref p])))) ((t.walk.take (i+1)).map (fe f)) F5):=by
   intro H3 p s3 hp;have k3:KT H3 (upd H3 tl (.lst (bs.map i!++[.ref p]))):=aI (s3 _ _ BS);refine⟨_,bs++[p],D?,ao (s2.trans s3) Aw,by rw[ai O8];exact s3 _ _ ER,Ic.mono ((j! s3).trans k3),uAE,?_⟩;rw[AR,Xa];exact r! (dq ((j! s3).trans k3) Ah) (.cons (hp.mono k3) .nil)
  cases tx with
  | call sn kn =>
    refine sg ?_;refine hid λZZ kZ=>?_;obtain⟨v,Vi,_,O9⟩:=F4 sn kn El;refine kZ ?_;refine⟨_,D?,.inl ⟨D?,_,l! BS⟩,_,D?,_,D?,xa,sn,kn,D?,Fv,λcb sv Pa Vj=>?_⟩;have s3:k! H2 (upd H2 cb (.tup [sv,.int kn])):=ae Vj _;refine⟨ta,.ref v,D?,O9 _ cb sv (s2.trans s3) (Pa.mono (j! s3)) ac,lnE rfl,λp hp=>?_⟩;have s4:=s3.trans (ae hp (.tup [.ref v,.int 0]));refine⟨tl,_,_,D?,D?,s4 _ _ BS,lbE (by lia),?_⟩;exact push _ p s4 ⟨v,ac,Vi.mono (j! (s2.trans s4))⟩
  | knot nm us =>
    refine yv ?_;refine⟨_,D?,.inl ⟨D?,_,l! BS⟩,_,D?,xa,nm,us,D?,Fv,λp H3 s3 hp=>?_⟩;refine⟨tl,_,_,D?,D?,s3 _ _ BS,lbE (by lia),?_⟩;exact push _ p s3 hp
 .rintro Z H2 ⟨c,bs,rfl,s2,ER,Ic,BS,Ah⟩;rw[WM,Ew,Yo]at Ah;obtain⟨b1,b2⟩:=tX f t;refine⟨_,D?,tl,bs,_,t.fill f,D?,BS,Ah,by rw[WM];lia,b2,?_,b1,λr H3 s3 Ig=>k r H3 (s2.trans s3) Ig⟩;intro u hu;obtain⟨x,hx,e⟩:=Xx.mp hu;cases x with
  |knot nm us=>cases e
  | call sn kn =>
    cases e;refine hid λZZ kZ=>?_;obtain⟨v,_,hz,_⟩:=F4 sn kn hx;refine kZ ?_;exact hz
theorem xf{ta ca:WQ}{f':List (List Key×V)}{s k:Int}{sv:V}(e:H ta=A? (.dT f'))(hv:aN f' [Xo s,Xo k]=A? v)(s2:k! H H2)(hs:StV .i H2 s sv)(hc:H2 ca=A? (.tup [sv,.int k])):zY P w H2 ta (.ref ca) v:=by
 cases(show sv=.int s from hs);exact .inl (.inr ⟨f',[Xo s,Xo k],ca,.inl (s2 _ _ e),rfl,hc,hv.symm⟩)
inductive jZ(K:WO)(vs:List V)(H:Hp)(Q:VK)(_E:XK):Prop
 |mk (x y:WQ) (l r:Th):vs=[.ref x,.ref y]->AtK .i K H l x->AtK .i K H r y->l.tall<=150->Q (.bl (aE l r)) H->jZ K vs H Q _E
theorem km:aT P w K mg base CX0 3 T.g_20.f T.g_20.d ["one","two"] (jZ K):=by
 refine T.g_20.F.okA qQ λAg A outer s H vs Q E hr h=>?_;obtain⟨x,y,l,r,rfl,hx,hy,Aw,k⟩:=h;refine⟨_,(af (ax (gI (pcF T.g_11 (rJ T) hr (aa (pv 0) ab)) (gI (dB eJ (aC aF (pv 0) ag (λ_ _=>rfl)) (aC aF (pv 1) ag (λ_ _=>rfl)) (aZ _)) (jF (dB eJ (aA aw rfl T.n_5 XE (aa (pv 0) ab)) (aA aw rfl T.n_5 XE (aa (pv 1) ab)) (aZ _))))))),?_⟩
 try dsimp only[Av,Ad]
 rw[qg hx r]at k;refine hid λZZ kZ=>?_;obtain⟨xr,ex,lx⟩:=hx.row;obtain⟨yr,ey,ly⟩:=hy.row;refine kZ ?_;refine⟨_,D?,x,l,D?,hx,Aw,_,D?,?_⟩;refine cy (λc=>?_) (λc=>?_)
 .rw[c]at k;refine⟨_,D?,x,_,0,.str l.name,D?,D?,ex.sq,at0,_,D?,y,_,0,.str r.name,D?,D?,ey.sq,at0,D?,_,D?,?_⟩;refine cy (λc2=>?_) (λc2=>?_)
  .have e2:l.name=r.name:=V.str.inj (e! c2);refine⟨_,D?,x,_,D?,.inr (ex.sq),_,D?,y,_,D?,.inr (ey.sq),D?,?_⟩
   have e3:decide (q! ((N! l.name::xr).length:Nat)=q! ((N! r.name::yr).length:Nat))=decide (l.wid=r.wid):=by
    rw[W0,W0,lx,ly];by_cases e:l.wid=r.wid
    .rw[e];simp
    .rw[c! e,c!];intro z;exact e (by have:=V.int.inj z;lia)
   rw[e3];rw[d! e2]at k;exact k
  .have e2:l.name≠r.name:=λe=>c2 (d! (by rw[e]));rw[c! e2]at k;exact k
 .rw[YA.mpr c]at k;exact k
inductive gu(K:WO)(vs:List V)(H:Hp)(Q:VK)(_E:XK):Prop
 |mk (x y:WQ) (l r:Th):vs=[.ref x,.ref y]->AtK .i K H l x->AtK .i K H r y->l.tall<=150->l.size<=100000->(∀(m:WQ)(as:List WQ)(H':Hp),k! H H'->H m=B?->H' m=A? (.lst (as.map i!))->Xk (PPK K H') (l.sbs r) as->Q (.ref m) H')->gu K vs H Q _E
theorem kF:aT P w K mg base CX0 4 T.g_21.f T.g_21.d ["one","two"] (gu K):=by
 refine T.g_21.F.okA ck λAg A outer s H vs Q E hr h=>?_;obtain⟨x,y,l,r,rfl,hx,hy,Aw,hsz,k⟩:=h
 refine⟨_,(ad (aj 2 ck.nd (bp ab))
  (ad (aj 3 ck.nd (bp (aa (az (aa (pv 0) (aa (pv 1) ab))) ab)))
  (ad (dO Xr (bz (pv 3) (λ_=>rfl)) (ad (fB (jz Xc Zg Zf jt (pv 3)) (bx rfl (am (pgN 4 ck.nd) (am (pgN 5 ck.nd) aU))))
  (ad (aS (bT Xc Xv Xu aQ (pv 2) (aa (az (aa (pv 4) (aa (pv 5) ab))) ab)))
  (af (bZ (bz (pcF T.g_20 (km T) hr (aa (pv 4) (aa (pv 5) ab))) (λ_=>rfl)) (af (aS (bT Xc ZX ZW gS (pv 3) (aa (lI rfl rfl T.n_6 rfl T.n_10 (se rfl rfl T.n_6 rfl T.n_12 (aa (cK fR (pv 4) (cW ag) dG) (aa (cK fR (pv 5) (cW ag) dG) ab)))) ab)))) bB)))))
  (af (ax (pv 2)))))),?_⟩
 try dsimp only[Av,Ad]
 refine⟨by show 0<=Xf;decide,λmt Ca=>?_⟩;refine⟨_,D?,_,D?,by show 2<=Xf;decide,λt0 R6=>⟨by show 1<=Xf;decide,λah BK=>?_⟩⟩;have s0:k! H (upd (upd H mt (.lst [])) t0 (.tup [.ref x,.ref y])):=(ae Ca _).trans (ae R6 _);have e0:(upd (upd H mt (.lst [])) t0 (.tup [.ref x,.ref y])) mt=A? (.lst []):=ae R6 _ _ _ ac;have e1:(upd (upd H mt (.lst [])) t0 (.tup [.ref x,.ref y])) t0=A? (.tup [.ref x,.ref y]):=ac;generalize(upd (upd H mt (.lst [])) t0 (.tup [.ref x,.ref y]))=H1 at s0 e0 e1 BK |-;have Cb:H ah=none:=s0.free BK;have Aq:ah≠mt:=λz=>by rw[z,e0]at BK;cases BK
 refine⟨λm Z H2=>Ex6 λ(ms as:List WQ)(Ms As:List (Th×Th))(p p':Option V)=>xg (Z=[A? (.ref x),A? (.ref y),A? (.ref mt),A? (.ref ah),p,p']) (k! H H2) (H2 mt=A? (.lst (ms.map i!))) (H2 ah=A? (.lst (as.map i!))) (Xk (PPK K H2) Ms ms) (Xk (PPK K H2) As as) (Ms++wks As.reverse=l.sbs r) ((∀p∈As,p.1.tall<=150)) (Ms.length+szL As<=100000) (m=szL As),⟨_,[],[t0],[],[(l,r)],B?,B?,D?,?_,?_,?_,.nil,.cons ⟨x,y,?_,hx.mono ?_,hy.mono ?_⟩ .nil,?_,?_,?_,D?⟩,?_⟩
 .exact ao s0 Cb
 .rw[ai Aq.symm];exact e0
 .rw[ac];rfl
 .rw[ai (av e1 BK)];exact e1
 .exact j! (ao s0 Cb)
 .exact j! (ao s0 Cb)
 .show wks [(l,r)]=_;rw[wks,wks,XA]
 .intro p hp;rw[W9]at hp;subst hp;exact Aw
 .show 0+(l.size+0)<=100000;lia
 rintro m Z H2 ⟨ms,as,Ms,As,p,p',rfl,sm,e1,e2,a1,a2,hw,Cc,hlen,rfl⟩;have M1:Ms.length=ms.length:=WZ a1;refine⟨_,D?,_,.inl ⟨_,l! e2,D?⟩,?_⟩;refine cy (λc=>?_) (λc=>?_)
 .refine⟨λAb H'=>∃m',m'<szL As/\Ex6 λ(ms as:List WQ)(Ms As:List (Th×Th))(p p':Option V)=>xg (Ab=[A? (.ref x),A? (.ref y),A? (.ref mt),A? (.ref ah),p,p']) (k! H H') (H' mt=A? (.lst (ms.map i!))) (H' ah=A? (.lst (as.map i!))) (Xk (PPK K H') Ms ms) (Xk (PPK K H') As as) (Ms++wks As.reverse=l.sbs r) ((∀p∈As,p.1.tall<=150)) (Ms.length+szL As<=100000) (m'=szL As),λAb H' h=>h,?_⟩;have Bg:as≠[]:=by intro z;subst z;simp at c
  refine hid λZZ kZ=>?_;obtain⟨Au,b,rfl⟩:∃Au b,as=Au++[b]:=⟨as.dropLast,as.getLast Bg,(Y1 Bg).symm⟩;obtain⟨Us,u,rfl,a3,u1,u2,a4,a5,a6⟩:=P2.snoc_inv a2;obtain⟨ul,ur⟩:=u;refine kZ ?_;simp only at a5 a6;have hs:szL (Us++[(ul,ur)])=szL Us+ul.size:=by rw[eT,szL,szL];rfl
  have FW:=ul.size_eq;rw[hs]at hlen;have M3:ul.tall<=150:=Cc (ul,ur) (by simp);have R7:∀p∈Us,p.1.tall<=150:=λp hp=>Cc p (by simp[hp]);refine⟨_,D?,.inl ⟨D?,_,l! e2⟩,ah,_,.ref b,D?,D?,e2,by simp,?_⟩;have d1:((Au++[b]).map i!).dropLast=Au.map i!:=by simp
  rw[d1];have k0:KT H2 (upd H2 ah (.lst (Au.map i!))):=aI e2;have f1:(upd H2 ah (.lst (Au.map i!))) mt=A? (.lst (ms.map i!)):=by rw[ai Aq.symm];exact e1
  have f2:(upd H2 ah (.lst (Au.map i!))) ah=A? (.lst (Au.map i!)):=ac;have s3:k! H (upd H2 ah (.lst (Au.map i!))):=ao sm Cb;generalize(upd H2 ah (.lst (Au.map i!)))=H3 at k0 f1 f2 s3 |-;refine⟨b,_,D?,n! (k0 _ _ a4),D?,_,_,D?,_,_,D?,D?,?_⟩;refine⟨_,D?,.inl ⟨D?,_,l! f1⟩,_,D?,_,D?,by show 2<=Xf;decide,λt1 Vk=>?_⟩;refine gU Vk λH4 s4 e4=>?_;refine⟨mt,_,_,D?,D?,s4 _ _ f1,lbE (by lia),?_⟩;have k5:KT H4 (upd H4 mt (.lst (ms.map i!++[.ref t1]))):=aI (s4 _ _ f1);have g1:(upd H4 mt (.lst (ms.map i!++[.ref t1]))) mt=A? (.lst ((ms++[t1]).map i!)):=uAE;have g2:(upd H4 mt (.lst (ms.map i!++[.ref t1]))) ah=A? (.lst (Au.map i!)):=by rw[ai Aq];exact s4 _ _ f2
  have s5:k! H (upd H4 mt (.lst (ms.map i!++[.ref t1]))):=ao (s3.trans s4) Ca;generalize(upd H4 mt (.lst (ms.map i!++[.ref t1])))=H5 at k5 g1 g2 s5 |-;have F6:KT H2 H5:=(k0.trans (j! s4)).trans k5;have aM:Xk (PPK K H5) (Ms++[(ul,ur)]) (ms++[t1]):=r! (eC F6 a1) (.cons ⟨u1,u2,k5 _ _ e4,a5.mono F6,a6.mono F6⟩ .nil);refine⟨_,D?,_,D?,u1,u2,ul,ur,D?,a5.mono F6,a6.mono F6,M3,_,D?,?_⟩
  have KR:Ms++((ul,ur)::((if aE ul ur=C? then wks (ul.kids.zip ur.kids)else[])++wks Us.reverse))=l.sbs r:=by
   rw[<-hw,YD];show _=Ms++wks ((ul,ur)::Us.reverse);rw[wX]
  refine cy (λct=>?_) (λct=>?_)
  .refine hid λZZ kZ=>?_;obtain⟨n,ks,us,rfl,rfl,hku,M4⟩:=bG ct;have R8:=a5.mono F6;have R9:=a6.mono F6;rw[AtK]at R8 R9;obtain⟨Ft,ka,ek,AZ⟩:=R8;obtain⟨JQ,ua,eu,Dw⟩:=R9;refine kZ ?_;rw[b! ct]at KR;have hz:=jg ks us;refine⟨_,D?,.inl ⟨D?,_,l! g2⟩,_,D?,1,D?,u1,_,D?,ek.sq,?_,λc1 Sa=>?_⟩
   .intro z;have:=z.1;simp[I!]at this
   rw[dP];refine gU Sa λH6 s6 e6=>?_;refine⟨_,D?,1,D?,u2,_,D?,(eu.mono (j! s6)).sq,?_,λc2 B5=>?_⟩
   .intro z;have:=z.1;simp[I!]at this
   rw[dP];refine gU B5 λH7 s7 e7=>?_;refine⟨c1,c2,_,_,D?,n! (s7 _ _ e6),n! e7,λzl zs H8 s8 nzl Vm Ki=>?_⟩;have DN:k! H5 H8:=s6.trans (s7.trans s8);have Sb:Xk (PPK K H8) (ks.zip us) zs:=qT (AZ.mono (j! DN)) (Dw.mono (j! DN)) Ki;have RX:(ks.zip us).length=zs.length:=WZ Sb;have hzk:(ks.zip us).length<=szL (ks.zip us):=oO _;refine⟨C?,zl,_,D?,SqB.l (l! Vm),λrl C3=>?_⟩;have s9:k! H8 (upd H8 rl (.lst (zs.map i!).reverse)):=ae C3 _;have e9:(upd H8 rl (.lst (zs.map i!).reverse)) rl=A? (.lst (zs.map i!).reverse):=ac;have nrl:H5 rl=none:=DN.free C3;generalize(upd H8 rl (.lst (zs.map i!).reverse))=H9 at s9 e9 |-;have Em:=DN.trans s9;have Sd:Us.length=Au.length:=WZ a3;have Se:=oO Us;refine⟨ah,rl,_,_,D?,D?,Em _ _ g2,e9,ZS (bE ?_),?_⟩
   .rw[WM,Yt,WM];simp only[L!]at FW;lia
   have Sf:KT H9 (upd H9 ah (.lst (Au.map i!++(zs.map i!).reverse))):=aI (Em _ _ g2);have Sg:KT H5 (upd H9 ah (.lst (Au.map i!++(zs.map i!).reverse))):=(j! Em).trans Sf;simp only[L!]at FW KR;refine⟨szL (Us++(ks.zip us).reverse),?_,ms++[t1],Au++zs.reverse,Ms++[(.knot n ks,.knot n us)],Us++(ks.zip us).reverse,_,_,D?,?_,?_,?_,eC Sg aM,?_,?_,?_,?_,D?⟩
   .rw[eT,sU,hs];lia
   .exact ao (s5.trans Em) Cb
   .rw[ai Aq.symm];exact Em _ _ g1
   .rw[ac,Xa,List.map_reverse]
   .exact r! (eC (F6.trans Sg) a3) (P2.reverse (eC ((j! s9).trans Sf) Sb))
   .rw[YD,Y4,lW,<-KR,XO];rfl
   .intro p hp;rcases Xz.mp hp with hp|hp
    .exact R7 p hp
    .have BC:=(List.of_mem_zip (List.mem_reverse.mp hp)).1;have:=bL BC;rw[t!]at M3;lia
   .rw[eT,sU,Xd];show Ms.length+1+_<=_;lia
  .rw[a! ct]at KR;refine⟨szL Us,?_,ms++[t1],Au,Ms++[(ul,ur)],Us,_,_,D?,s5,g1,g2,aM,eC F6 a3,?_,R7,?_,D?⟩
   .rw[hs];lia
   .rw[<-KR,XO];rfl
   .rw[Xd];show Ms.length+1+_<=_;lia
 .have hz:as=[]:=by
   cases as with
   |nil=>rfl
   |cons y ys=>simp at c
  subst hz;have B3:As=[]:=Yk.mp (WZ a2);subst B3;refine⟨_,D?,k mt ms H2 sm Ca e1 ?_⟩
  have Fn:Ms=l.sbs r:=by
   rw[<-hw,List.reverse_nil,wks,XA]
  rw[<-Fn];exact a1
inductive nY(K:WO)(vs:List V)(H:Hp)(Q:VK)(_E:XK):Prop
 |mk (x y:WQ) (l r:Th):vs=[.ref x,.ref y]->AtK .i K H l x->AtK .i K H r y->l.tall<=150->l.size<=100000->(∀(m:WQ)(H':Hp),k! H H'->AtK .i K H' (l.com r) m->Q (.ref m) H')->nY K vs H Q _E
theorem uR:aT P w K mg base CX0 5 T.g_22.f T.g_22.d ["one","two"] (nY K):=by
 refine T.g_22.F.okA gW λAg A outer s H vs Q E hr h=>?_;obtain⟨x,y,l,r,rfl,hx,hy,Aw,hsz,k⟩:=h
 refine⟨_,(ad (aj 2 gW.nd (bp ab))
  (ad (bq Xr rfl (bQ (pcF T.g_21 (kF T) hr (aa (pv 0) (aa (pv 1) ab)))) (bx rfl (am (pgN 3 gW.nd) (am (pgN 4 gW.nd) aU))) (af (bZ (bz (pcF T.g_20 (km T) hr (aa (pv 3) (aa (pv 4) ab))) (λ_=>rfl)) (af (aS (bT Xc Xv Xu aQ (pv 2) (aa (pcF T.g_16 (jE T) hr (aa (pv 3) ab)) ab)))) (af (aS (bT Xc Xv Xu aQ (pv 2) (aa (az (aa (cH (v:=.ref T.k_HOLE.a) rfl T.k_HOLE.c rfl) (aa ag ab))) ab)))))))
  (af (ax (pcF T.g_5 (ji T) hr (aa (pv 2) ab)))))),?_⟩
 try dsimp only[Av,Ad]
 refine⟨lnE rfl,λtl BU=>?_⟩;refine⟨_,D?,_,D?,x,y,l,r,D?,hx.mono (dR BU),hy.mono (dR BU),Aw,hsz,λm as H1 s1 nm em hp=>⟨m,D?,⟨_,l! em⟩,?_⟩⟩;have AU:(l.sbs r).length=as.length:=WZ hp;have Pb:=yD l r;have KQ:k! H H1:=(ae BU _).trans s1;have Ca:m≠tl:=λz=>by rw[z,ac]at nm;cases nm
 refine cE (K:=K) (a:=m) (xs:=as.map i!) (λi Z H2=>Ex3 λc c' bs=>An6 (Z=[A? (.ref x),A? (.ref y),A? (.ref tl),c,c']) (k! H H2) (H2 m=A? (.lst (as.map i!))) (Xk (PPK K H2) (l.sbs r) as) (H2 tl=A? (.lst (bs.map i!))) (Xk (TopAtK .i K H2) (((l.sbs r).take i).map topC) bs)) ⟨B?,B?,[],rfl,KQ,em,hp,s1 _ _ ac,.nil⟩ (λi Z H2 _⟨_,_,_,_,_,e,_,_,_⟩=>l! e) ?_ ?_
 .rintro i v Z H2 hv ⟨c,c',bs,rfl,s2,DL,AW,BS,Ah⟩;refine hid λZZ kZ=>?_;obtain⟨b,rfl,hb⟩:=aG hv;obtain⟨⟨ul,ur⟩,hu,u1,u2,e1,e2,e3⟩:=y! AW hb;refine kZ ?_;simp only at e2 e3;have hm:=uq (WS hu);simp only at hm;have AR:((l.sbs r).take (i+1)).map topC=((l.sbs r).take i).map topC++[topC (ul,ur)]:=by rw[XU,hu,Xa];rfl
  have AV:bs.length<=100000:=by
   have:=WZ Ah;rw[WM,XF]at this;lia
  refine⟨b,_,D?,n! e1,D?,_,_,D?,_,_,D?,D?,?_⟩
  have push:∀(H3:Hp)(p:WQ),k! H2 H3->TopAtK .i K H3 (topC (ul,ur)) p->Ex3 λc c' F5=>An6 (([A? (.ref x),A? (.ref y),A? (.ref tl),A? (.ref u1),A? (.ref u2)]:St)=[A? (.ref x),A? (.ref y),A? (.ref tl),c,c']) (k! H (upd H3 tl (.lst (bs.map i!++[.ref p])))) ((upd H3 tl (.lst (bs.map i!++[.ref p]))) m=A? (.lst (as.map i!))) (Xk (PPK K (upd H3 tl (.lst (bs.map i!++[.ref p])))) (l.sbs r) as) ((upd H3 tl (.lst (bs.map i!++[.ref p]))) tl=A? (.lst (F5.map i!))) (Xk (TopAtK .i K (upd H3 tl (.lst (bs.map i!++[.ref p])))) (((l.sbs r).take (i+1)).map topC) F5):=by
   intro H3 p s3 Ih;have k3:KT H3 (upd H3 tl (.lst (bs.map i!++[.ref p]))):=aI (s3 _ _ BS);refine⟨_,_,bs++[p],D?,ao (s2.trans s3) BU,by rw[ai Ca];exact s3 _ _ DL,eC ((j! s3).trans k3) AW,uAE,?_⟩;rw[AR];exact r! (dq ((j! s3).trans k3) Ah) (.cons (Ih.mono k3) .nil)
  refine⟨_,D?,_,D?,u1,u2,ul,ur,D?,e2,e3,by lia,_,D?,?_⟩;refine cy (λct=>?_) (λct=>?_)
  .have ht:topC (ul,ur)=.nm ul.name ul.kids.length:=by unfold topC;rw[b! ct]
   obtain⟨n,ks,us,rfl,rfl,_,_⟩:=bG ct;refine⟨_,D?,.inl ⟨D?,_,l! BS⟩,_,D?,u1,n,ks,D?,e2,λp H3 s3 Ih=>?_⟩;refine⟨tl,_,_,D?,D?,s3 _ _ BS,lbE (by lia),?_⟩;exact push _ p s3 (by rw[ht];exact Ih)
  .have ht:topC (ul,ur)=.th hole:=by unfold topC;rw[a! ct]
   refine⟨_,D?,.inl ⟨D?,_,l! BS⟩,lnE rfl,λp Vn=>?_⟩;have s3:k! H2 (upd H2 p (.tup [.ref T.k_HOLE.a,.int 0])):=ae Vn _;refine⟨tl,_,_,D?,D?,s3 _ _ BS,lbE (by lia),?_⟩;exact push _ p s3 (by rw[ht];exact⟨T.k_HOLE.a,ac,wQ (TK.const T.k_HOLE.q)⟩)
 .rintro Z H2 ⟨c,c',bs,rfl,s2,DL,AW,BS,Ah⟩;rw[WM,<-AU,Yo]at Ah;obtain⟨b1,b2⟩:=zW l r;refine⟨_,D?,tl,bs,_,l.com r,D?,BS,Ah,by rw[WM];lia,b2,?_,b1,λrr H3 s3 Ig=>k rr H3 (s2.trans s3) Ig⟩;intro u hu;obtain⟨p,BC,e⟩:=Xx.mp hu;unfold topC at e;split at e
  .cases e
  .cases e;rw[eG];lia
inductive nV(vs:List V)(H:Hp)(Q:VK)(_E:XK):Prop
 |mk (b:WQ) (v1 v2 v3 v4:V):vs=[.ref b]->H b=A? (.tup [v1,v2,v3,v4])->Q v1 H->nV  vs H Q _E
inductive kb(vs:List V)(H:Hp)(Q:VK)(_E:XK):Prop
 |mk (b:WQ) (v1 v2 v3 v4:V):vs=[.ref b]->H b=A? (.tup [v1,v2,v3,v4])->Q v4 H->kb  vs H Q _E
theorem eB:aT P w K mg base CX0 1 T.g_26.f T.g_26.d ["book"] nV:=by
 refine T.g_26.F.okA uT λAg A outer s H vs Q E hr h=>?_;obtain⟨b,v1,v2,v3,v4,rfl,e,q⟩:=h;refine⟨_,(af (ax (aC aF (pv 0) ag (λ_ _=>rfl)))),?_⟩
 try dsimp only[Av,Ad]
 exact⟨_,D?,b,_,0,v1,D?,D?,n! e,at0,q⟩
theorem dH:aT P w K mg base CX0 1 T.g_29.f T.g_29.d ["book"] kb:=by
 refine T.g_29.F.okA qW λAg A outer s H vs Q E hr h=>?_;obtain⟨b,v1,v2,v3,v4,rfl,e,q⟩:=h;refine⟨_,(af (ax (aC aF (pv 0) ag (λ_ _=>rfl)))),?_⟩
 try dsimp only[Av,Ad]
 exact⟨_,D?,b,_,3,v4,D?,D?,n! e,cP (j:=3) rfl,q⟩
inductive iO(vs:List V)(H:Hp)(Q:VK)(_E:XK):Prop
 |mk (b:WQ) (v1 v2 v3:V) (ra:WQ) (xs:List V):vs=[.ref b]->H b=A? (.tup [v1,v2,v3,.ref ra])->H ra=A? (.tup xs)->Q (.int xs.length) H->iO  vs H Q _E
theorem pk:aT P w K mg base CX0 2 T.g_30.f T.g_30.d ["book"] iO:=by
 refine T.g_30.F.okA oy λAg A outer s H vs Q E hr h=>?_;obtain⟨b,v1,v2,v3,ra,xs,rfl,e,e2,q⟩:=h;refine⟨_,(af (ax (aA aw rfl T.n_5 XE (aa (pcF T.g_29 (dH T) hr (aa (pv 0) ab)) ab)))),?_⟩
 try dsimp only[Av,Ad]
 exact⟨_,D?,b,_,_,_,_,D?,e,ra,_,D?,.inr (n! e2),q⟩
inductive fq(vs:List V)(H:Hp)(Q:VK)(_E:XK):Prop
 |mk (ia:WQ) (Ak:List WQ) (ins:List (Xp×Int)):vs=[.ref ia]->H ia=A? (.tup (Ak.map i!))->KsAt H ins Ak->db ins->(∀(r:WQ)(H':Hp),k! H H'->At H' (eU ins) r->Q (.ref r) H')->fq  vs H Q _E
theorem fy:aT P w K mg base CX0 1 T.g_31.f T.g_31.d ["ins"] fq:=by
 refine T.g_31.F.okA mR λAg A outer s H vs Q E hr h=>?_;obtain⟨ia,Ak,ins,rfl,ei,Fw,g,q⟩:=h;refine⟨_,(af (ax (aC bj (bH (N:=["name","many"]) (js:=[B?,B?]) (g:=(mQ K 2 (dg (ak 0) (dg (ak 1) mM)))) (tt:=(m3 (tOp (rEq) (aR 1) (tC (.int 0))))) (te:=(iz (aD (aR 0) bY))) rfl (bU rfl (by decide +kernel) (by decide +kernel) rfl rfl rfl) (di (pv 0)) (λ_ _ _ _ _ _=>(bx rfl (am (pgN 0 x8) (am (pgN 1 x8) aU)))) (gG (bW bc (aH rfl) (bW bc (aH rfl) gD))) (λ_ _ _ _ _ _=>gR (bh eJ (pv 1) ag (aZ _))) (λ_ _ _ _ _ _=>(az (aa (pv 0) ab)))) ag (λ_ _=>rfl)))),?_⟩
 try dsimp only[Av,Ad]
 have CU:ins.length=Ak.length:=WZ Fw;have Pd:=g.le;refine⟨_,D?,ia,D?,⟨_,n! ei⟩,xn (F:=λH(k:Xp×Int)a=>At H (.knot k.1 []) a) (xs:=Ak.map i!) ins (λk=>decide (k.2=0)) (λH1 H2 z p kt h=>h.mono kt) (by rw[WM];exact CU) (by rw[WM];lia) (λi Hx sx hi=>⟨_,_,n! (sx _ _ ei),WR hi⟩) (λHx sx=>⟨_,n! (sx _ _ ei),WV _⟩) (λi Hx x Hy sx hi hy=>⟨hy.1,hy.2 _ (n! (sx _ _ ei))⟩) (λi x z Hx R W' hx AG sx hR hW=>?_) (λD H1 as hD s1 eD Bh=>?_)⟩
 .obtain⟨ka,rfl,AZ⟩:=aG hx;obtain⟨z',B7,ez⟩:=y! Fw AZ;rw[AG]at B7;cases B7;have Pe:Hx ka=A? (.tup [.str z.1,.int z.2]):=sx _ _ ez;refine⟨ka,_,D?,n! Pe,D?,_,_,D?,_,_,D?,D?,_,D?,D?,_,D?,?_⟩;have hm:=WS AG;by_cases hc:z.2=0
  .rw[b! (d! (by rw[hc]))];refine⟨_,D?,lnE rfl,λp hp=>hR (d! hc) _ p (ae hp _) ?_⟩;rw[At];exact⟨qH (g.low z hm).1,[],ac,.nil⟩
  .rw[a! (λz2=>hc (V.int.inj (e! z2)))];exact hW (c! hc) _ (.refl _)
 .refine hid λZZ kZ=>?_;obtain⟨k0,CF,Kd⟩:=sH g;obtain⟨r,Pf,hA⟩:=B! Bh (i:=0) CF;refine kZ ?_;exact⟨D,_,0,.ref r,D?,D?,l! eD,at_nonneg (Int.le_refl _) (by rw[WY];show Option.map i! as[0]?=_;rw[Pf];rfl),q r H1 s1 (by rw[jr CF];exact hA)⟩
def yN(H:Hp)(ins:List (Xp×Int))(f':List (Key×V))(us:List Th):Prop:=∀(i:Nat)(u:Th),us[i]?=A? u->(∃a,aN f' (Xo (i:Int))=A? (.ref a)/\At H u a)\/(aN f' (Xo (i:Int))=B?/\u=eU ins)
inductive ii(vs:List V)(H:Hp)(Q:VK)(_E:XK):Prop
 |mk (ia ka da:WQ) (Ak:List WQ) (ins:List (Xp×Int)) (kd:Xp×Int) (f':List (Key×V)) (us:List Th):vs=[.ref ia,.ref ka,.ref da]->H ia=A? (.tup (Ak.map i!))->KsAt H ins Ak->db ins->KAt H kd ka->kd∈ins->H da=A? (.dK f')->us.length=kd.2.toNat->yN H ins f' us->(∀(r:WQ)(H':Hp),k! H H'->At H' (.knot kd.1 us) r->Q (.ref r) H')->ii  vs H Q _E
theorem fo:aT P w K mg base CX0 2 T.g_32.f T.g_32.d ["ins","kind","kids"] ii:=by
 refine T.g_32.F.okA fD λAg A outer s H vs Q E hr h=>?_;obtain⟨ia,ka,da,Ak,ins,kd,f',us,rfl,ei,Fw,g,ek,hm,ed,M5,Fj,q⟩:=h
 refine⟨_,(ad (fB (pv 1) (bx rfl (am (pgN 3 fD.nd) (am (pgN 4 fD.nd) aU))))
  (af (ax (aB cY (az (aa (pv 3) ab)) (bd aP rfl T.n_11 XX (aa (bH (N:=["kid","kids","ins"]) (js:=[B?,A? 2,A? 0]) (g:=(ak 0)) (tt:=bi) (te:=(vX (aR 1) (aR 0) (cx fq [] E0 (aD (aR 2) bY)))) rfl (bU rfl (by decide +kernel) (by decide +kernel) rfl rfl rfl) (bu rfl T.n_9 (aa (pv 4) ab)) (λ_ _ _ _ _ _=>(pgN 0 abF)) (aH rfl) (λ_ _ _ _ _ _=>bt) (λ_ _ _ _ _ _=>(vn (gr hr) (pv 1) (pv 0) (pcF T.g_31 (fy T) hr (aa (pv 2) ab)) ⟨D?,D?,D?,D?⟩))) ab)))))),?_⟩
 try dsimp only[Av,Ad]
 have Cs:=g.num kd hm;have Vo:H ka=A? (.tup [.str kd.1,.int kd.2]):=ek;refine⟨_,D?,ka,_,D?,n! Vo,D?,_,_,D?,_,_,D?,D?,?_⟩;refine⟨_,D?,lnE rfl,λp1 CB=>?_⟩;dsimp only;refine gU CB λH1 s1 e1=>?_;have hlen:us.length=((XD kd.2.toNat).map λi=>q! (i:Nat)).length:=by rw[M5,WM,Xi]
 refine⟨_,D?,kd.2,D?,by lia,by lia,cJ (F:=At) (xs:=(XD kd.2.toNat).map λi=>q! (i:Nat)) us (λH1 H2 z p kt h=>h.mono kt) hlen (by rw[WM,Xi];lia) (λi Hx sx hi=>by rw[WM,Xi]at hi;exact hi) (λHx sx=>by rw[WM,Xi];exact WV _) (λi Hx x Hy sx hi hy=>⟨hy.1,?_⟩) (λi y z Hx R W' hy AG sx hR=>?_) (λD H2 as hD s2 eD Bh=>?_)⟩
 .rw[WM,Xi]at hi;rw[WY,XJ hi,hy.2];show A? (q! ((i:Nat):Int))=A? (q! (0+((i:Nat):Int)));rw[X6]
 .have hi:i<kd.2.toNat:=by have:=(glE AG);rwa [M5]at this
  rw[WY,XJ hi]at hy;cases hy;have M6:=s1.trans sx;have Sh:Hx da=A? (.dK f'):=M6 _ _ ed;refine⟨_,D?,da,D?,.inl ⟨f',.inl Sh⟩,_,D?,_,D?,ia,Ak,ins,D?,M6 _ _ ei,Fw.mono (j! M6),g,λr H3 s3 Ig=>?_⟩;refine⟨_,DGet.k (k:=Xo ((i:Nat):Int)) (s3 _ _ Sh),?_⟩;rcases Fj i z AG with⟨a,hv,ha⟩|⟨hv,rfl⟩
  .rw[hv];exact hR H3 a s3 (ha.mono (j! (M6.trans s3)))
  .rw[hv];exact hR H3 r s3 Ig
 have AN:=WZ Bh;refine⟨D,_,D?,.inl ⟨l! eD,λtp Bn=>?_⟩⟩;refine gU Bn λH3 s3 e3=>?_;refine mH ((s2.trans s3) _ _ e1) e3 (by rw[WM];show 1+as.length<=1000000;lia) λp H4 s4 e4=>?_;refine q p H4 (s1.trans (s2.trans (s3.trans s4))) ?_;rw[At];exact⟨qH (g.low kd hm).1,as,e4,(lJ Bh).mono (j! (s3.trans s4))⟩
theorem xj{k:Nat}(hr:L2.Room k A):A.units+148+4<YK:=by
 have:=eY hr;lia
inductive fL(vs:List V)(H:Hp)(Q:VK)(_E:XK):Prop
 |mk (b:WQ) (ins outs:List (Xp×Int)) (head:Th) (rows:List (List Th)):vs=[.ref b]->Bk H ins outs head rows b->db ins->rows.length<=100->(∀row∈rows,row.length=ins.length)->(∀(r:WQ)(f':List (List Key×V))(H':Hp),k! H H'->H r=B?->H' r=A? (.dT f')->MkAt H' ins rows f'->Q (.ref r) H')->fL  vs H Q _E
def aaM(H:Hp)(ins:List (Xp×Int))(rows:List (List Th))(f':List (List Key×V))(i j:Nat):Prop :=
 ∀(s k:Nat)(row:List Th)(p:Th),k<3->(s<i\/(s=i/\k<j))->rows[s]?=A? row->row[dj ins]?=A? p->∃a,aN f' [Xo (s:Int),Xo (k:Int)]=A? (.ref a)/\At H p a
theorem ju:aT P w K mg base CX0 2 T.g_33.f T.g_33.d ["book"] fL:=by
 refine T.g_33.F.okA bA λAg A outer s H vs Q E hr h=>?_;obtain⟨b,ins,outs,head,rows,rfl,hB,g,C3,C4,q⟩:=h;refine hid λZZ kZ=>?_;obtain⟨ia,oa,ha,ra,Ak,Az,AM,hB⟩:=hB;refine kZ ?_
 refine⟨_,(ad (du (i:=1) (N:=["name","many"]) (js:=[B?,B?]) (g:=(mQ K 2 (dg (ak 0) (dg (ak 1) mM)))) (tt:=bi) (te:=(iz (aD (aR 0) bY))) bA.nd rfl (Or.inl rfl) rfl (bU rfl (by decide +kernel) (by decide +kernel) rfl rfl rfl) (di (pcF T.g_26 (eB T) hr (aa (pv 0) ab))) (λ_ _ _ _ _ _=>(bx rfl (am (pgN 0 x8) (am (pgN 1 x8) aU)))) (gG (bW bc (aH rfl) (bW bc (aH rfl) gD))) (λ_ _ _ _ _ _=>bt) (λ_ _ _ _ _ _=>(az (aa (pv 0) ab))))
  (ad (aj 2 bA.nd (bT Xc PySem.F.slot_list_index PySem.F.type_list_index (u6 (B:=148) (xj hr)) (pv 1) (aa (pcF T.g_31 (fy T) hr (aa (pcF T.g_26 (eB T) hr (aa (pv 0) ab)) ab)) ab)))
  (ad (aj 3 bA.nd gJ)
  (ad (bq Xr rfl (pf rfl T.n_2 (pcF T.g_29 (dH T) hr (aa (pv 0) ab))) (bx rfl (am (pgN 4 bA.nd) (am (pgN 5 bA.nd) aU))) (af (bq Xr rfl (bu rfl T.n_9 (aa (cH (v:=.int (3)) rfl T.c_MOST_KIDS.choose_spec ⟨_,D?⟩) ab)) (pgN 6 bA.nd) (af (kU (gr hr) (pv 3) (az (aa (pv 4) (aa (pv 6) ab))) (aC aF (pv 5) (pv 2) (λ_ _=>rfl)) rfl)))))
  (af (ax (pv 3))))))),?_⟩
 try dsimp only[Av,Ad]
 have CU:ins.length=Ak.length:=WZ hB.inK;have Ii:rows.length=AM.length:=WZ hB.rw;have Pd:=g.le;refine⟨_,D?,b,_,_,_,_,D?,hB.bk,ia,D?,⟨_,n! hB.inE⟩,cJ (F:=λH(k:Xp×Int)a=>At H (.knot k.1 []) a) (xs:=Ak.map i!) ins (λH1 H2 z p kt h=>h.mono kt) (by rw[WM];exact CU) (by rw[WM];lia) (λi Hx sx hi=>⟨_,_,n! (sx _ _ hB.inE),WR hi⟩) (λHx sx=>⟨_,n! (sx _ _ hB.inE),WV _⟩) (λi Hx x Hy sx hi hy=>⟨hy.1,hy.2 _ (n! (sx _ _ hB.inE))⟩) (λi x z Hx R W' hx AG sx hR=>?_) (λD H1 as hD s1 eD Bh=>?_)⟩
 .obtain⟨ka,rfl,AZ⟩:=aG hx;obtain⟨z',B7,ez⟩:=y! hB.inK AZ;rw[AG]at B7;cases B7;have Pe:Hx ka=A? (.tup [.str z.1,.int z.2]):=sx _ _ ez;refine⟨ka,_,D?,n! Pe,D?,_,_,D?,_,_,D?,D?,?_⟩;refine⟨_,D?,lnE rfl,λp hp=>hR _ p (ae hp _) ?_⟩;rw[At];exact⟨qH (g.low z (WS AG)).1,[],ac,.nil⟩
 obtain⟨k0,CF,Kd⟩:=sH g;have hI:=jP CF;refine⟨_,D?,.inl ⟨D?,_,l! eD⟩,_,D?,b,_,_,_,_,D?,s1 _ _ hB.bk,ia,Ak,ins,D?,s1 _ _ hB.inE,hB.inK.mono (j! s1),g,λst H2 s2 AX=>?_⟩;have Ce:=s1.trans s2;have BV:Ats H2 (ins.map λk=>o! k.1 []) as:=(pO Bh).mono (j! s2);refine⟨D,.ref st,_,(eU ins).dv,dvs (ins.map λk=>o! k.1 []),dj ins,D?,D?,l! (s2 _ _ eD),AX.dv,BV.dvs,?_,?_,λi hi hz=>?_,?_,?_⟩
 .have h1:=iN (ins.map λk=>o! k.1 [])
  have h2:aJ (ins.map λk=>o! k.1 [])<=1:=ny λu hu=>by
   obtain⟨k,_,rfl⟩:=Xx.mp hu;rw[t!,aJ];exact WV _
  lia
 .rw[r9,WY,hI,jr CF];rfl
 .rw[r9,WY]at hz;cases M7:ins[i]? with
  |none=>rw[M7]at hz;cases hz
  | some k =>
    rw[M7,jr CF]at hz;have Si:(o! k.1 []).dv=(o! k0.1 []).dv:=Xn hz;rw[Th.dv,Th.dv]at Si;have Vp:=Dv.tup.inj Si;injection Vp with Vq _;injection Vq with Vr;have:=g.nd i (dj ins) k k0 M7 hI Vr;lia
 .rw[uo,WM];lia
 intro td Ij;dsimp only[ak];have s3:k! H2 (upd H2 td (.dT [])):=ae Ij _;have e3:(upd H2 td (.dT [])) td=A? (.dT []):=ac;have KS:H td=none:=Ce.free Ij;generalize(upd H2 td (.dT []))=H3 at s3 e3 |-;have Dx:=Ce.trans s3;refine⟨_,D?,b,_,_,_,_,D?,Dx _ _ hB.bk,ra,D?,⟨_,n! (Dx _ _ hB.rl)⟩,?_⟩
 refine wD (K:=K) (a:=ra) (xs:=AM.map i!) (λi Z H4=>Ex4 λ(c4 c5 c6:Option V)(tk:List (List Key×V))=>An5 (Z=[A? (.ref b),A? (.ref D),A? (.int (dj ins:Nat)),A? (.ref td),c4,c5,c6]) (k! H H4) (H4 td=A? (.dT tk)) (tk.length<=3 * i) (aaM H4 ins rows tk i 0))
  ⟨B?,B?,B?,[],rfl,Dx,e3,Xg _,λs k row p _ h=>by rcases h with h|⟨_,h⟩ <;> cases h⟩ (λi Z H4 _⟨_,_,_,_,_,s4,_,_,_⟩=>n! (s4 _ _ hB.rl)) ?_ ?_
 .rintro i x pr Z H4 hx Bc ⟨c4,c5,c6,tk,rfl,s4,Ik,hlen,Aa⟩;refine hid λZZ kZ=>?_;obtain⟨rwa,rfl,Pg⟩:=aG hx;obtain⟨row,Af,KU,Il,GX⟩:=y! hB.rw Pg;refine kZ ?_;have Vs:i<100:=by have:=(glE Af);lia
  have Vt:=C4 row (WS Af);have F7:=GX.length;have Vc:=(glE hI);refine gU Bc λH5 s5 e5=>?_;have Jv:=s4.trans s5;refine⟨pr,_,D?,n! e5,D?,_,_,D?,_,_,D?,D?,?_⟩;dsimp only[ak];refine⟨3,D?,by decide,by decide,?_⟩
  refine cw (n:=3) (λj Z H6=>Ex2 λ(c6:Option V)(tk:List (List Key×V))=>An5 (Z=[A? (.ref b),A? (.ref D),A? (.int (dj ins:Nat)),A? (.ref td),A? (.int ((i:Nat):Int)),A? (.ref rwa),c6]) (k! H H6) (H6 td=A? (.dT tk)) (tk.length<=3 * i+j) (aaM H6 ins rows tk i j))
   ⟨_,tk,rfl,Jv,s5 _ _ Ik,hlen,λs k row p hk h h1 h2=>by
    obtain⟨a,a1,a2⟩:=Aa s k row p hk h h1 h2;exact⟨a,a1,a2.mono (j! s5)⟩⟩ ?_ ?_
  .rintro j Z H6 hj ⟨c6,tk,rfl,s6,KW,hlen,Aa⟩;refine hid λZZ kZ=>?_;obtain⟨pa,CD⟩:∃a,KU[dj ins]?=A? a:=⟨_,WR (by lia)⟩;obtain⟨p0,FY,ET⟩:=GX.get CD;refine kZ ?_;refine⟨_,D?,_,D?,rwa,_,_,.ref pa,D?,D?,n! (s6 _ _ Il),cP (gmE CD),_,D?,_,D?,_,D?,lnE rfl,λkp Ct=>?_⟩;refine gU Ct λH7 s7 e7=>?_;have e7:H7 kp=A? (.tup ([Xo ((i:Nat):Int),Xo (0+((j:Nat):Int))].map kV)):=e7;have Sj:=s7 _ _ KW;refine⟨td,_,D?,DPut.t Sj e7 (bE (by lia)),?_⟩
   have Fx:KT H7 (upd H7 td (.dT (putK tk [Xo ((i:Nat):Int),Xo (0+((j:Nat):Int))] (.ref pa)))):=λc ys ec=>by
    rw[ai (cp ec Sj (λz=>nomatch z))];exact ec
   refine⟨_,_,D?,ao (s6.trans s7) KS,ac,?_,λs k BE p' hk h h1 h2=>?_⟩
   .have:=bw tk [Xo ((i:Nat):Int),Xo (0+((j:Nat):Int))] (i! pa);lia
   .rw[dM];by_cases AO:([Xo ((s:Nat):Int),Xo ((k:Nat):Int)]:List Key)=[Xo ((i:Nat):Int),Xo (0+((j:Nat):Int))]
    .rw[b! AO];injection AO with e1 e2;have CT:((s:Nat):Int)=(i:Nat):=YL e1;have:s=i:=by lia
     subst this;rw[Af]at h1;cases h1;rw[FY]at h2;cases h2;exact⟨pa,D?,ET.mono ((j! (s6.trans s7)).trans Fx)⟩
    .rw[a! AO]
     have M8:s<i\/(s=i/\k<j):=by
      rcases h with h|⟨rfl,h⟩
      .exact .inl h
      .refine .inr ⟨rfl,?_⟩;by_cases Vu:k=j
       .exact g! (by rw[Vu,X6]) AO
       .lia
     obtain⟨a,a1,a2⟩:=Aa s k BE p' hk M8 h1 h2;exact⟨a,a1,a2.mono ((j! s7).trans Fx)⟩
  .rintro Z H6 ⟨c6,tk,rfl,s6,KW,hlen,Aa⟩;exact⟨_,_,_,tk,D?,s6,KW,by lia,λs k row p hk h h1 h2=>Aa s k row p hk (by rcases h with h|⟨_,h⟩;(· by_cases hs:s=i;exact .inr ⟨hs,hk⟩;exact .inl (by lia));exact g! h (Zc _)) h1 h2⟩
 .rintro Z H4 ⟨c4,c5,c6,tk,rfl,s4,Ik,hlen,Aa⟩;refine⟨_,D?,q td tk H4 s4 KS Ik λs k row p hk h1 h2=>Aa s k row p hk (.inl ?_) h1 h2⟩;rw[WM,<-Ii];exact(glE h1)
abbrev FrB:=@FrK
inductive eW(P:W5)(w:Xq)(K:WO)(vs:List V)(H:Hp)(Q:VK)(_E:XK):Prop
 |mk (b md pt:WQ) (s:Nat) (ins outs:List (Xp×Int)) (head:Th) (rows:List (List Th)) (row:List Th) (Dy:List (List Key×V)) (f':List (ay×V)) (Al:List ay) (Vl:VlT):vs=[.ref b,.int (s:Nat),.ref md,.ref pt]->Bk H ins outs head rows b->FrK ins outs rows->rows[s]?=A? row->H md=A? (.dT Dy)->MkAt H ins rows Dy->Pt P w Vl H pt f' Al->Al.length<=1000000->(∀x∈(mkF ins rows (s:Nat)).pl [],nk (s:Nat) x.1∈Al)->(∀x∈(mkF ins rows (s:Nat)).pl [],x.2.isHole=Cf)->(∀(i:Nat)(p:Th)(kd:Xp×Int)(pl:List Int)(u:Th)(j:Nat),row[i]?=A? p->ins[i]?=A? kd->(pl,u)∈(frF (mkF ins rows) (mkF ins rows (s:Nat)) (row.take (i+1))).pl []->u.isHole=C?->(∀v,(pl,v)∈(frF (mkF ins rows) (mkF ins rows (s:Nat)) (row.take i)).pl []->v.isHole=Cf)->Vl j (nk (s:Nat) pl) (eU ins) (.knot kd.1 (List.replicate kd.2.toNat (eU ins))))->(∀(r:WQ)(A':List (ay×V))(H':Hp),But pt H H'->AtK .i K H' (frF (mkF ins rows) (mkF ins rows (s:Nat)) row) r->Pt P w Vl H' pt A' Al->(∀k∈f'.map (·.1),k∈A'.map (·.1))->(∀i,i<=row.length->∀x∈(frF (mkF ins rows) (mkF ins rows (s:Nat)) (row.take i)).pl [],x.2.isHole=C?->nk (s:Nat) x.1∈A'.map (·.1))->Q (.ref r) H')->eW P w K vs H Q _E
theorem mF:aT P w K mg base CX0 6 T.g_34.f T.g_34.d ["book","state","made","partings"] (eW P w K):=by
 refine T.g_34.F.okA bN λAg A outer s0 H vs Q E hr h=>?_;obtain⟨b,md,pt,s,ins,outs,head,rows,row,Dy,f',Al,Vl,rfl,hB,F,Af,Jw,Im,F8,M9,B0,Dn,hV,q⟩:=h;refine hid λZZ kZ=>?_;obtain⟨ia,oa,ha,ra,Ak,Az,AM,hB⟩:=hB;refine kZ ?_
 refine⟨_,(ad (aj 4 bN.nd (pcF T.g_26 (eB T) hr (aa (pv 0) ab)))
  (ad (aj 5 bN.nd (jl (gr hr) (pv 2) (az (aa (pv 1) (aa ag ab))) (λ_ _=>rfl)))
  (ad (bq Xr rfl (w6 rfl T.n_12 (aa (pv 4) (aa (aC aF (pcF T.g_29 (dH T) hr (aa (pv 0) ab)) (pv 1) (λ_ _=>rfl)) ab))) (bx rfl (am (pgN 6 bN.nd) (am (pgN 7 bN.nd) aU))) (ad (aj 5 bN.nd (pcF T.g_22 (uR T) hr (aa (pv 5) (aa (pcF T.g_17 (gZ T) hr (aa (pv 7) (aa (pv 2) ab))) ab))))
  (af (bq Xr rfl (bQ (pcF T.g_15 (gL T) hr (aa (pv 5) ab))) (pgN 8 bN.nd) (af (aS (vN (fl:=Cf) Zp PySem.F.type_dict_setdefault (gz (fl:=Cf) (fU hr)) (pv 3) (aa (az (aa (pv 1) (aa (pv 8) ab))) (aa (az (aa (pcF T.g_31 (fy T) hr (aa (pv 4) ab)) (aa (pcF T.g_32 (fo T) hr (aa (pv 4) (aa (pv 6) (aa vG ab)))) ab))) ab)))))))))
  (af (ax (pv 5)))))),?_⟩
 try dsimp only[Av,Ad]
 have g:=F.gi;have CU:ins.length=Ak.length:=WZ hB.inK;have Ii:rows.length=AM.length:=WZ hB.rw;have Pd:=g.le;have Pb:=(glE Af);obtain⟨φ,F9⟩:=cB F8.dm;have KY:md≠pt:=λz=>by rw[z,F9]at Jw;cases Jw
 refine⟨_,D?,b,_,_,_,_,D?,hB.bk,?_⟩;refine hid λZZ kZ=>?_;obtain⟨BE,p0,Sk,FY,Io,z1,z2,f0⟩:=F.mkd (l:=(s:Nat)) (by lia) (by lia);rw[Xy,Af]at Sk;cases Sk;obtain⟨fa,Vv,B3⟩:=Im s 0 row p0 (by decide) Af FY;refine kZ ?_;refine⟨_,D?,_,D?,lnE rfl,λkp Ct=>?_⟩;refine gU Ct λH1 s1 e1=>?_;have e1:H1 kp=A? (.tup (([Xo ((s:Nat):Int),Xo 0]:List Key).map kV)):=e1;refine⟨md,.ref fa,D?,.inr ⟨Dy,_,kp,.inl (s1 _ _ Jw),D?,e1,Vv.symm⟩,?_⟩
 refine hid λZZ kZ=>?_;obtain⟨Bi,Bw,KU,Il,EU⟩:=B! hB.rw Af;refine kZ ?_;have AU:=EU.length;have Ph:=(F.fit.row row (WS Af)).1;refine⟨_,D?,_,D?,b,_,_,_,_,D?,s1 _ _ hB.bk,_,D?,ra,_,_,.ref Bi,D?,D?,n! (s1 _ _ hB.rl),cP (gmE Bw),ia,Bi,D?,⟨_,n! (s1 _ _ hB.inE)⟩,⟨_,n! (s1 _ _ Il)⟩,?_⟩
 have KZ:∀(i:Nat)(p:Th),row[i]?=A? p->∀l k,x! l k∈p.walk->∃v,aN Dy [Xo l,Xo k]=A? (.ref v)/\At H (mkF ins rows l) v/\(mkF ins rows l).size<=200:=λi p hp l k hc=>by
  have Ai:=(glE hp);obtain⟨kd,FR⟩:∃kd,ins[i]?=A? kd:=⟨_,WR (by lia)⟩;have hf:=(F.fit.row row (WS Af)).2 i p kd hp FR;have Cs:=g.num kd (WS FR);obtain⟨a1,a2,a3,a4⟩:=jy hf hc;obtain⟨Vw,p1,b1,b2,b3,b4,_⟩:=F.mkd a1 a2;obtain⟨v,v1,v2⟩:=Im l.toNat k.toNat Vw p1 (by lia) b1 b2;rw[Yu a1,Yu a3]at v1;exact⟨v,v1,by rw[b3];exact v2,by rw[b3];exact b4⟩
 have Vx:∀i',i'<=0->∀x∈(frF (mkF ins rows) (mkF ins rows (s:Nat)) (row.take i')).pl [],x.2.isHole=C?->nk (s:Nat) x.1∈f'.map (·.1):=λi' AF x hx hh=>by
  rw[Nat.le_zero.mp AF,ZC]at hx;have:=Dn x hx;rw[hh]at this;cases this
 refine tw (K:=K) (a:=ia) (b:=Bi) (xs:=Ak.map i!) (ys:=KU.map i!) (by rw[WM,WM];lia) (λi Z H2=>Ex5 λ(fa:WQ)(c6 c7 c8:Option V)(Bo:List (ay×V))=>An6 (Z=[A? (.ref b),A? (.int ((s:Nat):Int)),A? (.ref md),A? (.ref pt),A? (.ref ia),A? (.ref fa),c6,c7,c8]) (But pt H H2) (AtK .i K H2 (frF (mkF ins rows) (mkF ins rows (s:Nat)) (row.take i)) fa) (Pt P w Vl H2 pt Bo Al) ((∀k∈f'.map (·.1),k∈Bo.map (·.1))) ((∀i',i'<=i->∀x∈(frF (mkF ins rows) (mkF ins rows (s:Nat)) (row.take i')).pl [],x.2.isHole=C?->nk (s:Nat) x.1∈Bo.map (·.1))))
  ⟨fa,B?,B?,B?,f',rfl,H! s1,by rw[ZC,Io];exact(B3.mono (j! s1)).k,F8.same s1,λ_ h=>h,Vx⟩ (λi Z H2 _⟨_,_,_,_,_,_,b2,_,_,_,_⟩=>?_) ?_ ?_
 .have kt:=b2.kt F9;exact⟨n! (kt _ _ hB.inE),n! (kt _ _ Il)⟩
 .rintro i x y p2 Z H2 hx hy AW ⟨fa,c6,c7,c8,Bo,rfl,b2,BW,BX,CV,Sl⟩;refine hid λZZ kZ=>?_;obtain⟨ka,rfl,AZ⟩:=aG hx;obtain⟨pa,rfl,CD⟩:=aG hy;obtain⟨kd,hk,ek⟩:=y! hB.inK AZ;obtain⟨p,hp,ET⟩:=EU.get CD;refine kZ ?_;have Jx:=b2.kt F9;refine gU AW λH3 s3 e3=>?_;have Sm:=Jx.trans (j! s3);have b3:=b2.trans (H! s3);refine⟨p2,_,D?,n! e3,D?,_,_,D?,_,_,D?,D?,?_⟩;dsimp only[ak]
  have Jr:=F.sz row (WS Af) p (WS hp);refine⟨_,D?,_,D?,_,D?,.i,pa,md,p,(λl _=>mkF ins rows l),D?,(ET.mono Sm).k,by lia,λl k hc=>?_,λfl H4 s4 DZ=>?_⟩
  .refine hid λZZ kZ=>?_;obtain⟨v,v1,v2,v3⟩:=KZ i p hp l k hc;refine kZ ?_;exact⟨v,(v2.mono Sm).k,by lia,λH2 ca sv s2 hs B5=>xf (b3 _ _ KY Jw) v1 s2 hs B5⟩
  have hsz:=iR (mkF ins rows) (mkF ins rows (s:Nat)) (row.take i);rw[Io]at hsz;have K0:=BW.mono (j! (s3.trans s4));rw[Io]at K0;refine⟨fa,fl,_,_,D?,K0,DZ,by lia,by lia,λcm H5 s5 Pj=>?_⟩;have AR:row.take (i+1)=row.take i++[p]:=by rw[XU,hp];rfl
  have K1:AtK .i K H5 (frF (mkF ins rows) (mkF ins rows (s:Nat)) (row.take (i+1))) cm:=by
   rw[AR,qX,Io];exact Pj
  have b5:=b3.trans (H! (s4.trans s5));have Pk:=BX.same (s3.trans (s4.trans s5));have kt5:=b5.kt F9;have Pl:=iR (mkF ins rows) (mkF ins rows (s:Nat)) (row.take (i+1));rw[Io]at Pl;have K2:=K1;rw[Io]at K2
  refine⟨_,D?,cm,_,D?,K2,by lia,by lia,λhl bs H6 s6 D0 Ah=>?_⟩;rw[<-Io]at Ah;have b6:=b5.trans (H! s6);have K3:=Pk.same s6;have Fy:=b6.kt F9;obtain⟨Vy,D1⟩:=cB K3.dm;have Pm:=K1.mono (j! s6);have Fz:hl≠pt:=λz=>by rw[z,D1]at D0;cases D0
  have BI:=WZ Ah;have Vz:=ZE (λp:List Int×Th=>p.2.isHole) ((frF (mkF ins rows) (mkF ins rows (s:Nat)) (row.take (i+1))).pl []);rw[D!]at Vz;have Cs:=g.num kd (WS hk);refine⟨hl,D?,⟨_,l! D0⟩,?_⟩
  refine cE (K:=K) (a:=hl) (xs:=bs.map i!) (λj Z H7=>Ex2 λ(c8:Option V)(F':List (ay×V))=>An5 (Z=[A? (.ref b),A? (.int ((s:Nat):Int)),A? (.ref md),A? (.ref pt),A? (.ref ia),A? (.ref cm),A? (.ref ka),A? (.ref pa),c8]) (But pt H6 H7) (Pt P w Vl H7 pt F' Al) ((∀k∈Bo.map (·.1),k∈F'.map (·.1))) (∀(j':Nat)(pl:List Int),j'<j->((((frF (mkF ins rows) (mkF ins rows (s:Nat)) (row.take (i+1))).pl []).filter λp=>p.2.isHole).map (·.1))[j']?=A? pl->nk (s:Nat) pl∈F'.map (·.1)))
   ⟨_,Bo,rfl,But.refl _ _,K3,λ_ h=>h,λ_ _ h=>g! h (Zc _)⟩ (λj Z H7 _⟨_,_,_,b7,_,_,_⟩=>l! (b7 _ _ Fz D0)) ?_ ?_
  .rintro j x Z H7 hx ⟨c8,F',rfl,b7,EV,Bx,Aa⟩;refine hid λZZ kZ=>?_;obtain⟨pb,rfl,VA⟩:=aG hx;obtain⟨pl,Ga,Pn⟩:=y! Ah VA;have Fx:=b7.kt D1;have Po:=Fy.trans Fx;have Pp:=Fx _ _ Pn
   obtain⟨OV,Fo,VB⟩:∃u,(pl,u)∈(frF (mkF ins rows) (mkF ins rows (s:Nat)) (row.take (i+1))).pl []/\u.isHole=true:=by
    obtain⟨x,DO,rfl⟩:=Xx.mp (WS Ga);exact⟨x.2,(YZ.mp DO).1,(YZ.mp DO).2⟩
   refine kZ ?_
   have Pq:nk (s:Nat) pl∈Al:=by
    obtain⟨x,DO,rfl⟩:=Xx.mp (WS Ga);obtain⟨u,hu⟩:=wy (mkF ins rows) (mkF ins rows (s:Nat)) (row.take (i+1)) x (YZ.mp DO).1;exact B0 (x.1,u) hu
   have h3l:=EV.len;refine⟨_,D?,⟨pt,F',D?,EV.dm⟩,_,D?,_,D?,lnE rfl,λOj Pr=>?_⟩;refine gU Pr λH8 s8 e8=>?_;have D3:=Po.trans (j! s8);refine⟨_,D?,ia,Ak,ins,D?,D3 _ _ hB.inE,hB.inK.mono D3,g,λst H9 s9 AX=>?_⟩;have Pu:=D3.trans (j! s9);refine⟨_,D?,_,D?,λdd M'=>?_⟩;refine gU M' λBP AS KG=>?_;have Ip:=Pu.trans (j! AS);refine⟨ia,ka,dd,Ak,ins,kd,[],List.replicate kd.2.toNat (eU ins),D?,Ip _ _ hB.inE,hB.inK.mono Ip,g,Ip _ _ ek,WS hk,KG,by rw[List.length_replicate],λi' u hu=>.inr ⟨D?,List.eq_of_mem_replicate (WS hu)⟩,λr2 Hv B6 HY=>?_⟩;refine⟨lnE rfl,λpr Bc=>?_⟩;refine gU Bc λIq Ba D4=>?_;have Ir:=AS.trans (B6.trans Ba);have Ge:=s8.trans (s9.trans Ir);have EW:=EV.same Ge;refine⟨pt,Oj,.ref pr,nk (s:Nat) pl,F',D?,D?,EW.dm,n6 ((s9.trans Ir) _ _ e8) (Ge _ _ Pp),bE (by lia),λu hu=>?_,λhn Gf Sn Pw=>?_⟩
   .refine⟨_,F',D?,b7.trans (H! Ge),EW,Bx,λj' B9 Ap BC=>?_⟩;by_cases EX:j'=j
    .subst EX;rw[Ga]at BC;cases BC;exact Xx.mpr ⟨_,fG hu,rfl⟩
    .exact Aa j' B9 (by lia) BC
   .have VC:∀v,(pl,v)∈(frF (mkF ins rows) (mkF ins rows (s:Nat)) (row.take i)).pl []->v.isHole=false:=λv hv=>by
     cases VD:v.isHole with
     |false=>rfl
     | true =>
       exfalso;exact eE hn (Bx _ (Sl i (WV _) (pl,v) hv VD))
    obtain⟨Jy,K4⟩:=EW.put hn Sn Pw ⟨pr,st,r2,_,_,rfl,D4,AX.mono (j! Ir),HY.mono (j! Ba),hV i p kd pl OV _ hp hk Fo VB VC⟩ Pq;refine⟨_,_,D?,(b7.trans (H! Ge)).trans Sn,Jy,λk AO=>by rw[K4];exact XT _ (Bx k AO),λj' B9 Ap BC=>?_⟩;rw[K4];by_cases EX:j'=j
    .subst EX;rw[Ga]at BC;cases BC;exact XH _ (Xh ..)
    .exact XT _ (Aa j' B9 (by lia) BC)
  .rintro Z H7 ⟨c8,F',rfl,b7,EV,Bx,Aa⟩;refine⟨cm,_,_,_,F',D?,b6.trans b7,Pm.mono (b7.kt D1),EV,λk AO=>Bx k (CV k AO),λi' AF x hx hh=>?_⟩;by_cases VE:i'<=i
   .exact Bx _ (Sl i' VE x hx hh)
   obtain rfl:i'=i+1:=by lia
   have hm:x.1∈(((frF (mkF ins rows) (mkF ins rows (s:Nat)) (row.take (i+1))).pl []).filter λp=>p.2.isHole).map (·.1):=Xx.mpr ⟨x,YZ.mpr ⟨hx,hh⟩,rfl⟩;obtain⟨j',Ap⟩:=Xj.mp hm;exact Aa j' x.1 (by have:=(Yw.mp Ap).1;rw[WM];lia) Ap
 .rintro Z H2 ⟨fa,c6,c7,c8,Bo,rfl,b2,BW,BX,CV,hh⟩;rw[WM]at BW hh;rw[XZ (by lia)]at BW;exact⟨_,D?,q fa Bo H2 b2 BW BX CV λi hi=>hh i (by lia)⟩
def LDone(H:Hp)(G:LG)(s:Nat)(ps:List Th)(f0:Th):Prop:=∀p∈ps,∀c∈callsOf (p.pl []),∀u,(c.1,u)∈f0.pl []->∀x∈u.pl [],g7 H G (nk c.2.1 x.1) (s:Nat) (c.1++x.1)
theorem LDone.sub{G G':LG}{s:Nat}{ps:List Th}{f0:Th}(h:LDone H G s ps f0)(k:LSub H H' G G'):LDone H' G' s ps f0:=λp hp c hc u hu x hx=>k _ _ _ (h p hp c hc u hu x hx)
inductive jc(P:W5)(w:Xq)(K:WO)(vs:List V)(H:Hp)(Q:VK)(_E:XK):Prop
 |mk (b fa la:WQ) (s:Nat) (ins outs:List (Xp×Int)) (head:Th) (rows:List (List Th)) (row:List Th) (f0:Th) (H0:Hp) (G:LG) (N:Nat) (Al:List ay) (Lk:LkT):vs=[.ref b,.int (s:Nat),.ref fa,.ref la]->Bk H ins outs head rows b->FrK ins outs rows->rows[s]?=A? row->AtK .i K H f0 fa->f0.size<=200->f0.tall<=100->LkI P w ins Al Lk H0 H la G N->N<=15000000->(∀x∈f0.pl [],nk (s:Nat) x.1∈Al)->(∀(i:Nat)(p:Th)(kd:Xp×Int)(c:List Int×Int×Int)(u:Th)(x:List Int×Th),row[i]?=A? p->ins[i]?=A? kd->c∈callsOf (p.pl [])->(c.1,u)∈f0.pl []->x∈u.pl []->Lk (nk c.2.1 x.1) (s:Nat) (c.1++x.1) kd c.2.2)->(∀(G':LG)(H':Hp),KT H H'->LkI P w ins Al Lk H0 H' la G' (N+640000)->LSub H H' G G'->LDone H' G' s row f0->Q .non H')->jc P w K vs H Q _E
theorem oU:aT P w K mg base CX0 6 T.g_35.f T.g_35.d ["book","state","front","links"] (jc P w K):=by
 refine T.g_35.F.okA bV λAg A outer s0 H vs Q E hr h=>?_;obtain⟨b,fa,la,s,ins,outs,head,rows,row,f0,H0,G,N,Al,Lk,rfl,hB,F,Af,BW,hfz,K5,L,hN,B0,hL,q⟩:=h;refine hid λZZ kZ=>?_;obtain⟨ia,oa,ha,ra,Ak,Az,AM,hB⟩:=hB;refine kZ ?_
 refine⟨_,(ad (aj 4 bV.nd (bd (lw (xP hr) rfl) rfl T.n_1 PyProof.Rows.boot_dict (aa (pcF T.g_4 (gP T) hr (aa (pv 2) ab)) ab)))
  (af (bq Xr rfl (w6 rfl T.n_12 (aa (pcF T.g_26 (eB T) hr (aa (pv 0) ab)) (aa (aC aF (pcF T.g_29 (dH T) hr (aa (pv 0) ab)) (pv 1) (λ_ _=>rfl)) ab))) (bx rfl (am (pgN 5 bV.nd) (am (pgN 6 bV.nd) aU))) (af (bq Xr rfl (bQ (pcF T.g_13 (qF T) hr (aa (pv 6) ab))) (bx rfl (am (pgN 7 bV.nd) (am (bx rfl (am (pgN 8 bV.nd) (am (pgN 9 bV.nd) aU))) aU))) (af (bZ (ss (zp (gr hr) (pv 7) (pv 4))) (af (bq Xr rfl (bQ (pcF T.g_6 (uF T) hr (aa (jl (gr hr) (pv 4) (pv 7) (λ_ _=>rfl)) ab))) (pgN 10 bV.nd) (af (aS (bT Xc Xv Xu aQ (vN (fl:=Cf) Zp PySem.F.type_dict_setdefault (gz (fl:=Cf) (fU hr)) (pv 3) (aa (az (aa (pv 8) (aa (pv 10) ab))) (aa (bp ab) ab))) (aa (az (aa (pv 1) (aa (aB cY (pv 7) (pv 10)) (aa (pv 5) (aa (pv 9) ab))))) ab)))))) bB))))))),?_⟩
 try dsimp only[Av,Ad]
 have g:=F.gi;have CU:ins.length=Ak.length:=WZ hB.inK;have Pd:=g.le;have Pb:=(glE Af)
 refine⟨_,D?,fa,f0,D?,BW,by lia,by lia,λVF Na H1 s1 npl Iu Bt=>?_⟩;have Px:(f0.pl []).length=Na.length:=WZ Bt;rw[D!]at Px;refine hid λZZ kZ=>?_;obtain⟨prs,K6,Py,Pz⟩:∃prs:List (List Key×V),Xk (PrA H1) prs Na/\(∀p∈prs,∃x∈f0.pl [],p.1=x.1.map Xo/\∃a,p.2=.ref a/\AtK .i K H1 x.2 a)/\∀x∈f0.pl [],∃p∈prs,p.1=x.1.map Xo:=wH Bt;refine kZ ?_;have So:prs.length=Na.length:=WZ K6;refine⟨VF,Na,prs,D?,Iu,K6,by lia,λpd VG=>?_⟩;refine gU VG λH2 s2 e2=>?_;refine hid λZZ kZ=>?_;obtain⟨f1,f2⟩:=kh (R:=λk v=>∃x∈f0.pl [],k=x.1.map Xo/\∃a,v=.ref a/\AtK .i K H1 x.2 a) prs [] (λk v hv=>by cases hv) Py;have Ce:=s1.trans s2;have Iv:=L.same Ce;obtain⟨Bi,Bw,KU,Il,EU⟩:=B! hB.rw Af;refine kZ ?_;have AU:=EU.length;have Ph:=(F.fit.row row (WS Af)).1
 have PD:∀(q:List Int)(u:Th),(q,u)∈f0.pl []->∃a,aN (dw [] prs) (q.map Xo)=A? (.ref a)/\AtK .i K H1 u a:=λq u hu=>by
  obtain⟨p,hp,e⟩:=Pz (q,u) hu;obtain⟨v,hv⟩:=f2 (q.map Xo) (.inr ⟨p,hp,e⟩);obtain⟨x,hx,ex,a,rfl,ha⟩:=f1 _ v hv;have hq:q=x.1:=(List.map_inj_right (λ_ _ e=>YL e)).mp ex;have:u=x.2:=sf _ (WV _) hu (by rw[hq];exact hx);rw[this];exact⟨a,hv,ha⟩
 have PF:∀(q:List Int)(v:V),aN (dw [] prs) (q.map Xo)=A? v->∃u a,(q,u)∈f0.pl []/\v=.ref a/\AtK .i K H1 u a:=λq v hv=>by
  obtain⟨x,hx,ex,a,rfl,ha⟩:=f1 _ v hv;have hq:q=x.1:=(List.map_inj_right (λ_ _ e=>YL e)).mp ex;exact⟨x.2,a,by rw[hq];exact hx,D?,ha⟩
 have GY:pd≠la:=λz=>by
  obtain⟨φ,e⟩:=cB Iv.dm;rw[z,e]at e2;cases e2
 have PH:∀g∈G,g.2.1≠pd:=λg hg z=>by
  have:=(Iv.ls g hg).2.1;rw[z,e2]at this;cases this
 refine⟨_,D?,b,_,_,_,_,D?,Ce _ _ hB.bk,_,D?,b,_,_,_,_,D?,Ce _ _ hB.bk,_,D?,ra,_,_,.ref Bi,D?,D?,n! (Ce _ _ hB.rl),cP (gmE Bw),ia,Bi,D?,⟨_,n! (Ce _ _ hB.inE)⟩,⟨_,n! (Ce _ _ Il)⟩,?_⟩
 refine tw (K:=K) (a:=ia) (b:=Bi) (xs:=Ak.map i!) (ys:=KU.map i!) (by rw[WM,WM];lia) (λi Z H3=>Ex7 λ(c5 c6 c7 c8 c9 DQ:Option V)(G3:LG)=>An3 (Z=[A? (.ref b),A? (.int ((s:Nat):Int)),A? (.ref fa),A? (.ref la),A? (.ref pd),c5,c6,c7,c8,c9,DQ]) (LQ P w ins Al Lk H0 la H2 G H3 G3 (N+i * 80000)) (LDone H3 G3 s (row.take i) f0))
  ⟨B?,B?,B?,B?,B?,B?,G,rfl,(LQ.refl Iv).up (by lia),λp hp=>by rw[ZC]at hp;cases hp⟩ (λi Z H3 _⟨_,_,_,_,_,_,_,_,q3,_⟩=>?_) ?_ ?_
 .have kt:=(j! Ce).trans (q3.kt Iv);exact⟨n! (kt _ _ hB.inE),n! (kt _ _ Il)⟩
 .rintro i x y p2 Z H3 hx hy AW ⟨c5,c6,c7,c8,c9,DQ,G3,rfl,q3,d3⟩;refine hid λZZ kZ=>?_;obtain⟨ka,rfl,AZ⟩:=aG hx;obtain⟨pa,rfl,CD⟩:=aG hy;obtain⟨kd,hk,ek⟩:=y! hB.inK AZ;obtain⟨p,hp,ET⟩:=EU.get CD;refine kZ ?_;have VH:i<8:=by have:=(glE hk);lia
  refine gU AW λH4 s4 e4=>?_;have q4:=q3.same s4;have Nb:=(j! Ce).trans (q4.kt Iv);refine⟨p2,_,D?,n! e4,D?,_,_,D?,_,_,D?,D?,?_⟩;dsimp only[ak];have Jr:=F.sz row (WS Af) p (WS hp);refine⟨_,D?,pa,p,D?,(ET.mono Nb).k,by lia,by lia,λcl cs H5 s5 VI FA CK=>?_⟩;have q5:=q4.same s5;have d5:=d3.sub (LSub.kt (j! (s4.trans s5)) G3);have L5:=q5.lk;have VJ:(callsOf (p.pl [])).length=cs.length:=WZ CK;have PJ:=j5 (p.pl []);rw[D!]at PJ
  have PK:∀g∈G3,g.2.1≠cl:=λg hg z=>by
   have:=(q4.lk.ls g hg).2.1;rw[z,VI]at this;cases this
  have K7:cl≠la:=λz=>by
   obtain⟨φ,e⟩:=cB L5.dm;rw[z,e]at FA;cases FA
  refine⟨cl,D?,⟨_,l! FA⟩,?_⟩
  refine cE (K:=K) (a:=cl) (xs:=cs.map i!) (λj Z H6=>Ex5 λ(c7 c8 c9 DQ:Option V)(G6:LG)=>An3 (Z=[A? (.ref b),A? (.int ((s:Nat):Int)),A? (.ref fa),A? (.ref la),A? (.ref pd),A? (.ref ka),A? (.ref pa),c7,c8,c9,DQ]) (LQ P w ins Al Lk H0 la H5 G3 H6 G6 (N+i * 80000+j * 400)) (∀(j':Nat)(c:List Int×Int×Int),j'<j->(callsOf (p.pl []))[j']?=A? c->∀u,(c.1,u)∈f0.pl []->∀x∈u.pl [],g7 H6 G6 (nk c.2.1 x.1) (s:Nat) (c.1++x.1)))
   ⟨_,_,_,_,G3,rfl,(LQ.refl L5).up (by lia),λ_ _ h=>g! h (Zc _)⟩ (λj Z H6 _⟨_,_,_,_,_,_,q6,_⟩=>l! (q6.fr _ _ FA K7 PK)) ?_ ?_
  .rintro j x Z H6 hx ⟨c7,c8,c9,DQ,G6,rfl,q6,d6⟩;refine hid λZZ kZ=>?_;obtain⟨ca,rfl,Cr⟩:=aG hx;obtain⟨c,hc,K8,VL,VM,Sq,PL⟩:=y! CK Cr;refine kZ ?_;have Fy:=q6.kt L5;have OA:j<200:=by have:=(glE hc);lia
   have K9:H5 pd=A? (.dT (dw [] prs)):=q5.fr _ _ e2 GY PH
   have K':∀g∈G3,g.2.1≠pd:=λg hg z=>by
    have:=(L5.ls g hg).2.1;rw[z,K9]at this;cases this
   have La:=q6.fr _ _ K9 GY K'
   have Sr:H6 K8=A? (.tup ((c.1.map Xo).map kV)):=by
    rw[Fy _ _ Sq,Y9];rfl
   have Gg:=(j! s2).trans ((q5.kt Iv).trans Fy);refine⟨ca,_,D?,n! (Fy _ _ VM),D?,_,_,D?,_,_,D?,VL,_,D?,n! (Fy _ _ PL),D?,_,_,D?,_,_,D?,D?,D?,?_⟩;refine cA (λbb H'=>An2 (H6=H') (bb=(aN (dw [] prs) (c.1.map Xo)).isSome)) (λk2 By=>?_) (λH' hb2=>?_) (λH' hb2=>?_)
   .exact⟨_,D?,_,D?,pd,_,D?,DGet.t La Sr,_,D?,By _ _ ⟨D?,D?⟩⟩
   .refine hid λZZ kZ=>?_;obtain⟨rfl,hb2⟩:=hb2;obtain⟨v,hv⟩:=ZY.mp hb2.symm;obtain⟨u,ua,hu,rfl,Dw⟩:=PF c.1 v hv;obtain⟨Fj,Ss⟩:=zi _ f0 [] (WV _) _ hu;refine kZ ?_;dsimp only at Fj Ss;refine⟨_,D?,_,D?,pd,.ref ua,D?,by rw[<-hv];exact DGet.t La Sr,ua,u,D?,Dw.mono Gg,by lia,by lia,λil Su H7 s7 nil Nc Lb=>⟨il,D?,⟨_,l! Nc⟩,?_⟩⟩;have q7:=q6.same s7;have L7:=q7.lk;have d7:∀(j':Nat)(c:List Int×Int×Int),j'<j->(callsOf (p.pl []))[j']?=A? c->∀u,(c.1,u)∈f0.pl []->∀x∈u.pl [],g7 H7 G6 (nk c.2.1 x.1) (s:Nat) (c.1++x.1):=λj' c h1 h2 u h3 x h4=>LSub.kt (j! s7) G6 _ _ _ (d6 j' c h1 h2 u h3 x h4);have PM:(u.pl []).length=Su.length:=WZ Lb;rw[D!]at PM
    have PN:∀g∈G6,g.2.1≠il:=λg hg z=>by
     have:=(q6.lk.ls g hg).2.1;rw[z,nil]at this;cases this
    have Lc:il≠la:=λz=>by
     obtain⟨φ,e⟩:=cB L7.dm;rw[z,e]at Nc;cases Nc
    have Fx:=Fy.trans (j! s7);have PQ:=(Nb.trans (j! s5)).trans Fx
    refine cE (K:=K) (a:=il) (xs:=Su.map i!) (λm Z H8=>Ex2 λ(DQ:Option V)(G8:LG)=>An3 (Z=[A? (.ref b),A? (.int ((s:Nat):Int)),A? (.ref fa),A? (.ref la),A? (.ref pd),A? (.ref ka),A? (.ref pa),A? (.ref K8),A? (.int c.2.1),A? (.int c.2.2),DQ]) (LQ P w ins Al Lk H0 la H7 G6 H8 G8 (N+i * 80000+j * 400+2 * m)) (∀(m':Nat)(x:List Int×Th),m'<m->(u.pl [])[m']?=A? x->g7 H8 G8 (nk c.2.1 x.1) (s:Nat) (c.1++x.1)))
     ⟨_,G6,rfl,LQ.refl L7,λ_ _ h=>g! h (Zc _)⟩ (λm Z H8 _⟨_,_,_,q8,_⟩=>l! (q8.fr _ _ Nc Lc PN)) ?_ ?_
    .rintro m x Z H8 hx ⟨DQ,G8,rfl,q8,d8⟩;refine hid λZZ kZ=>?_;obtain⟨ib,rfl,VN⟩:=aG hx;obtain⟨y,hy,PR⟩:=y! Lb VN;have Ld:m<200:=by have:=(glE hy);rw[D!]at this;lia
     have PU:=q8.kt L7;have L8:=q8.lk;have Le:=L8.le;have PV:=PU _ _ PR;have Sv:=PU _ _ (Fx _ _ Sq);have Sw:KAt H8 kd ka:=PU _ _ (PQ _ _ ek);obtain⟨φ8,VO⟩:=cB L8.dm;refine kZ ?_;have Sa:c.1.length<=100:=by have:=xo _ f0 [] (WV _) _ hu;rw[List.length_nil]at this;dsimp only at this;lia
     have FC:y.1.length<=100:=by have:=xo _ u [] (WV _) y (WS hy);rw[List.length_nil]at this;lia
     have Sx:nk (s:Nat) (c.1++y.1)∈Al:=B0 (c.1++y.1,y.2) (tW _ (WV _) hu (WS hy));have Sy:Lk (nk c.2.1 y.1) (s:Nat) (c.1++y.1) kd c.2.2:=hL i p kd c u y hp hk (WS hc) hu (WS hy);refine⟨_,D?,⟨la,_,D?,L8.dm⟩,_,D?,_,D?,lnE rfl,λkp Ct=>?_⟩;dsimp only;refine gU Ct λH9 s9 e9=>?_;refine⟨lnE rfl,λl0 Fl=>?_⟩;have AS:k! H9 (upd H9 l0 (.lst [])):=ae Fl _;have q9:LQ P w ins Al Lk H0 la H8 G8 H9 G8 (N+i * 80000+j * 400+2 * m):=(LQ.refl L8).same s9;have Iw:=j! (s9.trans AS);refine⟨la,kp,.ref l0,nk c.2.1 y.1,lkv G8,D?,D?,L8.dm.mono (s9.trans AS),n6 (AS _ _ e9) ((s9.trans AS) _ _ PV),fI (by unfold lkv;rw[WM];lia),λu hu=>?_,λhn BP VP PX=>?_⟩
     .obtain⟨g,hg,Lf,rfl⟩:=sW hu;have qs:LQ P w ins Al Lk H0 la H8 G8 (upd H9 l0 (.lst [])) G8 (N+i * 80000+j * 400+2 * m+1):=(q9.same AS).up (by lia);generalize(upd H9 l0 (.lst []))=Hs at qs Iw |-;have Ls:=qs.lk;refine hid λZZ kZ=>?_;obtain⟨_,gl,gn,_⟩:=Ls.ls g hg;refine kZ ?_;refine⟨.inl ⟨D?,_,l! gl⟩,_,D?,_,D?,_,D?,?_⟩;refine mH (Iw _ _ Sv) (Iw _ _ PV) (by rw[WM,WM];lia) λpj Hv B6 Gh=>?_;rw[<-Xa]at Gh;refine⟨_,D?,_,D?,lnE rfl,λen PY=>?_⟩;refine gU PY λIq Ba D4=>?_;have Dz:=B6.trans Ba;refine⟨g.2.1,_,_,D?,D?,Dz _ _ gl,fI (by rw[WM];lia),?_⟩;obtain⟨Lg,has⟩:=(qs.same Dz).appG hg (en:=en) ⟨_,_,c.1++y.1,pj,ka,kd,D4,Ba _ _ Gh,(j! Dz) _ _ (Iw _ _ Sw),WS hk,Sx,by rw[Lf];exact Sy⟩;refine⟨_,_,D?,(q8.trans Lg).up (by lia),λm' x2 GL B1=>?_⟩;by_cases Nf:m'=m
      .rw[Nf,hy]at B1;cases B1;have hh:=has _ _ _ _ _ D4 (Ba _ _ Gh);rw[Lf]at hh;exact hh
      .exact Lg.sub _ _ _ (d8 m' x2 (by lia) B1)
     .have qs:=q9.newG Fl hn VP PX;have PZ:=qs.kt L8;refine hid λZZ kZ=>?_;obtain⟨g,hg,Lf,VQ⟩:∃g∈G8++[(nk c.2.1 y.1,l0,[])],g.1=nk c.2.1 y.1/\g.2.1=l0:=⟨_,XH _ (Xh ..),rfl,rfl⟩;refine kZ ?_;rw[<-VQ]at qs hg |-;have Ls:=qs.lk;refine hid λZZ kZ=>?_;obtain⟨_,gl,gn,_⟩:=Ls.ls g hg;refine kZ ?_;refine⟨.inl ⟨D?,_,l! gl⟩,_,D?,_,D?,_,D?,?_⟩;refine mH (PZ _ _ Sv) (PZ _ _ PV) (by rw[WM,WM];lia) λpj Hv B6 Gh=>?_;rw[<-Xa]at Gh;refine⟨_,D?,_,D?,lnE rfl,λen PY=>?_⟩;refine gU PY λIq Ba D4=>?_;have Dz:=B6.trans Ba;refine⟨g.2.1,_,_,D?,D?,Dz _ _ gl,fI (by rw[WM];lia),?_⟩;obtain⟨Lg,has⟩:=(qs.same Dz).appG hg (en:=en) ⟨_,_,c.1++y.1,pj,ka,kd,D4,Ba _ _ Gh,(j! Dz) _ _ (PZ _ _ Sw),WS hk,Sx,by rw[Lf];exact Sy⟩;refine⟨_,_,D?,(q8.trans Lg).up (by lia),λm' x2 GL B1=>?_⟩;by_cases Nf:m'=m
      .rw[Nf,hy]at B1;cases B1;have hh:=has _ _ _ _ _ D4 (Ba _ _ Gh);rw[Lf]at hh;exact hh
      .exact Lg.sub _ _ _ (d8 m' x2 (by lia) B1)
    .rintro Z H8 ⟨DQ,G8,rfl,q8,d8⟩;refine⟨_,_,_,_,G8,D?,(q7.trans q8).up (by rw[WM];lia),λj' c' Ap AQ u' B8 x2 B1=>?_⟩;by_cases EX:j'=j
     .subst EX;rw[hc]at AQ;cases AQ;have:u'=u:=sf _ (WV _) B8 hu;subst this;obtain⟨m',GL⟩:=Xj.mp B1;exact d8 m' x2 (by have:=(Yw.mp GL).1;rw[D!]at this;rw[WM];lia) GL
     .exact q8.sub _ _ _ (d7 j' c' (by lia) AQ u' B8 x2 B1)
   .obtain⟨rfl,hb2⟩:=hb2;refine⟨_,_,_,_,G6,D?,q6.up (by lia),λj' c' Ap AQ u' B8 x2 B1=>?_⟩;by_cases EX:j'=j
    .subst EX;rw[hc]at AQ;cases AQ;obtain⟨a,ha,_⟩:=PD c.1 u' B8;rw[ha]at hb2;cases hb2
    .exact d6 j' c' (by lia) AQ u' B8 x2 B1
  .rintro Z H6 ⟨c7,c8,c9,DQ,G6,rfl,q6,d6⟩;refine⟨_,_,_,_,_,_,G6,D?,(q5.trans q6).up ?_,?_⟩
   .rw[WM];have:cs.length * 400<=200 * 400:=Y3 _ (by lia);lia
   .intro p' BC;rw[XU,hp]at BC;rcases Xz.mp BC with BC|BC
    .exact(d5.sub q6.sub) p' BC
    .cases W9.mp BC;intro c Pj;obtain⟨j',Ap⟩:=Xj.mp Pj;exact d6 j' c (by have:=(Yw.mp Ap).1;rw[WM];lia) Ap
 .rintro Z H3 ⟨c5,c6,c7,c8,c9,DQ,G3,rfl,q3,d3⟩;rw[WM]at q3 d3;rw[XZ (by lia)]at d3;have hmul:Ak.length * 80000<=8 * 80000:=Y3 _ (by lia);exact q G3 H3 ((j! Ce).trans (q3.kt Iv)) (q3.lk.up (by lia)) ((LSub.kt (j! Ce) G).trans q3.sub) d3
theorem nT(k:Key)(v:V):jJ [] [(k,v)]=[(k,v)]:=rfl
theorem pM{kid:Int}{t:Th}(h:At H t a):yN H ins [(Xo kid,.ref a)] (gK ins n kid t):=λi u hu=>by
 unfold gK at hu;rw[WY,XM]at hu;obtain⟨j,hj,rfl⟩:=hu;have hjn:j<n:=by have:=YW.mp (WS hj);exact this
 have GQ:i=j:=by
  have hi:i<n:=by have:=(glE hj);rwa [Xi]at this
  rw[XJ hi]at hj;exact Xn hj
 subst GQ;by_cases hk:(i:Int)=kid
 .rw[b! hk];exact .inl ⟨a,by rw[bP (by rw[hk])],h⟩
 .rw[a! hk];exact .inr ⟨by rw[bM (λz=>hk (YL z).symm)];rfl,rfl⟩
def SpI(P:W5)(w:Xq)(Vl:VlT)(H:Hp)(ia la pt hl:WQ)(G:LG)(f':List (ay×V))(Al:List ay)(m:Nat)(Z:St)(H2:Hp):Prop:=∃(i:Nat)(Bo:List (ay×V))(Gi:List WQ)(c5 c6 c7 c8 c9 DQ:Option V),Z=[A? (.ref ia),A? (.ref la),A? (.ref pt),A? (.ref hl),A? (.int (i:Nat)),c5,c6,c7,c8,c9,DQ]/\But pt H H2/\H2 hl=A? (.lst (Gi.map i!))/\Pt P w Vl H2 pt Bo Al/\Xk (λk b=>MKAt Cf H2 k b) (Bo.map (·.1)) Gi/\(∀k∈f'.map (·.1),k∈Bo.map (·.1))/\i<=Bo.length/\(∀(j:Nat)(k:ay),j<i->(Bo.map (·.1))[j]?=A? k->∀s pl,g7 H2 G k s pl->nk s pl∈Bo.map (·.1))/\m=Al.length+1 - i
inductive oo(P:W5)(w:Xq)(vs:List V)(H:Hp)(Q:VK)(_E:XK):Prop
 |mk (ia la pt:WQ) (Ak:List WQ) (ins:List (Xp×Int)) (G:LG) (f':List (ay×V)) (Al:List ay) (Vl:VlT) (Lk:LkT):vs=[.ref ia,.ref la,.ref pt]->H ia=A? (.tup (Ak.map i!))->KsAt H ins Ak->db ins->LkR P w ins Al Lk H la G->Pt P w Vl H pt f' Al->Al.length<=1000000->pt≠la->(∀(i j:Nat)(k:ay)(t1 t2:Th)(s:Int)(pl:List Int)(kd:Xp×Int)(kid:Int),i<j->Vl i k t1 t2->kd∈ins->Lk k s pl kd kid->Vl j (nk s pl) (.knot kd.1 (gK ins kd.2.toNat kid t1)) (.knot kd.1 (gK ins kd.2.toNat kid t2)))->(∀(A':List (ay×V))(H':Hp),But pt H H'->Pt P w Vl H' pt A' Al->(∀k∈f'.map (·.1),k∈A'.map (·.1))->(∀k∈A'.map (·.1),∀s pl,g7 H' G k s pl->nk s pl∈A'.map (·.1))->Q .non H')->oo P w vs H Q _E
theorem u8:aT P w K mg base CX0 3 T.g_36.f T.g_36.d ["ins","links","partings"] (oo P w):=by
 refine T.g_36.F.okA cu λAg A outer s0 H vs Q E hr h=>?_;obtain⟨ia,la,pt,Ak,ins,G,f',Al,Vl,Lk,rfl,ei,Fw,g,R,F8,M9,Aq,hS,q⟩:=h
 refine⟨_,(ad (aj 3 cu.nd (bd (sL (fl:=Cf) rfl) rfl T.n_6 PyProof.Rows.boot_list (aa (pv 2) ab)))
  (ad (aj 4 cu.nd ag)
  (af (dO Xr (bh li (pv 4) (aA aw rfl T.n_5 XE (aa (pv 3) ab)) (aZ _)) (ad (fB (vd (fl:=Cf) (fU hr) (pv 2) (aC bj (pv 3) (pv 4) (λ_ _=>rfl)) (λ_ _=>rfl)) (bx rfl (am (pgN 5 cu.nd) (am (pgN 6 cu.nd) aU))))
  (ad (bq Xr rfl (bQ (uN (fl:=Cf) (fU hr) (pv 1) (aC bj (pv 3) (pv 4) (λ_ _=>rfl)) (bp ab) ⟨D?,D?,D?,D?⟩)) (bx rfl (am (pgN 7 cu.nd) (am (pgN 8 cu.nd) (am (pgN 9 cu.nd) (am (pgN 10 cu.nd) aU))))) (af (bZ (ss (sD (fl:=Cf) (fU hr) (az (aa (pv 7) (aa (pv 8) ab))) (pv 2))) (ad (qJ (fl:=Cf) (fU hr) (pv 2) (az (aa (pv 7) (aa (pv 8) ab))) (az (aa (pcF T.g_32 (fo T) hr (aa (pv 0) (aa (pv 9) (aa (sX (qc (pv 10) (pv 5) tq) rfl rfl (by decide) (by decide)) ab)))) (aa (pcF T.g_32 (fo T) hr (aa (pv 0) (aa (pv 9) (aa (sX (qc (pv 10) (pv 6) tq) rfl rfl (by decide) (by decide)) ab)))) ab))) rfl)
  (af (aS (bT Xc Xv Xu aQ (pv 3) (aa (az (aa (pv 7) (aa (pv 8) ab))) ab))))) bB)))
  (af (wV (i:=4) cu.nd rfl (Or.inl rfl) ag wt)))))))),?_⟩
 try dsimp only[Av,Ad]
 obtain⟨φ,F9⟩:=cB F8.dm;have CU:ins.length=Ak.length:=WZ Fw;refine⟨_,D?,pt,f',D?,F8.dm,λhl bs Fz Ah=>?_⟩;refine gU Fz λH1 s1 e1=>?_;have Sz:hl≠pt:=λz=>by rw[z,F9]at Fz;cases Fz
 have P0:Xk (λk b=>MKAt Cf H1 k b) (f'.map (·.1)) bs:=P2.mapl _ (v! (λ_ _ e=>e.mono (j! s1)) Ah);refine⟨SpI P w Vl H ia la pt hl G f' Al,⟨_,0,f',bs,B?,B?,B?,B?,B?,B?,D?,H! s1,e1,F8.same s1,P0,λ_ h=>h,Xg _,λ_ _ h=>g! h (Zc _),D?⟩,?_⟩;rintro m Z H2 ⟨i,Bo,Gi,c5,c6,c7,c8,c9,DQ,rfl,b2,DA,BX,Iy,GZ,M7,Ck,rfl⟩;have P1:(Bo.map (·.1)).length=Gi.length:=WZ Iy;rw[WM]at P1;have h2l:=BX.len;have Jx:=b2.kt F9;obtain⟨Ng,D5⟩:=cB BX.dm;refine⟨_,D?,_,D?,hl,_,D?,.inl (l! DA),_,_,D?,D?,?_⟩;refine⟨_,D?,?_⟩;refine cy (λcc=>?_) (λcc=>?_)
 .have Ai:i<Gi.length:=by
   have:=e! cc;rw[WM]at this;lia
  refine hid λZZ kZ=>?_;obtain⟨bk,SD⟩:∃bk,Gi[i]?=A? bk:=⟨_,WR Ai⟩;obtain⟨k,hk,Im⟩:=y! Iy SD
  obtain⟨v,hv⟩:∃v,aN Bo k=A? v:=by
   cases Lh:aN Bo k with
   |none=>exact g! (WS hk) (eE Lh)
   |some v=>exact⟨v,D?⟩
  obtain⟨kv,SE,SF⟩:∃kv,Bo[i]?=A? kv/\kv.1=k:=by
   rw[WY,XM]at hk;exact hk
  obtain⟨pr,ta,tb,t1,t2,ev,Js,Cc,MU,SG⟩:=BX.vl i kv SE;refine kZ ?_;rw[<-SF]at hv;rw[<-xY BX.nd SE hv]at ev;subst ev;rw[SF]at hv SG;have Li:atI (Gi.map i!) ((i:Nat):Int)=A? (.ref bk):=cP (gmE SD);refine⟨λAb H'=>∃m',m'<Al.length+1 - i/\SpI P w Vl H ia la pt hl G f' Al m' Ab H',λAb H' h=>h,?_⟩;refine⟨_,D?,_,D?,_,D?,hl,_,_,.ref bk,D?,D?,l! DA,Li,?_⟩;refine⟨pt,bk,k,Bo,.ref pr,D?,D?,BX.dm,Im,hv,?_⟩;refine⟨pr,_,D?,n! Js,D?,_,_,D?,_,_,D?,D?,?_⟩;dsimp only[ak];have R2:=R.but b2 F9 Aq
  refine cr (λAb H'=>Ex6 λ(BL:List (ay×V))(C5:List WQ)(d7 d8 d9 Jz:Option V)=>An8 (Ab=[A? (.ref ia),A? (.ref la),A? (.ref pt),A? (.ref hl),A? (.int (i:Nat)),A? (.ref ta),A? (.ref tb),d7,d8,d9,Jz]) (But pt H H') (KT H2 H') (H' hl=A? (.lst (C5.map i!))) (Pt P w Vl H' pt BL Al) (Xk (λk b=>MKAt Cf H' k b) (BL.map (·.1)) C5) ((∃more,BL.map (·.1)=Bo.map (·.1)++more)) (∀s pl,g7 H' G k s pl->nk s pl∈BL.map (·.1))) (λkk AO=>?_) ?_
  .refine⟨_,D?,la,_,D?,R2.dm,_,D?,_,D?,hl,_,_,.ref bk,D?,D?,l! DA,Li,lnE rfl,λl0 Fl=>?_⟩;refine gU Fl λH3 s3 e3=>?_;have e3:H3 l0=A? (.lst (([]:List WQ).map i!)):=e3;have R3:=R2.but (H! s3 (p:=pt)) D5 Aq;have P4:l0≠hl:=λz=>by rw[z,DA]at Fl;cases Fl
   refine⟨la,bk,k,lkv G,D?,D?,R3.dm,Im.mono (j! s3),?_⟩;refine hid λZZ kZ=>?_
   obtain⟨l,as,el,SH,VR,VS,hle,VT⟩:∃(l:WQ)(as:List WQ),(aN (lkv G) k).getD (.ref l0)=.ref l/\H3 l=A? (.lst (as.map i!))/\l≠hl/\l≠pt/\(∀a∈as,LE H3 ins Al Lk k a)/\∀s pl,g7 H3 G k s pl->∃a∈as,∃(pa ka:WQ)(kid:Int),H3 a=A? (.tup [.int s,.ref pa,.ref ka,.int kid])/\H3 pa=A? (.tup (pl.map q!)):=by
    have D6:H3 pt=A? (.ext Ng):=s3 _ _ D5;cases SI:aN (lkv G) k with
    |none=>exact⟨l0,[],D?,e3,P4,(λz=>by rw[z,D6]at e3;cases e3),(λa ha=>by cases ha),λs pl hh=>g! hh (wU SI)⟩
    | some u =>
      obtain⟨g,hg,rfl,rfl⟩:=sW SI;obtain⟨h1,h2⟩:=R3.ls g hg;refine⟨g.2.1,g.2.2,D?,h1,(λz=>?_),(λz=>by rw[z,D6]at h1;cases h1),h2,λs pl hh=>R3.at hg hh⟩;have:=(R.ls g hg).1;rw[z,Fz]at this;cases this
   refine kZ ?_;rw[el];refine⟨l,D?,⟨_,l! SH⟩,?_⟩;have b3:=b2.trans (H! s3 (p:=pt))
   refine cE (K:=K) (a:=l) (xs:=as.map i!) (λj Z H4=>Ex6 λ(BL:List (ay×V))(C5:List WQ)(d7 d8 d9 Jz:Option V)=>An8 (Z=[A? (.ref ia),A? (.ref la),A? (.ref pt),A? (.ref hl),A? (.int (i:Nat)),A? (.ref ta),A? (.ref tb),d7,d8,d9,Jz]) (But pt H H4) ((∀c o,c≠pt->c≠hl->H3 c=A? o->H4 c=A? o)) (H4 hl=A? (.lst (C5.map i!))) (Pt P w Vl H4 pt BL Al) (Xk (λk b=>MKAt Cf H4 k b) (BL.map (·.1)) C5) ((∃more,BL.map (·.1)=Bo.map (·.1)++more)) (∀(j':Nat)(a:WQ),j'<j->as[j']?=A? a->∀(s:Int)(pl:List Int)(pa ka:WQ)(kid:Int),H3 a=A? (.tup [.int s,.ref pa,.ref ka,.int kid])->H3 pa=A? (.tup (pl.map q!))->nk s pl∈BL.map (·.1)))
    ⟨Bo,Gi,_,_,_,_,rfl,b3,λ_ _ _ _ e=>e,s3 _ _ DA,BX.same s3,v! (λ_ _ e=>e.mono (j! s3)) Iy,⟨[],by rw[XA]⟩,λ_ _ h=>g! h (Zc _)⟩ (λj Z H4 _⟨_,_,_,_,_,_,_,_,f4,_,_,_,_,_⟩=>l! (f4 _ _ VS VR SH)) ?_ ?_
   .rintro j x Z H4 hx ⟨BL,C5,d7,d8,d9,Jz,rfl,b4,f4,C6,BF,DB,AL,Aa⟩;have D6:H3 pt=A? (.ext Ng):=s3 _ _ D5;have DC:KT H3 H4:=λc ys ec=>f4 c _ (λz=>by rw[z,D6]at ec;cases ec) (λz=>by rw[z,s3 _ _ DA]at ec;cases ec) ec;have Gj:=(j! s3).trans DC;have P5:=Jx.trans Gj;refine hid λZZ kZ=>?_;obtain⟨φ4,P6⟩:=cB BF.dm;have VU:=BF.len;have P7:(BL.map (·.1)).length=C5.length:=WZ DB;rw[WM]at P7;obtain⟨a,rfl,ha⟩:=aG hx;obtain⟨s',kid,pl,pa,ka,kd,g1,g2,g3,g4,g5,g6⟩:=hle a (WS ha);refine kZ ?_;have ea:=DC _ _ g1;have Bu:=DC _ _ g2;have SJ:KAt H4 kd ka:=DC _ _ g3
    have Lj:∀(s:Int)(B9:List Int)(Fp EH:WQ)(Cq:Int),H3 a=A? (.tup [.int s,.ref Fp,.ref EH,.int Cq])->H3 Fp=A? (.tup (B9.map q!))->nk s B9=nk s' pl:=λs B9 Fp EH Cq h1 h2=>by
     rw[g1]at h1;cases h1;rw[g2]at h2;have:pl=B9:=qw (by injection h2 with h3;injection h3);rw[this]
    refine⟨a,_,D?,n! ea,D?,_,_,D?,_,_,D?,_,_,D?,_,_,D?,D?,?_⟩;dsimp only[ak];refine cA (λbb H'=>An2 (k! H4 H') (bb=!(aN BL (nk s' pl)).isSome)) (λk2 By=>?_) (λH5 hb2=>?_) (λH5 hb2=>?_)
    .refine⟨_,D?,_,D?,lnE rfl,λkp Ct=>?_⟩;have s5:=ae Ct (.tup [.int s',.ref pa]);exact⟨_,D?,pt,kp,nk s' pl,BL,D?,D?,BF.dm.mono s5,n6 ac (s5 _ _ Bu),_,D?,By _ _ ⟨s5,D?⟩⟩
    .obtain⟨s5,hb2⟩:=hb2
     have hn:aN BL (nk s' pl)=none:=by
      cases Lh:aN BL (nk s' pl)with
      |none=>rfl
      |some u=>rw[Lh]at hb2;cases hb2
     have Ll:=P5.trans (j! s5);have F3:=Gj.trans (j! s5)
     refine⟨_,D?,_,D?,λdd M'=>?_⟩;refine⟨_,D?,_,D?,ac,[(Xo kid,.ref ta)],D?,(by show 1<=15;decide),?_⟩;rw[nT];have s6:k! H5 (upd (upd H5 dd (.dK [])) dd (.dK [(Xo kid,.ref ta)])):=ao (ae M' _) M';have e6:(upd (upd H5 dd (.dK [])) dd (.dK [(Xo kid,.ref ta)])) dd=A? (.dK [(Xo kid,.ref ta)]):=ac;generalize(upd (upd H5 dd (.dK [])) dd (.dK [(Xo kid,.ref ta)]))=H6 at s6 e6 |-;have Gg:=Ll.trans (j! s6);refine⟨ia,ka,dd,Ak,ins,kd,_,gK ins kd.2.toNat kid t1,D?,Gg _ _ ei,Fw.mono Gg,g,(s5.trans s6) _ _ SJ,g4,e6,mn ..,pM (Cc.mono (F3.trans (j! s6))),λr1 H7 s7 Pf=>?_⟩
     refine⟨_,D?,_,D?,λd2 hd2=>?_⟩;refine⟨_,D?,_,D?,ac,[(Xo kid,.ref tb)],D?,(by show 1<=15;decide),?_⟩;rw[nT];have s8:k! H7 (upd (upd H7 d2 (.dK [])) d2 (.dK [(Xo kid,.ref tb)])):=ao (ae hd2 _) hd2;have e8:(upd (upd H7 d2 (.dK [])) d2 (.dK [(Xo kid,.ref tb)])) d2=A? (.dK [(Xo kid,.ref tb)]):=ac;generalize(upd (upd H7 d2 (.dK [])) d2 (.dK [(Xo kid,.ref tb)]))=H8 at s8 e8 |-;have DN:=s6.trans (s7.trans s8);have D3:=Ll.trans (j! DN);refine⟨ia,ka,d2,Ak,ins,kd,_,gK ins kd.2.toNat kid t2,D?,D3 _ _ ei,Fw.mono D3,g,(s5.trans DN) _ _ SJ,g4,e8,mn ..,pM (MU.mono (F3.trans (j! DN))),λr2 H9 s9 HY=>?_⟩;refine⟨lnE rfl,λp2 AW=>?_⟩;refine gU AW λBP AS KG=>?_;refine⟨_,D?,_,D?,_,D?,lnE rfl,λkp Ct=>?_⟩;refine gU Ct λHv B6 Gh=>?_;have D7:=s5.trans (DN.trans (s9.trans (AS.trans B6)));have G0:=BF.same D7;refine⟨pt,kp,nk s' pl,BL,D?,D?,G0.dm,n6 Gh (D7 _ _ Bu),fI (by lia),λIq P8 P9=>?_⟩;have Nh:But pt Hv Iq:=P8
     have P':i<BL.length:=by
      obtain⟨more,hm⟩:=id AL;have:=h! Zm hm;rw[WM,Xd,WM]at this;lia
     obtain⟨VW,Iz⟩:=G0.put hn Nh P9 ⟨p2,r1,r2,_,_,rfl,B6 _ _ KG,Pf.mono (j! (s8.trans (s9.trans (AS.trans B6)))),HY.mono (j! (AS.trans B6)),hS i _ k t1 t2 s' pl kd kid P' SG g4 g6⟩ g5;have EY:Iq hl=A? (.lst (C5.map i!)):=Nh _ _ Sz (D7 _ _ C6);have G1:KT H4 Iq:=(j! D7).trans (Nh.kt (D7 _ _ P6));dsimp only[ak];refine⟨_,D?,.inl ⟨D?,_,l! EY⟩,_,D?,_,D?,lnE rfl,λNi Qa=>?_⟩;refine gU Qa λGf En Qb=>?_;refine⟨hl,_,_,D?,D?,En _ _ EY,fI (by rw[WM];lia),?_⟩;have Gk:KT Gf (upd Gf hl (.lst (C5.map i!++[.ref Ni]))):=aI (En _ _ EY);have Lm:=(G1.trans (j! En)).trans Gk;have Jy:=VW.same En;have VX:Pt P w Vl (upd Gf hl (.lst (C5.map i!++[.ref Ni]))) pt _ Al:=⟨sV Jy.dm Gk λo eo=>by rw[ai Sz.symm];exact eo,Jy.nd,Jy.al,λj p hp=>(Jy.vl j p hp).mono Gk⟩;obtain⟨more,AL⟩:=AL
     have go:∀c o,c≠pt->c≠hl->H4 c=A? o->(upd Gf hl (.lst (C5.map i!++[.ref Ni]))) c=A? o:=λc o h1 h2 e=>by
      rw[ai h2];exact En _ _ (Nh _ _ h1 (D7 _ _ e))
     refine⟨_,C5++[Ni],_,_,_,_,D?,λc o hc e=>go c o hc (λz=>by rw[z,Fz]at e;cases e) (b4 _ _ hc e),λc o h1 h2 e=>go c o h1 h2 (f4 c o h1 h2 e),uAE,VX,?_,⟨more++[nk s' pl],by rw[Iz,AL,XO]⟩,λj' a' Ap DW s B9 Fp EH Cq h1 h2=>?_⟩
     .rw[Iz];exact r! (v! (λ_ _ e=>e.mono Lm) DB) (.cons ((n6 Qb (En _ _ (G1 _ _ Bu))).mono Gk) .nil)
     .rw[Iz];by_cases EX:j'=j
      .rw[EX,ha]at DW;cases DW;rw[Lj s B9 Fp EH Cq h1 h2];exact XH _ (Xh ..)
      .exact XT _ (Aa j' a' (by lia) DW s B9 Fp EH Cq h1 h2)
    .obtain⟨s5,hb2⟩:=hb2
     obtain⟨u,hu⟩:∃u,aN BL (nk s' pl)=A? u:=by
      cases Lh:aN BL (nk s' pl)with
      |none=>rw[Lh]at hb2;cases hb2
      |some u=>exact⟨u,D?⟩
     refine⟨BL,C5,_,_,_,_,D?,b4.trans (H! s5),λc o h1 h2 e=>s5 _ _ (f4 c o h1 h2 e),s5 _ _ C6,BF.same s5,v! (λ_ _ e=>e.mono (j! s5)) DB,AL,λj' a' Ap DW s B9 Fp EH Cq h1 h2=>?_⟩;by_cases EX:j'=j
     .rw[EX,ha]at DW;cases DW;rw[Lj s B9 Fp EH Cq h1 h2];exact Xx.mpr ⟨_,fG hu,rfl⟩
     .exact Aa j' a' (by lia) DW s B9 Fp EH Cq h1 h2
   .rintro Z H4 ⟨BL,C5,d7,d8,d9,Jz,rfl,b4,f4,C6,BF,DB,AL,Aa⟩;have D6:H3 pt=A? (.ext Ng):=s3 _ _ D5;have DC:KT H3 H4:=λc ys ec=>f4 c _ (λz=>by rw[z,D6]at ec;cases ec) (λz=>by rw[z,s3 _ _ DA]at ec;cases ec) ec;refine AO _ _ ⟨BL,C5,_,_,_,_,rfl,b4,(j! s3).trans DC,C6,BF,DB,AL,λs pl hh=>?_⟩;refine hid λZZ kZ=>?_;obtain⟨a,ha,pa,ka,kid,h1,h2⟩:=VT s pl (R3.back DC hh);obtain⟨j',Ap⟩:=Xj.mp ha;refine kZ ?_;exact Aa j' a (by have:=(Yw.mp Ap).1;rw[WM];exact this) Ap s pl pa ka kid h1 h2
  .rintro Ab H4 ⟨BL,C5,d7,d8,d9,Jz,rfl,b4,Gj,C6,BF,DB,⟨more,AL⟩,Qc⟩;have VU:=BF.len;have hlen:=h! Zm AL;rw[WM,Xd,WM]at hlen;refine⟨_,D?,_,_,D?,D?,Al.length+1 - (i+1),by lia,i+1,BL,C5,_,_,_,_,_,_,D?,b4,C6,BF,DB,λk' Bb=>by rw[AL];exact XT _ (GZ k' Bb),by lia,λj k' hj Bb s pl hh=>?_,D?⟩;have GN:j<(Bo.map (·.1)).length:=by rw[WM];lia
   have By:(Bo.map (·.1))[j]?=A? k':=by rw[AL,X0 GN]at Bb;exact Bb
   by_cases OL:j=i
   .rw[OL,hk]at By;cases By;exact Qc s pl hh
   .rw[AL];exact XT _ (Ck j k' (by lia) By s pl (R2.back Gj hh))
 .have HX:¬i<Gi.length:=λz=>cc (d! (by rw[WM];lia));refine q Bo H2 b2 BX GZ λk hk s pl hh=>?_;obtain⟨j,hj⟩:=Xj.mp hk;exact Ck j k (by have:=(glE hj);rw[WM]at this;lia) hj s pl hh
inductive fS(P:W5)(w:Xq)(K:WO)(vs:List V)(H:Hp)(Q:VK)(_E:XK):Prop
 |mk (fa pt:WQ) (s:Nat) (t:Th) (f':List (ay×V)) (Al:List ay) (Vl:VlT):vs=[.ref fa,.int (s:Nat),.ref pt]->AtK .i K H t fa->t.size<=200->t.tall<=100->t.noCall->Pt P w Vl H pt f' Al->(∀(r:WQ)(H':Hp),k! H H'->AtK .i K H' (t.cut (Dk f' (s:Nat)) []) r->Q (.ref r) H')->fS P w K vs H Q _E
def aap(K:WO)(D:List Int->Bool)(fa pt tl ah:WQ)(s:Nat)(t:Th)(H:Hp)(m:Nat)(Z:St)(H3:Hp):Prop:=∃(ts as:List WQ)(Ts:List Th)(As:List (List Int×Th))(c5 c6 c7:Option V),Z=[A? (.ref fa),A? (.int (s:Nat)),A? (.ref pt),A? (.ref tl),A? (.ref ah),c5,c6,c7]/\k! H H3/\H3 tl=A? (.lst (ts.map i!))/\H3 ah=A? (.lst (as.map i!))/\Xk (TopAtK .i K H3) (Ts.map (fe x!)) ts/\PsAtK K H3 As as/\Ts++iA D As.reverse=(t.cut D []).walk/\(∀p∈As,p.1.length+p.2.tall<=100/\p.2.noCall)/\Ts.length+szP As<=200/\m=szP As
theorem pw:aT P w K mg base CX0 3 T.g_37.f T.g_37.d ["front","state","partings"] (fS P w K):=by
 refine T.g_37.F.okA cG λAg A outer s0 H vs Q E hr h=>?_;obtain⟨fa,pt,s,t,f',Al,Vl,rfl,hA,hsz,Aw,D8,F8,k⟩:=h
 refine⟨_,(ad (aj 3 cG.nd (bp ab))
  (ad (aj 4 cG.nd (bp (aa (az (aa (az ab) (aa (pv 0) ab))) ab)))
  (ad (dO Xr (bz (pv 4) (λ_=>rfl)) (ad (fB (jz Xc Zg Zf jt (pv 4)) (bx rfl (am (pgN 5 cG.nd) (am (pgN 6 cG.nd) aU))))
  (af (bZ (PW.pt (tz (bz (pcF T.g_10 (fZ T) hr (aa (pv 6) ab)) (λ_=>rfl)) (o9 (ss (yw (fl:=Cf) (fU hr) (az (aa (pv 1) (aa (pv 5) ab))) (pv 2)))))) (af (aS (bT Xc Xv Xu aQ (pv 3) (aa (az (aa (cH (v:=.ref T.k_HOLE.a) rfl T.k_HOLE.c rfl) (aa ag ab))) ab)))) (ad (aS (bT Xc Xv Xu aQ (pv 3) (aa (az (aa (cK tI (pv 6) dG (cW ag)) (aa (aB pA (aA aw rfl T.n_5 XE (aa (pv 6) ab)) ag) ab))) ab)))
  (ad (du (i:=7) (N:=["number","kid","place"]) (js:=[B?,B?,A? 5]) (g:=(mQ K 2 (dg (ak 0) (dg (ak 1) mM)))) (tt:=bi) (te:=(iz (aD (tOp (m7 K) (aR 2) (iz (aD (aR 0) bY))) (aD (aR 1) bY)))) cG.nd rfl (Or.inl rfl) rfl (bU rfl (by decide +kernel) (by decide +kernel) rfl rfl rfl) (pf rfl T.n_2 (cK fR (pv 6) (cW ag) dG)) (λ_ _ _ _ _ _=>(bx rfl (am (pgN 0 xC) (am (pgN 1 xC) aU)))) (gG (bW bc (aH rfl) (bW bc (aH rfl) gD))) (λ_ _ _ _ _ _=>bt) (λ_ _ _ _ _ _=>(az (aa (aB cY (pv 2) (az (aa (pv 0) ab))) (aa (pv 1) ab)))))
  (af (aS (bT Xc ZX ZW gS (pv 4) (aa (lI rfl rfl T.n_6 rfl T.n_10 (pv 7)) ab))))))))))
  (af (ax (pcF T.g_5 (ji T) hr (aa (pv 3) ab))))))),?_⟩
 try dsimp only[Av,Ad]
 generalize VY:Dk f' (s:Nat)=D at k;refine⟨lnE rfl,λtl IC=>?_⟩;have s1:k! H (upd H tl (.lst [])):=ae IC _;have Ia:(upd H tl (.lst [])) tl=A? (.lst []):=ac;generalize upd H tl (.lst [])=H1 at s1 Ia |-;refine⟨lnE rfl,λp0 FY=>?_⟩;refine⟨_,D?,lnE rfl,λp1 CB=>?_⟩;refine⟨lnE rfl,λah BK=>?_⟩;have s2:k! H1 (upd (upd H1 p0 (.tup [])) p1 (.tup [.ref p0,.ref fa])):=(ae FY _).trans (ae CB _);have e1:(upd (upd H1 p0 (.tup [])) p1 (.tup [.ref p0,.ref fa])) p1=A? (.tup [.ref p0,.ref fa]):=ac;have e0:(upd (upd H1 p0 (.tup [])) p1 (.tup [.ref p0,.ref fa])) p0=A? (.tup []):=ae CB _ _ _ ac;generalize(upd (upd H1 p0 (.tup [])) p1 (.tup [.ref p0,.ref fa]))=H2 at s2 e1 e0 BK |-;have Du:H1 ah=none:=s2.free BK;have Cb:H ah=none:=s1.free Du;have Aq:ah≠tl:=λz=>by rw[z,Ia]at Du;cases Du
 have VZ:szP [(([]:List Int),t)]=t.size:=by rw[szP,szP];rfl
 refine⟨aap K D fa pt tl ah s t H,⟨_,[],[p1],[],[([],t)],B?,B?,B?,D?,ao (s1.trans s2) Cb,by rw[ai Aq.symm];exact s2 _ _ Ia,by rw[ac];rfl,.nil,.cons ⟨p0,fa,ae BK _ _ _ e1,ae BK _ _ _ e0,hA.mono (j! (ao (s1.trans s2) Cb))⟩ .nil,by show[]++((t.cut D []).walk++[])=_;rw[YY,XA],λp hp=>by rw[W9.mp hp];exact⟨by simpa using Aw,D8⟩,by rw[VZ];simpa using hsz,D?⟩,?_⟩;rintro m Z H3 ⟨ts,as,Ts,As,c5,c6,c7,rfl,sm,em,ea,a1,a2,hw,hb,hlen,rfl⟩;have hTl:Ts.length=ts.length:=by have:=WZ a1;rwa [WM]at this
 refine⟨_,D?,_,.inl ⟨_,l! ea,D?⟩,?_⟩;refine cy (λc=>?_) (λc=>?_)
 .refine⟨λAb H'=>∃m',m'<szP As/\aap K D fa pt tl ah s t H m' Ab H',λAb H' h=>h,?_⟩;have Bg:as≠[]:=by intro z;subst z;simp at c
  refine hid λZZ kZ=>?_;obtain⟨Au,b,rfl⟩:∃Au b,as=Au++[b]:=⟨as.dropLast,as.getLast Bg,(Y1 Bg).symm⟩;obtain⟨Us,⟨pre,x⟩,rfl,a3,pa,ta,eb,Bu,Cc⟩:=P2.snoc_inv a2;have KC:szP (Us++[(pre,x)])=szP Us+x.size:=by rw[cS,szP,szP];rfl
  have FW:=x.size_eq;rw[KC]at hlen;obtain⟨MX,Ln⟩:=hb (pre,x) (by simp);refine kZ ?_;simp only at MX Ln Bu Cc;have Sd:Us.length=Au.length:=WZ a3;have q4:=pD Us;refine⟨_,D?,.inl ⟨D?,_,l! ea⟩,ah,_,.ref b,D?,D?,ea,by simp,?_⟩;have d1:((Au++[b]).map i!).dropLast=Au.map i!:=by simp
  rw[d1];have k1:KT H3 (upd H3 ah (.lst (Au.map i!))):=aI ea;have GR:k! H (upd H3 ah (.lst (Au.map i!))):=ao sm Cb;have DL:(upd H3 ah (.lst (Au.map i!))) tl=A? (.lst (ts.map i!)):=by rw[ai Aq.symm];exact em
  have Fq:(upd H3 ah (.lst (Au.map i!))) ah=A? (.lst (Au.map i!)):=ac;generalize(upd H3 ah (.lst (Au.map i!)))=H4 at k1 GR DL Fq |-;refine⟨b,_,D?,n! (k1 _ _ eb),D?,_,_,D?,_,_,D?,D?,?_⟩
  try dsimp only[ak]
  have BF:=F8.same GR;refine cA (λbb H'=>An2 (k! H4 H') (bb=(x.isHole ||D pre))) (λk2 By=>?_) (λH5 hb2=>?_) (λH5 hb2=>?_)
  .refine⟨_,D?,ta,x,D?,Cc.mono k1,by lia,_,D?,?_⟩;refine cy (λch=>By _ _ ⟨.refl _,by rw[ch];rfl⟩) (λch=>?_);have V0:x.isHole=false:=YA.mpr ch;refine⟨_,D?,_,D?,lnE rfl,λkp Ct=>?_⟩;have s5:=ae Ct (.tup [.int ((s:Nat):Int),.ref pa]);refine⟨_,D?,pt,kp,nk (s:Nat) pre,f',D?,D?,BF.dm.mono s5,n6 ac (s5 _ _ (k1 _ _ Bu)),_,D?,By _ _ ⟨s5,?_⟩⟩;rw[V0,Bool.false_or,<-VY];rfl
  .obtain⟨s5,hb2⟩:=hb2
   have ID:x.cut D pre=hole:=by
    cases x with
    |call u v=>rw[Th.cut]
    | knot n ks =>
      rw[Th.cut,b!];rcases Bool.or_eq_true_iff.mp hb2.symm with h|h
      .exact .inl h
      .exact .inr h
   refine⟨_,D?,.inl ⟨D?,_,l! (s5 _ _ DL)⟩,lnE rfl,λp hp=>?_⟩;refine gU hp λH6 s6 e6=>?_;have FD:=(s5.trans s6) _ _ DL;refine⟨tl,_,_,D?,D?,FD,lbE (by lia),?_⟩;have k7:KT H6 (upd H6 tl (.lst (ts.map i!++[.ref p]))):=aI FD;have SK:=(k1.trans (j! (s5.trans s6))).trans k7;refine⟨szP Us,by lia,ts++[p],Au,Ts++[hole],Us,_,_,_,D?,ao (GR.trans (s5.trans s6)) IC,uAE,by rw[ai Aq];exact(s5.trans s6) _ _ Fq,?_,J! SK a3,?_,λp' BC=>hb p' (XT _ BC),?_,D?⟩
   .rw[Xa];exact r! (dq SK a1) (.cons ⟨T.k_HOLE.a,k7 _ _ e6,zm,(TK.const T.k_HOLE.q)⟩ .nil)
   .rw[<-hw,YD,XO];show Ts++([hole]++iA D Us.reverse)=Ts++iA D ((pre,x)::Us.reverse);unfold iA;rw[List.flatMap_cons,ID];rfl
   .rw[Xd];show Ts.length+1+szP Us<=200;lia
  .obtain⟨s5,hb2⟩:=hb2;obtain⟨hh,Lo⟩:=Bool.or_eq_false_iff.mp hb2.symm;cases x with
   |call u v=>rw[u!]at Ln;exact Ln.elim
   |knot n ks =>
   have ID:(o! n ks).cut D pre=.knot n (cz D pre 0 ks):=by
    rw[Th.cut,a!];rintro(h|h)
    .rw[hh]at h;cases h
    .rw[Lo]at h;cases h
   have Jt:=k1.trans (j! s5);have Lp:=Cc.mono Jt;rw[AtK]at Lp;refine hid λZZ kZ=>?_;obtain⟨V1,B2,Qd,Lq⟩:=Lp;refine kZ ?_;have BI:B2.length=ks.length:=Lq.length;rw[p!]at hlen;have Ju:=bI ks;rw[u!]at Ln;rw[t!]at MX;refine⟨_,D?,.inl ⟨D?,_,l! (s5 _ _ DL)⟩,_,D?,_,D?,ta,_,D?,Qd,λp2 H6 s6 e6=>?_⟩
   have V2:TK K H6 p2 [.str n]:=by
    have e7:TK K H6 p2 (jO (N! n::B2.map i!) B? (A? 1)):=e6;rw[um]at e7;exact e7
   refine⟨_,D?,ta,_,D?,.inr ((Qd.mono (j! s6)).sq),_,_,D?,D?,lnE rfl,λtp Bn=>?_⟩
   have Lr:((N! n::B2.map i!).length:Int) - 1=((ks.length:Nat):Int):=by
    rw[W0,WM];lia
   dsimp only[bY,ue];rw[Lr];refine gU Bn λH7 s7 e7=>?_;have Qe:=s5.trans (s6.trans s7);have Fs:=Qe _ _ DL;refine⟨tl,_,_,D?,D?,Fs,lbE (by lia),?_⟩;have k8:KT H7 (upd H7 tl (.lst (ts.map i!++[.ref tp]))):=aI Fs;have Qf:k! H (upd H7 tl (.lst (ts.map i!++[.ref tp]))):=ao (GR.trans Qe) IC;have SM:(upd H7 tl (.lst (ts.map i!++[.ref tp]))) tl=A? (.lst ((ts++[tp]).map i!)):=uAE;have KD:(upd H7 tl (.lst (ts.map i!++[.ref tp]))) ah=A? (.lst (Au.map i!)):=by rw[ai Aq];exact Qe _ _ Fq
   generalize(upd H7 tl (.lst (ts.map i!++[.ref tp])))=H8 at k8 Qf SM KD |-;have Qg:=(j! (s6.trans s7)).trans k8;have GS:=Jt.trans Qg
   have Qh:Xk (TopAtK .i K H8) ((Ts++[o! n (cz D pre 0 ks)]).map (fe x!)) (ts++[tp]):=by
    rw[Xa];refine r! (dq GS a1) (.cons ⟨p2,?_,V1,V2.mono ((j! s7).trans k8)⟩ .nil);show H8 tp=A? (.tup [.ref p2,.int ((cz D pre 0 ks).length:Nat)]);rw[eN];exact k8 _ _ e7
   try dsimp only[ak]
   refine⟨_,D?,1,D?,ta,_,D?,(Qd.mono Qg).sq,?_,λp3 D9=>?_⟩
   .rintro⟨z,_⟩;rw[W0,show(1:Int)=((1:Nat):Int)by rfl,M!]at z;lia
   dsimp only;rw[dP];refine gU D9 λH9 s9 e9=>?_;have Qi:=s9 _ _ (GS _ _ Bu);have Qj:=Lq.mono (Qg.trans (j! s9));refine⟨p3,D?,⟨_,n! e9⟩,?_⟩;intro Dl Gm;refine⟨B2.length,λj BP=>An3 (j<=B2.length) (k! H9 BP) (Ex1 λ(bs:List WQ)=>An2 (BP Dl=A? (.lst (bs.map i!))) (PsAtK K BP ((df pre 0 ks).take j) bs)),⟨Xg _,ae Gm _,[],ac,.nil⟩,?_⟩;rintro j BP ⟨hj,AS,bs,eD,Ah⟩;by_cases Cd:j=B2.length
   .left;refine⟨⟨_,n! (AS _ _ e9),by rw[WM];exact Cd.symm⟩,?_⟩;have Aa:(df pre 0 ks).take j=df pre 0 ks:=by rw[Cd,BI,<-gE pre 0 ks,Yo]
    rw[Aa]at Ah;have IE:=AS _ _ (s9 _ _ KD);have Lu:=AS _ _ (s9 _ _ SM)
    have AV:bs.length=ks.length:=by
     have:=WZ Ah;rw[gE]at this;exact this.symm
    try dsimp only[ak]
    refine⟨_,D?,.inl ⟨D?,_,l! IE⟩,_,D?,C?,Dl,_,D?,SqB.l (l! eD),λl hl=>?_⟩;have FN:ah≠l:=av IE hl;have FZ:tl≠l:=av Lu hl;have Lw:(upd BP l (.lst (bs.map i!).reverse)) ah=A? (.lst (Au.map i!)):=by rw[ai FN];exact IE
    refine⟨ah,l,_,_,D?,D?,Lw,ac,cQ ?_,?_⟩
    .rw[WM,Yt,WM];lia
    have Lx:KT BP (upd (upd BP l (.lst (bs.map i!).reverse)) ah (.lst (Au.map i!++(bs.map i!).reverse))):=(dR hl).trans (aI Lw);have Ly:=(j! (s9.trans AS)).trans Lx;have Qk:=GS.trans Ly;refine⟨szP (Us++(df pre 0 ks).reverse),?_,ts++[tp],Au++bs.reverse,Ts++[.knot n (cz D pre 0 ks)],Us++(df pre 0 ks).reverse,_,_,_,D?,?_,?_,?_,dq Ly Qh,r! (J! Qk a3) (P2.reverse (J! Lx Ah)),?_,?_,?_,D?⟩
    .rw[cS,kR,iX,KC,p!];lia
    .exact ao (ao ((Qf.trans s9).trans AS) ((Qf.trans s9).trans AS |>.free hl)) Cb
    .rw[ai Aq.symm,ai FZ];exact Lu
    .rw[ac,Xa,List.map_reverse]
    .rw[<-hw,XO,YD,YD,Y4,qo,nj];show Ts++([o! n (cz D pre 0 ks)]++(walks (cz D pre 0 ks)++iA D Us.reverse))=Ts++iA D ((pre,o! n ks)::Us.reverse);have:iA D ((pre,o! n ks)::Us.reverse)=((o! n ks).cut D pre).walk++iA D Us.reverse:=by unfold iA;rw[List.flatMap_cons]
     rw[this,ID,Th.walk];rfl
    .intro p hp;rcases Xz.mp hp with hp|hp
     .exact hb p (XT _ hp)
     .obtain⟨g1,g2⟩:=lA pre 0 ks p (List.mem_reverse.mp hp);have:=bL g2;exact⟨by lia,ce Ln g2⟩
    .rw[Xd,cS,kR,iX];show Ts.length+1+(szP Us+aq ks)<=200;lia
   .right;have Ap:j<B2.length:=by lia
    refine⟨Ap,⟨_,.ref B2[j],n! (AS _ _ e9),by rw[WY,WR Ap];rfl⟩,?_⟩;rintro y Hv ⟨p,v,hp,rfl,rfl,hv⟩;have Bj:=hv _ (n! (AS _ _ e9));obtain⟨kd,rfl,FR⟩:=aG Bj;obtain⟨tk,AR,O2⟩:=Qj.get FR;have B6:k! BP (upd BP p (.tup [.int (j:Nat),.ref kd])):=ae hp _;refine⟨p,_,D?,n! ac,D?,_,_,D?,_,_,D?,D?,?_⟩;generalize(upd BP p (.tup [.int (j:Nat),.ref kd]))=Hv at B6 |-;refine⟨_,D?,_,D?,lnE rfl,λn1 Ft=>?_⟩;refine gU Ft λIq Ba D4=>?_;refine mH (Ba _ _ (B6 _ _ (AS _ _ Qi))) D4 (by rw[WM];show pre.length+1<=1000000;lia) λn2 Gf En Qb=>?_;refine⟨_,D?,lnE rfl,λn3 GU=>?_⟩;have FE:k! BP (upd Gf n3 (.tup [.ref n2,.ref kd])):=(B6.trans (Ba.trans En)).trans (ae GU _);have Lz:=FE _ _ eD;refine⟨_,Lz,bE ?_,Ap,?_,bs++[n3],?_,?_⟩
    .have:=WZ Ah;rw[XF]at this;rw[WM];lia
    .exact ao (AS.trans FE) Gm
    .rw[ac,Xa];rfl
    .have Nj:KT (upd Gf n3 (.tup [.ref n2,.ref kd])) (upd (upd Gf n3 (.tup [.ref n2,.ref kd])) Dl (.lst (bs.map i!++[.ref n3]))):=aI Lz;rw[XU,l9 pre 0 ks j tk AR];refine r! (J! ((j! FE).trans Nj) Ah) (.cons ⟨n2,kd,Nj _ _ ac,Nj _ _ (ae GU _ _ _ ?_),?_⟩ .nil)
     .rw[Qb,Xa,X6];rfl
     .exact O2.mono ((j! (AS.trans FE)).trans Nj)
 .have hz:as=[]:=by
   cases as with
   |nil=>rfl
   |cons y ys=>simp at c
  subst hz;have B3:As=[]:=Yk.mp (WZ a2);subst B3;have Fn:Ts=(t.cut D []).walk:=by simpa[iA]using hw
  subst Fn;obtain⟨b1,b2⟩:=tX x! (t.cut D []);rw[tj]at b1;refine⟨_,D?,tl,ts,_,t.cut D [],D?,em,a1,by rw[WM];lia,b2,?_,b1,λr H4 s4 Ql=>k r H4 (sm.trans s4) Ql⟩;intro u hu;obtain⟨y,hy,e⟩:=Xx.mp hu;cases y with
  |knot n us=>cases e
  | call sn kn =>
    cases e;rw[p!];decide
def lQ(ins:List (Xp×Int))(rows:List (List Th)):List ay:=(XD rows.length).flatMap λs=>((mkF ins rows (s:Nat)).pl []).map λx=>nk (s:Nat) x.1
theorem p8{f:α->List β}:∀{l:List α},(∀x∈l,(f x).length<=B)->(l.flatMap f).length<=l.length * B
 | [],_=>Xg _
 | x::l,h=>by
   rw[List.flatMap_cons,Xd,W0,Nat.succ_mul];have h1:=h x (Xh ..);have h2:=p8 (l:=l) λy hy=>h y (Xe _ hy);lia
theorem vg(F:FrK ins outs rows):(lQ ins rows).length<=1000000:=by
 have h:=p8 (l:=XD rows.length) (f:=λs=>((mkF ins rows (s:Nat)).pl []).map λx=>nk (s:Nat) x.1) (B:=200) λs hs=>by
  rw[WM,D!];have DI:=YW.mp hs;obtain⟨row,p,_,_,e,z,_⟩:=F.mkd (l:=(s:Nat)) (by lia) (by lia);rw[e];exact z
 rw[Xi]at h;have:=F.le;show((XD rows.length).flatMap _).length<=_;lia
theorem qq{s:Nat}(hs:s<rows.length){x:List Int×Th}(hx:x∈(mkF ins rows (s:Nat)).pl []):nk (s:Nat) x.1∈lQ ins rows:=List.mem_flatMap.mpr ⟨s,YW.mpr hs,Xx.mpr ⟨x,hx,rfl⟩⟩
theorem yn{s:Nat}(hs:s<rows.length){x:List Int×Th}(hx:x∈(frS ins rows s).pl []):nk (s:Nat) x.1∈lQ ins rows:=by
 obtain⟨u,hu⟩:=wy _ _ _ x hx;exact qq (x:=(x.1,u)) hs hu
theorem aaF{pt:WQ}(h:Pt P w Vl H pt f' Al)(k:KT H H')(e:∀o,H pt=A? o->H' pt=A? o):Pt P w Vl H' pt f' Al:=⟨sV h.dm k e,h.nd,h.al,λj p hp=>(h.vl j p hp).mono k⟩
theorem qz{H0:Hp}(hb:But p H H')(s:k! H0 H)(h0:H0 p=B?):k! H0 H':=λc o e=>hb c o (λz=>by rw[z,h0]at e;cases e) (s c o e)
theorem lm(F:FrK ins outs rows){s:Nat}(hs:s<rows.length):(frS ins rows s).size<=200/\(frS ins rows s).tall<=100/\(frS ins rows s).noCall:=by
 refine hid λZZ kZ=>?_;obtain⟨row,p,hr,hp,e,z1,z2,hf⟩:=F.mkd (l:=(s:Nat)) (by lia) (by lia);refine kZ ?_;have h:=iR (mkF ins rows) (mkF ins rows (s:Nat)) ((rows[s]?).getD []);have hn:(mkF ins rows (s:Nat)).noCall:=by rw[e];exact j0 _ _ (WV _) hf
 unfold frS;rw[e]at h hn;rw[e];exact⟨by lia,by lia,rR hn _⟩
theorem rQ(go:db outs){t v:Th}{pl:List Int}(h:t.FitS outs S C)(hi:In t pl v):v.isHole=false:=by
 have:=hi.fit h;cases v with
 |call a b=>rw[G!]
 | knot m ks =>
   rw[z!]at this;rw[G!,decide_eq_false_iff_not];rintro⟨rfl,_⟩;exact wL (go.low _ this.1).1 rfl
theorem uD(F:FrK ins outs rows)(go:db outs){s:Nat}(hs:s<rows.length):∀x∈(mkF ins rows (s:Nat)).pl [],x.2.isHole=false:=λx hx=>by
 refine hid λZZ kZ=>?_;obtain⟨_,p,_,_,e,_,_,f⟩:=F.mkd (l:=(s:Nat)) (by lia) (by lia);refine kZ ?_;rw[e]at hx;exact rQ go f (In.of _ (WV _) (pl:=x.1) (v:=x.2) hx)
inductive gj(P:W5)(w:Xq)(K:WO)(vs:List V)(H:Hp)(Q:VK)(_E:XK):Prop
 |mk (b:WQ) (ins outs:List (Xp×Int)) (head:Th) (rows:List (List Th)):vs=[.ref b]->Bk H ins outs head rows b->FrK ins outs rows->db outs->(∀(r fl pt:WQ)(fs:List WQ)(f':List (ay×V))(H':Hp),k! H H'->H' r=A? (.tup [.ref fl,.ref pt])->H' fl=A? (.lst (fs.map i!))->Xk (λs a=>AtK .i K H' ((frS ins rows s).cut (Dk f' (s:Nat)) []) a) (XD rows.length) fs->Pt P w (VlM ins rows) H' pt f' (lQ ins rows)->FrD ins rows (f'.map (·.1))->KeyM ins rows f'->Q (.ref r) H')->gj P w K vs H Q _E
theorem kI:aT P w K mg base CX0 7 T.g_38.f T.g_38.d ["book"] (gj P w K):=by
 refine T.g_38.F.okA bD λAg A outer s0 H vs Q E hr h=>?_;obtain⟨b,ins,outs,head,rows,rfl,hB,F,go,k⟩:=h
 refine⟨_,(ad (aj 1 bD.nd (pcF T.g_33 (ju T) hr (aa (pv 0) ab)))
  (ad (aj 2 bD.nd (lR (fl:=Cf)))
  (ad (du (i:=3) (N:=["state","book","made","partings"]) (js:=[B?,A? 0,A? 1,A? 2]) (g:=(ak 0)) (tt:=bi) (te:=(cx (eW P w K) [] E0 (aD (aR 1) (aD (aR 0) (aD (aR 2) (aD (aR 3) bY)))))) bD.nd rfl (Or.inl rfl) rfl (bU rfl (by decide +kernel) (by decide +kernel) rfl rfl rfl) (bu rfl T.n_9 (aa (pcF T.g_30 (pk T) hr (aa (pv 0) ab)) ab)) (λ_ _ _ _ _ _=>(pgN 0 abx)) (aH rfl) (λ_ _ _ _ _ _=>bt) (λ_ _ _ _ _ _=>(pcF T.g_34 (mF T) hr (aa (pv 1) (aa (pv 0) (aa (pv 2) (aa (pv 3) ab)))))))
  (ad (aj 4 bD.nd (lR (fl:=Cf)))
  (ad (bq Xr rfl (lX rfl T.n_2 (pv 3)) (bx rfl (am (pgN 5 bD.nd) (am (pgN 6 bD.nd) aU))) (af (aS (pcF T.g_35 (oU T) hr (aa (pv 0) (aa (pv 5) (aa (pv 6) (aa (pv 4) ab))))))))
  (ad (aS (pcF T.g_36 (u8 T) hr (aa (pcF T.g_26 (eB T) hr (aa (pv 0) ab)) (aa (pv 4) (aa (pv 2) ab)))))
  (af (ax (az (aa (bH (N:=["state","front","partings"]) (js:=[B?,B?,A? 2]) (g:=(mQ K 2 (dg (ak 0) (dg (ak 1) mM)))) (tt:=bi) (te:=(cx (fS P w K) [] E0 (aD (aR 1) (aD (aR 0) (aD (aR 2) bY))))) rfl (bU rfl (by decide +kernel) (by decide +kernel) rfl rfl rfl) (lX rfl T.n_2 (pv 3)) (λ_ _ _ _ _ _=>(bx rfl (am (pgN 0 aav) (am (pgN 1 aav) aU)))) (gG (bW bc (aH rfl) (bW bc (aH rfl) gD))) (λ_ _ _ _ _ _=>bt) (λ_ _ _ _ _ _=>(pcF T.g_37 (pw T) hr (aa (pv 1) (aa (pv 0) (aa (pv 2) ab)))))) (aa (pv 2) ab))))))))))),?_⟩
 try dsimp only[Av,Ad]
 have hle:=F.le;refine⟨_,D?,b,ins,outs,head,rows,D?,hB,F.gi,by lia,λrow Af=>(F.fit.row row Af).1,λmd Dy H1 s1 V3 Jw Im=>?_⟩;intro pt H2 LA s2 SN;have Qm:=hB.mono (j! s1);refine hid λZZ kZ=>?_;obtain⟨ia,oa,ha,ra,Ak,Az,AM,hb1⟩:=id Qm;have Ii:rows.length=AM.length:=WZ hb1.rw;have M9:=vg F;obtain⟨Ng,D5⟩:=cB SN;refine kZ ?_;refine⟨_,D?,b,_,_,_,ra,_,D?,s2 _ _ hb1.bk,s2 _ _ hb1.rl,_,D?,by lia,by rw[WM];lia,λD hD=>?_⟩;have Lo:D≠pt:=λz=>by rw[z,D5]at hD;cases hD
 have V4:H1 D=none:=s2.free hD;refine⟨rows.length,λj H'=>An3 (j<=rows.length) (k! H1 H') (Ex2 λ(as:List WQ)(f':List (ay×V))=>An4 (H' D=A? (.lst (as.map i!))) (Xk (λs a=>AtK .i K H' (frS ins rows s) a) (XD j) as) (Pt P w (VlM ins rows) H' pt f' (lQ ins rows)) (∀(s i:Nat)(row:List Th),s<j->rows[s]?=A? row->i<=row.length->∀x∈(frF (mkF ins rows) (mkF ins rows (s:Nat)) (row.take i)).pl [],x.2.isHole=C?->nk (s:Nat) x.1∈f'.map (·.1))),⟨Xg _,s2.trans (ae hD _),[],[],ac,.nil,⟨SN.mono (ae hD _),List.nodup_nil,λp hp=>(List.not_mem_nil hp).elim,λj p hp=>by simp at hp⟩,λs i row hs=>by lia⟩,?_⟩;rintro j H' ⟨hj,sj,as,f',eD,has,Nk,LB⟩;obtain⟨HU,Gn⟩:=cB Nk.dm;by_cases Cd:j=rows.length
 .left;subst Cd;refine⟨by show _<=_;rw[WM];lia,?_⟩;intro la H5 FN s5 V5;have L0:LkI P w ins (lQ ins rows) (Lk0 ins rows) H' H5 la [] 0:=⟨s5,FN,V5,List.nodup_nil,List.nodup_nil,λg hg=>(List.not_mem_nil hg).elim,WV _⟩;have F7:(XD rows.length).length=as.length:=WZ has;rw[Xi]at F7;refine⟨_,D?,D,D?,⟨_,l! (s5 _ _ eD)⟩,?_⟩
  refine ni (K:=K) (a:=D) (xs:=as.map i!) (λi Z H6=>Ex3 λ(c5 c6:Option V)(G:LG)=>An3 (Z=[A? (.ref b),A? (.ref md),A? (.ref pt),A? (.ref D),A? (.ref la),c5,c6]) (LkI P w ins (lQ ins rows) (Lk0 ins rows) H' H6 la G (i * 640000)) (∀s<i,∀row,rows[s]?=A? row->LDone H6 G s row (frS ins rows s)))
   ⟨B?,B?,[],rfl,by rw[Nat.zero_mul];exact L0,λs hs=>by lia⟩ (λi Z H6 _⟨_,_,_,_,L,_⟩=>l! (L.sm _ _ eD)) ?_ ?_
  .rintro i x pr Z H6 hx Bc ⟨c5,c6,G,rfl,L,DR⟩;obtain⟨fa,rfl,BW⟩:=aG hx;have CU:=(glE BW);have Nl:i<rows.length:=by lia
   obtain⟨s',DI,A9⟩:=y! has BW;rw[XJ Nl]at DI;cases DI;obtain⟨row,Af⟩:∃row,rows[i]?=A? row:=⟨_,WR Nl⟩;refine gU Bc λH7 s7 e7=>?_;refine⟨pr,_,D?,n! e7,D?,_,_,D?,_,_,D?,D?,?_⟩;dsimp only[ak];have L7:=L.same s7;obtain⟨z1,z2,z3⟩:=lm F Nl;refine⟨_,D?,_,D?,_,D?,_,D?,b,fa,la,i,ins,outs,head,rows,row,frS ins rows i,H',G,i * 640000,lQ ins rows,Lk0 ins rows,D?,Qm.mono (j! (sj.trans L7.sm)),F,Af,A9.mono (j! L7.sm),z1,z2,L7,by lia,λx hx=>yn Nl hx,λi2 p kd c u x hp hk hc hu hx=>⟨i,row,i2,p,c.1,x.1,c.2.1,D?,Af,hp,hk,In.iff.mp (cV.mp hc),D?,D?,u,x.2,hu,hx⟩,λG' H8 k8 L8 Qn LC=>?_⟩;refine⟨_,_,G',D?,by rw[Nat.succ_mul];exact L8,λs hs BE EZ=>?_⟩;by_cases V6:s=i
   .subst V6;rw[Af]at EZ;cases EZ;exact LC
   .exact((DR s (by lia) BE EZ).sub (LSub.kt (j! s7) _)).sub Qn
  .rintro Z H6 ⟨c5,c6,G,rfl,L,DR⟩;rw[WM,<-F7]at DR;have LD:=Nk.same L.sm;obtain⟨Vy,D1⟩:=cB LD.dm;have IF:=sj.trans L.sm
   have AU:pt≠la:=λz=>by
    rw[z]at Gn;rw[L.la0]at Gn;cases Gn
   refine⟨_,D?,b,_,_,_,_,D?,IF _ _ hb1.bk,_,D?,_,D?,ia,la,pt,Ak,ins,G,f',lQ ins rows,VlM ins rows,Lk0 ins rows,D?,IF _ _ hb1.inE,hb1.inK.mono (j! IF),F.gi,L.r,LD,M9,AU,λi j k t1 t2 s pl kd kid h1 h2 h3 h4=>ya F i j k t1 t2 s pl kd kid h1 h2 h3 h4 _ _,λA' H7 Nm IG Bx Qo=>?_⟩;have SO:k! H1 H7:=qz Nm IF LA;have Fx:=(j! L.sm).trans (Nm.kt D1);have Nn:H7 D=A? (.lst (as.map i!)):=Nm _ _ Lo (L.sm _ _ eD);refine⟨_,D?,D,D?,⟨_,l! Nn⟩,λDl Gm=>?_⟩;have V7:H1 Dl=none:=SO.free Gm;refine⟨rows.length,λj H8=>An3 (j<=rows.length) (k! H7 H8) (Ex1 λ(bs:List WQ)=>An2 (H8 Dl=A? (.lst (bs.map i!))) (Xk (λs a=>AtK .i K H8 ((frS ins rows s).cut (Dk A' (s:Nat)) []) a) (XD j) bs)),⟨Xg _,ae Gm _,[],ac,.nil⟩,?_⟩;rintro j H8 ⟨hj8,s8,bs,SQ,Ah⟩;by_cases V8:j=rows.length
   .left;subst V8;refine⟨⟨_,l! (s8 _ _ Nn),by rw[WM];exact F7.symm⟩,?_⟩;refine⟨_,D?,lnE rfl,λr V9=>?_⟩;have s9:k! H8 (upd H8 r (.tup [.ref Dl,.ref pt])):=ae V9 _
    have SR:FrD ins rows (A'.map (·.1)):=⟨λs i row hr hi x hx hh=>Bx _ (LB s i row (glE hr) hr hi x hx hh),λs row Af p hp c hc u hu x hx hk=>by
     have hs:=(glE Af);exact Qo _ hk _ _ (LSub.kt (Nm.kt D1) G _ _ _ (DR s hs row Af p hp c hc u hu x hx))⟩
    refine k r Dl pt bs A' _ (s1.trans (SO.trans (s8.trans s9))) ac (s9 _ _ SQ) (v! (λ_ _ h=>h.mono (j! s9)) Ah) (IG.same (s8.trans s9)) SR (yE F SR λp hp=>by
     refine hid λZZ kZ=>?_;obtain⟨j,hj⟩:=Xj.mp hp;obtain⟨_,_,_,t1,t2,_,_,_,_,hv⟩:=IG.vl j p hj;refine kZ ?_;exact⟨j,t1,t2,hv⟩)
   .right;have Ap:j<rows.length:=by lia
    obtain⟨fa,BW⟩:∃fa,as[j]?=A? fa:=⟨_,WR (by lia)⟩;refine⟨Ap,⟨_,.ref fa,l! (s8 _ _ Nn),by rw[WY,BW];rfl⟩,?_⟩;rintro y H9 ⟨p,v,hp,rfl,rfl,hv⟩;have Bj:=hv _ (l! (s8 _ _ Nn));rw[WY,BW]at Bj;cases Bj;obtain⟨s',DI,A9⟩:=y! has BW;rw[XJ Ap]at DI;cases DI;have s9:k! H8 (upd H8 p (.tup [.int (j:Nat),.ref fa])):=ae hp _;refine⟨p,_,D?,n! ac,D?,_,_,D?,_,_,D?,D?,?_⟩;generalize(upd H8 p (.tup [.int (j:Nat),.ref fa]))=H9 at s9 |-;obtain⟨z1,z2,z3⟩:=lm F Ap;refine⟨_,D?,_,D?,_,D?,fa,pt,j,frS ins rows j,A',lQ ins rows,VlM ins rows,D?,A9.mono (Fx.trans (j! (s8.trans s9))),z1,z2,z3,IG.same (s8.trans s9),λq BP AS hq=>?_⟩;have LF:=(s9.trans AS) _ _ SQ;have AV:(XD j).length=bs.length:=WZ Ah;rw[Xi]at AV;have Lx:KT BP (upd BP Dl (.lst (bs.map i!++[.ref q]))):=aI LF;refine⟨_,LF,lbE (by lia),Ap,ao (s8.trans (s9.trans AS)) Gm,bs++[q],uAE,?_⟩;rw[List.range_succ];exact r! (v! (λ_ _ h=>h.mono ((j! (s9.trans AS)).trans Lx)) Ah) (.cons (hq.mono Lx) .nil)
 .right;have Ap:j<rows.length:=by lia
  obtain⟨row,Af⟩:∃row,rows[j]?=A? row:=⟨_,WR Ap⟩;refine⟨Ap,by show _<_;rw[WM];lia,?_⟩;rintro y H9 ⟨rfl,rfl⟩;rw[X6];refine⟨_,D?,_,D?,_,D?,_,D?,b,md,pt,j,ins,outs,head,rows,row,Dy,f',lQ ins rows,VlM ins rows,D?,Qm.mono (j! sj),F,Af,sj _ _ Jw,Im.mono (j! sj),Nk,M9,λx hx=>qq Ap hx,uD F go Ap,vR Af,λr A' H4 hb4 A9 Qp CV LH=>?_⟩;have Nb:=hb4.kt Gn;have EO:=hb4 _ _ Lo eD;have AN:(XD j).length=as.length:=WZ has;rw[Xi]at AN;have k5:KT H4 (upd H4 D (.lst (as.map i!++[.ref r]))):=aI EO;rw[<-xl Af]at A9;refine⟨_,EO,lbE (by lia),Ap,ao (qz hb4 sj LA) V4,as++[r],A',uAE,?_,aaF Qp k5 (λo e=>by rw[ai Lo.symm];exact e),λs i BE hs Bv hi x hx hh=>?_⟩
  .rw[List.range_succ];exact r! (v! (λ_ _ h=>h.mono (Nb.trans k5)) has) (.cons (A9.mono k5) .nil)
  .by_cases V':s=j
   .subst V';rw[Af]at Bv;cases Bv;exact LH i hi x hx hh
   .exact CV _ (LB s i BE (by lia) Bv hi x hx hh)
inductive i9(P:W5)(w:Xq)(K:WO)(vs:List V)(H:Hp)(Q:VK)(_E:XK):Prop
 |mk (b:WQ) (ins outs:List (Xp×Int)) (head:Th) (rows:List (List Th)):vs=[.ref b]->Bk H ins outs head rows b->FrK ins outs rows->db outs->(∀(fl:WQ)(fs:List WQ)(f':List (ay×V))(H':Hp),k! H H'->H' fl=A? (.lst (fs.map i!))->Xk (λs a=>AtK .i K H' ((frS ins rows s).cut (Dk f' (s:Nat)) []) a) (XD rows.length) fs->FrD ins rows (f'.map (·.1))->KeyM ins rows f'->Q (.ref fl) H')->i9 P w K vs H Q _E
theorem jd:aT P w K mg base CX0 8 T.g_39.f T.g_39.d ["book"] (i9 P w K):=by
 refine T.g_39.F.okA fV λAg A outer s0 H vs Q E hr h=>?_;obtain⟨b,ins,outs,head,rows,rfl,hB,F,go,k⟩:=h
 refine⟨_,(ad (fB (pcF T.g_38 (kI T) hr (aa (pv 0) ab)) (bx rfl (am (pgN 1 fV.nd) (am (pgN 2 fV.nd) aU))))
  (af (ax (pv 1)))),?_⟩
 try dsimp only[Av,Ad]
 refine⟨_,D?,b,ins,outs,head,rows,D?,hB,F,go,λr fl pt fs f' H1 s1 er CG C7 Nk hD hK=>?_⟩;exact⟨r,_,D?,n! er,D?,_,_,D?,_,_,D?,D?,_,D?,k fl fs f' H1 s1 CG C7 hD hK⟩
inductive tQ(K:WO)(vs:List V)(H:Hp)(Q:VK)(_E:XK):Prop
 |mk (rs:Rep) (a pl:WQ) (f t:Th) (as:List WQ):vs=[.ref a,.ref pl]->AtK .i K H f a->f.size<=100000->f.tall<=150->f.noCall->f.lies t=C?->(∀p∈f.hw [] t,p.2.size<=100000)->H pl=A? (.lst (as.map i!))->AtsK rs K H ((f.hw [] t).map (·.2)) as->(∀(r:WQ)(H':Hp),k! H H'->AtK rs K H' t r->Q (.ref r) H')->tQ K vs H Q _E
theorem yK:aT P w K mg base CX0 3 T.g_19.f T.g_19.d ["front","parts"] (tQ K):=by
 refine T.g_19.F.okA jb λAg A outer s H vs Q E hr h=>?_;obtain⟨rs,a,pl,f,t,ps,rfl,hA,hsz,Aw,D8,hl,Wa,Iu,Bt,k⟩:=h
 refine⟨_,(ad (aj 2 jb.nd (bp ab))
  (ad (aj 3 jb.nd ag)
  (ad (bq Xr rfl (bQ (pcF T.g_3 (jR T) hr (aa (pv 0) ab))) (pgN 4 jb.nd) (af (bZ (bz (pcF T.g_10 (fZ T) hr (aa (pv 4) ab)) (λ_=>rfl)) (ad (aS (bT Xc Xv Xu aQ (pv 2) (aa (az (aa (aC bj (pv 1) (pv 3) (λ_ _=>rfl)) (aa ag ab))) ab)))
  (af (wV (i:=3) jb.nd rfl (Or.inl rfl) ag wt))) (af (aS (bT Xc Xv Xu aQ (pv 2) (aa (pcF T.g_16 (jE T) hr (aa (pv 4) ab)) ab)))))))
  (af (ax (pcF T.g_5 (ji T) hr (aa (pv 2) ab))))))),?_⟩
 try dsimp only[Av,Ad]
 obtain⟨hb1,hb2,hb3⟩:=uv [] hl;have Jr:=yc [] hl;generalize hW:(f.hw [] t).map (·.2)=W at Bt hb1 hb2;have Wb:W.length=aV f.walk:=by rw[<-hW,WM,hb3]
 have Wc:∀u∈W,u.size<=100000:=λu hu=>by
  rw[<-hW]at hu;obtain⟨p,hp,rfl⟩:=Xx.mp hu;exact Wa p hp
 have AU:ps.length=W.length:=Bt.length;refine⟨lnE rfl,λtl BU=>?_⟩;refine⟨_,D?,a,f,D?,hA.mono (dR BU),hsz,λwl ws H1 s1 KO KP hw=>?_⟩;have Ew:ws.length=f.walk.length:=hw.length;have Vh:=K! f;have KQ:k! H H1:=(ae BU _).trans s1;have O8:wl≠tl:=λz=>by rw[z,ac]at KO;cases KO
 have F8:pl≠tl:=λz=>by rw[z,BU]at Iu;cases Iu
 refine⟨wl,D?,⟨_,l! KP⟩,?_⟩
 refine cE (K:=K) (a:=wl) (xs:=ws.map i!) (λi Z H2=>Ex2 λc bs=>An6 (Z=[A? (.ref a),A? (.ref pl),A? (.ref tl),A? (.int (aV (f.walk.take i):Nat)),c]) (k! H H2) (H2 wl=A? (.lst (ws.map i!))) (AtsK .i K H2 f.walk ws) (H2 tl=A? (.lst (bs.map i!))) (Xk (TopAtK rs K H2) (be (f.walk.take i) W) bs))
  ⟨B?,[],rfl,KQ,KP,hw,s1 _ _ ac,.nil⟩ (λi Z H2 _⟨_,_,_,_,e,_,_,_⟩=>l! e) ?_ ?_
 .rintro i x Z H2 hx ⟨c,bs,rfl,s2,ER,Ic,BS,Ah⟩;obtain⟨xa,rfl,Ie⟩:=aG hx;obtain⟨tx,ES,Fv⟩:=Ic.get Ie;have El:tx∈f.walk:=WS ES;have KI:=vc f tx El;have AR:f.walk.take (i+1)=f.walk.take i++[tx]:=by rw[XU,ES];rfl
  have AV:bs.length<=100000:=by
   have:=WZ Ah;rw[gM,XF]at this;lia
  refine⟨_,D?,xa,tx,D?,Fv,by lia,_,D?,?_⟩
  have push:∀(H3:Hp)(p:WQ)(tp:Top)(nx:Nat),k! H2 H3->TopAtK rs K H3 tp p->be (f.walk.take (i+1)) W=be (f.walk.take i) W++[tp]->aV (f.walk.take (i+1))=nx->Ex2 λc F5=>An6 (([A? (.ref a),A? (.ref pl),A? (.ref tl),A? (.int (nx:Nat)),A? (.ref xa)]:St)=[A? (.ref a),A? (.ref pl),A? (.ref tl),A? (.int (aV (f.walk.take (i+1)):Nat)),c]) (k! H (upd H3 tl (.lst (bs.map i!++[.ref p])))) ((upd H3 tl (.lst (bs.map i!++[.ref p]))) wl=A? (.lst (ws.map i!))) (AtsK .i K (upd H3 tl (.lst (bs.map i!++[.ref p]))) f.walk ws) ((upd H3 tl (.lst (bs.map i!++[.ref p]))) tl=A? (.lst (F5.map i!))) (Xk (TopAtK rs K (upd H3 tl (.lst (bs.map i!++[.ref p])))) (be (f.walk.take (i+1)) W) F5):=by
   intro H3 p tp nx s3 hp e1 e2;have k3:KT H3 (upd H3 tl (.lst (bs.map i!++[.ref p]))):=aI (s3 _ _ BS);refine⟨_,bs++[p],by rw[e2],ao (s2.trans s3) BU,by rw[ai O8];exact s3 _ _ ER,Ic.mono ((j! s3).trans k3),uAE,?_⟩;rw[e1];exact r! (dq ((j! s3).trans k3) Ah) (.cons (hp.mono k3) .nil)
  refine cy (λch=>?_) (λch=>?_)
  .have Ft:aV (f.walk.take (i+1))=aV (f.walk.take i)+1:=by
    rw[AR,dD];show _+(List.filter G! [tx]).length=_;rw[X1,b! ch];rfl
   have Ai:aV (f.walk.take i)<W.length:=by
    rw[Wb];have h1:aV f.walk=aV (f.walk.take (i+1))+aV (f.walk.drop (i+1)):=by rw[<-dD,YV]
    lia
   refine hid λZZ kZ=>?_;obtain⟨u,hu⟩:∃u,W[aV (f.walk.take i)]?=A? u:=⟨_,WR Ai⟩;obtain⟨ua,Dw,E1⟩:=Bt.at hu;refine kZ ?_
   have FO:be (f.walk.take (i+1)) W=be (f.walk.take i) W++[.th u]:=by
    rw[AR,cF];congr 1;rw[be,b! ch,be,List.headD_eq_head?_getD,List.head?_drop,hu];rfl
   have DD:H2 pl=A? (.lst (ps.map i!)):=s2 _ _ Iu;refine⟨_,D?,.inl ⟨D?,_,l! BS⟩,_,D?,_,D?,pl,_,_,.ref ua,D?,D?,l! DD,at_nonneg (by lia) (by rw[Xy,WY,Dw];rfl),lnE rfl,λp hp=>?_⟩;have s3:k! H2 (upd H2 p (.tup [.ref ua,.int 0])):=ae hp _;refine⟨tl,_,_,D?,D?,s3 _ _ BS,lbE (by lia),?_⟩;refine⟨_,D?,_,_,D?,D?,?_⟩;exact push _ p (.th u) (aV (f.walk.take i)+1) s3 ⟨ua,ac,E1.mono (j! (s2.trans s3))⟩ FO Ft
  .have Aq:tx.isHole=false:=YA.mpr ch
   have Ft:aV (f.walk.take (i+1))=aV (f.walk.take i):=by
    rw[AR,dD];show _+(List.filter G! [tx]).length=_;rw[X1,a! (by rw[Aq];exact W6)];rfl
   have FO:be (f.walk.take (i+1)) W=be (f.walk.take i) W++[.nm tx.name tx.wid]:=by
    rw[AR,cF];congr 1;rw[be,a! (by rw[Aq];exact W6),be]
   have LI:=jX f D8 tx El;cases tx with
   |call sn kn=>rw[u!]at LI;exact LI.elim
   |knot nm us =>
   refine⟨_,D?,.inl ⟨D?,_,l! BS⟩,_,D?,xa,nm,us,D?,Fv,λp H3 s3 hp=>?_⟩;refine⟨tl,_,_,D?,D?,s3 _ _ BS,lbE (by lia),?_⟩;exact push _ p (.nm nm us.length) (aV (f.walk.take i)) s3 hp FO Ft
 .rintro Z H2 ⟨c,bs,rfl,s2,ER,Ic,BS,Ah⟩;rw[WM,Ew,Yo]at Ah;refine⟨_,D?,tl,bs,_,t,D?,BS,Ah,by rw[gM];lia,hb2,?_,hb1,λr H3 s3 Ig=>k r H3 (s2.trans s3) Ig⟩;intro u hu;rcases iY _ _ _ hu with h|h
  .exact Wc u h
  .rw[h,eG];lia
inductive iW(vs:List V)(H:Hp)(Q:VK)(_E:XK):Prop
 |mk (i:Int):vs=[.int i]->Q (.bl C?) H->iW  vs H Q _E
theorem oF:aT P w K mg base CX0 1 T.g_0.f T.g_0.d ["thing"] iW:=by
 refine T.g_0.F.okA o6 λAg A outer s H vs Q E hr h=>?_;obtain⟨i,rfl,k⟩:=h;refine⟨_,(af (ax (gI (aA (mZ (T:="int")) rfl T.n_4 PyProof.Rows.boot_isinstance (aa (pv 0) (aa (ut (v:=.ty "int") rfl T.n_3 PyProof.Rows.boot_int rfl) ab))) (jF (rS (aA (mZ (T:="bool")) rfl T.n_4 PyProof.Rows.boot_isinstance (aa (pv 0) (aa (ut (v:=.ty "bool") rfl T.n_0 PyProof.Rows.boot_bool rfl) ab)))))))),?_⟩
 try dsimp only[Av,Ad]
 refine⟨_,D?,_,_,_,D?,.int i,zP,_,D?,?_⟩;refine sg ?_;exact⟨_,D?,_,_,_,D?,.int i,zU,_,D?,k⟩
inductive jW(vs:List V)(H:Hp)(Q:VK)(_E:XK):Prop
 |mk (i b:Int):vs=[.int i,.int b]->Q (.bl (decide (0<=i/\i<b))) H->jW  vs H Q _E
theorem qi:aT P w K mg base CX0 2 T.g_1.f T.g_1.d ["number","bound"] jW:=by
 refine T.g_1.F.okA qh λAg A outer s H vs Q E hr h=>?_;obtain⟨i,b,rfl,k⟩:=h;refine⟨_,(af (ax (gI (pcF T.g_0 (oF T) hr (aa (pv 0) ab)) (jF (ww tV li ag (pv 0) (pv 1)))))),?_⟩
 try dsimp only[Av,Ad]
 refine⟨_,D?,i,D?,_,D?,?_⟩;refine sg ?_;refine⟨_,D?,_,_,D?,D?,_,D?,?_⟩;refine cy (λc=>?_) (λc=>?_)
 .have c':0<=i:=e! c;refine⟨_,D?,_,_,D?,D?,?_⟩;have e:decide (0<=i/\i<b)=decide (i<b):=by simp[c']
  rw[e]at k;exact k
 .have c':¬0<=i:=λz=>c (d! z);have e:decide (0<=i/\i<b)=false:=by simp[c']
  rw[e]at k;exact k
inductive nC(K:WO)(vs:List V)(H:Hp)(Q:VK)(_E:XK):Prop
 |mk {rq:Rep} (a:WQ) (t u:Th) (i:Int):vs=[.ref a,.int i]->AtK rq K H t a->0<=i->t.kids[i.toNat]?=A? u->(∀(b:WQ)(H':Hp),k! H H'->AtK rq K H' u b->Q (.ref b) H')->nC K vs H Q _E
theorem uX:aT P w K mg base CX0 3 T.g_7.f T.g_7.d ["thing","number"] (nC K):=by
 refine T.g_7.F.okA nX λAg A outer s H vs Q E hr h=>?_;obtain⟨a,t,u,i,rfl,hA,h0,hu,k⟩:=h
 refine⟨_,(ad (aj 2 nX.nd (pcF T.g_2 (eO T) hr (aa (pv 0) ab)))
  (ad (bZ (rM (bz (pcF T.g_1 (qi T) hr (aa (pv 1) (aa (aA aw rfl T.n_5 XE (aa (pv 2) ab)) ab))) (λ_=>rfl))) (af l5) bB)
  (af (ax (aC aF (pv 2) (pv 1) (λ_ _=>rfl)))))),?_⟩
 try dsimp only[Av,Ad]
 refine⟨_,D?,a,t,D?,hA,λr as H1 s1 er Df=>?_⟩;have hl:as.length=t.kids.length:=Df.length;have hi:i.toNat<t.kids.length:=(glE hu);refine⟨_,D?,_,D?,r,_,D?,.inr (n! er),i,_,D?,_,D?,?_⟩;refine cy (λc=>?_) (λc=>?_)
 .exfalso;rw[WM,hl]at c;have:decide (0<=i/\i<(t.kids.length:Int))=true:=d! ⟨h0,by lia⟩;rw[this]at c;cases c
 .obtain⟨b,hb,Wd⟩:=Df.at hu;exact⟨_,D?,_,D?,r,_,i,.ref b,D?,D?,n! er,at_nonneg h0 (gmE hb),k b H1 s1 Wd⟩
inductive iF(K:WO)(vs:List V)(H:Hp)(Q:VK)(_E:XK):Prop
 |mk {rq:Rep} (a pa:WQ) (t u:Th) (p:List Int):vs=[.ref a,.ref pa]->AtK rq K H t a->H pa=A? (.tup (p.map q!))->t.sub p=A? u->(∀(b:WQ)(H':Hp),k! H H'->AtK rq K H' u b->Q (.ref b) H')->iF K vs H Q _E
theorem rT:aT P w K mg base CX0 4 T.g_8.f T.g_8.d ["tree","place"] (iF K):=by
 refine T.g_8.F.okA fQ λAg A outer s H vs Q E hr h=>?_;obtain@⟨rq,a,pa,t,u,p,rfl,hA,hp,hu,k⟩:=h
 refine⟨_,(ad (aj 2 fQ.nd (pv 0))
  (ad (bq Xr rfl (di (pv 1)) (pgN 3 fQ.nd) (af (aj 2 fQ.nd (pcF T.g_7 (uX T) hr (aa (pv 2) (aa (pv 3) ab))))))
  (af (ax (pv 2))))),?_⟩
 try dsimp only[Av,Ad]
 refine⟨_,D?,?_⟩;refine⟨_,D?,pa,D?,⟨_,n! hp⟩,?_⟩
 refine oG (K:=K) (a:=pa) (xs:=p.map q!) (λi Z H2=>Ex3 λb c v=>An4 (Z=[A? (.ref a),A? (.ref pa),A? (.ref b),c]) (k! H H2) (AtK rq K H2 v b) (v.sub (p.drop i)=A? u))
  ⟨a,B?,t,rfl,.refl _,hA,by rw[Z6];exact hu⟩ (λi Z H2 _⟨_,_,_,_,s2,_,_⟩=>n! (s2 _ _ hp)) ?_ ?_
 .rintro i x Z H2 hx ⟨b,c,v,rfl,s2,hb,hv⟩;rw[WY]at hx;obtain⟨n,hn,rfl⟩:=XM.mp hx;have hi:i<p.length:=(glE hn)
  have hd:p.drop i=n::p.drop (i+1):=by
   rw[ZK hi];congr 1;rw[WR hi]at hn;exact Xn hn
  rw[hd,Th.sub]at hv;split at hv
  .rename_i h0
   split at hv
   .rename_i v' Bj
    refine⟨_,D?,_,D?,b,v,v',n,D?,hb,h0,Bj,λb' H3 s3 AB=>?_⟩;exact⟨b',_,v',D?,s2.trans s3,AB,hv⟩
   .cases hv
  .cases hv
 .rintro Z H2 ⟨b,c,v,rfl,s2,hb,hv⟩;rw[WM,List.drop_length,fb]at hv;cases hv;exact⟨_,D?,k b H2 s2 hb⟩
def mf(k c:Int):List (Xp×V):=[("met_knots",.int k),("met_calls",.int c)]
theorem mkc:¬(("met_knots":Xp)="met_calls"):=by decide +kernel
theorem abE:¬(("met_calls":Xp)="met_knots"):=by decide +kernel
theorem xO:dN "met_knots" (.int 0) []=[(("met_knots":Xp),q! 0)]:=rfl
theorem xS:dN "met_calls" (.int 0) [(("met_knots":Xp),q! 0)]=mf 0 0:=by
 unfold mf;rw[dN,a! mkc,dN]
theorem xN(k c z:Int):dN "met_knots" (.int z) (mf k c)=mf z c:=by
 unfold mf;rw[dN,b! rfl]
theorem yh(k c z:Int):dN "met_calls" (.int z) (mf k c)=mf k z:=by
 unfold mf;rw[dN,a! mkc,dN,b! rfl]
theorem aax(k c:Int):(mf k c).lookup ("met_knots":Xp)=A? (q! k):=by
 unfold mf;have hb:(("met_knots":Xp) == "met_knots")=true:=beq_iff_eq.mpr rfl;simp only[ZT,hb]
theorem aa2(k c:Int):(mf k c).lookup ("met_calls":Xp)=A? (q! c):=by
 unfold mf;have hb:(("met_calls":Xp) == "met_calls")=true:=beq_iff_eq.mpr rfl;have hc:(("met_calls":Xp) == "met_knots")=false:=beq_eq_false_iff_ne.mpr abE;simp only[ZT,hb,hc]
theorem aaH{m:Xp}(k c:Int)(h1:(m == ("met_knots":Xp))=Cf)(h2:(m == ("met_calls":Xp))=Cf):(mf k c).lookup m=none:=by
 unfold mf;simp only[ZT,h1,h2]
theorem vS(k c:Int):(mf k c).length<1000:=by show 2<1000;decide
inductive gg(C:WQ)(vs:List V)(H:Hp)(Q:VK)(_E:XK):Prop
 |mk (x dx:WQ):vs=[.ref x]->H x=A? (.ins C dx [])->(∀H':Hp,(∀b o,b≠x->H b=A? o->H' b=A? o)->H' x=A? (.ins C dx (mf 0 0))->Q .non H')->gg C vs H Q _E
theorem kH:aT P w K mg base CX0 1 T.g_23.f T.g_23.d ["self"] (gg T.e_Measure):=by
 refine T.g_23.F.okA kD λAg A outer s H vs Q E hr h=>?_;obtain⟨x,dx,rfl,ex,q⟩:=h
 refine⟨_,(ad (wn (pv 0) ag rfl)
  (af (wn (pv 0) ag rfl))),?_⟩
 try dsimp only[Av,Ad]
 refine⟨_,D?,x,T.e_Measure,dx,_,D?,ex,T.cl_Measure,T.na_Measure_met_knots,(by show 0<1000;decide),?_⟩;refine⟨_,D?,x,T.e_Measure,dx,_,D?,ac,T.cl_Measure,T.na_Measure_met_calls,(by show 1<1000;decide),?_⟩;refine q _ (λb o hb e=>?_) ?_
 .rw[ai hb,ai hb];exact e
 .rw[ac,xO,xS]
inductive fJ(K:WO)(C:WQ)(vs:List V)(H:Hp)(Q:VK)(_E:XK):Prop
 |mk {rq:Rep} (x dx pa:WQ) (k c row:Int) (t:Th):vs=[.ref x,.ref pa,.int row]->H x=A? (.ins C dx (mf k c))->AtK rq K H t pa->(∀(k' c':Int)(H':Hp),k'=(if t.isCall=C? then k else k+1)->c'=(if t.isCall=C? then c+1 else c)->(∀b o,b≠x->H b=A? o->H' b=A? o)->H' x=A? (.ins C dx (mf k' c'))->Q (.bl (decide (row<=20/\k'<=400/\c'<=200))) H')->fJ K C vs H Q _E
theorem jB:aT P w K mg base CX0 2 T.g_24.f T.g_24.d ["self","part","row"] (fJ K T.e_Measure):=by
 refine T.g_24.F.okA jK λAg A outer s H vs Q E hr h=>?_;obtain@⟨rq,x,dx,pa,k,c,row,t,rfl,ex,hA,q⟩:=h
 refine⟨_,(ad (bZ (bz (pcF T.g_9 (eX T) hr (aa (pv 1) ab)) (λ_=>rfl)) (af (nu (pv 0) ag vI)) (af (nu (pv 0) ag vI)))
  (af (ax (gI (dB tV (pv 2) (cH (v:=.int (20)) rfl T.c_MOST_ROWS.choose_spec ⟨_,D?⟩) (aZ _)) (gI (dB tV (vK (pv 0) rfl) (cH (v:=.int (400)) rfl T.c_MOST_KNOTS.choose_spec ⟨_,D?⟩) (aZ _)) (jF (dB tV (vK (pv 0) rfl) (cH (v:=.int (200)) rfl T.c_MOST_CALLS.choose_spec ⟨_,D?⟩) (aZ _)))))))),?_⟩
 try dsimp only[Av,Ad]
 refine cr (λAb H'=>Ex2 λ(k' c':Int)=>An5 (k'=(if t.isCall=C? then k else k+1)) (c'=(if t.isCall=C? then c+1 else c)) ((∀b o,b≠x->H b=A? o->H' b=A? o)) (H' x=A? (.ins T.e_Measure dx (mf k' c'))) (Ab=[A? (.ref x),A? (.ref pa),A? (.int row)])) (λkk hk=>?_) ?_
 .refine cA (λb H'=>An2 (H=H') (b=t.isCall)) (λk2 By=>?_) (λH' hb=>?_) (λH' hb=>?_)
  .exact⟨_,D?,pa,t,D?,hA,_,D?,By _ _ ⟨D?,D?⟩⟩
  .obtain⟨rfl,hb⟩:=hb;refine⟨_,D?,x,T.e_Measure,dx,_,_,D?,ex,T.cl_Measure,T.na_Measure_met_calls,aa2 k c,c,1,D?,D?,dx,_,ex,vS k c,?_⟩;exact hk _ _ ⟨k,c+1,by rw[b! hb.symm],by rw[b! hb.symm],λb o hb e=>by rw[ai hb];exact e,by rw[ac,yh],rfl⟩
  .obtain⟨rfl,hb⟩:=hb;have AB:¬t.isCall=true:=λz=>by rw[<-hb]at z;cases z
   refine⟨_,D?,x,T.e_Measure,dx,_,_,D?,ex,T.cl_Measure,T.na_Measure_met_knots,aax k c,k,1,D?,D?,dx,_,ex,vS k c,?_⟩;exact hk _ _ ⟨k+1,c,by rw[a! AB],by rw[a! AB],λb o hb e=>by rw[ai hb];exact e,by rw[ac,xN],rfl⟩
 rintro Ab H' ⟨k',c',Bb,AQ,hs,MI,rfl⟩;have q':=q k' c' H' Bb AQ hs MI;clear q;refine⟨_,D?,_,_,D?,D?,?_⟩;refine⟨_,D?,?_⟩;by_cases c1:row<=20
 .rw[b! (d! c1)];refine⟨_,D?,x,T.e_Measure,dx,_,_,D?,MI,T.cl_Measure,T.na_Measure_met_knots,aax k' c',_,_,D?,D?,_,D?,?_⟩;by_cases c2:k'<=400
  .rw[b! (d! c2)];refine⟨_,D?,x,T.e_Measure,dx,_,_,D?,MI,T.cl_Measure,T.na_Measure_met_calls,aa2 k' c',_,_,D?,D?,?_⟩;have e:decide (row<=20/\k'<=400/\c'<=200)=decide (c'<=200):=by simp[c1,c2]
   rw[e]at q';exact q'
  .rw[a! (λz=>c2 (e! z))];rw[c! (λz=>c2 z.2.1)]at q';exact q'
 .rw[a! (λz=>c1 (e! z))];rw[c! (λz=>c1 z.1)]at q';exact q'
instance (t:Th):Decidable (Small t):=decidable_of_iff (t.tall<=20/\t.kn<=400/\cnT t<=200) ⟨λh=>⟨h.1,h.2.1,h.2.2⟩,λh=>⟨h.1,h.2,h.3⟩⟩
theorem xi(h:ts≠[]):∃t∈ts,aJ ts=t.tall:=by
 induction ts with
 |nil=>exact g! rfl h
 | cons x ts ih =>
   rw[aJ];by_cases hz:ts=[]
   .subst hz;exact⟨x,Xh ..,by rw[aJ];lia⟩
   .obtain⟨t,ht,e⟩:=ih hz;by_cases hc:aJ ts<=x.tall
    .exact⟨x,Xh ..,by lia⟩
    .exact⟨t,Xe _ ht,by lia⟩
def RwAt(rq:Rep)(K:WO)(H:Hp)(e:Th×Int)(p:WQ):Prop:=∃ta,H p=A? (.tup [.ref ta,.int e.2])/\AtK rq K H e.1 ta
theorem RwAt.mono(k:KT H H'){e:Th×Int}(h:RwAt rq K H e p):RwAt rq K H' e p:=by
 obtain⟨ta,h1,h2⟩:=h;exact⟨ta,k _ _ h1,h2.mono k⟩
inductive kl(K:WO)(vs:List V)(H:Hp)(Q:VK)(_E:XK):Prop
 |mk {rq:Rep} (a:WQ) (t:Th):vs=[.ref a]->AtK rq K H t a->t.size<=100000->(∀H',k! H H'->Q (.bl (decide (Small t))) H')->kl K vs H Q _E
theorem pI:aT P w K mg base CX0 4 T.g_25.f T.g_25.d ["pattern"] (kl K):=by
 refine T.g_25.F.okA dI λAg A outer s H vs Q E hr h=>?_;obtain@⟨rq,a,t,rfl,hA,hsz,q⟩:=h
 refine⟨_,(ad (aj 1 dI.nd (wb ⟨T.mi_Measure.1,T.g_23.me.1,T.g_23.me.2,T.mi_Measure.2⟩ (kH T) (hr.mono (by first|decide|lia)) rfl T.x_Measure T.g_23.b .nil eS))
  (ad (aj 2 dI.nd (bp (aa (az (aa (pv 0) (aa ag ab))) ab)))
  (ad (dO Xr (bz (pv 2) (λ_=>rfl)) (ad (fB (jz Xc Zg Zf jt (pv 2)) (bx rfl (am (pgN 3 dI.nd) (am (pgN 4 dI.nd) aU))))
  (ad (bZ (rM (bz (yb (pv 1) T.cl_Measure T.g_24.me (jB T) (hr.mono (by first|decide|lia)) T.g_24.b .nil eS (aa (pv 3) (aa (pv 4) ab))) (λ_=>rfl))) (af (ax xq)) bB)
  (af (aS (bT Xc ZX ZW gS (pv 2) (aa (bH (N:=["kid","row"]) (js:=[B?,A? 4]) (g:=(ak 0)) (tt:=bi) (te:=(iz (aD (aR 0) (aD (tOp (rI0 λi j=>.int (i+j)) (aR 1) (tC (.int 1))) bY)))) rfl (bU rfl (by decide +kernel) (by decide +kernel) rfl rfl rfl) (di (pcF T.g_2 (eO T) hr (aa (pv 3) ab))) (λ_ _ _ _ _ _=>(pgN 0 abb)) (aH rfl) (λ_ _ _ _ _ _=>bt) (λ_ _ _ _ _ _=>(az (aa (pv 0) (aa (aB dk (pv 1) ag) ab))))) ab)))))))
  (af (ax xq))))),?_⟩
 try dsimp only[Av,Ad]
 intro mo dx Np We Aq;refine⟨mo,dx,D?,ac,λH1 k1 SS=>⟨D?,?_⟩⟩
 have s0:k! H (upd (upd H dx (.own mo)) mo (.ins T.e_Measure dx [])):=λb o e=>by
  rw[ai (av e Np),ai (av e We)];exact e
 have s1:k! H H1:=λb o e=>k1 b o (av e Np) (s0 b o e);refine⟨_,D?,lnE rfl,λp0 FY=>?_⟩;dsimp only[ak];refine gU FY λH2 s2 e2=>?_;refine⟨lnE rfl,λah BK=>?_⟩;have s3:k! H2 (upd H2 ah (.lst [.ref p0])):=ae BK _;have e3:(upd H2 ah (.lst [.ref p0])) ah=A? (.lst (([p0]:List WQ).map i!)):=ac;have LJ:H ah=none:=(s1.trans s2).free BK;have IH:mo≠ah:=λz=>by rw[<-z,s2 _ _ SS]at BK;cases BK
 generalize(upd H2 ah (.lst [.ref p0]))=H3 at s3 e3 |-;have En:=s2.trans s3;refine⟨λm Z H4=>Ex6 λ(ps:List WQ)(As:List (Th×Int))(k c:Int)(pv rv:Option V)=>aak (Z=[A? (.ref a),A? (.ref mo),A? (.ref ah),pv,rv]) (k! H H4) (H4 ah=A? (.lst (ps.map i!))) (Xk (RwAt rq K H4) As ps) (H4 mo=A? (.ins T.e_Measure dx (mf k c))) (k+(kns (As.map (·.1)):Int)=(t.kn:Int)) (c+(cM (As.map (·.1)):Int)=(cnT t:Int)) (k<=400) (c<=200) ((∀e∈As,e.2+(e.1.tall:Int)<=(t.tall:Int)+1)) (((t.tall:Int)<=20\/∃e∈As,(t.tall:Int)+1<=e.2+(e.1.tall:Int))) (aq (As.map (·.1))<=100000) (m=aq (As.map (·.1))),⟨_,[p0],[(t,1)],0,0,B?,B?,D?,s1.trans En,e3,.cons ⟨a,s3 _ _ e2,hA.mono (j! (s1.trans En))⟩ .nil,En _ _ SS,?_,?_,by decide,by decide,?_,?_,?_,D?⟩,?_⟩
 .show(0:Int)+((kns [t]:Nat):Int)=_;rw[kns,kns];lia
 .show(0:Int)+((cM [t]:Nat):Int)=_;rw[cM,cM];lia
 .intro e he;rw[W9.mp he];show(1:Int)+(t.tall:Int)<=_;lia
 .exact .inr ⟨(t,1),Xh ..,by show _<=(1:Int)+(t.tall:Int);lia⟩
 .show aq [t]<=100000;rw[aq,aq];lia
 rintro m Z H4 ⟨ps,As,k,c,pv,rv,rfl,s4,e4,SU,em,hk,hc,hk4,B5,hle,M8,SV,rfl⟩;refine⟨_,D?,_,.inl ⟨_,l! e4,D?⟩,?_⟩;refine cy (λcc=>?_) (λcc=>?_)
 .refine⟨λAb H'=>∃m',m'<aq (As.map (·.1))/\Ex6 λ(ps:List WQ)(As:List (Th×Int))(k c:Int)(pv rv:Option V)=>aak (Ab=[A? (.ref a),A? (.ref mo),A? (.ref ah),pv,rv]) (k! H H') (H' ah=A? (.lst (ps.map i!))) (Xk (RwAt rq K H') As ps) (H' mo=A? (.ins T.e_Measure dx (mf k c))) (k+(kns (As.map (·.1)):Int)=(t.kn:Int)) (c+(cM (As.map (·.1)):Int)=(cnT t:Int)) (k<=400) (c<=200) ((∀e∈As,e.2+(e.1.tall:Int)<=(t.tall:Int)+1)) (((t.tall:Int)<=20\/∃e∈As,(t.tall:Int)+1<=e.2+(e.1.tall:Int))) (aq (As.map (·.1))<=100000) (m'=aq (As.map (·.1))),λAb H' h=>h,?_⟩;have Bg:ps≠[]:=by intro z;subst z;simp at cc
  refine hid λZZ kZ=>?_;obtain⟨DE,b,rfl⟩:∃DE b,ps=DE++[b]:=⟨ps.dropLast,ps.getLast Bg,(Y1 Bg).symm⟩;obtain⟨Us,⟨x,r⟩,rfl,SW,ta,eb,hx⟩:=P2.snoc_inv SU;refine kZ ?_;have LK:(Us++[(x,r)]).map (·.1)=Us.map (·.1)++[x]:=by rw[Xa];rfl
  rw[LK]at hk hc SV;rw[mr,kns,kns,yU]at hk;rw[ko,cM,cM,yX]at hc;rw[bF,aq,aq,x.size_eq]at SV;have Wf:=hle (x,r) (XH _ (Xh ..));dsimp only at Wf;have KI:=x.tall_eq;refine⟨_,D?,.inl ⟨D?,_,l! e4⟩,ah,_,.ref b,D?,D?,e4,by simp,?_⟩;have d1:((DE++[b]).map i!).dropLast=DE.map i!:=by simp
  rw[d1];have k5:KT H4 (upd H4 ah (.lst (DE.map i!))):=aI e4;have s5:k! H (upd H4 ah (.lst (DE.map i!))):=ao s4 LJ;have e5:(upd H4 ah (.lst (DE.map i!))) ah=A? (.lst (DE.map i!)):=ac;have C8:(upd H4 ah (.lst (DE.map i!))) mo=A? (.ins T.e_Measure dx (mf k c)):=by rw[ai IH];exact em
  generalize(upd H4 ah (.lst (DE.map i!)))=H5 at k5 s5 e5 C8 |-;refine⟨b,_,D?,n! (k5 _ _ eb),D?,_,_,D?,_,_,D?,D?,?_⟩;dsimp only[ak];refine cr (λAb H6=>Ex2 λ(k' c':Int)=>An6 (k'=(if x.isCall=C? then k else k+1)) (c'=(if x.isCall=C? then c+1 else c)) ((∀b o,b≠mo->H5 b=A? o->H6 b=A? o)) (H6 mo=A? (.ins T.e_Measure dx (mf k' c'))) ((r<=20/\k'<=400/\c'<=200)) (Ab=[A? (.ref a),A? (.ref mo),A? (.ref ah),A? (.ref ta),A? (.int r)])) (λkk AO=>?_) ?_
  .refine cA (λbb H6=>Ex2 λ(k' c':Int)=>An5 (k'=(if x.isCall=C? then k else k+1)) (c'=(if x.isCall=C? then c+1 else c)) ((∀b o,b≠mo->H5 b=A? o->H6 b=A? o)) (H6 mo=A? (.ins T.e_Measure dx (mf k' c'))) (bb=!decide (r<=20/\k'<=400/\c'<=200))) (λk2 By=>?_) (λH6 hb=>?_) (λH6 hb=>?_)
   .refine⟨_,D?,mo,dx,_,D?,C8,aaH k c (by decide +kernel) (by decide +kernel),_,D?,_,D?,mo,dx,ta,k,c,r,x,D?,C8,hx.mono k5,λk' c' H6 h1 h2 h3 h4=>?_⟩;exact⟨_,D?,By _ _ ⟨k',c',h1,h2,h3,h4,D?⟩⟩
   .refine hid λZZ kZ=>?_;obtain⟨k',c',h1,h2,h3,h4,h5⟩:=hb;refine kZ ?_;have Dn:¬(r<=20/\k'<=400/\c'<=200):=λz=>by rw[d! z]at h5;cases h5
    have CM:decide (Small t)=false:=c! λz=>Dn (by
     obtain⟨z1,z2,z3⟩:=z;refine⟨by lia,?_,?_⟩
     .rw[h1];split at hk <;> split <;> first|lia|contradiction
     .rw[h2];split at hc <;> split <;> first|lia|contradiction)
    have s6:k! H H6:=λb o e=>h3 b o (av e Np) (s5 b o e);rw[CM]at q;exact q H6 s6
   .refine hid λZZ kZ=>?_;obtain⟨k',c',h1,h2,h3,h4,h5⟩:=hb;refine kZ ?_
    have HL:r<=20/\k'<=400/\c'<=200:=e! (by
     cases hd:decide (r<=20/\k'<=400/\c'<=200)with
     |true=>rfl
     |false=>rw[hd]at h5;cases h5)
    exact AO _ _ ⟨k',c',h1,h2,h3,h4,HL,rfl⟩
  rintro Ab H6 ⟨k',c',h1,h2,h3,h4,⟨Wg,Qq,Qr⟩,rfl⟩;have k6:KT H5 H6:=λb xs e=>h3 b _ (λz=>by rw[z,C8]at e;cases e) e;have s6:k! H H6:=λb o e=>h3 b o (av e Np) (s5 b o e);have e6:H6 ah=A? (.lst (DE.map i!)):=h3 _ _ IH.symm e5;have SX:=k5.trans k6;refine⟨_,D?,.inl ⟨D?,_,l! e6⟩,_,D?,ta,x,D?,hx.mono SX,λka B2 H7 s7 ek Df=>?_⟩;have BI:B2.length=x.kids.length:=Df.length;have hlz:=bI x.kids;refine⟨ka,D?,⟨_,n! ek⟩,cJ (F:=RwAt rq K) (xs:=B2.map i!) (x.kids.map λu=>(u,r+1)) (λH1 H2 z p kt h=>h.mono kt) (by rw[WM,WM];lia) (by rw[WM];lia) (λi Hx sx hi=>⟨_,_,n! (sx _ _ ek),WR hi⟩) (λHx sx=>⟨_,n! (sx _ _ ek),WV _⟩) (λi Hx x Hy sx hi hy=>⟨hy.1,hy.2 _ (n! (sx _ _ ek))⟩) (λi y z Hx R W' hy AG sx hR=>?_) (λD H8 bs hD s8 eD Bh=>?_)⟩
  .obtain⟨ua,rfl,Dw⟩:=aG hy;obtain⟨u,hu,E1⟩:=Df.get Dw;rw[WY,hu]at AG;cases AG;refine⟨_,D?,_,D?,_,_,D?,D?,lnE rfl,λp1 CB=>?_⟩;exact hR _ p1 (ae CB _) ⟨ua,ac,E1.mono (j! (sx.trans (ae CB _)))⟩
  have Sd:Us.length=DE.length:=WZ SW;have AV:(x.kids.map λu=>(u,r+1)).length=bs.length:=WZ Bh;rw[WM]at AV;have Se:=bI (Us.map (·.1));rw[WM]at Se;have Nq:=s7.trans s8;have e8:=Nq _ _ e6;refine⟨ah,D,_,_,D?,D?,e8,eD,ZS (bE (by rw[WM,WM];lia)),?_⟩;have k9:KT H8 (upd H8 ah (.lst (DE.map i!++bs.map i!))):=aI e8;have s9:k! H (upd H8 ah (.lst (DE.map i!++bs.map i!))):=ao (s6.trans Nq) LJ
  have Ld:(Us++x.kids.map λu=>(u,r+1)).map (·.1)=Us.map (·.1)++x.kids:=by
   rw[Xa,Y9];congr 1;exact List.map_id' _
  refine⟨aq ((Us++x.kids.map λu=>(u,r+1)).map (·.1)),?_,DE++bs,Us++(x.kids.map λu=>(u,r+1)),k',c',_,_,D?,s9,?_,?_,?_,?_,?_,Qq,Qr,?_,?_,?_,D?⟩
  .rw[Ld,LK,bF,bF,aq,aq,x.size_eq];lia
  .rw[ac,Xa]
  .exact r! (v! (λ_ _ e=>e.mono ((SX.trans (j! Nq)).trans k9)) SW) (v! (λ_ _ e=>e.mono k9) Bh)
  .rw[ai IH];exact Nq _ _ h4
  .rw[Ld,mr,h1];split at hk <;> split <;> first|lia|contradiction
  .rw[Ld,ko,h2];split at hc <;> split <;> first|lia|contradiction
  .intro e he;rcases Xz.mp he with he|he
   .exact hle e (XT _ he)
   .obtain⟨u,hu,rfl⟩:=Xx.mp he;have:=bL hu;dsimp only;lia
  .rcases M8 with h|⟨e,he,Qs⟩
   .exact .inl h
   .rcases Xz.mp he with he|he
    .exact .inr ⟨e,XT _ he,Qs⟩
    .rw[W9.mp he]at Qs;dsimp only at Qs;by_cases hz:x.kids=[]
     .rw[hz,aJ]at KI;exact .inl (by lia)
     .obtain⟨u,hu,eu⟩:=xi hz;exact .inr ⟨(u,r+1),XH _ (Xx.mpr ⟨u,hu,rfl⟩),by dsimp only;lia⟩
  .rw[Ld,bF];lia
 .have hz:ps=[]:=by
   cases ps with
   |nil=>rfl
   |cons y ys=>simp at cc
  subst hz;have B3:As=[]:=Yk.mp (WZ SU);subst B3;have Bb:k+((kns []:Nat):Int)=(t.kn:Int):=hk;have AQ:c+((cM []:Nat):Int)=(cnT t:Int):=hc;rw[kns]at Bb;rw[cM]at AQ
  have Wh:(t.tall:Int)<=20:=by
   rcases M8 with h|⟨e,he,_⟩
   .exact h
   .cases he
  have E2:decide (Small t)=true:=d! ⟨by lia,by lia,by lia⟩;rw[E2]at q;exact q H4 s4
inductive ir(K:WO)(vs:List V)(H:Hp)(Q:VK)(_E:XK):Prop
 |mk {rq:Rep} (a:WQ) (t:Th):vs=[.ref a]->AtK rq K H t a->t.size<=100000->Small t->(∀H',k! H H'->Q (.ref a) H')->ir K vs H Q _E
theorem lN:aT P w K mg base CX0 5 T.g_43.f T.g_43.d ["pattern"] (ir K):=by
 refine T.g_43.F.okA rP λAg A outer s H vs Q E hr h=>?_;obtain⟨a,t,rfl,hA,hsz,E2,q⟩:=h
 refine⟨_,(ad (bZ (rM (bz (pcF T.g_25 (pI T) hr (aa (pv 0) ab)) (λ_=>rfl))) (af l5) bB)
  (af (ax (pv 0)))),?_⟩
 try dsimp only[Av,Ad]
 refine⟨_,D?,a,t,D?,hA,hsz,λH1 s1=>⟨_,D?,?_⟩⟩;rw[d! E2];exact yv ⟨_,rfl,q H1 s1⟩
def CP(rq:Rep)(H:Hp)(c:Int×Int)(a:WQ):Prop:=∃v,H a=A? (.tup [v,.int c.2])/\StV rq H c.1 v
theorem CP.mono{rq:Rep}(k:KT H H'){c:Int×Int}(h:CP rq H c a):CP rq H' c a:=by
 obtain⟨v,h1,h2⟩:=h;exact⟨v,k _ _ h1,h2.mono k⟩
inductive i4(K:WO)(vs:List V)(H:Hp)(Q:VK)(_E:XK):Prop
 |mk {rq:Rep} (a:WQ) (t:Th):vs=[.ref a]->AtK rq K H t a->t.size<=100000->(∀(r:WQ)(as:List WQ)(H':Hp),k! H H'->H r=B?->H' r=A? (.lst (as.map i!))->Xk (CP rq H') (dW t) as->Q (.ref r) H')->i4 K vs H Q _E
theorem iT:aT P w K mg base CX0 3 T.g_14.f T.g_14.d ["pattern"] (i4 K):=by
 refine T.g_14.F.okA pi λAg A outer s H vs Q E hr h=>?_;obtain@⟨rq,a,t,rfl,hA,hsz,k⟩:=h;refine⟨_,(af (ax (bH (N:=["part"]) (js:=[B?]) (g:=(ak 0)) (tt:=(λZ H Q=>(cx (f9 K) [] E0 (aD (aR 0) bY)) Z H λx H1=>∃k,we K x H1 k/\Q k H1)) (te:=(cx (eh K) [] E0 (aD (aR 0) bY))) rfl (bU rfl (by decide +kernel) (by decide +kernel) rfl rfl rfl) (bQ (pcF T.g_3 (jR T) hr (aa (pv 0) ab))) (λ_ _ _ _ _ _=>(pgN 0 abk)) (aH rfl) (λ_ _ _ _ _ _=>gR (bz (pcF T.g_9 (eX T) hr (aa (pv 0) ab)) (λ_=>rfl))) (λ_ _ _ _ _ _=>(pcF T.g_12 (f7 T) hr (aa (pv 0) ab)))))),?_⟩
 try dsimp only[Av,Ad]
 refine⟨_,D?,a,t,D?,hA,hsz,λr as H1 s1 nr er Bt=>⟨r,D?,⟨_,l! er⟩,?_⟩⟩;have AN:as.length=t.walk.length:=Bt.length;have AU:=K! t;intro D hD;refine⟨as.length,λj H2=>An3 (j<=as.length) (k! H1 H2) (Ex1 λ(bs:List WQ)=>An2 (H2 D=A? (.lst (bs.map i!))) (Xk (CP rq H2) ((t.walk.take j).filterMap mW) bs)),⟨Xg _,ae hD _,[],ac,.nil⟩,?_⟩;rintro j H2 ⟨hj,s2,bs,eD,Ah⟩;by_cases Cd:j=as.length
 .left;refine⟨⟨_,l! (s2 _ _ er),by rw[WM,Cd];exact WV _⟩,?_⟩;have Aa:t.walk.take j=t.walk:=by rw[Cd,AN,Yo]
  rw[Aa]at Ah;exact k D bs H2 (s1.trans s2) (s1.free hD) eD Ah
 .right;have Ap:j<as.length:=by lia
  refine⟨Ap,⟨_,.ref as[j],l! (s2 _ _ er),by rw[WY,WR Ap];rfl⟩,?_⟩;rintro y H3 ⟨rfl,hv⟩;have Bj:=hv _ (l! (s2 _ _ er));obtain⟨ta,rfl,Bc⟩:=aG Bj;obtain⟨u,O7,e3⟩:=(Bt.mono (j! s2)).get Bc;have AR:t.walk.take (j+1)=t.walk.take j++[u]:=by rw[XU,O7];rfl
  have AV:bs.length<=j:=by
   have g1:=WZ Ah;have g2:=List.length_filterMap_le mW (t.walk.take j);rw[XF]at g2;lia
  refine⟨_,D?,ta,u,D?,e3,_,D?,?_⟩;cases u with
  | knot n ks =>
    refine yv ⟨Ap,s2,bs,eD,?_⟩;rw[AR,List.filterMap_append];show Xk (CP rq H3) ((t.walk.take j).filterMap mW++[]) bs;rw[XA];exact Ah
  | call sn kn =>
    refine sg ?_;refine⟨_,D?,ta,sn,kn,D?,e3,λca v AX Cr=>?_⟩;have s4:k! H3 (upd H3 ca (.tup [v,.int kn])):=ae Cr _;have EO:=s4 _ _ eD;refine⟨_,EO,lbE (by lia),Ap,ao (s2.trans s4) hD,bs++[ca],?_,?_⟩
    .rw[ac,Xa];rfl
    .have k5:KT (upd H3 ca (.tup [v,.int kn])) (upd (upd H3 ca (.tup [v,.int kn])) D (.lst (bs.map i!++[.ref ca]))):=aI EO;rw[AR,List.filterMap_append];refine r! (v! (λ_ _ e=>CP.mono ((j! s4).trans k5) e) Ah) (.cons ⟨v,k5 _ _ ac,AX.mono ((j! s4).trans k5)⟩ .nil)
def mE(x y k:Int):ay:=([Xo x,Xo y],Xo k)
theorem nJ{t:Th}{s k:Int}(h:x! s k∈t.walk):(s,k)∈dW t:=List.mem_filterMap.mpr ⟨_,h,rfl⟩
theorem vW{t:Th}{c:Int×Int}(h:c∈dW t):c.1∈stT t:=Xx.mpr ⟨c,h,rfl⟩
inductive jY(K:WO)(vs:List V)(H:Hp)(Q:VK)(_E:XK):Prop
 |mk (a nd:WQ) (t:Th) (g:Int->Int) (f':List (List Key×V)):vs=[.ref a,.ref nd]->AtK .p K H t a->t.size<=100000->H nd=A? (.dT f')->(∀x y,enc x y∈stT t->0<=x->0<=y->y<1000->aN f' [Xo x,Xo y]=A? (.int (g (enc x y))))->(∀(r:WQ)(H':Hp),k! H H'->AtK .i K H' (ren g t) r->Q (.ref r) H')->jY K vs H Q _E
theorem pJ:aT P w K mg base CX0 4 T.g_18.f T.g_18.d ["pattern","names"] (jY K):=by
 refine T.g_18.F.okA ff λAg A outer s H vs Q E hr h=>?_;obtain⟨a,nd,t,g,f',rfl,hA,hsz,Gp,D',k⟩:=h
 refine⟨_,(ad (aj 2 ff.nd (lR (fl:=C?)))
  (ad (bq Xr rfl (bQ (pcF T.g_14 (iT T) hr (aa (pv 0) ab))) (bx rfl (am (pgN 3 ff.nd) (am (pgN 4 ff.nd) aU))) (af (qJ (fl:=C?) (fU hr) (pv 2) (az (aa (pv 3) (aa (pv 4) ab))) (az (aa (cH (v:=.str (Xm "?")) rfl T.c_CALL_SIGN.choose_spec ⟨_,D?⟩) (aa (jl (gr hr) (pv 1) (pv 3) (λ_ _=>rfl)) (aa (pv 4) ab)))) rfl)))
  (af (ax (pcF T.g_17 (gZ T) hr (aa (pv 0) (aa (pv 2) ab))))))),?_⟩
 try dsimp only[Av,Ad]
 intro td H1 Ij s1 e1;dsimp only[ak];refine⟨_,D?,a,t,D?,hA.mono (j! s1),hsz,λr as H2 s2 nr er CK=>⟨r,D?,⟨_,l! er⟩,?_⟩⟩;have Bm:(dW t).length=as.length:=WZ CK
 have hcw:(dW t).length<=100000:=by
  have h1:=List.length_filterMap_le mW t.walk;have h2:=K! t;unfold dW;lia
 have LL:r≠td:=λz=>by
  obtain⟨_,_,_,φ,e,_⟩:=e1;rw[z,e]at nr;cases nr
 refine cE (K:=K) (a:=r) (xs:=as.map i!) (λi Z H3=>Ex3 λ(c3 c4:Option V)(tk:List (ay×V))=>An7 (Z=[A? (.ref a),A? (.ref nd),A? (.ref td),c3,c4]) (k! H H3) (H3 r=A? (.lst (as.map i!))) (Xk (CP .p H3) (dW t) as) (DM C? P w H3 td tk) (tk.length<=i) (∀c∈(dW t).take i,∀x y,c.1=enc x y->0<=y->y<1000->∃v,aN tk (mE x y c.2)=A? (.ref v)/\AtK .i K H3 (.call (g c.1) c.2) v))
  ⟨B?,B?,[],rfl,s1.trans s2,er,CK,e1.mono s2,WV _,λc hc=>by rw[ZC]at hc;cases hc⟩ (λi Z H3 _⟨_,_,_,_,_,e,_,_,_,_⟩=>l! e) ?_ ?_
 .rintro i x Z H3 hx ⟨c3,c4,tk,rfl,s3,JA,Cu,Qt,hlen,Aa⟩;refine hid λZZ kZ=>?_;obtain⟨ca,rfl,Cr⟩:=aG hx;obtain⟨⟨sn,kn⟩,hc,sv,LM,AX⟩:=y! Cu Cr;obtain⟨pa,x,y,rfl,Bu,FV,Fo,EM,FC⟩:=AX;refine kZ ?_;dsimp only at FV LM;subst FV;have CU:i<100000:=by have:=(glE hc);lia
  have hgs:=D' x y (vW (WS hc)) Fo EM FC;refine⟨ca,_,D?,n! LM,D?,_,_,D?,_,_,D?,D?,?_⟩;dsimp only[ak];have Qu:=s3 _ _ Gp;refine⟨_,D?,_,D?,nd,.int (g (enc x y)),D?,.inr ⟨f',[.inl x,.inl y],pa,.inl Qu,D?,Bu,hgs.symm⟩,_,D?,lnE rfl,λcv OO=>?_⟩;have s4:k! H3 (upd H3 cv (.tup [.str (Xm "?"),.int (g (enc x y)),.int kn])):=ae OO _;have e4:AtK .i K (upd H3 cv (.tup [.str (Xm "?"),.int (g (enc x y)),.int kn])) (.call (g (enc x y)) kn) cv:=by rw[AtK];exact⟨_,.of ac,D?⟩
  generalize(upd H3 cv (.tup [.str (Xm "?"),.int (g (enc x y)),.int kn]))=H4 at s4 e4 |-;refine⟨_,D?,_,D?,_,D?,lnE rfl,λkp Ct=>?_⟩;have s5:k! H4 (upd H4 kp (.tup [.ref pa,.int kn])):=ae Ct _;have e5:MKAt C? (upd H4 kp (.tup [.ref pa,.int kn])) (mE x y kn) kp:=⟨pa,ac,s5 _ _ (s4 _ _ Bu)⟩;generalize(upd H4 kp (.tup [.ref pa,.int kn]))=H5 at s5 e5 |-;have Fu:=s4.trans s5;have SY:=Qt.mono Fu;refine⟨td,kp,_,tk,D?,D?,SY,e5,bE (by lia),λH6 Qv KW=>?_⟩
  have k6:KT H5 H6:=λb xs e=>Qv b _ (λz=>by
   obtain⟨_,_,_,φ,e',_⟩:=SY;rw[z,e']at e;cases e) e
  have Nr:=(j! Fu).trans k6;refine⟨_,_,_,D?,λb o e=>Qv b o (av e Ij) ((s3.trans Fu) b o e),Qv _ _ LL (Fu _ _ JA),v! (λ_ _ e=>CP.mono Nr e) Cu,KW,?_,λc AQ x' y' Ea Gq Gr=>?_⟩
  .have:=bw tk (mE x y kn) (.ref cv);lia
  .rw[dM];by_cases Dh:mE x' y' c.2=mE x y kn
   .rw[b! Dh];unfold mE at Dh;injection Dh with h1 h2;injection h1 with h3 h4;injection h4 with h5 _;have e1:x'=x:=YL h3;have e2:y'=y:=YL h5;have e3:c.2=kn:=YL h2;exact⟨cv,D?,by rw[Ea,e1,e2,e3];exact(e4.mono (j! s5)).mono k6⟩
   .rw[a! Dh];rw[take_snoc hc]at AQ;rcases Xz.mp AQ with h|h
    .obtain⟨v,h1,h2⟩:=Aa c h x' y' Ea Gq Gr;exact⟨v,h1,h2.mono Nr⟩
    .refine g! ?_ Dh;rw[W9.mp h]at Ea |-;obtain⟨h1,h2⟩:=t9 Ea EM FC Gq Gr;rw[h1,h2]
 .rintro Z H3 ⟨c3,c4,tk,rfl,s3,JA,Cu,Qt,hlen,Aa⟩;rw[XZ (by rw[WM];lia)]at Aa;refine⟨_,D?,_,D?,.i,a,td,t,λs k=>.call (g s) k,D?,hA.mono (j! s3),hsz,λs' k' Bb=>?_,λr' H4 s4 h4=>k r' H4 (s3.trans s4) h4⟩;refine hid λZZ kZ=>?_;obtain⟨i',AF⟩:=Xj.mp (nJ Bb);obtain⟨_,_,_,_,_,x,y,_,_,FV,_,EM,FC⟩:=B! Cu AF;refine kZ ?_;dsimp only at FV;subst FV;obtain⟨v,h1,h2⟩:=Aa (enc x y,k') (nJ Bb) x y rfl EM FC;refine⟨v,h2,by rw[p!];decide,λH2 ca sv s2 Pa Cr=>?_⟩;refine hid λZZ kZ=>?_;obtain⟨pb,x',y',rfl,Pp,Ea,_,Gq,Gr⟩:=Pa;obtain⟨rfl,rfl⟩:=t9 Ea EM FC Gq Gr;refine kZ ?_;exact .inr ⟨C?,ca,mE x y k',tk,rfl,Qt.mono s2,⟨pb,Cr,Pp⟩,h1⟩
def kP(s:Int):List Key:=[Xo (s / 1000),Xo (s%1000)]
theorem vY{x y:Int}(h0:0<=y)(h1:y<1000):kP (enc x y)=[Xo x,Xo y]:=by
 unfold kP enc;rw[show(1000 * x+y) / 1000=x by lia,show(1000 * x+y)%1000=y by lia]
theorem wk{a b:Int}(h:kP a=kP b):a=b:=by
 unfold kP at h;injection h with h1 h2;injection h2 with h2 _;have e1:=YL h1;have e2:=YL h2;lia
def dl(m:List Int):List (List Key×V):=m.zipIdx.map λp=>(kP p.1,q! (p.2:Nat))
theorem i5(m:List Int):(dl m).length=m.length:=by unfold dl;rw[WM,List.length_zipIdx]
theorem nG(m:List Int)(s:Int):dl (m++[s])=dl m++[(kP s,q! (m.length:Nat))]:=by
 unfold dl;rw[List.zipIdx_append,Xa];simp
theorem lv:∀(m:List Int)(s:Int)(n:Nat),aN ((m.zipIdx n).map λp=>(kP p.1,q! (p.2:Nat))) (kP s)=if s∈m then A? (.int ((n+m.idxOf s:Nat):Int))else B?
 | [],s,n=>rfl
 | x::m,s,n=>by
   rw[List.zipIdx_cons,XB];by_cases h:x=s
   .subst h;rw[bP rfl,b! (Xh ..),List.idxOf_cons_self];rfl
   .rw[bM (λz=>h (wk z)),lv m s (n+1)];by_cases hm:s∈m
    .rw[b! hm,b! (Xe _ hm),List.idxOf_cons,(beq_eq_false_iff_ne.mpr h:(x == s)=Cf)];simp only[cond_false];have:n+1+m.idxOf s=n+(m.idxOf s+1):=by lia
     rw[this]
    .rw[a! hm,a! (λz=>(W8.mp z).elim (λy=>h y.symm) hm)]
theorem oS{s:Int}(h:s∈m):aN (dl m) (kP s)=A? (.int (idx m s)):=by
 unfold dl;rw[lv,b! h,Nat.zero_add];rfl
theorem qU{s:Int}(h:s∉m):aN (dl m) (kP s)=none:=by
 unfold dl;rw[lv,a! h]
inductive ip(K:WO)(vs:List V)(H:Hp)(Q:VK)(_E:XK):Prop
 |mk (a nd:WQ) (t:Th) (m:List Int):vs=[.ref a,.ref nd]->AtK .p K H t a->t.size<=100000->H nd=A? (.dT (dl m))->(bo m (stT t)).length<=20->(∀(r:WQ)(H':Hp),SameB nd H H'->H' nd=A? (.dT (dl (bo m (stT t))))->AtK .i K H' (ren (idx (bo m (stT t))) t) r->Q (.ref r) H')->ip K vs H Q _E
theorem lO:aT P w K mg base CX0 5 T.g_40.f T.g_40.d ["pattern","numbers"] (ip K):=by
 refine T.g_40.F.okA iu λAg A outer s H vs Q E hr h=>?_;obtain⟨a,nd,t,m,rfl,hA,hsz,Gp,h20,k⟩:=h
 refine⟨_,(ad (bq Xr rfl (bQ (pcF T.g_14 (iT T) hr (aa (pv 0) ab))) (bx rfl (am (pgN 2 iu.nd) (am (pgN 3 iu.nd) aU))) (af (aS (bT PySem.F.plainAttrs_dict Zp PySem.F.type_dict_setdefault (mO (gr hr)) (pv 1) (aa (pv 2) (aa (aA jw rfl T.n_5 XE (aa (pv 1) ab)) ab))))))
  (ad (bZ (bh qy (aA jw rfl T.n_5 XE (aa (pv 1) ab)) (cH (v:=.int (20)) rfl T.c_MOST_STATES.choose_spec ⟨_,D?⟩) (aZ _)) (af l5) bB)
  (af (ax (pcF T.g_18 (pJ T) hr (aa (pv 0) (aa (pv 1) ab))))))),?_⟩
 try dsimp only[Av,Ad]
 refine⟨_,D?,a,t,D?,hA,hsz,λr as H1 s1 nr er CK=>⟨r,D?,⟨_,l! er⟩,?_⟩⟩;have Bm:(dW t).length=as.length:=WZ CK;have Wi:r≠nd:=λz=>by rw[z,Gp]at nr;cases nr
 refine cE (K:=K) (a:=r) (xs:=as.map i!) (λi Z H3=>Ex2 λc2 c3=>An6 (Z=[A? (.ref a),A? (.ref nd),c2,c3]) (SameB nd H H3) (KT H H3) (H3 r=A? (.lst (as.map i!))) (Xk (CP .p H3) (dW t) as) (H3 nd=A? (.dT (dl (bo m ((stT t).take i))))))
  ⟨B?,B?,rfl,SameB.of s1,j! s1,er,CK,by rw[ZC];exact s1 _ _ Gp⟩ (λi Z H3 _⟨_,_,_,_,_,e,_,_⟩=>l! e) ?_ ?_
 .rintro i x Z H3 hx ⟨c2,c3,rfl,s3,k3,JA,Cu,E3⟩;refine hid λZZ kZ=>?_;obtain⟨ca,rfl,Cr⟩:=aG hx;obtain⟨⟨sn,kn⟩,hc,sv,LM,Qw⟩:=y! Cu Cr;obtain⟨pa,x,y,rfl,Bu,FV,Fo,EM,FC⟩:=Qw;refine kZ ?_;dsimp only at FV LM;have Ct:[Xo x,Xo y]=kP sn:=by rw[FV,vY EM FC]
  have AX:(stT t)[i]?=A? sn:=by unfold stT;rw[WY,hc];rfl
  have AR:bo m ((stT t).take (i+1))=gC (bo m ((stT t).take i)) sn:=by
   rw[take_snoc AX,cU];rfl
  have CV:(gC (bo m ((stT t).take i)) sn).length<=20:=by
   have h1:bo m (stT t)=bo (bo m ((stT t).take (i+1))) ((stT t).drop (i+1)):=by rw[<-cU,YV]
   have h2:=(eI ((stT t).drop (i+1)) (bo m ((stT t).take (i+1)))).length_le;rw[<-h1,AR]at h2;lia
  generalize bo m ((stT t).take i)=mi at E3 AR CV |-;have hmi:=(qk mi sn).length_le;refine⟨ca,_,D?,n! LM,D?,_,_,D?,_,_,D?,D?,?_⟩;dsimp only[ak];have hl:=i5 mi;refine⟨_,D?,.inr (.inr (.inl ⟨D?,.inr ⟨_,E3⟩⟩)),_,D?,_,D?,nd,_,D?,E3,nd,pa,.int ((dl mi).length:Nat),kP sn,dl mi,D?,D?,E3,by rw[<-Ct];exact Bu,bE (by lia),λu hu=>?_,λhu=>?_⟩
  .have B0:sn∈mi:=by
    by_cases h:sn∈mi
    .exact h
    .rw[qU h]at hu;cases hu
   refine⟨_,_,D?,s3,k3,JA,Cu,?_⟩;rw[AR];unfold gC;rw[b! B0];exact E3
  .have B0:sn∉mi:=λh=>by rw[oS h]at hu;cases hu
   have Qx:putK (dl mi) (kP sn) (.int ((dl mi).length:Nat))=dl (gC mi sn):=by
    rw[gF _ hu];unfold gC;rw[a! B0,nG,hl]
   rw[Qx];have k4:KT H3 (upd H3 nd (.dT (dl (gC mi sn)))):=λb xs e=>by rw[ai (cp e E3 (λz=>nomatch z))];exact e
   refine⟨_,_,D?,λb o hb e=>by rw[ai hb];exact s3 b o hb e,k3.trans k4,by rw[ai Wi];exact JA,v! (λ_ _ e=>CP.mono k4 e) Cu,by rw[ac,AR]⟩
 .rintro Z H3 ⟨c2,c3,rfl,s3,k3,JA,Cu,E3⟩;have Pb:(stT t).length=as.length:=by unfold stT;rw[WM];lia
  rw[XZ (by rw[WM];lia)]at E3;have hl:=i5 (bo m (stT t));dsimp only[nE];refine cr (λAb H'=>An2 (H3=H') (Ab=[A? (.ref a),A? (.ref nd),c2,c3])) (λkk hk=>?_) ?_
  .refine⟨_,D?,nd,_,D?,E3,_,_,D?,D?,_,D?,?_⟩;refine cy (λc=>?_) (λc=>hk _ _ ⟨rfl,rfl⟩);have:=e! c;lia
  rintro Ab H' ⟨rfl,rfl⟩;exact⟨_,D?,_,D?,a,nd,t,idx (bo m (stT t)),_,D?,hA.mono k3,hsz,E3,λx y hs _ EM FC=>by rw[<-vY EM FC];exact oS (eQ.mpr (.inr hs)),λr' H4 s4 h4=>k r' H4 (λb o hb e=>s4 _ _ (s3 b o hb e)) (s4 _ _ E3) h4⟩
def RowK(K:WO)(H:Hp)(ts:List Th)(a:WQ):Prop:=∃as:List WQ,H a=A? (.tup (as.map i!))/\AtsK .i K H ts as
theorem RowK.mono(k:KT H H')(h:RowK K H ts a):RowK K H' ts a:=by
 obtain⟨as,h1,h2⟩:=h;exact⟨as,k _ _ h1,h2.mono k⟩
inductive j6(P:W5)(w:Xq)(K:WO)(mg:Xp->Option WT)(base:Yh)(vs:List V)(H:Hp)(Q:VK)(_E:XK):Prop
 |mk (ia oa ha f:WQ) (head:Th) (R:Int->List Th) (Nt:Sp):vs=[.ref ia,.ref oa,.ref ha,.ref f]->AtK .p K H head ha->head.size<=1000->(bS R head).length<=20->(∀s∈bS R head,(R s).length<=8/\∀t∈R s,t.size<=1000)->yL P w K mg base CX0 8 f Nt->(∀(H1:Hp)(s:Int)(pa:WQ)(Z:VK),k! H H1->s∈bS R head->H1 pa=A? (.tup [.int (s / 1000),.int (s%1000)])->(∀(r:WQ)(as:List WQ)(H2:Hp),k! H1 H2->H2 r=A? (.lst (as.map i!))->AtsK .p K H2 (R s) as->Z (.ref r) H2)->Nt [.ref pa] H1 Z E0)->(∀(r fh rl:WQ)(C9:List WQ)(H':Hp),k! H H'->H' r=A? (.tup [.ref ia,.ref oa,.ref fh,.ref rl])->AtK .i K H' (ren (idx (bS R head)) head) fh->H' rl=A? (.tup (C9.map i!))->Xk (RowK K H') ((bS R head).map λs=>(R s).map (ren (idx (bS R head)))) C9->Q (.ref r) H')->j6 P w K mg base vs H Q _E
theorem jT(a b:List Th):bK (a++b)=bK a++bK b:=List.flatMap_append
theorem v8{s:Int}(h:m[i]?=A? s):(dl m)[i]?=A? (kP s,q! (i:Nat)):=by
 unfold dl;rw[WY,List.getElem?_zipIdx,h];simp
theorem qm:aT P w K mg base CX0 9 T.g_41.f T.g_41.d ["ins","outs","head","patterns_of"] (j6 P w K mg base):=by
 refine T.g_41.F.okA dJ λAg A outer s H vs Q E hr h=>?_;obtain⟨ia,oa,ha,f,head,R,Nt,rfl,hA,hsz,Gs,Nu,Wj,Qy,k⟩:=h
 refine⟨_,(ad (aj 4 dJ.nd gJ)
  (ad (aj 5 dJ.nd (pcF T.g_40 (lO T) hr (aa (pv 2) (aa (pv 4) ab))))
  (ad (aj 6 dJ.nd (bp ab))
  (ad (dO Xr (bh li (aA aw rfl T.n_5 XE (aa (pv 6) ab)) (aA jw rfl T.n_5 XE (aa (pv 4) ab)) (aZ _)) (ad (aj 7 dJ.nd (aC bj (bd (my rfl) rfl T.n_6 PyProof.Rows.boot_list (aa (pv 4) ab)) (aA aw rfl T.n_5 XE (aa (pv 6) ab)) (λ_ _=>rfl)))
  (af (aS (bT Xc Xv Xu aQ (pv 6) (aa (bd aP rfl T.n_11 XX (aa (bH (N:=["pattern","numbers"]) (js:=[B?,A? 4]) (g:=(ak 0)) (tt:=bi) (te:=(cx (ip K) [] E0 (aD (aR 0) (aD (aR 1) bY)))) rfl (bU rfl (by decide +kernel) (by decide +kernel) rfl rfl rfl) (zy (vp (k:=8) (i:=3) rfl (Or.inl rfl) (hr.mono (by first|decide|lia)) eS (aa (pv 7) ab))) (λ_ _ _ _ _ _=>(pgN 0 zc)) (aH rfl) (λ_ _ _ _ _ _=>bt) (λ_ _ _ _ _ _=>(pcF T.g_40 (lO T) hr (aa (pv 0) (aa (pv 1) ab))))) ab)) ab))))))
  (af (ax (az (aa (pv 0) (aa (pv 1) (aa (pv 5) (aa (bd aP rfl T.n_11 XX (aa (pv 6) ab)) ab))))))))))),?_⟩
 try dsimp only[Av,Ad]
 have E4:bo [] (stT head) <+: bS R head:=gX _ _ _ _;intro nd Eb;dsimp only[ak];refine gU Eb λH1 s1 e1=>?_;have e1:H1 nd=A? (.dT (dl [])):=e1;refine⟨_,D?,_,D?,ha,nd,head,[],D?,hA.mono (j! s1),by lia,e1,Xs E4.length_le Gs,λfh H2 DX S3 h2=>?_⟩;dsimp only[ak];have Qz:ren (idx (bo [] (stT head))) head=ren (idx (bS R head)) head:=r6 head λx hx=>(tY E4 (eQ.mpr (.inr hx))).symm;rw[Qz]at h2;have s2:k! H H2:=λb o e=>DX b o (av e Eb) (s1 b o e);refine⟨lnE rfl,λrl C3=>?_⟩;have s3:k! H2 (upd H2 rl (.lst [])):=ae C3 _;have e3:(upd H2 rl (.lst [])) rl=A? (.lst []):=ac;have QA:H rl=none:=s2.free C3;have G2:nd≠rl:=λz=>by rw[<-z,S3]at C3;cases C3
 generalize(upd H2 rl (.lst []))=H3 at s3 e3 |-
 refine⟨λmz Z H4=>Ex4 λ(i:Nat)(mm:List Int)(bs:List WQ)(tv:Option V)=>xg (Z=[A? (.ref ia),A? (.ref oa),A? (.ref ha),A? (.ref f),A? (.ref nd),A? (.ref fh),A? (.ref rl),tv]) (k! H H4) (H4 nd=A? (.dT (dl mm))) (H4 rl=A? (.lst (bs.map i!))) (Xk (RowK K H4) (((bS R head).take i).map λs=>(R s).map (ren (idx (bS R head)))) bs) (AtK .i K H4 (ren (idx (bS R head)) head) fh) (mm <+: bS R head) (bfs R (21 - i) mm i=bS R head) (i<=mm.length) (mz=21 - i),
  ⟨_,0,bo [] (stT head),[],B?,D?,s2.trans s3,s3 _ _ S3,e3,.nil,h2.mono (j! s3),E4,D?,Xg _,D?⟩,?_⟩
 rintro mz Z H4 ⟨i,mm,bs,tv,rfl,s4,QB,QC,Ah,G4,BA,Cv,hi,rfl⟩;have Nf:=BA.length_le
 have AV:bs.length=i:=by
  have:=WZ Ah;rw[WM,XF]at this;lia
 have Le:=i5 mm;refine⟨_,D?,rl,_,D?,.inl (l! QC),_,D?,nd,_,D?,QB,_,_,D?,D?,_,D?,?_⟩;refine cy (λcc=>?_) (λcc=>?_)
 .have Ai:i<mm.length:=by
   have:=e! cc;rw[WM]at this;lia
  refine⟨λAb H'=>∃m',m'<21 - i/\Ex4 λ(i:Nat)(mm:List Int)(bs:List WQ)(tv:Option V)=>xg (Ab=[A? (.ref ia),A? (.ref oa),A? (.ref ha),A? (.ref f),A? (.ref nd),A? (.ref fh),A? (.ref rl),tv]) (k! H H') (H' nd=A? (.dT (dl mm))) (H' rl=A? (.lst (bs.map i!))) (Xk (RowK K H') (((bS R head).take i).map λs=>(R s).map (ren (idx (bS R head)))) bs) (AtK .i K H' (ren (idx (bS R head)) head) fh) (mm <+: bS R head) (bfs R (21 - i) mm i=bS R head) (i<=mm.length) (m'=21 - i),λAb H' h=>h,?_⟩;obtain⟨sn,Dg⟩:∃sn,mm[i]?=A? sn:=⟨_,WR Ai⟩
  have E5:(bS R head)[i]?=A? sn:=by
   obtain⟨rr,E6⟩:=BA;rw[<-E6,X0 Ai];exact Dg
  have II:sn∈bS R head:=WS E5;refine⟨_,D?,nd,_,D?,QB,λl F5 hl QD=>?_⟩;obtain⟨pa,CD,QE⟩:=B! QD (v8 Dg);refine gU hl λH5 s5 e5=>?_;have QF:=s5 _ _ QC;have Wk:=s5 _ _ QB;have Nv:(bs.map i!).length=i:=by rw[WM];exact AV
  refine⟨_,D?,rl,_,D?,.inl (l! QF),l,_,_,.ref pa,D?,D?,l! e5,at_nonneg (by lia) (by rw[Nv,Xy,WY,CD];rfl),?_⟩;dsimp only[ak];refine⟨_,D?,.inl ⟨D?,_,l! QF⟩,f,Nt,D?,Wj,_,D?,Qy H5 sn pa _ (s4.trans s5) II (s5 _ _ QE) λr as H6 s6 Nw BV=>⟨r,D?,.inl ⟨⟨_,l! Nw⟩,?_⟩⟩⟩;obtain⟨E7,BY⟩:=Nu sn II;generalize Af:R sn=row at BV E7 BY;have AN:=BV.length
  have E8:bfs R (21 - i) mm i=bfs R (21 - (i+1)) (bo mm (bK row)) (i+1):=by
   rw[show 21 - i=(21 - (i+1))+1 by lia,bfs,Dg];show bfs R (21 - (i+1)) (bo mm (bK (R sn))) (i+1)=_;rw[Af]
  rw[E8]at Cv;have G5:bo mm (bK row) <+: bS R head:=by rw[<-Cv];exact gX _ _ _ _
  have Nx:=s6 _ _ Wk;have LN:=s6 _ _ QF;have G7:=s4.trans (s5.trans s6);have QG:r≠nd:=λz=>by rw[z,Nx]at Nw;cases Nw
  intro D hD;have IJ:D≠nd:=λz=>by rw[z,Nx]at hD;cases hD
  have Wl:D≠rl:=λz=>by rw[z,LN]at hD;cases hD
  have Fy:∀(H7:Hp),SameB nd H6 H7->KT H6 H7:=λH7 sb b xs e=>sb b _ (cp e Nx (λz=>nomatch z)) e
  refine⟨as.length,λj H7=>An4 (j<=as.length) (SameB nd H6 H7) (H7 nd=A? (.dT (dl (bo mm (bK (row.take j)))))) (Ex1 λ(ds:List WQ)=>An2 (H7 D=A? (.lst (ds.map i!))) (AtsK .i K H7 ((row.take j).map (ren (idx (bS R head)))) ds)),
   ⟨Xg _,SameB.of (ae hD _),by rw[ai IJ.symm];exact Nx,[],ac,.nil⟩,?_⟩
  rintro j H7 ⟨hj,BM,DF,ds,eD,Bl⟩;have IK:H7 r=A? (.lst (as.map i!)):=BM _ _ QG Nw
  have DK:ds.length=j:=by
   have:=Bl.length;rw[WM,XF]at this;lia
  by_cases Cd:j=as.length
  .left;refine⟨⟨_,l! IK,by rw[WM,Cd];exact WV _⟩,?_⟩;have Aa:row.take j=row:=by rw[Cd,AN,Yo]
   rw[Aa]at Bl DF;have LO:k! H H7:=λb o e=>BM b o (av e Eb) (G7 b o e);have QH:H7 rl=A? (.lst (bs.map i!)):=BM _ _ G2.symm LN;refine⟨D,_,D?,.inl ⟨l! eD,λtp Bn=>?_⟩⟩;refine gU Bn λH8 s8 e8=>?_;have S4:=s8 _ _ QH;refine⟨rl,_,_,D?,D?,S4,lbE (by lia),?_⟩;have k9:KT H8 (upd H8 rl (.lst (bs.map i!++[.ref tp]))):=aI S4;have S5:KT H4 (upd H8 rl (.lst (bs.map i!++[.ref tp]))):=((j! (s5.trans s6)).trans (Fy H7 BM)).trans ((j! s8).trans k9);refine⟨21 - (i+1),by lia,i+1,bo mm (bK row),bs++[tp],_,D?,ao (LO.trans s8) QA,by rw[ai G2];exact s8 _ _ DF,uAE,?_,G4.mono S5,G5,Cv,Xs Ai (eI _ _).length_le,D?⟩;rw[take_snoc E5,Xa];refine r! (v! (λ_ _ e=>RowK.mono S5 e) Ah) (.cons ⟨ds,k9 _ _ e8,?_⟩ .nil);dsimp only;rw[Af];exact Bl.mono ((j! s8).trans k9)
  .right;have Ap:j<as.length:=by lia
   refine⟨Ap,⟨_,.ref as[j],l! IK,by rw[WY,WR Ap];rfl⟩,?_⟩;rintro y H8 ⟨rfl,hv⟩;have Bj:=hv _ (l! IK);obtain⟨ta,rfl,Cc⟩:=aG Bj;obtain⟨t,ht,A9⟩:=(BV.mono (Fy _ BM)).get Cc;have AR:row.take (j+1)=row.take j++[t]:=by rw[XU,ht];rfl
   have E9:bo mm (bK (row.take (j+1)))=bo (bo mm (bK (row.take j))) (stT t):=by
    rw[AR,jT,cU];show bo _ (stT t++[])=_;rw[XA]
   have QI:bo mm (bK (row.take (j+1))) <+: bS R head:=by
    refine List.IsPrefix.trans ?_ G5;have:bo mm (bK row)=bo (bo mm (bK (row.take (j+1)))) (bK (row.drop (j+1))):=by rw[<-cU,<-jT,YV]
    rw[this];exact eI _ _
   rw[E9]at QI;have hzt:=BY t (WS ht);refine⟨_,D?,_,D?,ta,nd,t,_,D?,A9,by lia,DF,Xs QI.length_le Gs,λr' H9 Eo QJ h9=>?_⟩;have Wm:ren (idx (bo (bo mm (bK (row.take j))) (stT t))) t=ren (idx (bS R head)) t:=r6 t λx hx=>(tY QI (eQ.mpr (.inr hx))).symm;rw[Wm]at h9;have LP:=Eo _ _ IJ eD;have LR:KT H8 H9:=λb xs e=>Eo b _ (cp e DF (λz=>nomatch z)) e;have kA:KT H9 (upd H9 D (.lst (ds.map i!++[.ref r']))):=aI LP;refine⟨_,LP,lbE (by lia),Ap,λb o hb e=>?_,?_,ds++[r'],?_,?_⟩
   .rw[ai (av e hD)];exact Eo b o hb (BM b o hb e)
   .rw[ai IJ.symm,E9];exact QJ
   .rw[ac,Xa];rfl
   .rw[AR,Xa];exact(Bl.mono (LR.trans kA)).append (.cons (h9.mono kA) .nil)
 .have HX:i=mm.length:=by
   by_cases h:i<mm.length
   .exact g! (d! (by rw[WM];lia)) cc
   .lia
  have Ny:bS R head=mm:=by rw[<-Cv,tR _ _ _ _ (by lia)]
  have AR:(bS R head).take i=bS R head:=by rw[XZ (by rw[Ny];lia)]
  rw[AR]at Ah;refine⟨_,D?,_,D?,_,D?,_,D?,rl,_,D?,.inl ⟨l! QC,λrt LL=>⟨lnE rfl,λr Bv=>?_⟩⟩⟩;have t1:=ae LL (.tup (bs.map i!));have t2:=ae Bv (.tup [.ref ia,.ref oa,.ref fh,.ref rt]);have IL:=t1.trans t2;exact k r fh rt bs _ (s4.trans IL) ac (G4.mono (j! IL)) (t2 _ _ ac) (v! (λ_ _ e=>RowK.mono (j! IL) e) Ah)
theorem ux{f:Th}(h:f.noCall):f.nh<=f.size:=by
 have h1:=fP (λ_=>hole) f 0 h;rw[<-nb [] f _ h1];exact zN [] h1
inductive gx(K:WO)(vs:List V)(H:Hp)(Q:VK)(_E:XK):Prop
 |mk (fl:WQ) (fs:List WQ) (fr:Nat->Th) (N:Nat):vs=[.ref fl]->H fl=A? (.lst (fs.map i!))->Xk (λs a=>AtK .i K H (fr s) a) (XD N) fs->N<=20->(∀s,s<N->(fr s).noCall/\(fr s).size<=200/\(fr s).tall<=100)->(∀(r:WQ)(f':List (List Key×V))(H':Hp),k! H H'->H' r=A? (.dT f')->(∀(s k:Nat),s<N->k<3->∃a,aN f' [Xo (s:Int),Xo (k:Int)]=A? (.ref a)/\AtK .p K H' (hgF fr (s:Nat) (k:Nat)) a)->Q (.ref r) H')->gx K vs H Q _E
theorem lq:aT P w K mg base CX0 8 T.g_42.f T.g_42.d ["fronts"] (gx K):=by
 refine T.g_42.F.okA b9 λAg A outer s H vs Q E hr h=>?_;obtain⟨fl,fs,fr,N,rfl,CG,C7,hN,MW,q⟩:=h
 refine⟨_,(ad (aj 1 b9.nd gJ)
  (ad (bq Xr rfl (lX rfl T.n_2 (pv 0)) (bx rfl (am (pgN 2 b9.nd) (am (pgN 3 b9.nd) aU))) (af (bq Xr rfl (bu rfl T.n_9 (aa (cH (v:=.int (3)) rfl T.c_MOST_KIDS.choose_spec ⟨_,D?⟩) ab)) (pgN 4 b9.nd) (ad (du (i:=5) (N:=["hole","kid","state"]) (js:=[B?,A? 4,A? 2]) (g:=(ak 0)) (tt:=bi) (te:=(iz (aD (tC (.str (Xm "?"))) (aD (iz (aD (aR 2) (aD (aR 0) bY))) (aD (aR 1) bY))))) b9.nd rfl (Or.inl rfl) rfl (bU rfl (by decide +kernel) (by decide +kernel) rfl rfl rfl) (bu rfl T.n_9 (aa (aA aw rfl T.n_5 XE (aa (pcF T.g_15 (gL T) hr (aa (pv 3) ab)) ab)) ab)) (λ_ _ _ _ _ _=>(pgN 0 aaO)) (aH rfl) (λ_ _ _ _ _ _=>bt) (λ_ _ _ _ _ _=>(az (aa (cH (v:=.str (Xm "?")) rfl T.c_CALL_SIGN.choose_spec ⟨_,D?⟩) (aa (az (aa (pv 2) (aa (pv 0) ab))) (aa (pv 1) ab))))))
  (af (kU (gr hr) (pv 1) (az (aa (pv 2) (aa (pv 4) ab))) (pcF T.g_19 (yK T) hr (aa (pv 3) (aa (pv 5) ab))) rfl))))))
  (af (ax (pv 1))))),?_⟩
 try dsimp only[Av,Ad]
 have DZ:(XD N).length=fs.length:=WZ C7;rw[Xi]at DZ;intro td Ij;dsimp only[ak];refine gU Ij λH1 s1 e1=>?_;refine⟨_,D?,fl,D?,⟨_,l! (s1 _ _ CG)⟩,?_⟩
 refine ni (K:=K) (a:=fl) (xs:=fs.map i!) (λi Z H2=>Ex5 λ(c2 c3 c4 c5:Option V)(tk:List (List Key×V))=>An5 (Z=[A? (.ref fl),A? (.ref td),c2,c3,c4,c5]) (k! H H2) (H2 td=A? (.dT tk)) (tk.length<=3 * i) (∀(s k:Nat),s<i->k<3->∃a,aN tk [Xo (s:Int),Xo (k:Int)]=A? (.ref a)/\AtK .p K H2 (hgF fr (s:Nat) (k:Nat)) a))
  ⟨B?,B?,B?,B?,[],rfl,s1,e1,Xg _,λs k h=>g! h (Zc _)⟩ (λi Z H2 _⟨_,_,_,_,_,_,s2,_,_,_⟩=>l! (s2 _ _ CG)) ?_ ?_
 .rintro i x pr Z H2 hx Bc ⟨c2,c3,c4,c5,tk,rfl,s2,et,hlen,Aa⟩;obtain⟨fa,rfl,BW⟩:=aG hx;have CU:=(glE BW);have S6:i<N:=by lia
  obtain⟨s',DI,A9⟩:=y! C7 BW;rw[XJ S6]at DI;cases DI;obtain⟨z1,z2,z3⟩:=MW i S6;have QK:=ux z1;refine gU Bc λH3 s3 e3=>?_;refine⟨pr,_,D?,n! e3,D?,_,_,D?,_,_,D?,D?,?_⟩;dsimp only[ak];refine⟨3,D?,by decide,by decide,?_⟩
  refine cw (n:=3) (λj Z H4=>Ex3 λ(c4 c5:Option V)(tk:List (List Key×V))=>An5 (Z=[A? (.ref fl),A? (.ref td),A? (.int ((i:Nat):Int)),A? (.ref fa),c4,c5]) (k! H H4) (H4 td=A? (.dT tk)) (tk.length<=3 * i+j) (∀(s k:Nat),(s<i/\k<3\/s=i/\k<j)->∃a,aN tk [Xo (s:Int),Xo (k:Int)]=A? (.ref a)/\AtK .p K H4 (hgF fr (s:Nat) (k:Nat)) a))
   ⟨_,_,tk,rfl,s2.trans s3,s3 _ _ et,hlen,λs k h=>by
    rcases h with h|h
    .obtain⟨a,a1,a2⟩:=Aa s k h.1 h.2;exact⟨a,a1,a2.mono (j! s3)⟩
    .lia⟩ ?_ ?_
  .rintro j Z H4 hj ⟨c4,c5,tk,rfl,s4,Ik,LS,E'⟩;have hj3:j<3:=hj;have LU:=A9.mono (j! s4);refine⟨_,D?,fa,_,D?,LU,by lia,by lia,λhl bs H5 s5 D0 Ah=>?_⟩
   have AV:bs.length=(fr i).nh:=by
    have h1:=WZ Ah;have h2:=h! Zm (jp [] (fr i) _ (fP (λ_=>hole) (fr i) 0 z1));rw[WM,WM,nb [] _ _ (fP (λ_=>hole) (fr i) 0 z1)]at h2;rw[<-h1,WM];exact h2
   refine⟨hl,_,D?,.inl (l! D0),_,D?,by lia,by rw[WM];lia,cJ (F:=AtK .p K) (xs:=(XD bs.length).map λ(m:Nat)=>q! (m:Nat)) ((XD bs.length).map λ(m:Nat)=>x! (enc (i:Nat) (m:Nat)) (j:Nat)) (λH1 H2 z p kt h=>h.mono kt) (by rw[WM,WM]) (by rw[WM,Xi];lia) (λm Hx sx hi=>by rw[WM,Xi]at hi;show m<(((bs.map i!).length:Nat):Int).toNat;rw[WM];lia) (λHx sx=>by show(((bs.map i!).length:Nat):Int).toNat<=((XD bs.length).map λ(m:Nat)=>q! (m:Nat)).length;rw[WM,WM,Xi];lia) (λm Hx x Hy sx hi hy=>⟨hy.1,?_⟩) (λm y z Hx R W' hy AG sx hR=>?_) (λD H6 cs hD s6 e6 Bh=>?_)⟩
   .rw[WM,Xi]at hi;rw[WY,XJ hi,hy.2];show A? (q! ((m:Nat):Int))=A? (q! (0+((m:Nat):Int)));rw[X6]
   .have hi:m<bs.length:=by
     have:=(glE AG);rw[WM,Xi]at this;exact this
    rw[WY,XJ hi]at hy AG;cases hy;cases AG;refine⟨_,D?,_,D?,lnE rfl,λpp Ih=>?_⟩;refine gU Ih λHy sp ep=>?_;refine⟨_,D?,lnE rfl,λca Cr=>hR _ ca (sp.trans (ae Cr _)) ?_⟩;rw[AtK,X6];exact⟨_,.of ac,pp,_,_,D?,ae Cr _ _ _ ep,D?,by lia,by lia,by lia⟩
   have LV:=s5.trans s6
   have hws:AtsK .p K H6 (((fr i).hw [] (hgF fr (i:Nat) (j:Nat))).map (·.2)) cs:=by
    have e:=vh (λm=>x! (enc (i:Nat) (m:Nat)) (j:Nat)) [] (fr i) 0 z1;rw[show hgF fr (i:Nat) (j:Nat)=(fr i).hg (λm=>x! (enc (i:Nat) (m:Nat)) (j:Nat)) 0 from by unfold hgF;rw[Xy],e,<-List.range_eq_range',<-AV];exact f8 Bh
   have QL:(fr i).lies (hgF fr (i:Nat) (j:Nat))=true:=by
    unfold hgF;rw[Xy];exact fP _ _ _ z1
   refine⟨_,D?,_,D?,.p,fa,D,fr i,hgF fr (i:Nat) (j:Nat),cs,D?,LU.mono (j! LV),by lia,by lia,z1,QL,(λp hp=>?_),e6,hws,λr H7 s7 LW=>?_⟩
   .have AW:p.2∈((fr i).hw [] (hgF fr (i:Nat) (j:Nat))).map (·.2):=Xx.mpr ⟨p,hp,rfl⟩;have e:=vh (λm=>x! (enc (i:Nat) (m:Nat)) (j:Nat)) [] (fr i) 0 z1;rw[show hgF fr (i:Nat) (j:Nat)=(fr i).hg (λm=>x! (enc (i:Nat) (m:Nat)) (j:Nat)) 0 from by unfold hgF;rw[Xy],e]at AW;obtain⟨m,_,hm⟩:=Xx.mp AW;rw[<-hm,p!];decide
   refine⟨_,D?,_,D?,_,D?,lnE rfl,λkp Ct=>?_⟩;refine gU Ct λH8 s8 e8=>?_;have e8:H8 kp=A? (.tup ([Xo ((i:Nat):Int),Xo (0+((j:Nat):Int))].map kV)):=e8;have IM:=LV.trans (s7.trans s8);have JB:=IM _ _ Ik;refine⟨td,_,D?,DPut.t JB e8 (bE (by lia)),?_⟩
   have Iw:KT H8 (upd H8 td (.dT (putK tk [Xo ((i:Nat):Int),Xo (0+((j:Nat):Int))] (.ref r)))):=λc ys ec=>by
    rw[ai (cp ec JB (λz=>nomatch z))];exact ec
   refine⟨_,_,_,D?,ao (s4.trans IM) Ij,ac,?_,λs k h=>?_⟩
   .have:=bw tk [Xo ((i:Nat):Int),Xo (0+((j:Nat):Int))] (i! r);lia
   .rw[dM];by_cases AO:([Xo ((s:Nat):Int),Xo ((k:Nat):Int)]:List Key)=[Xo ((i:Nat):Int),Xo (0+((j:Nat):Int))]
    .rw[b! AO];injection AO with e1 e2;have CT:((s:Nat):Int)=(i:Nat):=YL e1;injection e2 with e3 _;have e3':((k:Nat):Int)=0+(j:Nat):=YL e3;obtain rfl:s=i:=by lia
     obtain rfl:k=j:=by lia
     exact⟨r,D?,(LW.mono (j! s8)).mono Iw⟩
    .rw[a! AO]
     have Ai:s<i/\k<3\/s=i/\k<j:=by
      rcases h with h|h
      .exact .inl h
      .by_cases hk:k=j
       .exact g! (by rw[h.1,hk,X6]) AO
       .exact .inr ⟨h.1,by lia⟩
     obtain⟨a,a1,a2⟩:=E' s k Ai;exact⟨a,a1,(a2.mono (j! IM)).mono Iw⟩
  .rintro Z H4 ⟨c4,c5,tk,rfl,s4,Ik,LS,E'⟩;exact⟨_,_,_,_,tk,D?,s4,Ik,by lia,λs k hs hk=>E' s k (by lia)⟩
 .rintro Z H2 ⟨c2,c3,c4,c5,tk,rfl,s2,et,hlen,Aa⟩;rw[WM,<-DZ]at Aa;exact⟨_,D?,q td tk H2 s2 et Aa⟩
inductive lF(vs:List V)(H:Hp)(Q:VK)(_E:XK):Prop
 |mk (b:WQ) (v1 v2 v3 v4:V):vs=[.ref b]->H b=A? (.tup [v1,v2,v3,v4])->Q v2 H->lF  vs H Q _E
theorem r8:aT P w K mg base CX0 1 T.g_27.f T.g_27.d ["book"] lF:=by
 refine T.g_27.F.okA sh λAg A outer s H vs Q E hr h=>?_;obtain⟨b,v1,v2,v3,v4,rfl,e,q⟩:=h;refine⟨_,(af (ax (aC aF (pv 0) ag (λ_ _=>rfl)))),?_⟩
 try dsimp only[Av,Ad]
 exact⟨_,D?,b,_,1,v2,D?,D?,n! e,cP (j:=1) rfl,q⟩
inductive lz(vs:List V)(H:Hp)(Q:VK)(_E:XK):Prop
 |mk (b:WQ) (v1 v2 v3 v4:V):vs=[.ref b]->H b=A? (.tup [v1,v2,v3,v4])->Q v3 H->lz  vs H Q _E
theorem rL:aT P w K mg base CX0 1 T.g_28.f T.g_28.d ["book"] lz:=by
 refine T.g_28.F.okA rD λAg A outer s H vs Q E hr h=>?_;obtain⟨b,v1,v2,v3,v4,rfl,e,q⟩:=h;refine⟨_,(af (ax (aC aF (pv 0) ag (λ_ _=>rfl)))),?_⟩
 try dsimp only[Av,Ad]
 exact⟨_,D?,b,_,2,v3,D?,D?,n! e,cP (j:=2) rfl,q⟩
def aW:Stmt:=match bR iD with
 | [_,_,st,_]=>st
 |_=>.Pass ⟨0,0,0,0⟩
def ndP:Stmt->Arguments
 |.FunctionDef _ p _ _ _ _ _ _ _ _=>p
 |_=>cg iD
def ndB:Stmt->List Stmt
 |.FunctionDef _ _ b _ _ _ _ _ _ _=>b
 |_=>[]
def ndS:Stmt->Z4
 |.FunctionDef _ _ _ _ _ _ s _ _ _=>s
 |_=>aO iD
def vH:Stmt->Z2
 |.FunctionDef _ _ _ _ _ _ _ _ _ p=>p
 |_=>⟨0,0,0,0⟩
def ndQ:Xp:="earliest.<locals>."++"patterns_of"
def lr(ins:List (Xp×Int))(rows:List (List Th))(f':List (ay×V))(s:Nat):Th:=(frS ins rows s).cut (Dk f' (s:Nat)) []
abbrev clE(c1 c2 c3:WQ):List (Xp×WQ):=[("table",c3),("fronts",c2),("book",c1)]
inductive oZ(P:W5)(w:Xq)(K:WO)(f c' c1 c2 c3:WQ)(vs:List V)(H:Hp)(Q:VK)(_E:XK):Prop
 |mk (pa b fl td:WQ) (x:Int) (fs:List WQ) (f':List (List Key×V)) (ins outs:List (Xp×Int)) (F:Nat->Th) (head:Th) (rows:List (List Th)):vs=[.ref pa]->NestAt H f c' "patterns_of" ndQ (ndP aW) (ndB aW) (ndS aW) (clE c1 c2 c3)->CodeAt H c' ndQ->CellAt H c1 (.ref b)->CellAt H c2 (.ref fl)->CellAt H c3 (.ref td)->H pa=A? (.tup [.int (x / 1000),.int (x%1000)])->Bk H ins outs head rows b->EaOk ins outs F head rows->kC F rows.length x->H fl=A? (.lst (fs.map i!))->Xk (λs a=>AtK .i K H (F s) a) (XD rows.length) fs->H td=A? (.dT f')->(∀(s k:Nat),s<rows.length->k<3->∃a,aN f' [Xo (s:Int),Xo (k:Int)]=A? (.ref a)/\AtK .p K H (hgF F (s:Nat) (k:Nat)) a)->(∀(r:WQ)(as:List WQ)(H':Hp),k! H H'->H' r=A? (.lst (as.map i!))->AtsK .p K H' (eaR F rows x) as->Q (.ref r) H')->oZ P w K f c' c1 c2 c3 vs H Q _E
theorem kK:(["pair","book","fronts","table","state","hole","place"]:List Xp).Nodup:=by decide +kernel
theorem yB(c1 c2 c3:WQ)(Aq:[c3,c2,c1].Nodup):mT ["pair","book","fronts","table","state","hole","place"] ["pair"] ["book","fronts","table"] "place" (clE c1 c2 c3) (ndS aW):=by
 refine⟨D?,D?,D?,kK,D?,by decide +kernel,by decide +kernel,λn=>rfl,λh=>rfl,λx h=>?_,λx h=>?_,λx y c h1 h2=>zX (cl:=clE c1 c2 c3) Aq h1 h2,by decide +kernel,λx h=>?_⟩
 .have hm:=Yl h;have Aa:∀z∈(ndS aW).names,z.2=.cell->z.1="place":=by decide +kernel
  exact Aa _ hm rfl
 .have hm:=Yl h;have Aa:∀z∈(ndS aW).names,z.2=.free->z.1="book"\/z.1="fronts"\/z.1="table":=by decide +kernel
  rcases Aa _ hm rfl with e|e|e
  .exact⟨c1,by rw[show x="book" from e];rfl⟩
  .exact⟨c2,by rw[show x="fronts" from e];rfl⟩
  .exact⟨c3,by rw[show x="table" from e];rfl⟩
 .have hm:=Yl h;have Aa:∀z∈(ndS aW).names,z.2=.free->(z.1 == ("place":Xp))=false:=by decide +kernel
  exact Aa _ hm rfl
theorem tF{c1 c2 c3:WQ}{v1 v2 v3:V}(h1:CellAt H c1 v1)(h2:CellAt H c2 v2)(h3:CellAt H c3 v3):Exts ((clE c1 c2 c3).map (·.2)) H:=λb hb=>by
 have AB:b∈[c3,c2,c1]:=hb;rcases W8.mp AB with e|AB
 .obtain⟨φ,z,_⟩:=h3;exact⟨φ,by rw[e];exact z⟩
 rcases W8.mp AB with e|AB
 .obtain⟨φ,z,_⟩:=h2;exact⟨φ,by rw[e];exact z⟩
 .obtain⟨φ,z,_⟩:=h1;exact⟨φ,by rw[W9.mp AB];exact z⟩
include T in
theorem xF(f c' c1 c2 c3:WQ)(Aq:[c3,c2,c1].Nodup):yL P w K mg base CX0 8 f (oZ P w K f c' c1 c2 c3):=by
 refine xX (k:=7) (c':=c') (name:="patterns_of") (qual:=ndQ) (params:=ndP aW) (body:=ndB aW) (yB c1 c2 c3 Aq) (λdoc pm DY us hl=>?_) (λvs H Q E h=>?_) λA outer s H vs Q E hr h=>?_
 .obtain⟨u,rfl⟩:=us1 hl;rfl
 .obtain⟨pa,b,fl,td,x,fs,f',ins,outs,F,head,rows,rfl,hn,hc,h1,h2,h3,_⟩:=h;refine⟨D?,hn,hc,tF h1 h2 h3,λx c hx=>?_⟩;have e1:=Yl hx;rcases W8.mp e1 with e|e1
  .cases e;exact⟨_,h3⟩
  rcases W8.mp e1 with e|e1
  .cases e;exact⟨_,h2⟩
  .cases W9.mp e1;exact⟨_,h1⟩
 .obtain⟨pa,b,fl,td,x,fs,f',ins,outs,F,head,rows,rfl,hn,hc,h1,h2,h3,Bu,bk,J,hx,CG,C7,QM,Aa,kq⟩:=h;have FW:=tF h1 h2 h3;have kf:=aac FW;have LX:=pV FW CG (λφ z=>nomatch z);have LY:=pV FW QM (λφ z=>nomatch z)
  refine⟨_,[.ref b,.ref fl,.ref td],.cons ⟨c1,D?,h1⟩ (.cons ⟨c2,D?,h2⟩ (.cons ⟨c3,D?,h3⟩ .nil)),(ad (fB (pv 0) (bx rfl (am (pgN 4 kK) (am (pgN 5 kK) aU))))
   (ad (aj 6 kK (aC bj (pcF T.g_15 (gL T) hr (aa (aC bj (pv 2) (pv 4) (λ_ _=>rfl)) ab)) (pv 5) (λ_ _=>rfl)))
   (af (ax (bH (N:=["pattern","place","table"]) (js:=[B?,A? 6,A? 3]) (g:=(ak 0)) (tt:=bi) (te:=(cx (ir K) [] E0 (aD (cx (iF K) [] E0 (aD (cx (jL P w K) [] E0 (aD (aR 0) (aD (aR 2) bY))) (aD (aR 1) bY))) bY))) rfl (bU rfl (by decide +kernel) (by decide +kernel) rfl rfl rfl) (di (aC aF (pcF T.g_29 (dH T) hr (aa (pv 1) ab)) (pv 4) (λ_ _=>rfl))) (λ_ _ _ _ _ _=>(pgN 0 aa3)) (aH rfl) (λ_ _ _ _ _ _=>bt) (λ_ _ _ _ _ _=>(pcF T.g_43 (lN T) hr (aa (pcF T.g_8 (rT T) hr (aa (pcF T.g_17 (gZ T) hr (aa (pv 0) (aa (pv 2) ab))) (aa (pv 1) ab))) ab)))))))),?_⟩
  generalize Wn:fgt ((clE c1 c2 c3).map (·.2)) H=H0 at kf LX LY |-;refine hid λZZ kZ=>?_;obtain⟨ia,oa,ha,ra,Ak,Az,AM,bk⟩:=bk.mono kf;obtain⟨row,Af,IP,hlen,C1⟩:=J.row hx;obtain⟨Bi,Bw,LZ,Ec,Fb⟩:=B! bk.rw Af;have Aw:LZ.length=row.length:=Fb.length;have hle:=J.gi.le;obtain⟨Fo,DO,B1⟩:=id hx;obtain⟨z1,z2,z3⟩:=J.fr _ DO;have QK:=ux z1;obtain⟨fa,BW,A9⟩:=B! C7 (XJ DO);refine kZ ?_;refine⟨_,D?,pa,_,D?,n! (kf _ _ Bu),D?,_,_,D?,_,_,D?,D?,?_⟩;dsimp only[ak];refine⟨_,D?,_,D?,fl,_,_,.ref fa,D?,D?,l! LX,at_nonneg Fo (gmE BW),fa,F (x / 1000).toNat,D?,A9.mono kf,by lia,by lia,λhl bs H1 s1 D0 Ah=>?_⟩;have Fz:∀t,(F (x / 1000).toNat).lies t=C?->(((F (x / 1000).toNat).pl []).filter λp=>p.2.isHole).map (·.1)=((F (x / 1000).toNat).hw [] t).map (·.1):=λt ht=>jp [] _ t ht;have S7:=fP (λ_=>hole) (F (x / 1000).toNat) 0 z1;refine hid λZZ kZ=>?_;obtain⟨pl,AU⟩:∃pl,((((F (x / 1000).toNat).pl []).filter λp=>p.2.isHole).map (·.1))[(x%1000).toNat]?=A? pl:=⟨_,WR (by rw[Fz _ S7,WM,nb [] _ _ S7];exact B1)⟩;obtain⟨K8,QN,QO⟩:=B! (show Xk (λ(p:List Int)b=>H1 b=A? (.tup (p.map q!))) _ bs from Ah) AU;refine kZ ?_;refine⟨_,D?,hl,_,_,.ref K8,D?,D?,l! D0,at_nonneg (by lia) (gmE QN),?_⟩;dsimp only[ak];have k1:=j! s1;refine⟨_,D?,b,_,_,_,_,D?,k1 _ _ bk.bk,_,D?,ra,_,_,.ref Bi,D?,D?,n! (k1 _ _ bk.rl),at_nonneg Fo (gmE Bw),?_⟩;have Nz:=k1 _ _ Ec;have L3:=Fb.mono k1;refine⟨Bi,D?,⟨_,n! Nz⟩,cJ (F:=AtK .p K) (xs:=LZ.map i!) (row.map (eaU F x)) (λH1 H2 z p kt h=>h.mono kt) (by rw[WM,WM];lia) (by rw[WM];lia) (λi Hx sx hi=>⟨_,_,n! (sx _ _ Nz),WR hi⟩) (λHx sx=>⟨_,n! (sx _ _ Nz),WV _⟩) (λi Hx x Hy sx hi hy=>⟨hy.1,hy.2 _ (n! (sx _ _ Nz))⟩) (λi y z Hx R W' hy AG sx hR=>?_) (λD Hx as hD sx eD Bh=>?_)⟩
  .refine hid λZZ kZ=>?_;obtain⟨ua,rfl,Dw⟩:=aG hy;obtain⟨u,hu,E1⟩:=L3.get Dw;rw[WY,hu]at AG;cases AG;have DG:=WS hu;obtain⟨C,hC,Wo⟩:=C1 u DG;obtain⟨S8,_,g1,g2,g3⟩:=J.at hx Af DG;refine kZ ?_
   have e2:S8=pl:=by
    have h5:=AU;rw[Fz _ (J.lies Af DG hC),WY,g1]at h5;exact Xn h5
   subst e2;have kx:=j! sx;have E2:=J.smR row (WS Af) u DG;have L4:=E2.size;have hz7:=g3.size;have Fj:u.size<=600:=Xs (iL _ _) L4;refine⟨_,D?,_,D?,.p,ua,td,u,hgF F,D?,(E1.mono kx).k,by lia,λl k' hc=>?_,λr1 H3 s3 h3=>?_⟩
   .refine hid λZZ kZ=>?_;obtain⟨a1,a2,a3,a4⟩:=jy hC hc;have Jo:k'.toNat<3:=by lia
    obtain⟨v,v1,v2⟩:=Aa l.toNat k'.toNat (by lia) Jo;refine kZ ?_;rw[Yu a1,Yu a3]at v1 v2;have h8:=mD F l k';have h9:=J.fr l.toNat (by lia);exact⟨v,((v2.mono kf).mono k1).mono kx,by lia,λH5 ca sv s5 hs B5=>xf (sx _ _ (s1 _ _ LY)) v1 s5 hs B5⟩
   refine⟨_,D?,r1,K8,eaP F u,eaU F x u,S8,D?,h3,(j! (sx.trans s3)) _ _ QO,g2,λr2 H4 s4 h4=>?_⟩;refine⟨r2,_,D?,h4,by lia,g3,λH5 s5=>hR H5 r2 (s3.trans (s4.trans s5)) (h4.mono (j! s5))⟩
  .intro MR;subst Wn;have sR:=wY (H:=H) MR;refine kq D as _ (xh (s1.trans sx)) (sR _ _ eD) ?_;unfold eaR;rw[IP];exact(show AtsK .p K Hx _ as from f8 Bh).mono (j! sR)
inductive j3(P:W5)(w:Xq)(K:WO)(tp:WQ)(vs:List V)(H:Hp)(Q:VK)(_E:XK):Prop
 |mk (b ia oa ha ra:WQ) (Ak Az AM:List WQ) (ins outs:List (Xp×Int)) (head:Th) (rows:List (List Th)):vs=[.ref b]->BookAt H ins outs head rows b ia oa ha ra Ak Az AM->FrB ins outs rows->db outs->(∀f':List (ay×V),FrD ins rows (f'.map (·.1))->EaOk ins outs (lr ins rows f') head rows)->TabSt H tp (vH aW) ndQ->(∀(r fh rl:WQ)(C9:List WQ)(f':List (ay×V))(F:Nat->Th)(M:List Int)(H':Hp),FrD ins rows (f'.map (·.1))->KeyM ins rows f'->F=lr ins rows f'->M=bS (eaR F rows) (eaP F head)->SameT tp H H'->TabSt H' tp (vH aW) ndQ->H' r=A? (.tup [.ref ia,.ref oa,.ref fh,.ref rl])->AtK .i K H' (ren (idx M) (eaP F head)) fh->H' rl=A? (.tup (C9.map i!))->Xk (RowK K H') (M.map λx=>(eaR F rows x).map (ren (idx M))) C9->Q (.ref r) H')->j3 P w K tp vs H Q _E
theorem pF(L:Lam mg base T.g_44.tc T.g_44.tp):aT P w K mg base CX0 10 T.g_44.f T.g_44.d ["book"] (j3 P w K T.g_44.tp):=by
 refine T.g_44.F.okT T.g_44.th fg (λvs H Q E h=>?_) (λA outer s H vs Q E hr h=>?_)
 .obtain⟨b,ia,oa,ha,ra,Ak,Az,AM,ins,outs,head,rows,rfl,_⟩:=h;rfl
 obtain⟨b,ia,oa,ha,ra,Ak,Az,AM,ins,outs,head,rows,rfl,bk,F,go,hJ,F4,q⟩:=h
 refine⟨_,(ad (aj 1 fg.nd (pcF T.g_39 (jd T) hr (aa (pv 0) ab)))
  (ad (aj 2 fg.nd (pcF T.g_42 (lq T) hr (aa (pv 1) ab)))
  (ad (yG (i:=3) (name:="patterns_of") (pos:=vH aW) (params:=ndP aW) (body:=ndB aW) (scope:=ndS aW) (cl:=[("table",s.1.1.size+3),("fronts",s.1.1.size+2),("book",s.1.1.size+1)]) L fg.nd rfl (Or.inl rfl) rfl rfl)
  (af (ax (vD (cl:=[("table",s.1.1.size+3),("fronts",s.1.1.size+2),("book",s.1.1.size+1)]) (qm T) (hr.mono (by decide)) rfl T.g_41.m T.g_41.F.kp T.g_41.b (abi rfl rfl rfl rfl rfl rfl rfl rfl rfl) (aa (cR (eB T) (hr.mono (by decide)) rfl T.g_26.m T.g_26.F.kp T.g_26.b .nil eS (aa (pv 0) ab)) (aa (cR (r8 T) (hr.mono (by decide)) rfl T.g_27.m T.g_27.F.kp T.g_27.b .nil eS (aa (pv 0) ab)) (aa (cR (lN T) (hr.mono (by decide)) rfl T.g_43.m T.g_43.F.kp T.g_43.b .nil eS (aa (cR (gZ T) (hr.mono (by decide)) rfl T.g_17.m T.g_17.F.kp T.g_17.b .nil eS (aa (cR (rL T) (hr.mono (by decide)) rfl T.g_28.m T.g_28.F.kp T.g_28.b .nil eS (aa (pv 0) ab)) (aa (pv 2) ab))) ab)) (aa (pv 3) ab)))))))))),?_⟩
 try dsimp only[Av,Ad]
 have hle:=F.le;refine⟨_,D?,b,ins,outs,head,rows,D?,⟨_,_,_,_,_,_,_,bk⟩,F,go,λfl fs f' H1 s1 CG C7 hD hK=>?_⟩;dsimp only[ak];have J:=hJ f' hD;have Fc:Xk (λs a=>AtK .i K H1 (lr ins rows f' s) a) (XD rows.length) fs:=C7;generalize hF:lr ins rows f'=G at J Fc;refine⟨_,D?,fl,fs,G,rows.length,D?,CG,Fc,hle,J.fr,λtd L6 H2 s2 QM Aa=>?_⟩;dsimp only[ak];have Ba:=s1.trans s2;have Fd:=F4.mono Ba;refine⟨Fd,λf c' H3 s3 et Cg L9 hf=>?_⟩;have QP:KT H2 H3:=Fd.kt s3;have Ma:KT H H3:=(j! Ba).trans QP
 have QQ:∀{a:WQ}{o:HO},H2 a=A? o->(∀z,o≠.tbl z)->H3 a=A? o:=λe h2=>s3 _ _ (λz=>by
  rw[z]at e;rcases Fd with h|⟨_,h,_⟩ <;> · rw[h]at e;cases e;exact h2 _ rfl) e
 have Mb:=QQ QM (λz h=>nomatch h);have QR:=QQ (s2 _ _ CG) (λz h=>nomatch h);dsimp only[ak];refine⟨_,D?,b,_,_,_,_,D?,Ma _ _ bk.bk,_,D?,b,_,_,_,_,D?,Ma _ _ bk.bk,_,D?,b,_,_,_,_,D?,Ma _ _ bk.bk,_,D?,?_⟩;have L4:=J.smH.size;have Mc:head.size<=600:=Xs (iL _ _) L4;refine⟨.p,ha,td,head,hgF G,D?,(bk.hd.mono Ma).k,by lia,λl k hc=>?_,λr1 H4 s4 h4=>?_⟩
 .refine hid λZZ kZ=>?_;obtain⟨a1,a2,a3,a4⟩:=jy J.hd hc;obtain⟨v,v1,v2⟩:=Aa l.toNat k.toNat (by lia) (by lia);refine kZ ?_;rw[Yu a1,Yu a3]at v1 v2;have h8:=mD G l k;have h9:=J.fr l.toNat (by lia);exact⟨v,v2.mono QP,by lia,λH5 ca sv s5 hs B5=>xf Mb v1 s5 hs B5⟩
 refine⟨r1,eaP G head,D?,h4,Xs L4 (by decide),J.smH,λH5 s5=>?_⟩;refine⟨_,D?,λH6 trk=>?_⟩;have IQ:=s4.trans (s5.trans trk.same);have Nr:=j! IQ;have Wq:=Ma.trans Nr;have IS:CellAt H6 (s.1.1.size+1) (.ref b):=trk.2.2.2 0 "book" (.ref b) _ rfl rfl rfl;have IT:CellAt H6 (s.1.1.size+2) (.ref fl):=trk.2.2.2 1 "fronts" (.ref fl) _ rfl rfl rfl;have IU:CellAt H6 (s.1.1.size+3) (.ref td):=trk.2.2.2 2 "table" (.ref td) _ rfl rfl rfl;refine⟨ia,oa,r1,f,eaP G head,eaR G rows,oZ P w K f c' (s.1.1.size+1) (s.1.1.size+2) (s.1.1.size+3),D?,h4.mono (j! (s5.trans trk.same)),Xs L4 (by decide),J.len,λx hx=>?_,xF T f c' _ _ _ (by simp),λH7 x pa Z s7 hx Bu hZ=>?_,λr fh rl C9 H7 s7 e7 h7 Wr QS=>?_⟩
 .obtain⟨h1,h2⟩:=J.small (J.met x hx);exact⟨h1,λt ht=>Xs (h2 t ht).size (by decide)⟩
 .have Md:=IQ.trans s7;have S9:=QP.trans (j! Md)
  exact⟨pa,b,fl,td,x,fs,L6,ins,outs,G,head,rows,D?,L9.mono Md,Cg.mono Md,IS.mono s7,IT.mono s7,IU.mono s7,Bu,⟨_,_,_,_,_,_,_,bk.mono (Wq.trans (j! s7))⟩,J,J.met x hx,Md _ _ QR,v! (λ_ _ h=>h.mono ((j! s2).trans S9)) Fc,Md _ _ Mb,λs' k' h1 h2=>by
   obtain⟨a,a1,a2⟩:=Aa s' k' h1 h2;exact⟨a,a1,a2.mono S9⟩,hZ⟩
 .have sB:k! H3 _:=(s4.trans s5).trans (trk.back s7);refine⟨λb' hb=>?_,q r fh rl C9 f' G _ _ hD hK hF.symm rfl ((Ba.t _).trans (s3.trans (sB.t _))) ((show TabSt H3 _ _ _ from .inr ⟨c',et,Cg⟩).mono sB) (trk.kt s7 _ _ e7) (h7.mono (trk.kt s7)) (trk.kt s7 _ _ Wr) (v! (λ_ _ e=>RowK.mono (trk.kt s7) e) QS)⟩;obtain⟨φ,e⟩:=trk.2.2.1 b' hb;rw[e,s7 _ _ e]
inductive dS(vs:List V)(H:Hp)(Q:VK)(_E:XK):Prop
 |mk (c k:Int):vs=[.int c,.int k]->(∀z:Int,0<=z->Q (.int z) H)->dS  vs H Q _E
def oA(c:Int):Xp:=if c=0 then Xm "" else if c=1 then Xm "a" else if c=2 then Xm "zz" else Xm "name"
def zV(b n:Int):Nat:=97+((b+5 * n)%26).toNat
def kE(b n:Int):Xp:=⟨#[zV b n]⟩++oA (b / 26%4)
inductive eV(vs:List V)(H:Hp)(Q:VK)(_E:XK):Prop
 |mk (b n:Int):vs=[.int b,.int n]->(∀H',k! H H'->Q (.str (kE b n)) H')->eV  vs H Q _E
theorem dz:aT P w K mg base CX0 1 T.g_46.f T.g_46.d ["cell","k"] dS:=by
 refine T.g_46.F.okA g9 λAg A outer s H vs Q E hr h=>?_;obtain⟨c,k,rfl,q⟩:=h
 refine⟨_,(ad (aj 2 g9.nd (aB b8 (aB eK (aB dk (aB dk (aB b8 (pv 0) ag) (aB eK ag (pv 1))) ag) ag) ag))
  (af (ax (aB b8 (aB eK (aB b8 (aB eK (pv 2) (pv 2)) ag) ag) ag)))),?_⟩
 try dsimp only[Av,Ad]
 refine⟨_,D?,_,_,D?,D?,(by show(0:Int)<1000000007;decide),_,D?,_,_,D?,D?,.inl ⟨by decide,by decide⟩,_,_,D?,D?,_,_,D?,D?,_,_,D?,D?,.inr ⟨by decide,by decide⟩,_,_,D?,D?,(by show(0:Int)<2147483647;decide),?_⟩
 try dsimp only[ak]
 generalize(c%1000000007+7919 * k+1) * 48271=z;have z0:=Yx z (show(2147483647:Int)≠0 by decide);have z1:=YB z (show(0:Int)<2147483647 by decide);generalize z%2147483647=y at z0 z1;refine⟨_,D?,_,D?,_,_,D?,D?,.inl ⟨by lia,by lia⟩,_,_,D?,D?,(by show(0:Int)<2147483629;decide),_,_,D?,D?,.inr ⟨by decide,by decide⟩,_,_,D?,D?,(by show(0:Int)<2147483647;decide),q _ (Yx _ (by decide))⟩
theorem ph:aT P w K mg base CX0 1 T.g_47.f T.g_47.d ["base","n"] eV:=by
 refine T.g_47.F.okA jj λAg A outer s H vs Q E hr h=>?_;obtain⟨b,n,rfl,q⟩:=h
 refine⟨_,(ad (aj 2 jj.nd (aC bj (bp (aa dr (aa dr (aa dr (aa dr ab))))) (aB b8 (aB de (pv 0) ag) ag) (λ_ _=>rfl)))
  (af (ax (aB sO (aC zL dr (aB b8 (aB dk (pv 0) (aB eK ag (pv 1))) ag) (λ_ _=>rfl)) (pv 2))))),?_⟩
 try dsimp only[Av,Ad]
 refine⟨lnE rfl,λl hl=>?_⟩;refine gU hl λH1 s1 e1=>?_;have z0:=Yx (b / 26) (show(4:Int)≠0 by decide);have z1:=YB (b / 26) (show(0:Int)<4 by decide)
 have A9:atI [N! (Xm ""),.str (Xm "a"),.str (Xm "zz"),.str (Xm "name")] (b / 26%4)=A? (.str (oA (b / 26%4))):=by
  generalize b / 26%4=c at z0 z1;rcases(by lia:c=0\/c=1\/c=2\/c=3)with rfl|rfl|rfl|rfl <;> rfl
 refine⟨_,D?,_,_,D?,D?,⟨by decide,by decide⟩,_,_,D?,D?,(by show(0:Int)<4;decide),l,_,_,_,D?,D?,l! e1,A9,?_⟩
 try dsimp only[ak]
 have y0:=Yx (b+5 * n) (show(26:Int)≠0 by decide);have y1:=YB (b+5 * n) (show(0:Int)<26 by decide);refine⟨_,D?,_,D?,_,_,D?,D?,.inl ⟨by decide,by decide⟩,_,_,D?,D?,_,_,D?,D?,(by show(0:Int)<26;decide),kO,_,_,D?,D?,cQ (by rw[qG];decide),uL y0 y1,_,D?,_,_,D?,D?,cQ (by show 1+(oA (b / 26%4)).length<=1000000;unfold oA;(repeat' split) <;> decide),q H1 s1⟩
theorem xy(c:Int):Low (oA c)/\(oA c).length<=4:=by
 unfold oA;split
 .exact⟨(λx hx=>by have:x∈([]:List Nat):=hx;cases this),by decide⟩
 .split
  .exact⟨(λx hx=>by have:x∈([97]:List Nat):=hx;simp at this;lia),by decide⟩
  .split
   .exact⟨(λx hx=>by have:x∈([122,122]:List Nat):=hx;simp at this;lia),by decide⟩
   .exact⟨(λx hx=>by have:x∈([110,97,109,101]:List Nat):=hx;simp at this;lia),by decide⟩
theorem wz(b n:Int):Low (kE b n)/\(kE b n).length<=8:=by
 have h1:=Yx (b+5 * n) (by decide:(26:Int)≠0);have h2:=YB (b+5 * n) (by decide:(0:Int)<26);obtain⟨l1,l2⟩:=xy (b / 26%4);unfold kE zV;refine⟨yj (xT (by lia) (by lia)) l1,?_⟩;rw[strLen_append];show 1+_<=8;lia
theorem wg{b:Int}(hi:i<5)(hj:j<5)(h:kE b (i:Int)=kE b (j:Int)):i=j:=by
 unfold kE zV at h
 have h0:∀(m:Nat)(t:Xp),((⟨#[m]⟩:Xp)++t).cps.toList.head?=A? m:=λm t=>by
  show((#[m]:Array Nat)++t.cps).toList.head?=A? m;rw[Array.toList_append];rfl
 have e:=h! (λz:Xp=>z.cps.toList.head?) h;rw[show(((⟨#[97+((b+5 * (i:Int))%26).toNat]⟩:Xp)++oA (b / 26%4)).cps.toList.head?)=_ from h0 _ _,show(((⟨#[97+((b+5 * (j:Int))%26).toNat]⟩:Xp)++oA (b / 26%4)).cps.toList.head?)=_ from h0 _ _]at e;have e':=Xn e;have e1:=Yx (b+5 * (i:Int)) (by decide:(26:Int)≠0);have e2:=Yx (b+5 * (j:Int)) (by decide:(26:Int)≠0);lia
inductive fc(K:WO)(vs:List V)(H:Hp)(Q:VK)(_E:XK):Prop
 |mk (a:WQ) (ns:List Int) (k:Int):vs=[.ref a,.int k]->SqL K H a (ns.map q!)->0<=k->(∀z:Int,Q (.int z) H)->fc K vs H Q _E
def lu(b:Int)(ms:List Int):List (Xp×Int):=(XD ms.length).map λ(i:Nat)=>(kE b (i:Int),ms.getD i 0)
theorem fF{b:Int}{ms:List Int}{k:Xp×Int}(h:(lu b ms)[i]?=A? k):i<ms.length/\k=(kE b (i:Int),ms.getD i 0):=by
 unfold lu at h;rw[WY,XM]at h;obtain⟨j,hj,rfl⟩:=h;have hi:i<ms.length:=by have:=(glE hj);rwa [Xi]at this
 rw[XJ hi]at hj;cases hj;exact⟨hi,D?⟩
theorem gv(b:Int)(ms:List Int):(lu b ms).length=ms.length:=by unfold lu;rw[WM,Xi]
theorem n8{b:Int}{ms:List Int}(h1:1<=ms.length)(h5:ms.length<=5)(hm:∀m∈ms,0<=m/\m<=3)(hz:(0:Int)∈ms):db (lu b ms):=by
 have mem:∀(i:Nat),i<ms.length->ms.getD i 0∈ms:=λi hi=>by
  rw[List.getD,WR hi];exact List.getElem_mem hi
 refine⟨by rw[gv];exact h1,by rw[gv];lia,λk hk=>?_,λk hk=>?_,?_,λi j k l hi hj e=>?_⟩
 .obtain⟨i,hi⟩:=Xj.mp hk;obtain⟨_,rfl⟩:=fF hi;exact wz _ _
 .obtain⟨i,hi⟩:=Xj.mp hk;obtain⟨h,rfl⟩:=fF hi;exact hm _ (mem i h)
 .obtain⟨i,hi⟩:=Xj.mp hz;have hl:=(glE hi);refine⟨(kE b (i:Int),ms.getD i 0),Xx.mpr ⟨i,YW.mpr hl,D?⟩,?_⟩;show ms.getD i 0=0;rw[List.getD,hi];rfl
 .obtain⟨a1,rfl⟩:=fF hi;obtain⟨a2,rfl⟩:=fF hj;exact wg (by lia) (by lia) e
inductive gq(vs:List V)(H:Hp)(Q:VK)(_E:XK):Prop
 |mk (b:Int) (ml:WQ) (ms:List Int):vs=[.int b,.ref ml]->H ml=A? (.lst (ms.map q!))->ms.length<=5->(∀(r:WQ)(as:List WQ)(H':Hp),k! H H'->H' r=A? (.tup (as.map i!))->KsAt H' (lu b ms) as->Q (.ref r) H')->gq  vs H Q _E
theorem dQ:aT P w K mg base CX0 1 T.g_45.f T.g_45.d ["script","k"] (fc K):=by
 refine T.g_45.F.okA kG λAg A outer s H vs Q E hr h=>?_;obtain⟨a,ns,k,rfl,hS,h0,q⟩:=h
 refine⟨_,(ad (bZ (bh li (pv 1) (aA aw rfl T.n_5 XE (aa (pv 0) ab)) (aZ _)) (af (ax (aC bj (pv 0) (pv 1) (λ_ _=>rfl)))) bB)
  (af (ax ag))),?_⟩
 try dsimp only[Av,Ad]
 refine⟨_,D?,_,D?,a,_,D?,.inl hS,_,_,D?,D?,_,D?,?_⟩;refine cy (λc=>?_) (λc=>?_)
 .have c':k<(((ns.map q!).length:Nat):Int):=e! c;rw[WM]at c';exact⟨_,D?,_,D?,a,_,k,_,D?,D?,hS,int_at h0 c',q _⟩
 .exact q _
theorem hX:aT P w K mg base CX0 2 T.g_48.f T.g_48.d ["base","menu"] gq:=by
 refine T.g_48.F.okA mS λAg A outer s H vs Q E hr h=>?_;obtain⟨b,ml,ms,rfl,em,M1,q⟩:=h;refine⟨_,(af (ax (bd aP rfl T.n_11 XX (aa (bH (N:=["n","base","menu"]) (js:=[B?,A? 0,A? 1]) (g:=(ak 0)) (tt:=bi) (te:=(iz (aD (cx eV [] E0 (aD (aR 1) (aD (aR 0) bY))) (aD (tOp (uI K) (aR 2) (aR 0)) bY)))) rfl (bU rfl (by decide +kernel) (by decide +kernel) rfl rfl rfl) (bu rfl T.n_9 (aa (aA aw rfl T.n_5 XE (aa (pv 1) ab)) ab)) (λ_ _ _ _ _ _=>(pgN 0 aaX)) (aH rfl) (λ_ _ _ _ _ _=>bt) (λ_ _ _ _ _ _=>(az (aa (pcF T.g_47 (ph T) hr (aa (pv 1) (aa (pv 0) ab))) (aa (aC bj (pv 2) (pv 0) (λ_ _=>rfl)) ab))))) ab)))),?_⟩
 try dsimp only[Av,Ad]
 refine⟨_,D?,ml,_,D?,.inl (l! em),_,D?,by lia,by rw[WM];lia,cJ (F:=KAt) (xs:=(XD ms.length).map λ(i:Nat)=>q! (0+(i:Int))) (lu b ms) (λH1 H2 z p kt h=>kt _ _ h) (by rw[gv,WM,Xi]) (by rw[WM,Xi];lia) (λi Hx sx hi=>by rw[WM,Xi]at hi;show i<(((ms.map q!).length:Nat):Int).toNat;rw[WM];lia) (λHx sx=>by show(((ms.map q!).length:Nat):Int).toNat<=((XD ms.length).map λ(i:Nat)=>q! (0+(i:Int))).length;rw[WM,WM,Xi];lia) (λi Hx x Hy sx hi hy=>⟨hy.1,?_⟩) (λi x z Hx R W' hx AG sx hR=>?_) (λD2 H2 as Ta s2 GW Fw=>?_)⟩
 .rw[WM,Xi]at hi;rw[hy.2,WY,XJ hi];rfl
 .have hi:i<ms.length:=by
   have:=(glE hx);rw[WM,Xi]at this;exact this
  rw[WY,XJ hi]at hx;cases hx;obtain⟨_,rfl⟩:=fF AG;refine⟨_,D?,_,D?,b,_,D?,λH3 s3=>?_⟩;refine⟨_,D?,_,D?,ml,_,_,.int (ms.getD i 0),D?,D?,l! ((sx.trans s3) _ _ em),at_nonneg (by lia) (by rw[show(0+(i:Int)).toNat=i by lia,WY,List.getD,WR hi];rfl),lnE rfl,λp hp=>?_⟩;refine hR _ p (s3.trans (ae hp _)) ?_;show(upd H3 p (.tup [.str (kE b (0+(i:Int))),.int (ms.getD i 0)])) p=A? (.tup [.str (kE b (i:Int)),.int (ms.getD i 0)]);rw[ac,X6]
 refine⟨D2,_,D?,.inl ⟨l! GW,λia NA=>?_⟩⟩;have s3:=ae NA (.tup (as.map i!));exact q ia as _ (s2.trans s3) ac (v! (λ_ _ e=>(j! s3) _ _ e) Fw)
def gf:Nat->Sp
 |0=>λ_ _ _ _=>False
 |n+1=>λvs H Q _=>∃(c d:Int)(oa:WQ)(Az:List WQ)(outs:List (Xp×Int))(S k:Int)(W:Nat),vs=[.int c,.int d,.ref oa,.int S,.int k]/\H oa=A? (.tup (Az.map i!))/\KsAt H outs Az/\db outs/\1<=W/\(∀z∈outs,z.2<=(W:Int))/\0<=S/\S<=20/\0<=k/\k<=3/\0<=d/\d<=n/\d<=5/\∀(r:WQ)(t:Th)(H':Hp),k! H H'->At H' t r->PB outs S k W d.toNat t->Q (.ref r) H'
theorem cq:∀n:Nat,aT P w K mg base CX0 (n+1) T.g_49.f T.g_49.d ["cell","deep","outs","states","kids"] (gf n)
 |0=>⟨λ_ _ _ _ h=>h.elim,λ_ _ _ _ _ _ _ _ _ _ _ _ _ h=>h.elim⟩
 | n+1=>by
   have ih:=cq n;refine T.g_49.F.ok (k:=n+1) cN (λvs H Q E h=>?_) (λAg A outer s H vs Q E hr h=>?_)
   .obtain⟨c,d,oa,Az,outs,S,kd,W,rfl,_⟩:=h;rfl
   obtain⟨c,d,oa,Az,outs,S,kd,W,rfl,Gu,Cw,g,hW,FF,S0,NB,Me,NC,d0,dn,d5,q⟩:=h
   refine⟨_,(ad (bZ (PW.pt (aah (bh qy (aB eK (pv 3) (pv 4)) ag (aZ _)) (yi (bh li (aB b8 (pv 0) ag) ag (aZ _))))) (af (ax (az (aa dr (aa (aB b8 (aB de (pv 0) ag) (pv 3)) (aa (aB b8 (aB de (aB de (pv 0) ag) (pv 3)) (pv 4)) ab)))))) bB)
    (ad (du (i:=5) (N:=["kind","deep"]) (js:=[B?,A? 1]) (g:=(ak 0)) (tt:=(tOr (m3 (tOp (rEq) (tOp (vC K) (aR 0) (tC (.int 1))) (tC (.int 0)))) (m3 (tOp (rI0 λi j=>.bl (decide (j<i))) (aR 1) (tC (.int 0)))))) (te:=(aR 0)) cN.nd rfl (Or.inl rfl) rfl (bU rfl (by decide +kernel) (by decide +kernel) rfl rfl rfl) (di (pv 2)) (λ_ _ _ _ _ _=>(pgN 0 aas)) (aH rfl) (λ_ _ _ _ _ _=>gR (PW.pt (tz (bh eJ (aC aF (pv 0) ag (λ_ _=>rfl)) ag (aZ _)) (o9 (bh qy (pv 1) ag (aZ _)))))) (λ_ _ _ _ _ _=>(pv 0)))
    (ad (aj 6 cN.nd (aC bj (pv 5) (aB b8 (aB de (pv 0) ag) (aA aw rfl T.n_5 XE (aa (pv 5) ab))) (λ_ _=>rfl)))
    (ad (du (i:=7) (N:=["j","outs","states","kids","cell","deep"]) (js:=[B?,A? 2,A? 3,A? 4,A? 0,A? 1]) (g:=(ak 0)) (tt:=bi) (te:=(cx (gf _) [] E0 (aD (cx dS [] E0 (aD (aR 4) (aD (aR 0) bY))) (aD (tOp (rI0 λi j=>.int (i - j)) (aR 5) (tC (.int 1))) (aD (aR 1) (aD (aR 2) (aD (aR 3) bY))))))) cN.nd rfl (Or.inl rfl) rfl (bU rfl (by decide +kernel) (by decide +kernel) rfl rfl rfl) (bu rfl T.n_9 (aa (aC aF (pv 6) ag (λ_ _=>rfl)) ab)) (λ_ _ _ _ _ _=>(pgN 0 aaN)) (aH rfl) (λ_ _ _ _ _ _=>bt) (λ_ _ _ _ _ _=>(cR (ih) (hr.mono (WV _)) rfl T.g_49.m T.g_49.F.kp T.g_49.b .nil eS (aa (pcF T.g_46 (dz T) hr (aa (pv 4) (aa (pv 0) ab))) (aa (aB pA (pv 5) ag) (aa (pv 1) (aa (pv 2) (aa (pv 3) ab))))))))
    (af (ax (aB cY (az (aa (aC aF (pv 6) ag (λ_ _=>rfl)) ab)) (bd aP rfl T.n_11 XX (aa (pv 7) ab))))))))),?_⟩
   try dsimp only[Av,Ad]
   refine cr (λAb H'=>Ab=[A? (.int c),A? (.int d),A? (.ref oa),A? (.int S),A? (.int kd),B?,B?,B?]/\H=H') (λkk AO=>?_) ?_
   .refine cA (λb H'=>An2 (H=H') ((b=C?->0<S/\0<kd))) (λk2 By=>?_) (λH' hb=>?_) (λH' hb=>?_)
    .refine⟨_,D?,_,D?,_,_,D?,D?,.inl ⟨by lia,by lia⟩,_,_,D?,D?,_,D?,?_⟩;refine cy (λcc=>?_) (λcc=>By _ _ ⟨rfl,λz=>by cases z⟩);refine⟨_,D?,_,_,D?,D?,(by show(0:Int)<5;decide),_,_,D?,D?,_,D?,By _ _ ⟨D?,λ_=>?_⟩⟩;have h1:0<S * kd:=e! cc;have h2:S≠0:=λz=>by rw[z,Int.zero_mul]at h1;lia
     have h3:kd≠0:=λz=>by rw[z,Int.mul_zero]at h1;lia
     lia
    .obtain⟨rfl,hb⟩:=hb;obtain⟨Mf,Tb⟩:=hb rfl;have u0:=Yx (c / 5) (show S≠0 by lia);have u1:=YB (c / 5) Mf;have v0:=Yx (c / 5 / S) (show kd≠0 by lia);have v1:=YB (c / 5 / S) Tb;refine⟨_,D?,_,_,D?,D?,⟨by decide,by decide⟩,_,D?,_,_,D?,D?,Mf,_,D?,_,_,D?,D?,⟨by decide,by decide⟩,_,D?,_,_,D?,D?,⟨Mf,by lia⟩,_,D?,_,_,D?,D?,Tb,lnE rfl,λr Bv=>?_⟩;refine q r (.call (c / 5%S) (c / 5 / S%kd)) _ (ae Bv _) (by rw[At];exact ac) (PB.call hW (by rw[z!];exact⟨u0,u1,v0,v1⟩))
    .obtain⟨rfl,_⟩:=hb;exact AO _ _ ⟨rfl,rfl⟩
   rintro Ab H' ⟨rfl,rfl⟩
   try dsimp only[ak]
   have BI:outs.length=Az.length:=WZ Cw;have Ws:=g.le;obtain⟨kz,Ju,QT⟩:=g.zero;refine⟨_,D?,oa,D?,⟨_,n! Gu⟩,j4 (K:=K) (λk=>decide (q! k.2=q! 0) ||decide (0<d)) Gu Cw (by lia) (λz ka H2 R sm hz r=>?_) (λka H2 R r=>⟨_,D?,r⟩) (λD bs H2 hD e' hb1 Wt Ah=>?_)⟩
   .refine⟨_,D?,ka,_,1,_,D?,D?,n! hz,at1,D?,_,D?,?_⟩;refine cy (λc=>?_) (λc=>?_)
    .rw[c]at r;exact r
    .rw[YA.mpr c]at r;exact⟨_,D?,_,_,D?,D?,_,D?,r⟩
   have hb1:=hb1 ⟨kz,Ju,by rw[QT];rfl⟩;have s2:k! H H2:=by rw[e'];exact ae hD _
   have eD:H2 D=A? (.lst (bs.map λz=>i! z.2)):=by rw[e'];exact ac
   clear e';have FZ:0<((bs.map λz=>i! z.2).length:Int):=by rw[WM];lia
   have y0:=Yx (c / 7) (show((bs.map λz=>i! z.2).length:Int)≠0 by lia);have y1:=YB (c / 7) FZ;refine hid λZZ kZ=>?_;obtain⟨z,hz⟩:∃z,bs[(c / 7%((bs.map λz=>i! z.2).length:Int)).toNat]?=A? z:=⟨_,WR (by rw[WM]at y1 |-;lia)⟩;obtain⟨AE,gp,FQ⟩:=Ah z (WS hz);obtain⟨k0,ka⟩:=z;refine kZ ?_;dsimp only at AE gp FQ hz;have Cs:=g.num k0 AE
   have Tc:k0.2=0\/0<d:=by
    rcases Bool.or_eq_true .. |>.mp gp with h|h
    .exact .inl (V.int.inj (e! h))
    .exact .inr (e! h)
   try dsimp only[ak]
   refine⟨_,D?,_,D?,_,_,D?,D?,⟨by decide,by decide⟩,_,D?,D,_,D?,.inl (l! eD),_,_,D?,D?,FZ,D,_,_,.ref ka,D?,D?,l! eD,at_nonneg y0 (gmE hz),?_⟩
   try dsimp only[ak]
   have Mg:=s2 _ _ FQ;refine⟨_,D?,ka,_,1,_,D?,D?,n! Mg,at1,k0.2,D?,by lia,by lia,?_⟩;intro Dl Gm;refine⟨k0.2.toNat,λj H4=>An3 (j<=k0.2.toNat) (k! H2 H4) (Ex2 λ(as:List WQ)(ts:List Th)=>An4 (H4 Dl=A? (.lst (as.map i!))) (Ats H4 ts as) (ts.length=j) (∀t∈ts,PB outs S kd W (d.toNat - 1) t)),⟨Xg _,ae Gm _,[],[],ac,.nil,D?,λt h=>by cases h⟩,?_⟩;rintro j H4 ⟨hj,s4,as,ts,EO,Cy,Aw,Aa⟩;have AN:=Cy.length;by_cases Cd:j=k0.2.toNat
   .left;refine⟨(by show k0.2.toNat<=j;lia),?_⟩
    try dsimp only[ak]
    refine⟨_,D?,ka,_,0,.str k0.1,D?,D?,n! (s4 _ _ Mg),at0,lnE rfl,λma IH=>?_⟩;refine gU IH λH3 s3 e3=>?_;refine⟨_,D?,Dl,_,D?,.inl ⟨l! (s3 _ _ EO),λtp Bn=>?_⟩⟩;refine gU Bn λH5 s5 e5=>?_;refine mH (s5 _ _ e3) e5 (by rw[WM];show 1+as.length<=1000000;lia) λp H6 s6 e6=>?_;have LV:=s3.trans (s5.trans s6);have hk:(k0.1,(ts.length:Int))=k0:=by rw[Aw,Cd,Yu Cs.1]
    refine q p (.knot k0.1 ts) H6 (s2.trans (s4.trans LV)) ?_ ?_
    .rw[At];exact⟨qH (g.low k0 AE).1,as,e6,Cy.mono (j! LV)⟩
    .rcases Tc with h0|hd
     .have hn:ts=[]:=Yk.mp (by lia);subst hn;exact PB.leaf _ hW (by rw[<-h0];exact AE)
     .obtain⟨m,hm⟩:∃m,d.toNat=m+1:=⟨d.toNat - 1,by lia⟩;rw[hm,Nat.add_sub_cancel]at Aa;rw[hm];have:=FF k0 AE;exact PB.over hW (by rw[hk];exact AE) (by lia) Aa
   .right;have Ap:j<k0.2.toNat:=by lia
    have hd:0<d:=by rcases Tc with h|h <;> lia
    refine⟨Ap,(by show j<k0.2.toNat;exact Ap),?_⟩;rintro x' H5 ⟨q1,q2⟩;have Wu:H5=H4:=q1;subst Wu;have Wv:x'=q! (0+(j:Int)):=q2;subst Wv;obtain⟨m,rfl⟩:∃m,n=m+1:=⟨n - 1,by lia⟩;refine⟨_,D?,_,D?,c,_,D?,λz _=>?_⟩;refine⟨_,D?,_,_,D?,D?,_,D?,_,D?,_,D?,z,d - 1,oa,Az,outs,S,kd,W,D?,(s2.trans s4) _ _ Gu,Cw.mono (j! (s2.trans s4)),g,hW,FF,S0,NB,Me,NC,by lia,by lia,by lia,λr t H6 s6 QU NF=>?_⟩;have Td:=s6 _ _ EO;refine⟨_,Td,lbE (by lia),Ap,ao (s4.trans s6) Gm,as++[r],ts++[t],uAE,?_,by rw[Xd,Aw];rfl,λu hu=>?_⟩
    .have k7:KT H6 (upd H6 Dl (.lst (as.map i!++[.ref r]))):=aI Td;exact Ats.append (Cy.mono ((j! s6).trans k7)) (.cons (QU.mono k7) .nil)
    .rcases Xz.mp hu with hu|hu
     .exact Aa u hu
     .rw[W9.mp hu];rw[show(d - 1).toNat=d.toNat - 1 by lia]at NF;exact NF
theorem vB{k:Int}{t:Th}(hW:1<=W)(h:PB outs S k W 0 t):∀{d:Nat},PB outs S k W d t
 |0=>h
 |_+1=>(vB hW h).up hW (Int.le_refl _) (Int.le_refl _)
theorem t8:∀{bs:List ((Xp×Int)×WQ)},(∀z∈bs,KAt H z.1 z.2)->KsAt H (bs.map (·.1)) (bs.map (·.2))
 | [],_=>.nil
 |z::bs,h=>.cons (h z (Xh ..)) (t8 λy hy=>h y (Xe _ hy))
inductive gH(vs:List V)(H:Hp)(Q:VK)(_E:XK):Prop
 |mk (e c d:Int) (oa:WQ) (Az:List WQ) (outs:List (Xp×Int)) (S kd:Int) (W:Nat):vs=[.int e,.int c,.int d,.ref oa,.int S,.int kd]->H oa=A? (.tup (Az.map i!))->KsAt H outs Az->db outs->1<=W->(∀z∈outs,z.2<=(W:Int))->0<=S->S<=20->0<=kd->kd<=3->0<=d->d<=2->(∀(r:WQ)(t:Th)(H':Hp),k! H H'->At H' t r->PB outs S kd W (d.toNat+1) t->Q (.ref r) H')->gH  vs H Q _E
theorem lH:aT P w K mg base CX0 5 T.g_50.f T.g_50.d ["seed","cell","deep","outs","states","kids"] gH:=by
 refine T.g_50.F.okA cC λAg A outer s H vs Q E hr h=>?_;obtain⟨e,c,d,oa,Az,outs,S,kd,W,rfl,Gu,Cw,g,hW,FF,S0,NB,Me,NC,d0,d2,q⟩:=h
 refine⟨_,(ad (du (i:=6) (N:=["kind","seed"]) (js:=[B?,A? 0]) (g:=(ak 0)) (tt:=(tOr (m3 (tOp (rI0 λi j=>.bl (decide (j<i))) (tOp (vC K) (aR 0) (tC (.int 1))) (tC (.int 0)))) (m3 (tOp (rEq) (tOp (rI (λ_ j=>0<j) λi j=>.int (i%j)) (aR 1) (tC (.int 5))) (tC (.int 1)))))) (te:=(aR 0)) cC.nd rfl (Or.inl rfl) rfl (bU rfl (by decide +kernel) (by decide +kernel) rfl rfl rfl) (di (pv 3)) (λ_ _ _ _ _ _=>(pgN 0 aaJ)) (aH rfl) (λ_ _ _ _ _ _=>gR (PW.pt (tz (bh qy (aC aF (pv 0) ag (λ_ _=>rfl)) ag (aZ _)) (o9 (bh eJ (aB b8 (pv 1) ag) ag (aZ _)))))) (λ_ _ _ _ _ _=>(pv 0)))
  (ad (bZ (PW.pt (tz (bh eJ (aB b8 (pv 0) ag) ag (aZ _)) (o9 (bh (yH (B:=150) (eY hr)) (pv 6) (bp ab) (aZ _))))) (af (ax (pcF T.g_49 (cq T 3) hr (aa (pv 1) (aa (pv 2) (aa (pv 3) (aa (pv 4) (aa (pv 5) ab)))))))) bB)
  (ad (aj 7 cC.nd (aC bj (pv 6) (aB b8 (aB de (pv 0) ag) (aA aw rfl T.n_5 XE (aa (pv 6) ab))) (λ_ _=>rfl)))
  (ad (aj 8 cC.nd (bp ab))
  (ad (bq Xr rfl (bu rfl T.n_9 (aa (aC aF (pv 7) ag (λ_ _=>rfl)) ab)) (pgN 9 cC.nd) (ad (aS (bT Xc Xv Xu aQ (pv 8) (aa (pcF T.g_49 (cq T 3) hr (aa (pcF T.g_46 (dz T) hr (aa (pv 1) (aa (pv 9) ab))) (aa (pv 2) (aa (pv 3) (aa (pv 4) (aa (pv 5) ab)))))) ab)))
  (af (bZ (bh eJ (aB b8 (aB de (pv 0) ag) ag) (pv 9) (aZ _)) (af (fB (pcF T.g_49 (cq T 3) hr (aa (pcF T.g_46 (dz T) hr (aa (pv 0) (aa (pv 9) ab))) (aa ag (aa (pv 3) (aa ag (aa ag ab)))))) (vm (pv 8) (pv 9) set_list))) bB))))
  (af (ax (aB cY (az (aa (aC aF (pv 7) ag (λ_ _=>rfl)) ab)) (bd aP rfl T.n_11 XX (aa (pv 8) ab)))))))))),?_⟩
 try dsimp only[Av,Ad]
 have BI:outs.length=Az.length:=WZ Cw;have Ws:=g.le;refine⟨_,D?,oa,D?,⟨_,n! Gu⟩,j4 (K:=K) (λk=>decide (0<k.2) ||decide (q! (e%5)=q! 1)) Gu Cw (by lia) (λz ka H2 R sm hz r=>?_) (λka H2 R r=>⟨_,D?,r⟩) (λD bs H2 hD e' _ Wt Ah=>?_)⟩
 .refine⟨_,D?,ka,_,1,_,D?,D?,n! hz,at1,_,_,D?,D?,_,D?,?_⟩;refine cy (λc=>?_) (λc=>?_)
  .rw[c]at r;exact r
  .rw[YA.mpr c]at r;exact⟨_,D?,_,_,D?,D?,(by show(0:Int)<5;decide),D?,_,D?,r⟩
 have s2:k! H H2:=by rw[e'];exact ae hD _
 have eD:H2 D=A? (.lst (bs.map λz=>i! z.2)):=by rw[e'];exact ac
 clear e'
 try dsimp only[ak]
 refine cr (λAb H3=>Ab=[A? (.int e),A? (.int c),A? (.int d),A? (.ref oa),A? (.int S),A? (.int kd),A? (.ref D),B?,B?,B?]/\k! H2 H3/\bs≠[]) (λkk AO=>?_) ?_
 .refine cA (λb H3=>An2 (k! H2 H3) ((b=Cf->bs≠[]))) (λk2 By=>?_) (λH3 hb=>?_) (λH3 hb=>?_)
  .refine⟨_,D?,_,_,D?,D?,(by show(0:Int)<3;decide),D?,_,D?,?_⟩;refine cy (λcc=>By _ _ ⟨.refl _,λz=>by cases z⟩) (λcc=>?_);refine⟨_,D?,lnE rfl,λnl Le=>?_⟩;refine gU Le λH3 s3 e3=>?_;have Df:=t8 (H:=H3) (bs:=bs) λz hz=>(j! (s2.trans s3)) _ _ (Ah z hz).2.2;have Te:=tJ Df;rw[show(bs.map (·.2)).map i!=bs.map λz=>i! z.2 by rw[Y9];rfl]at Te;refine⟨D,nl,_,_,_,[],D?,D?,l! (s3 _ _ eD),l! e3,Te,.nil,Xs (iP _) (by decide),λb hb=>⟨_,D?,By _ _ ⟨s3,λhf hn=>?_⟩⟩⟩;rw[hf]at hb;exact W6 (hb.mpr (by rw[hn];rfl))
  .obtain⟨s3,_⟩:=hb;have Dx:=s2.trans s3;refine⟨_,D?,_,D?,_,D?,_,D?,_,D?,c,d,oa,Az,outs,S,kd,W,D?,Dx _ _ Gu,Cw.mono (j! Dx),g,hW,FF,S0,NB,Me,NC,d0,d2,by lia,λr t H4 s4 Ql Ww=>?_⟩;exact q r t H4 (Dx.trans s4) Ql (Ww.up hW (Int.le_refl _) (Int.le_refl _))
  .obtain⟨s3,hb⟩:=hb;exact AO _ _ ⟨rfl,s3,hb rfl⟩
 rintro Ab H3 ⟨rfl,s3,Aq⟩;have hb1:=List.length_pos_iff.mpr Aq
 have FZ:0<((bs.map λz=>i! z.2).length:Int):=by
  rw[WM];lia
 have y0:=Yx (e / 3) (show((bs.map λz=>i! z.2).length:Int)≠0 by lia);have y1:=YB (e / 3) FZ;refine hid λZZ kZ=>?_;obtain⟨z,hz⟩:∃z,bs[(e / 3%((bs.map λz=>i! z.2).length:Int)).toNat]?=A? z:=⟨_,WR (by rw[WM]at y1 |-;lia)⟩;obtain⟨AE,_,FQ⟩:=Ah z (WS hz);obtain⟨k0,ka⟩:=z;refine kZ ?_;dsimp only at AE FQ hz;have Cs:=g.num k0 AE;have Dx:=s2.trans s3;have Tf:=s3 _ _ eD;have Mh:=Dx _ _ FQ;refine⟨_,D?,_,D?,_,_,D?,D?,⟨by decide,by decide⟩,_,D?,D,_,D?,.inl (l! Tf),_,_,D?,D?,FZ,D,_,_,.ref ka,D?,D?,l! Tf,at_nonneg y0 (gmE hz),?_⟩
 try dsimp only[ak]
 refine⟨lnE rfl,λpl AU=>?_⟩;refine gU AU λH4 s4 e4=>?_;have e4:H4 pl=A? (.lst (([]:List WQ).map i!)):=e4
 try dsimp only[ak]
 refine⟨_,D?,ka,_,1,_,D?,D?,n! (s4 _ _ Mh),at1,k0.2,D?,by lia,by lia,?_⟩
 refine cw (n:=k0.2.toNat) (λj Z H5=>Ex3 λ(jv:Option V)(as:List WQ)(ts:List Th)=>An6 (Z=[A? (.int e),A? (.int c),A? (.int d),A? (.ref oa),A? (.int S),A? (.int kd),A? (.ref D),A? (.ref ka),A? (.ref pl),jv]) (k! H3 H5) (H5 pl=A? (.lst (as.map i!))) (Ats H5 ts as) (ts.length=j) (∀t∈ts,PB outs S kd W d.toNat t))
  ⟨B?,[],[],rfl,s4,e4,.nil,rfl,λt h=>by cases h⟩ ?_ ?_
 .rintro j Z H5 hj ⟨jv,as,ts,rfl,s5,e5,Cy,Aw,Aa⟩;have Ap:j<k0.2.toNat:=hj;have AN:=Cy.length;have Jv:=Dx.trans s5
  try dsimp only[ak]
  refine cr (λAb H6=>Ex2 λ(as:List WQ)(ts:List Th)=>An6 (Ab=[A? (.int e),A? (.int c),A? (.int d),A? (.ref oa),A? (.int S),A? (.int kd),A? (.ref D),A? (.ref ka),A? (.ref pl),A? (.int (0+(j:Int)))]) (k! H3 H6) (H6 pl=A? (.lst (as.map i!))) (Ats H6 ts as) (ts.length=j+1) (∀t∈ts,PB outs S kd W d.toNat t)) (λkk AO=>?_) ?_
  .refine⟨_,D?,.inl ⟨D?,_,l! e5⟩,_,D?,_,D?,c,_,D?,λz _=>?_⟩;refine⟨_,D?,_,D?,_,D?,_,D?,z,d,oa,Az,outs,S,kd,W,D?,Jv _ _ Gu,Cw.mono (j! Jv),g,hW,FF,S0,NB,Me,NC,d0,d2,by lia,λr t H6 s6 QU NF=>?_⟩;have e6:=s6 _ _ e5;refine⟨pl,_,_,D?,D?,e6,lbE (by lia),?_⟩;have k7:KT H6 (upd H6 pl (.lst (as.map i!++[.ref r]))):=aI e6;refine AO _ _ ⟨as++[r],ts++[t],rfl,ao (s5.trans s6) AU,uAE,Ats.append (Cy.mono ((j! s6).trans k7)) (.cons (QU.mono k7) .nil),by rw[Xd,Aw];rfl,λu hu=>?_⟩;rcases Xz.mp hu with hu|hu
   .exact Aa u hu
   .rw[W9.mp hu];exact NF
  rintro Ab H6 ⟨as,ts,rfl,s6,e6,Cy,Aw,Aa⟩;have AN:=Cy.length;have G7:=Dx.trans s6;refine cA (λb H7=>H6=H7) (λk2 By=>?_) (λH7 hb=>?_) (λH7 hb=>?_)
  .exact⟨_,D?,_,_,D?,D?,⟨by decide,by decide⟩,_,_,D?,D?,(by show(0:Int)<3;decide),_,D?,D?,_,D?,By _ _ rfl⟩
  .subst hb;refine⟨_,D?,_,D?,e,_,D?,λz _=>?_⟩;refine⟨_,D?,z,0,oa,Az,outs,0,0,W,D?,G7 _ _ Gu,Cw.mono (j! G7),g,hW,FF,by decide,by decide,by decide,by decide,by decide,by decide,by decide,λr t H7 s7 LW QS=>?_⟩;have e7:=s7 _ _ e6;refine⟨_,D?,_,D?,pl,_,_,j,D?,D?,e7,?_,?_⟩
   .unfold ixN;rw[b! (by lia),b! (by rw[WM];lia)];simp
   .have k8:KT H7 (upd H7 pl (.lst ((as.map i!).set j (.ref r)))):=aI e7;refine⟨_,as.set j r,ts.set j t,D?,ao (s6.trans s7) AU,by rw[ac,List.map_set],?_,by rw[List.length_set];exact Aw,λu hu=>?_⟩
    .exact Ats.set j (Cy.mono ((j! s7).trans k8)) (LW.mono k8)
    .rcases List.mem_or_eq_of_mem_set hu with hu|rfl
     .exact Aa u hu
     .refine vB hW ?_;exact QS.wide S0 Me
  .subst hb;exact⟨_,as,ts,D?,s6,e6,Cy,Aw,Aa⟩
 .rintro Z H5 ⟨jv,as,ts,rfl,s5,e5,Cy,Aw,Aa⟩;have AN:=Cy.length
  try dsimp only[ak]
  refine⟨_,D?,ka,_,0,.str k0.1,D?,D?,n! (s5 _ _ Mh),at0,lnE rfl,λma IH=>?_⟩;refine gU IH λH6 s6 e6=>?_;refine⟨_,D?,pl,_,D?,.inl ⟨l! (s6 _ _ e5),λtp Bn=>?_⟩⟩;refine gU Bn λH7 s7 e7=>?_;refine mH (s7 _ _ e6) e7 (by rw[WM];show 1+as.length<=1000000;lia) λp H8 s8 e8=>?_;have DN:=s6.trans (s7.trans s8);have hk:(k0.1,(ts.length:Int))=k0:=by rw[Aw,Yu Cs.1]
  have:=FF k0 AE;refine q p (.knot k0.1 ts) H8 (Dx.trans (s5.trans DN)) ?_ (PB.over hW (by rw[hk];exact AE) (by lia) Aa);rw[At];exact⟨qH (g.low k0 AE).1,as,e8,Cy.mono (j! DN)⟩
inductive ij(K:WO)(vs:List V)(H:Hp)(Q:VK)(_E:XK):Prop
 |mk (a:WQ) (ns:List Int) (M:Nat):vs=[.ref a,.int (M:Nat)]->SqL K H a (ns.map q!)->ns.length<=63->1<=M->M<=100->(∀(r:WQ)(ds:List Int)(H':Hp),k! H H'->H' r=A? (.lst (ds.map q!))->ds.length=M->Q (.ref r) H')->ij K vs H Q _E
theorem mN:aT P w K mg base CX0 1 T.g_51.f T.g_51.d ["script","many"] (ij K):=by
 refine T.g_51.F.okA dF λAg A outer s H vs Q E hr h=>?_;obtain⟨a,ns,M,rfl,hS,CM,Mi,Tg,q⟩:=h
 refine⟨_,(ad (du (i:=2) (N:=["k"]) (js:=[B?]) (g:=(ak 0)) (tt:=bi) (te:=(tOp (rI0 λi j=>.int (i+j)) (tC (.int 11)) (tOp (rI CMul λi j=>.int (i * j)) (tC (.int 5)) (aR 0)))) dF.nd rfl (Or.inl rfl) rfl (bU rfl (by decide +kernel) (by decide +kernel) rfl rfl rfl) (bu rfl T.n_9 (aa (pv 1) ab)) (λ_ _ _ _ _ _=>(pgN 0 aay)) (aH rfl) (λ_ _ _ _ _ _=>bt) (λ_ _ _ _ _ _=>(aB dk ag (aB eK ag (pv 0)))))
  (ad (bq Xr rfl (n9 rfl T.n_9 (aa ag (aa (aA aw rfl T.n_5 XE (aa (pv 0) ab)) ab))) (pgN 3 dF.nd) (ad (aj 4 dF.nd (aB eK (aC bj (pv 0) (pv 3) (λ_ _=>rfl)) (aB dk ag (aB de (pv 3) (pv 1)))))
  (af (fB (aB dk (aC bj (pv 2) (aB b8 (pv 3) (pv 1)) (λ_ _=>rfl)) (pv 4)) (vm (pv 2) (aB b8 (pv 3) (pv 1)) set_list)))))
  (af (ax (pv 2))))),?_⟩
 try dsimp only[Av,Ad]
 refine⟨_,D?,(M:Int),D?,by lia,by lia,xD (xs:=(XD M).map λ(i:Nat)=>q! (0+(i:Int))) ((XD M).map λ(i:Nat)=>11+5 * (i:Int)) q! (by rw[WM,WM]) (by rw[WM,Xi];lia) (λi Hx sx hi=>by rw[WM,Xi]at hi;show i<((M:Nat):Int).toNat;lia) (λHx sx=>by rw[WM,Xi];show((M:Nat):Int).toNat<=M;lia) (λi Hx x Hy sx hi hy=>⟨hy.1,?_⟩) (λi x z Hx R W' hx hz sx hR=>?_) (λcl H1 Bm s1 FA=>?_)⟩
 .rw[WM,Xi]at hi;rw[hy.2,WY,XJ hi];rfl
 .have hi:i<M:=by
   have:=(glE hz);rw[WM,Xi]at this;exact this
  rw[WY,XJ hi]at hx hz;cases hx;cases hz;refine⟨_,D?,_,_,D?,D?,.inl ⟨by decide,by decide⟩,_,_,D?,D?,?_⟩;rw[X6];exact hR _ (.refl _)
 try dsimp only[ak]
 have Mf:=s1.seq hS;refine⟨_,D?,a,_,D?,.inl Mf,2,_,D?,⟨by decide,by decide,by lia,by rw[WM];lia⟩,?_⟩
 refine cw (lo:=2) (n:=((((ns.map q!).length:Nat):Int) - 2).toNat) (λi Z H2=>Ex3 λ(kv mv:Option V)(ds:List Int)=>An4 (Z=[A? (.ref a),A? (.int (M:Nat)),A? (.ref cl),kv,mv]) (k! H H2) (H2 cl=A? (.lst (ds.map q!))) (ds.length=M))
  ⟨B?,B?,_,rfl,s1,FA,by rw[WM,Xi]⟩ ?_ ?_
 .rintro i Z H2 hi ⟨kv,mv,ds,rfl,s2,e2,DK⟩
  have AF:2+i<ns.length:=by
   have h1:i<((((ns.map q!).length:Nat):Int) - 2).toNat:=hi;rw[WM]at h1;lia
  have E5:(0:Int)<(M:Nat):=by lia
  have y0:=Yx (2+(i:Int)) (show((M:Nat):Int)≠0 by lia);have y1:=YB (2+(i:Int)) E5;have w0:=Int.ediv_nonneg (show 0<=2+(i:Int)by lia) (Int.le_of_lt E5);have w1:(2+(i:Int)) / (M:Nat)<=2+(i:Int):=Int.ediv_le_self _ (by lia);refine hid λZZ kZ=>?_;obtain⟨ix,Li⟩:∃ix:Nat,(2+(i:Int))%(M:Nat)=(ix:Int):=⟨_,(Yu y0).symm⟩;obtain⟨c,hc⟩:∃c,ds[ix]?=A? c:=⟨_,WR (by lia)⟩;obtain⟨x,hx⟩:∃x,ns[2+i]?=A? x:=⟨_,WR AF⟩;refine kZ ?_;have Ey:=s2.seq hS;refine⟨_,D?,_,D?,a,_,_,.int x,D?,D?,Ey,at_nonneg (by lia) (by rw[show(2+(i:Int)).toNat=2+i by lia,WY,hx];rfl),?_⟩;refine⟨_,D?,_,D?,_,_,D?,D?,⟨E5,by lia⟩,_,_,D?,D?,_,_,D?,D?,.inr ⟨by lia,by lia⟩,?_⟩
  try dsimp only[ak]
  refine⟨_,D?,_,D?,_,D?,_,_,D?,D?,E5,cl,_,_,.int c,D?,D?,l! e2,at_nonneg y0 (by rw[Li,Xy,WY,hc];rfl),?_⟩;refine⟨_,D?,_,_,D?,D?,?_⟩;refine⟨_,D?,_,D?,_,D?,_,_,D?,D?,E5,cl,_,_,ix,D?,D?,e2,?_,?_⟩
  .rw[Li];unfold ixN;rw[b! (by lia),b! (by rw[WM];lia)];simp
  .refine⟨_,_,ds.set ix (c+x * (1+(2+(i:Int)) / (M:Nat))),D?,ao s2 Bm,?_,by rw[List.length_set];exact DK⟩;rw[ac,List.map_set]
 .rintro Z H2 ⟨kv,mv,ds,rfl,s2,e2,DK⟩;exact⟨_,D?,q cl ds H2 s2 e2 DK⟩
def tO:List (List Int):=[[0,1],[0,2],[0,0,2],[0,1,2],[1,0],[2,0,0],[0,1,1],[0,3]]
def t5:List (List Int):=[[0,2],[0,1,2],[0,0,2],[2,0,1,0],[0,0,1],[0,0,0],[0,1],[0,3,1]]
def t7(z:List Int):Prop:=1<=z.length/\z.length<=5/\(∀m∈z,0<=m/\m<=3)/\(0:Int)∈z
theorem qZ:∀z∈tO,t7 z:=by unfold t7 tO;decide
theorem p9:∀z∈t5,t7 z:=by unfold t7 t5;decide
inductive jf(K:WO)(vs:List V)(H:Hp)(Q:VK)(_E:XK):Prop
 |mk (a:WQ) (ns:List Int):vs=[.ref a]->SqL K H a (ns.map q!)->ns.length<=63->(∀(b ia oa ha ra:WQ)(Ak Az AM:List WQ)(ins outs:List (Xp×Int))(W D:Nat)(head:Th)(rows:List (List Th))(H':Hp),k! H H'->BookAt H' ins outs head rows b ia oa ha ra Ak Az AM->Drw ins outs W D head rows->Q (.ref b) H')->jf K vs H Q _E
theorem oP:aT P w K mg base CX0 6 T.g_52.f T.g_52.d ["script"] (jf K):=by
 refine T.g_52.F.okA aK λAg A outer s H vs Q E hr h=>?_;obtain⟨a,ns,rfl,hS,CM,q⟩:=h
 refine⟨_,(@ad _ _ _ _ _ (aj 1 aK.nd (pcF T.g_45 (dQ T) hr (aa (pv 0) (aa ag ab))))
  (@ad _ _ _ _ _ (@nZ _ 2 _ _ _ _ _ _ _ [([(0,_,_),(1,_,_)],_),([(0,_,_),(2,_,_)],_),([(0,_,_),(0,_,_),(2,_,_)],_),([(0,_,_),(1,_,_),(2,_,_)],_),([(1,_,_),(0,_,_)],_),([(2,_,_),(0,_,_),(0,_,_)],_),([(0,_,_),(1,_,_),(1,_,_)],_),([(0,_,_),(3,_,_)],_)] aK.nd rfl (Or.inl rfl) (Or.inl rfl) (aB b8 (pv 1) ag) (λ_ _=>rfl))
  (@ad _ _ _ _ _ (aj 3 aK.nd (pcF T.g_48 (hX T) hr (aa (aB de (pv 1) ag) (aa (pv 2) ab))))
  (@ad _ _ _ _ _ (@nZ _ 2 _ _ _ _ _ _ _ [([(0,_,_),(2,_,_)],_),([(0,_,_),(1,_,_),(2,_,_)],_),([(0,_,_),(0,_,_),(2,_,_)],_),([(2,_,_),(0,_,_),(1,_,_),(0,_,_)],_),([(0,_,_),(0,_,_),(1,_,_)],_),([(0,_,_),(0,_,_),(0,_,_)],_),([(0,_,_),(1,_,_)],_),([(0,_,_),(3,_,_),(1,_,_)],_)] aK.nd rfl (Or.inl rfl) (Or.inl rfl) (aB b8 (aB de (pv 1) ag) ag) (λ_ _=>rfl))
  (@ad _ _ _ _ _ (aj 4 aK.nd (pcF T.g_48 (hX T) hr (aa (aB de (pv 1) ag) (aa (pv 2) ab))))
  (@ad _ _ _ _ _ (aj 5 aK.nd (aB dk ag (aB b8 (pcF T.g_45 (dQ T) hr (aa (pv 0) (aa ag ab))) ag)))
  (@ad _ _ _ _ _ (bZ (bh eJ (aB b8 (pcF T.g_45 (dQ T) hr (aa (pv 0) (aa ag ab))) ag) ag (aZ _)) (af (aj 5 aK.nd ag)) bB)
  (@ad _ _ _ _ _ (bZ (bh eJ (aA (nI rfl) rfl T.n_7 PyProof.Rows.boot_max (aa (pv 2) ab)) ag (aZ _)) (af (aj 5 aK.nd (aA (uK rfl) rfl T.n_8 PyProof.Rows.boot_min (aa (pv 5) (aa ag ab))))) bB)
  (@ad _ _ _ _ _ (aj 6 aK.nd (aB dk ag (bd uC rfl T.n_3 PyProof.Rows.boot_int (aa (gI (dB li (pv 5) ag (aZ _)) (jF (dB li (aA (nI rfl) rfl T.n_7 PyProof.Rows.boot_max (aa (pv 2) ab)) ag (aZ _)))) ab))))
  (@ad _ _ _ _ _ (aj 7 aK.nd (pcF T.g_51 (mN T) hr (aa (pv 0) (aa (aB dk ag (aB eK (pv 5) (aA aw rfl T.n_5 XE (aa (pv 3) ab)))) ab))))
  (@ad _ _ _ _ _ (aj 8 aK.nd (bp ab))
  (@ad _ _ _ _ _ (bq Xr rfl (bu rfl T.n_9 (aa (pv 5) ab)) (pgN 9 aK.nd) (ad (aj 10 aK.nd (pcF T.g_46 (dz T) hr (aa (aC bj (pv 7) (aB dk ag (aB eK (pv 9) (aA aw rfl T.n_5 XE (aa (pv 3) ab)))) (λ_ _=>rfl)) (aa ag ab))))
  (ad (aj 11 aK.nd (bp ab))
  (ad (bq Xr rfl (bu rfl T.n_9 (aa (aA aw rfl T.n_5 XE (aa (pv 3) ab)) ab)) (pgN 12 aK.nd) (af (aS (bT Xc Xv Xu aQ (pv 11) (aa (pcF T.g_50 (lH T) hr (aa (pv 10) (aa (aC bj (pv 7) (aB dk (aB dk ag (aB eK (pv 9) (aA aw rfl T.n_5 XE (aa (pv 3) ab)))) (pv 12)) (λ_ _=>rfl)) (aa (pv 6) (aa (pv 4) (aa (pv 5) (aa (aC aF (aC aF (pv 3) (pv 12) (λ_ _=>rfl)) ag (λ_ _=>rfl)) ab))))))) ab)))))
  (af (aS (bT Xc Xv Xu aQ (pv 8) (aa (bd aP rfl T.n_11 XX (aa (pv 11) ab)) ab))))))))
  (@af _ _ _ (ax (az (aa (pv 3) (aa (pv 4) (aa (pcF T.g_49 (cq T 3) hr (aa (aC bj (pv 7) ag (λ_ _=>rfl)) (aa (pv 6) (aa (pv 4) (aa (pv 5) (aa ag ab)))))) (aa (bd aP rfl T.n_11 XX (aa (pv 8) ab)) ab))))))))))))))))))),?_⟩
 try dsimp only[Av,Ad]
 refine⟨_,D?,a,ns,0,D?,hS,by decide,λc=>?_⟩;dsimp only[ak];refine kg (zs:=tO) (λz hz=>by have:=(qZ z hz).2.1;lia) (by decide) λD as H1 s1 eD hp=>?_;have y0:=Yx c (show(8:Int)≠0 by decide);have y1:=YB c (show(0:Int)<8 by decide);refine hid λZZ kZ=>?_;obtain⟨zA,Ti⟩:∃z,tO[(c%8).toNat]?=A? z:=⟨_,WR (by show(c%8).toNat<8;lia)⟩;obtain⟨mA,Wx,Wy⟩:=B! hp Ti;obtain⟨a1,a2,a3,a4⟩:=qZ zA (WS Ti);refine kZ ?_;refine⟨_,D?,_,_,D?,D?,(by show(0:Int)<8;decide),D,_,_,.ref mA,D?,D?,l! eD,at_nonneg y0 (gmE Wx),?_⟩;dsimp only[ak];refine⟨_,D?,_,_,D?,D?,⟨by decide,by decide⟩,_,D?,_,mA,zA,D?,Wy,a2,λia Ak H2 s2 Wz NA=>?_⟩;dsimp only[ak];refine kg (zs:=t5) (λz hz=>by have:=(p9 z hz).2.1;lia) (by decide) λD2 as2 H3 s3 GW AW=>?_;have x0:=Yx (c / 8) (show(8:Int)≠0 by decide);have x1:=YB (c / 8) (show(0:Int)<8 by decide);refine hid λZZ kZ=>?_;obtain⟨zB,Tj⟩:∃z,t5[(c / 8%8).toNat]?=A? z:=⟨_,WR (by show(c / 8%8).toNat<8;lia)⟩;obtain⟨mB,WA,Tn⟩:=B! AW Tj;obtain⟨b1,b2,b3,b4⟩:=p9 zB (WS Tj);refine kZ ?_;refine⟨_,D?,_,_,D?,D?,⟨by decide,by decide⟩,_,_,D?,D?,(by show(0:Int)<8;decide),D2,_,_,.ref mB,D?,D?,l! GW,at_nonneg x0 (gmE WA),?_⟩;dsimp only[ak];refine⟨_,D?,_,_,D?,D?,⟨by decide,by decide⟩,_,D?,_,mB,zB,D?,Tn,b2,λoa Az H4 s4 FK To=>?_⟩;dsimp only[ak];have IV:=s1.trans (s2.trans (s3.trans s4));have gi:db (lu (c / 64) zA):=n8 a1 a2 a3 a4;have go:db (lu (c / 6656) zB):=n8 b1 b2 b3 b4;have Tp:=s3.trans s4;have Mj:=Tp _ _ Wz;have Ml:=NA.mono (j! Tp);have Mm:=s4 _ _ Tn;have hiL:Ak.length=zA.length:=by have:=WZ NA;rw[gv]at this;exact this.symm
 refine⟨_,D?,a,ns,1,D?,IV.seq hS,by decide,λc1=>?_⟩;have n0:=Yx c1 (show(5:Int)≠0 by decide);have n1:=YB c1 (show(0:Int)<5 by decide);refine⟨_,_,D?,D?,(by show(0:Int)<5;decide),_,_,D?,D?,?_⟩;dsimp only[ak];refine cr (λAb H'=>An2 (H4=H') (Ex1 λ(N:Nat)=>An2 (N<=5) (Ab=[A? (.ref a),A? (.int c),A? (.ref mB),A? (.ref ia),A? (.ref oa),A? (.int (N:Nat)),B?,B?,B?,B?,B?,B?,B?]))) (λkk AO=>?_) ?_
 .refine cA (λb H'=>H4=H') (λk2 By=>?_) (λH' hb=>?_) (λH' hb=>?_)
  .exact⟨_,D?,a,ns,1,D?,IV.seq hS,by decide,λc2=>⟨_,_,D?,D?,(by show(0:Int)<11;decide),D?,_,D?,By _ _ rfl⟩⟩
  .subst hb;exact AO _ _ ⟨rfl,0,by decide,rfl⟩
  .subst hb;exact AO _ _ ⟨rfl,(1+c1%5).toNat,by lia,by rw[Yu (by lia)];rfl⟩
 rintro Ab H' ⟨rfl,N,Mn,rfl⟩;have Tq:∀M:Int,M∈zB->(∀x∈zB,x<=M)->(M=3↔(3:Int)∈zB):=λM h1 h2=>⟨λh=>by rw[<-h];exact h1,λh=>by have:=h2 3 h;have:=(b3 M h1).2;lia⟩;have Mo:zB≠[]:=λz=>by rw[z]at b1;simp at b1
 refine cr (λAb H'=>An2 (H4=H') (Ex1 λ(N:Nat)=>An3 (N<=5) (((3:Int)∈zB->N<=2)) (Ab=[A? (.ref a),A? (.int c),A? (.ref mB),A? (.ref ia),A? (.ref oa),A? (.int (N:Nat)),B?,B?,B?,B?,B?,B?,B?]))) (λkk AO=>?_) ?_
 .refine cA (λb H'=>An2 (H4=H') ((b=C?↔(3:Int)∈zB))) (λk2 By=>?_) (λH' hb=>?_) (λH' hb=>?_)
  .refine⟨_,D?,mB,zB,D?,l! Mm,Mo,λM Mi QV=>⟨D?,_,D?,By _ _ ⟨D?,?_⟩⟩⟩;rw[<-Tq M Mi QV];exact⟨λh=>V.int.inj (e! h),λh=>d! (by rw[h])⟩
  .obtain⟨rfl,hb⟩:=hb;refine⟨_,D?,_,_,D?,?_⟩;dsimp only[ak];by_cases h2:(2:Int)<(N:Nat)
   .rw[b! h2];exact AO _ _ ⟨rfl,2,by decide,λ_=>by decide,rfl⟩
   .rw[a! h2];exact AO _ _ ⟨rfl,N,Mn,λ_=>by lia,rfl⟩
  .obtain⟨rfl,hb⟩:=hb;exact AO _ _ ⟨rfl,N,Mn,λh=>g! (hb.mpr h) W6,rfl⟩
 clear Mn;rintro Ab H' ⟨rfl,N,Mn,WB,rfl⟩;refine cr (λAb H'=>An2 (H4=H') (Ex1 λ(dp:Nat)=>An2 ((dp=2/\N<3/\(3:Int)∉zB\/dp=1)) (Ab=[A? (.ref a),A? (.int c),A? (.ref mB),A? (.ref ia),A? (.ref oa),A? (.int (N:Nat)),A? (.int (dp:Nat)),B?,B?,B?,B?,B?,B?]))) (λkk AO=>?_) ?_
 .refine⟨_,D?,_,_,D?,D?,_,D?,?_⟩;refine cy (λcc=>?_) (λcc=>?_)
  .have cc':((N:Nat):Int)<3:=e! cc;refine⟨_,D?,mB,zB,D?,l! Mm,Mo,λM Mi QV=>⟨_,_,D?,D?,.inr ⟨_,D?,_,_,D?,D?,?_⟩⟩⟩;dsimp only[ak];have hM:=Tq M Mi QV;have hM3:=(b3 M Mi).2;by_cases h3:M<3
   .exact AO _ _ ⟨rfl,2,.inl ⟨rfl,by lia,λz=>by have:=hM.mpr z;lia⟩,by rw[b! (d! h3)];rfl⟩
   .exact AO _ _ ⟨rfl,1,.inr rfl,by rw[a! (λz=>h3 (e! z))];rfl⟩
  .refine .inr ⟨_,rfl,_,_,rfl,rfl,?_⟩;dsimp only[ak];exact AO _ _ ⟨rfl,1,.inr rfl,rfl⟩
 rintro Ab H' ⟨rfl,dp,Tr,rfl⟩;generalize QW:lu (c / 64) zA=ins at gi Ml;generalize Mp:lu (c / 6656) zB=outs at go To;have CU:ins.length=zA.length:=by rw[<-QW,gv]
 refine hid λZZ kZ=>?_
 obtain⟨W,NG,FF,HS⟩:∃W:Nat,1<=W/\(∀z∈outs,z.2<=(W:Int))/\(dp+1<=3/\W ^ (dp+1)<=9/\szB W (dp+1)<=15/\N * W ^ (dp+1)<=20):=by
  have hz:∀z∈outs,z.2∈zB:=λz hz=>by
   rw[<-Mp]at hz;obtain⟨i,hi⟩:=Xj.mp hz;obtain⟨h1,rfl⟩:=fF hi;show zB.getD i 0∈zB;rw[List.getD,WR h1];exact List.getElem_mem h1
  by_cases h3:(3:Int)∈zB
  .have hn:=WB h3;rcases Tr with⟨_,_,h⟩|rfl
   .exact g! h3 h
   .exact⟨3,by decide,λz h=>(b3 _ (hz z h)).2,by decide,by decide,by decide,by show N * 9<=20;lia⟩
  .have h2:∀z∈outs,z.2<=((2:Nat):Int):=λz h=>by
    have h5:=hz z h;have h6:=(b3 _ h5).2;have h7:z.2≠3:=λe=>h3 (by rw[<-e];exact h5);lia
   rcases Tr with⟨rfl,hn,_⟩|rfl
   .exact⟨2,by decide,h2,by decide,by decide,by decide,by show N * 8<=20;lia⟩
   .exact⟨2,by decide,h2,by decide,by decide,by decide,by show N * 4<=20;lia⟩
 refine kZ ?_;have WC:1<=dp/\dp<=2:=by lia
 have hNL:N * Ak.length<=5 * 5:=Nat.mul_le_mul Mn (show Ak.length<=5 by lia);refine⟨_,D?,_,D?,_,D?,ia,_,D?,.inr (n! Mj),_,_,D?,D?,.inl ⟨by lia,by lia⟩,_,_,D?,D?,a,ns,1+N * Ak.length,?_,IV.seq hS,CM,by lia,by lia,λcl cs H5 s5 FA Bm=>?_⟩
 .rw[WM,Int.natCast_add,Int.natCast_mul];rfl
 dsimp only[ak];refine⟨lnE rfl,λrl C3=>?_⟩;refine gU C3 λH6 s6 e6=>?_;have e6:H6 rl=A? (.lst (([]:List WQ).map i!)):=e6;dsimp only[ak];have Jv:=IV.trans s5;have Fe:=s5 _ _ Mj;have Mq:=Ml.mono (j! s5);have IW:=s5 _ _ FK;have IX:=To.mono (j! s5)
 have WD:∀i:Nat,i<N->1+i * Ak.length+Ak.length<=cs.length:=λi hi=>by
  have h1:(i+1) * Ak.length<=N * Ak.length:=Y3 _ hi;rw[Nat.succ_mul]at h1;lia
 refine⟨_,D?,(N:Int),D?,by lia,by lia,?_⟩
 refine cw (n:=((N:Nat):Int).toNat) (λi Z H7=>Ex6 λ(sv ev rv jv:Option V)(bs:List WQ)(rows:List (List Th))=>An6 (Z=[A? (.ref a),A? (.int c),A? (.ref mB),A? (.ref ia),A? (.ref oa),A? (.int (N:Nat)),A? (.int (dp:Nat)),A? (.ref cl),A? (.ref rl),sv,ev,rv,jv]) (k! H5 H7) (H7 rl=A? (.lst (bs.map i!))) (Xk (RowAt H7) rows bs) (rows.length=i) (∀row∈rows,row.length=ins.length/\∀(j:Nat)(p:Th)(k:Xp×Int),row[j]?=A? p->ins[j]?=A? k->PB outs (N:Nat) k.2 W (dp+1) p))
  ⟨B?,B?,B?,B?,[],[],rfl,s6,e6,.nil,rfl,λrow h=>by cases h⟩ ?_ ?_
 .rintro i Z H7 hi ⟨sv,ev,rv,jv,bs,rows,rfl,s7,e7,Ah,Ed,C4⟩
  have AF:i<N:=by
   have h1:i<((N:Nat):Int).toNat:=hi;lia
  have AV:rows.length=bs.length:=WZ Ah;have hci:=WD i AF;obtain⟨x,hx⟩:∃x,cs[1+i * Ak.length]?=A? x:=⟨_,WR (by lia)⟩;have s57:=s7
  have hsz:(1:Int)+(0+(i:Int)) * (((Ak.map i!).length:Nat):Int)=((1+i * Ak.length:Nat):Int):=by
   rw[X6,WM,Int.natCast_add,Int.natCast_mul];rfl
  refine⟨_,D?,_,D?,_,D?,ia,_,D?,.inr (n! (s7 _ _ Fe)),_,_,D?,D?,.inl ⟨by lia,by lia⟩,_,_,D?,D?,cl,_,_,.int x,D?,D?,l! (s7 _ _ FA),by rw[hsz];exact at_nonneg (by lia) (by rw[Xy,WY,hx];rfl),x,77,D?,λsd _=>?_⟩;dsimp only[ak];refine⟨lnE rfl,λwl Ew=>?_⟩;refine gU Ew λH8 s8 e8=>?_;have e8:H8 wl=A? (.lst (([]:List WQ).map i!)):=e8;dsimp only[ak];have DN:=s7.trans s8;refine⟨_,D?,ia,_,D?,.inr (n! (DN _ _ Fe)),_,D?,by lia,by rw[WM];lia,?_⟩
  refine cw (n:=(((Ak.map i!).length:Nat):Int).toNat) (λj Z H9=>Ex3 λ(jv:Option V)(as:List WQ)(ts:List Th)=>An6 (Z=[A? (.ref a),A? (.int c),A? (.ref mB),A? (.ref ia),A? (.ref oa),A? (.int (N:Nat)),A? (.int (dp:Nat)),A? (.ref cl),A? (.ref rl),A? (.int (0+(i:Int))),A? (.int sd),A? (.ref wl),jv]) (k! H7 H9) (H9 wl=A? (.lst (as.map i!))) (Ats H9 ts as) (ts.length=j) (∀(j':Nat)(p:Th)(k:Xp×Int),ts[j']?=A? p->ins[j']?=A? k->PB outs (N:Nat) k.2 W (dp+1) p))
   ⟨jv,[],[],rfl,s8,e8,.nil,rfl,λj p k h=>by simp at h⟩ ?_ ?_
  .rintro j Z H9 hj ⟨jv,as,ts,rfl,s9,e9,Cy,Aw,Aa⟩
   have Ap:j<Ak.length:=by
    have h1:j<(((Ak.map i!).length:Nat):Int).toNat:=hj;rw[WM]at h1;lia
   have AN:=Cy.length;refine hid λZZ kZ=>?_;obtain⟨y,hy⟩:∃y,cs[1+i * Ak.length+j]?=A? y:=⟨_,WR (by lia)⟩;obtain⟨k0,CF⟩:∃k0,ins[j]?=A? k0:=⟨_,WR (by lia)⟩;have Em:=s7.trans s9;obtain⟨ka,AZ,FQ⟩:=B! (Mq.mono (j! Em)) CF;refine kZ ?_;have Cs:=gi.num k0 (WS CF)
   have CZ:(1:Int)+(0+(i:Int)) * (((Ak.map i!).length:Nat):Int)+(0+(j:Int))=((1+i * Ak.length+j:Nat):Int):=by
    rw[hsz,X6,Int.natCast_add (1+i * Ak.length)]
   refine⟨_,D?,.inl ⟨D?,_,l! e9⟩,_,D?,_,D?,_,D?,_,D?,ia,_,D?,.inr (n! (Em _ _ Fe)),_,_,D?,D?,.inl ⟨by lia,by lia⟩,_,_,D?,D?,_,D?,_,_,D?,D?,cl,_,_,.int y,D?,D?,l! (Em _ _ FA),by rw[CZ];exact at_nonneg (by lia) (by rw[Xy,WY,hy];rfl),?_⟩;refine⟨_,D?,_,D?,_,D?,_,D?,_,D?,ia,_,_,.ref ka,D?,D?,n! (Em _ _ Fe),at_nonneg (by lia) (by rw[show(0+(j:Int)).toNat=j by lia,WY,AZ];rfl),ka,_,1,.int k0.2,D?,D?,n! FQ,at1,?_⟩;refine⟨sd,y,(dp:Nat),oa,Az,outs,(N:Nat),k0.2,W,D?,Em _ _ IW,IX.mono (j! Em),go,NG,FF,by lia,by lia,Cs.1,Cs.2,by lia,by lia,λr t HA sA WE WG=>?_⟩;have eA:=sA _ _ e9;refine⟨wl,_,_,D?,D?,eA,lbE (by lia),?_⟩;have k7:KT HA (upd HA wl (.lst (as.map i!++[.ref r]))):=aI eA;refine⟨_,as++[r],ts++[t],D?,ao (s9.trans sA) Ew,uAE,Ats.append (Cy.mono ((j! sA).trans k7)) (.cons (WE.mono k7) .nil),by rw[Xd,Aw];rfl,λj' p k hp hk=>?_⟩;rcases Nat.lt_or_ge j' ts.length with Ai|HX
   .rw[X0 Ai]at hp;exact Aa j' p k hp hk
   .rw[Yq HX]at hp
    have h0:j' - ts.length=0:=by
     have:=(glE hp);rw[List.length_singleton]at this;lia
    rw[h0]at hp;cases hp;rw[show j'=j by lia,CF]at hk;cases hk;exact WG
  .rintro Z H9 ⟨jv,as,ts,rfl,s9,e9,Cy,Aw,Aa⟩
   have BU:ts.length=ins.length:=by
    have h1:ts.length=(((Ak.map i!).length:Nat):Int).toNat:=Aw;rw[WM]at h1;lia
   have Tt:=s9 _ _ e7;refine⟨_,D?,.inl ⟨D?,_,l! Tt⟩,_,D?,wl,_,D?,.inl ⟨l! e9,λtp Bn=>?_⟩⟩;refine gU Bn λHA sA eA=>?_;have Tu:=sA _ _ Tt;refine⟨rl,_,_,D?,D?,Tu,lbE (by lia),?_⟩;have kB:KT HA (upd HA rl (.lst (bs.map i!++[.ref tp]))):=aI Tu;refine⟨_,_,_,_,bs++[tp],rows++[ts],D?,ao (s7.trans (s9.trans sA)) C3,uAE,?_,by rw[Xd,Ed];rfl,λrow hr=>?_⟩
   .exact r! (v! (λ_ _ e=>RowAt.mono ((j! (s9.trans sA)).trans kB) e) Ah) (.cons ⟨as,kB _ _ eA,Cy.mono ((j! sA).trans kB)⟩ .nil)
   .rcases Xz.mp hr with hr|hr
    .exact C4 row hr
    .rw[W9.mp hr];exact⟨BU,Aa⟩
 rintro Z H7 ⟨sv,ev,rv,jv,bs,rows,rfl,s7,e7,Ah,Ed,C4⟩;rw[Xy]at Ed;have AV:rows.length=bs.length:=WZ Ah;obtain⟨x,hx⟩:∃x,cs[0]?=A? x:=⟨_,WR (by lia)⟩;refine⟨_,D?,_,D?,_,D?,cl,_,0,.int x,D?,D?,l! (s7 _ _ FA),at_nonneg (by decide) (by show(cs.map q!)[0]?=_;rw[WY,hx];rfl),?_⟩;refine⟨_,D?,_,D?,_,D?,x,(dp:Nat),oa,Az,outs,(N:Nat),1,W,D?,s7 _ _ IW,IX.mono (j! s7),go,NG,FF,by lia,by lia,by decide,by decide,by lia,(by show((dp:Nat):Int)<=2;lia),by lia,λha t H8 s8 WH Tv=>?_⟩;refine⟨_,D?,rl,_,D?,.inl ⟨l! (s8 _ _ e7),λtp Bn=>?_⟩⟩;refine gU Bn λH9 s9 e9=>?_;refine⟨lnE rfl,λb hb=>?_⟩;have sA:=ae hb (.tup [.ref ia,.ref oa,.ref ha,.ref tp]);have Mr:=s7.trans (s8.trans (s9.trans sA));have WI:=j! (s8.trans (s9.trans sA));refine q b ia oa ha tp Ak Az bs ins outs W (dp+1) t rows _ (Jv.trans Mr) ⟨ac,Mr _ _ Fe,Mq.mono (j! Mr),Mr _ _ IW,IX.mono (j! Mr),WH.mono (j! (s9.trans sA)),sA _ _ e9,v! (λ_ _ e=>RowAt.mono WI e) Ah⟩ ?_;rw[Xy]at Tv;refine⟨gi,go,NG,?_,?_,by lia,by rw[Ed];exact HS⟩
 .rw[Ed];exact Tv.up NG (Int.le_refl _) (Int.le_refl _)
 .rw[Ed];exact C4
def CaP(H:Hp)(s:Int)(b:WQ):Prop:=∃(pa:WQ)(c:Int),H b=A? (.tup [.ref pa,.int c])/\PrAt H s pa
theorem iU(k:KT H H'){l:List Int}(h:Xk (CaP H) l as):Xk (CaP H') l as:=v! (λ_ _⟨p,c,e,g⟩=>⟨p,c,k _ _ e,g.mono k⟩) h
theorem za{s:Int}(h:StV .p H s v):∃pa,v=.ref pa/\PrAt H s pa:=by
 obtain⟨pa,x,y,e,h⟩:=h;exact⟨pa,e,x,y,h⟩
def mI(K:WO):Nat->Sp
 |0=>λ_ _ _ _=>False
 |n+1=>λvs H Q _=>∃(a:WQ)(t:Th),vs=[.ref a]/\AtK .p K H t a/\t.size<=1000/\t.tall<=n+1/\∀(r:WQ)(as:List WQ)(H':Hp),k! H H'->H r=B?->H' r=A? (.lst (as.map i!))->Xk (CaP H') (stT t) as->Q (.ref r) H'
theorem i6(a b:List Th):bK (a++b)=bK a++bK b:=List.flatMap_append
theorem fA:∀n:Nat,aT P w K mg base CX0 n T.g_53.f T.g_53.d ["pattern"] (mI K n)
 |0=>⟨λ_ _ _ _ h=>h.elim,λ_ _ _ _ _ _ _ _ _ _ _ _ _ h=>h.elim⟩
 | n+1=>by
   have ih:=fA n;refine T.g_53.F.ok dC (λvs H Q E h=>?_) (λAg A outer s H vs Q E hr h=>?_)
   .obtain⟨a,t,rfl,_⟩:=h;rfl
   obtain⟨a,t,rfl,hA,hsz,Aw,k⟩:=h
   refine⟨_,(ad (bZ (bh eJ (aC aF (pv 0) ag (λ_ _=>rfl)) dr (aZ _)) (af (ax (bp (aa (az (aa (aC aF (pv 0) ag (λ_ _=>rfl)) (aa (aC aF (pv 0) ag (λ_ _=>rfl)) ab))) ab)))) bB)
    (ad (aj 1 dC.nd (bp ab))
    (ad (bq Xr rfl (di (cK fR (pv 0) (cW ag) dG)) (pgN 2 dC.nd) (af (aj 1 dC.nd (aB rE (pv 1) (cR (ih) (hr.mono (WV _)) rfl T.g_53.m T.g_53.F.kp T.g_53.b .nil eS (aa (pv 2) ab))))))
    (af (ax (pv 1)))))),?_⟩
   try dsimp only[Av,Ad]
   cases t with
   | call sn kn =>
     rw[AtK]at hA;obtain⟨v,ea,hv⟩:=hA;obtain⟨pa,rfl,Bc⟩:=za hv;refine⟨_,D?,a,_,0,.str q,D?,D?,ea.sq,at0,D?,_,D?,?_⟩;refine cy (λ_=>?_) (λc=>g! (d! rfl) c);refine⟨_,D?,a,_,1,.ref pa,D?,D?,ea.sq,at1,_,D?,a,_,2,.int kn,D?,D?,ea.sq,at2,lnE rfl,λpr QX=>?_⟩;refine gU QX λH0 s0 e0=>?_;refine⟨lnE rfl,λfd G9=>?_⟩;have s1:=ae G9 (.lst [.ref pr]);refine k fd [pr] _ (s0.trans s1) (s0.free G9) ac ?_;rw[gB];exact .cons ⟨pa,kn,s1 _ _ e0,Bc.mono (j! (s0.trans s1))⟩ .nil
   |knot nm ks =>
   rw[t!]at Aw;rw[p!]at hsz;rw[AtK]at hA;refine hid λZZ kZ=>?_;obtain⟨Ep,ka,ea,AZ⟩:=hA;refine kZ ?_;have BI:ka.length=ks.length:=AZ.length;have Ju:=bI ks;refine⟨_,D?,a,_,0,.str nm,D?,D?,ea.sq,at0,D?,_,D?,?_⟩;refine cy (λc=>g! (e! c) (λz=>Ep (V.str.inj z))) (λ_=>?_);refine⟨lnE rfl,λfd G9=>?_⟩;refine gU G9 λH2 s2 e2=>?_;refine⟨_,D?,1,D?,a,_,D?,(ea.mono (j! s2)).sq,?_,λp2 AW=>?_⟩
   .rintro⟨z,_⟩;rw[W0,show(1:Int)=((1:Nat):Int)by rfl,M!]at z;lia
   rw[dP];have Ba:k! H (upd H2 p2 (.tup (ka.map i!))):=s2.trans (ae AW _);have D4:(upd H2 p2 (.tup (ka.map i!))) p2=A? (.tup (ka.map i!)):=ac;have Mt:(upd H2 p2 (.tup (ka.map i!))) fd=A? (.lst []):=ae AW _ _ _ e2;generalize(upd H2 p2 (.tup (ka.map i!)))=H1 at Ba D4 Mt |-;refine⟨p2,D?,⟨_,n! D4⟩,?_⟩;refine oG (K:=K) (a:=p2) (xs:=ka.map i!) (λi Z H3=>Ex3 λ(c:Option V)(fl:WQ)(as:List WQ)=>An6 (Z=[A? (.ref a),A? (.ref fl),c]) (k! H H3) (H fl=B?) (H3 p2=A? (.tup (ka.map i!))) (H3 fl=A? (.lst (as.map i!))) (Xk (CaP H3) (bK (ks.take i)) as)) ⟨B?,fd,[],rfl,Ba,G9,D4,Mt,.nil⟩ (λi Z H3 _⟨_,_,_,_,_,_,e,_,_⟩=>n! e) ?_ ?_
   .rintro i x Z H3 hx ⟨c,fl,as,rfl,s3,DZ,Tw,e3,D9⟩;obtain⟨ua,rfl,Dw⟩:=aG hx;obtain⟨u,hu,E1⟩:=AZ.get Dw;have DG:u∈ks:=WS hu;have M3:=bL DG;have WJ:=aY DG;cases n with
    | zero =>
      have:=u.tall_eq;lia
    |succ n =>
    refine⟨_,D?,_,D?,ua,u,D?,E1.mono (j! s3),by lia,by lia,λr bs H6 s6 nr er Ah=>?_⟩;have e6:=s6 _ _ e3;have g1:=gw (ks.take i);have g2:=iJ i ks;have g3:=kJ u;have l1:=WZ D9;have l2:=WZ Ah;refine⟨fl,r,_,_,D?,D?,e6,er,cQ (by rw[WM,WM];lia),λp hp=>?_⟩;have s7:=ae hp (.lst (as.map i!++bs.map i!));refine⟨_,p,as++bs,D?,s3.trans (s6.trans s7),(s3.trans s6).free hp,(s6.trans s7) _ _ Tw,by rw[ac,Xa],?_⟩;rw[XU,hu];show Xk _ (bK (ks.take i++[u])) _;rw[i6];show Xk _ (bK (ks.take i)++(stT u++[])) _;rw[XA];exact r! (iU (j! (s6.trans s7)) D9) (iU (j! s7) Ah)
   .rintro Z H3 ⟨c,fl,as,rfl,s3,DZ,Tw,e3,D9⟩;rw[WM,BI,Yo]at D9;exact⟨_,D?,k fl as H3 s3 DZ e3 (by rw[eR];exact D9)⟩
def cO(K:WO):Nat->Sp
 |0=>λ_ _ _ _=>False
 |n+1=>λvs H Q _=>∃(a nd:WQ)(t:Th)(m:List Int),vs=[.ref a,.ref nd]/\AtK .p K H t a/\H nd=A? (.dT (dl m))/\(∀s∈stT t,s∈m)/\t.size<=1000/\t.tall<=n+1/\∀(r:WQ)(H':Hp),k! H H'->AtK .i K H' (ren (idx m) t) r->Q (.ref r) H'
theorem dU:∀n:Nat,aT P w K mg base CX0 n T.g_54.f T.g_54.d ["pattern","numbers"] (cO K n)
 |0=>⟨λ_ _ _ _ h=>h.elim,λ_ _ _ _ _ _ _ _ _ _ _ _ _ h=>h.elim⟩
 | n+1=>by
   have ih:=dU n;refine T.g_54.F.ok ky (λvs H Q E h=>?_) (λAg A outer s H vs Q E hr h=>?_)
   .obtain⟨a,nd,t,m,rfl,_⟩:=h;rfl
   obtain⟨a,nd,t,m,rfl,hA,em,B0,hsz,Aw,k⟩:=h
   refine⟨_,(ad (bZ (bh eJ (aC aF (pv 0) ag (λ_ _=>rfl)) dr (aZ _)) (af (ax (az (aa dr (aa (jl (gr hr) (pv 1) (aC aF (pv 0) ag (λ_ _=>rfl)) (λ_ _=>rfl)) (aa (aC aF (pv 0) ag (λ_ _=>rfl)) ab)))))) bB)
    (af (ax (aB cY (az (aa (aC aF (pv 0) ag (λ_ _=>rfl)) ab)) (bd aP rfl T.n_11 XX (aa (bH (N:=["part","numbers"]) (js:=[B?,A? 1]) (g:=(ak 0)) (tt:=bi) (te:=(cx (cO K _) [] E0 (aD (aR 0) (aD (aR 1) bY)))) rfl (bU rfl (by decide +kernel) (by decide +kernel) rfl rfl rfl) (di (cK fR (pv 0) (cW ag) dG)) (λ_ _ _ _ _ _=>(pgN 0 aaL)) (aH rfl) (λ_ _ _ _ _ _=>bt) (λ_ _ _ _ _ _=>(cR (ih) (hr.mono (WV _)) rfl T.g_54.m T.g_54.F.kp T.g_54.b .nil eS (aa (pv 0) (aa (pv 1) ab))))) ab)))))),?_⟩
   try dsimp only[Av,Ad]
   cases t with
   | call sn kn =>
     rw[AtK]at hA;obtain⟨v,ea,hv⟩:=hA;obtain⟨pa,rfl,Bc⟩:=za hv;refine⟨_,D?,a,_,0,.str q,D?,D?,ea.sq,at0,D?,_,D?,?_⟩;refine cy (λ_=>?_) (λc=>g! (d! rfl) c);refine⟨_,D?,_,D?,a,_,1,.ref pa,D?,D?,ea.sq,at1,nd,.int (idx m sn),D?,.inr ⟨_,kP sn,pa,.inl em,D?,Bc.get,(oS (B0 sn (by rw[gB];exact W9.mpr rfl))).symm⟩,?_⟩;refine⟨_,D?,a,_,2,.int kn,D?,D?,ea.sq,at2,lnE rfl,λp hp=>?_⟩;refine k p _ (ae hp _) ?_;rw[iM,AtK];exact⟨_,.of ac,D?⟩
   | knot nm us =>
     rw[AtK]at hA;refine hid λZZ kZ=>?_;obtain⟨Ep,ka,ea,AZ⟩:=hA;refine kZ ?_;have BI:ka.length=us.length:=AZ.length;rw[t!]at Aw;rw[p!]at hsz;have WK:=bI us;refine⟨_,D?,a,_,0,.str nm,D?,D?,ea.sq,at0,D?,_,D?,?_⟩;refine cy (λc=>g! (e! c) (λz=>Ep (V.str.inj z))) (λ_=>?_);refine⟨_,D?,a,_,0,.str nm,D?,D?,ea.sq,at0,lnE rfl,λp1 CB=>?_⟩;dsimp only;refine gU CB λH1 s1 e1=>?_;refine⟨_,D?,1,D?,a,_,D?,(ea.mono (j! s1)).sq,?_,λp2 AW=>?_⟩
     .rintro⟨z,_⟩;rw[W0,show(1:Int)=((1:Nat):Int)by rfl,M!]at z;lia
     rw[dP];refine gU AW λH2 s2 e2=>?_;have Ba:=s1.trans s2;refine⟨p2,D?,⟨_,n! e2⟩,cJ (F:=AtK .i K) (xs:=ka.map i!) (us.map (ren (idx m))) (λH1 H2 z p kt h=>h.mono kt) (by rw[WM,WM];lia) (by rw[WM];lia) (λi Hx sx hi=>⟨_,_,n! (sx _ _ e2),WR hi⟩) (λHx sx=>⟨_,n! (sx _ _ e2),WV _⟩) (λi Hx x Hy sx hi hy=>⟨hy.1,hy.2 _ (n! (sx _ _ e2))⟩) (λi y z Hx R W' hy AG sx hR=>?_) (λD Hx bs hD sx eD Bh=>?_)⟩
     .obtain⟨xa,rfl,Ie⟩:=aG hy;obtain⟨tx,ES,Fv⟩:=AZ.get Ie;rw[WY,ES]at AG;cases AG;have El:=WS ES;have Ca:=bL El;have QY:=aY El;have h1:=tx.tall_eq;have k3:=j! (Ba.trans sx);cases n with
      |zero=>lia
      |succ n =>
      exact⟨_,D?,_,D?,xa,nd,tx,m,D?,Fv.mono k3,(Ba.trans sx) _ _ em,λs hs=>B0 s (by rw[eR];exact lb El hs),by lia,by lia,λrr H5 s5 E6=>hR H5 rr s5 E6⟩
     .have QZ:=WZ Bh;rw[WM]at QZ;refine⟨D,_,D?,.inl ⟨l! eD,λtp Bn=>?_⟩⟩;refine gU Bn λH4 s4 e4=>?_;have FE:=(s2.trans sx).trans s4;refine mH (FE _ _ e1) e4 (by rw[WM];show 1+bs.length<=1000000;lia) λp H5 s5 e5=>?_;refine k p H5 ((s1.trans FE).trans s5) ?_;rw[iK,AtK];exact⟨Ep,bs,.of e5,(f8 Bh).mono (j! (s4.trans s5))⟩
mutual
def lhO:Th->List (List Int)
 |.knot n ks=>if(o! n ks).isHole=C? then[[]]else lhs 1 ks
 |.call _ _=>[]
def lhs(k:Int):List Th->List (List Int)
 | []=>[]
 |t::ts=>(lhO t).map (k::·)++lhs (k+1) ts
end
mutual
theorem iG:∀t:Th,(lhO t).length=t.nh
 | .knot n ks=>by
   rw[lhO,Th.nh];by_cases h:(o! n ks).isHole=C?
   .rw[b! h,b! h];rfl
   .rw[a! h,a! h];exact px 1 ks
 |.call _ _=>by rw[lhO,Th.nh];rfl
theorem px:∀(k:Int)(ts:List Th),(lhs k ts).length=nhs ts
 |k,[]=>by rw[lhs,nhs];rfl
 |k,t::ts=>by rw[lhs,nhs,Xd,WM,iG t,px _ ts]
end
theorem qu:∀(k:Int)(ts:List Th)(t:Th),lhs k (ts++[t])=lhs k ts++(lhO t).map ((k+(ts.length:Int))::·)
 | k,[],t=>by
   show(lhO t).map (k::·)++[]=[]++(lhO t).map ((k+((0:Nat):Int))::·);rw[XA,YY,show k+((0:Nat):Int)=k by lia]
 | k,u::ts,t=>by
   rw[X7,lhs,lhs,qu (k+1) ts t,XO,W0,show k+1+(ts.length:Int)=k+((ts.length+1:Nat):Int)by lia]
mutual
theorem wm:∀(pre:List Int)(f t:Th),f.lies t=C?->∀(j:Nat)(sp:List Int),(lhO f)[j]?=A? sp->∃x,(f.hw pre t)[j]?=A? x/\t.sub (sp.map (· - 1))=A? x.2
 | pre,.knot n ks,t,h,j,sp,hj=>by
   rcases cD h with hh|⟨n',HM,us,e1,rfl,e3,hh,_,hl⟩
   .rw[lhO,b! hh]at hj;rw[gQ hh];cases j with
    | zero =>
      obtain rfl:[]=sp:=Xn hj;exact⟨_,D?,fb t⟩
    |succ j=>cases hj
   .cases e1;have hn:¬(o! n ks).isHole=true:=by rw[hh];exact W6
    rw[lhO,a! hn]at hj;rw[Th.hw,a! hn];refine hid λZZ kZ=>?_;obtain⟨x,m,r,u,h1,h2,rfl,h4⟩:=tD pre 0 1 ks us e3 hl j sp hj;refine kZ ?_;refine⟨x,h1,?_⟩;rw[XB,show(1:Int)+(m:Int) - 1=(m:Int)by lia,kY (Int.natCast_nonneg m) (by rw[Xy];exact h2)];exact h4
 |pre,.call s k,t,h,j,sp,hj=>by rw[w!]at h;cases h
theorem tD:∀(pre:List Int)(i c:Int)(ks us:List Th),ks.length=us.length->aX ks us=C?->∀(j:Nat)(sp:List Int),(lhs c ks)[j]?=A? sp->∃(x:List Int×Th)(m:Nat)(r:List Int)(u:Th),(hws pre i ks us)[j]?=A? x/\us[m]?=A? u/\sp=(c+(m:Int))::r/\u.sub (r.map (· - 1))=A? x.2
 |pre,i,c,[],us,_,_,j,sp,hj=>by rw[lhs]at hj;cases hj
 |pre,i,c,k::ks,[],e,_,j,sp,hj=>by simp at e
 | pre,i,c,k::ks,u::us,e,h,j,sp,hj=>by
   rw[bC,Yg]at h;rw[lhs]at hj;rw[hws];have hn:=nb (pre++[i]) k u h.1;have hl:=iG k;by_cases Ai:j<k.nh
   .rw[X0 (by rw[WM];lia),WY,XM]at hj;obtain⟨r,hr,rfl⟩:=hj;obtain⟨x,h1,h2⟩:=wm (pre++[i]) k u h.1 j r hr;exact⟨x,0,r,u,by rw[X0 (by lia)];exact h1,D?,by rw[show c+((0:Nat):Int)=c by lia],h2⟩
   .rw[Yq (by rw[WM];lia),WM,hl]at hj;refine hid λZZ kZ=>?_;obtain⟨x,m,r,v,h1,h2,rfl,h4⟩:=tD pre (i+1) (c+1) ks us (by simpa using e) h.2 _ sp hj;refine kZ ?_;exact⟨x,m+1,r,v,by rw[Yq (by lia),hn];exact h1,by simpa using h2,by rw[show c+((m+1:Nat):Int)=c+1+(m:Int)by lia],h4⟩
end
abbrev yu(H:Hp)(p:List Int)(b:WQ):Prop:=H b=A? (.tup (p.map q!))
def mL(K:WO):Nat->Sp
 |0=>λ_ _ _ _=>False
 |n+1=>λvs H Q _=>∃(a:WQ)(f:Th),vs=[.ref a]/\AtK .i K H f a/\f.noCall/\f.size<=1000/\f.tall<=n+1/\f.tall<=149/\∀(r:WQ)(as:List WQ)(H':Hp),k! H H'->H r=B?->H' r=A? (.lst (as.map i!))->Xk (yu H') (lhO f) as->Q (.ref r) H'
mutual
theorem ug:∀t:Th,t.nh<=t.size/\∀p∈(lhO t),p.length<=t.tall
 | .knot n ks=>by
   rw[Th.nh,lhO,p!,t!];have:=rV ks;by_cases h:(o! n ks).isHole=C?
   .rw[b! h,b! h];exact⟨by lia,λp hp=>by rw[W9.mp hp];exact Xg _⟩
   .rw[a! h,a! h];exact⟨by lia,λp hp=>by have:=this.2 1 p hp;lia⟩
 | .call _ _=>by
   rw[Th.nh,lhO];exact⟨Xg _,λp hp=>by cases hp⟩
theorem rV:∀ts:List Th,nhs ts<=aq ts/\∀k,∀p∈lhs k ts,p.length<=aJ ts+1
 | []=>⟨by rw[nhs];exact Xg _,λk p hp=>by rw[lhs]at hp;cases hp⟩
 | t::ts=>by
   obtain⟨h1,h2⟩:=ug t;obtain⟨h3,h4⟩:=rV ts;refine⟨by rw[nhs,aq];lia,λk p hp=>?_⟩;rw[lhs]at hp;rw[aJ];rcases Xz.mp hp with hp|hp
   .obtain⟨r,hr,rfl⟩:=Xx.mp hp;have:=h2 r hr;show r.length+1<=_;lia
   .have:=h4 _ p hp;lia
end
theorem fu:∀n:Nat,aT P w K mg base CX0 n T.g_56.f T.g_56.d ["front"] (mL K n)
 |0=>⟨λ_ _ _ _ h=>h.elim,λ_ _ _ _ _ _ _ _ _ _ _ _ _ h=>h.elim⟩
 | n+1=>by
   have ih:=fu n;refine T.g_56.F.ok dA (λvs H Q E h=>?_) (λAg A outer s H vs Q E hr h=>?_)
   .obtain⟨a,f,rfl,_⟩:=h;rfl
   obtain⟨a,f,rfl,hA,D8,hsz,Aw,Q0,k⟩:=h
   refine⟨_,(ad (bZ (bh (kL (B:=150) (eY hr)) (pv 0) (az (aa dr ab)) (aZ _)) (af (ax (bp (aa (az ab) ab)))) bB)
    (ad (aj 1 dA.nd (bp ab))
    (ad (bq Xr rfl (n9 rfl T.n_9 (aa ag (aa (aA aw rfl T.n_5 XE (aa (pv 0) ab)) ab))) (pgN 2 dA.nd) (af (aj 1 dA.nd (aB rE (pv 1) (bH (N:=["spot","k"]) (js:=[B?,A? 2]) (g:=(ak 0)) (tt:=bi) (te:=(tOp (m7 K) (iz (aD (aR 1) bY)) (aR 0))) rfl (bU rfl (by decide +kernel) (by decide +kernel) rfl rfl rfl) (bQ (cR (ih) (hr.mono (WV _)) rfl T.g_56.m T.g_56.F.kp T.g_56.b .nil eS (aa (aC aF (pv 0) (pv 2) (λ_ _=>rfl)) ab))) (λ_ _ _ _ _ _=>(pgN 0 aaP)) (aH rfl) (λ_ _ _ _ _ _=>bt) (λ_ _ _ _ _ _=>(aB cY (az (aa (pv 1) ab)) (pv 0))))))))
    (af (ax (pv 1)))))),?_⟩
   try dsimp only[Av,Ad]
   refine⟨_,D?,lnE rfl,λhz Mc=>?_⟩;have s0:k! H (upd H hz (.tup [.str (Xm "*")])):=ae Mc _;have e0:(upd H hz (.tup [.str (Xm "*")])) hz=A? (.tup [.str (Xm "*")]):=ac;have B3:=hA.mono (j! s0);refine oN B3 (.of e0) (by lia) ⟨_,rfl,?_⟩;generalize(upd H hz (.tup [.str (Xm "*")]))=H0 at s0 e0 B3 |-;cases f with
   |call sn kn=>rw[u!]at D8;exact D8.elim
   |knot nm ks =>
   refine cy (λhh=>?_) (λhh=>?_)
   .refine⟨lnE rfl,λtp Bn=>⟨lnE rfl,λfl DZ=>?_⟩⟩;have s1:=ae Bn (.tup []);have s2:=ae DZ (.lst [.ref tp]);refine k fl [tp] _ (s0.trans (s1.trans s2)) ((s0.trans s1).free DZ) ac ?_;rw[lhO,b! hh];exact .cons (s2 _ _ ac) .nil
   rw[lhO,a! hh]at k;rw[t!]at Aw Q0;rw[p!]at hsz;rw[u!]at D8;rw[AtK]at B3;refine hid λZZ kZ=>?_;obtain⟨Ep,ka,ea,AZ⟩:=B3;refine kZ ?_;have BI:ka.length=ks.length:=AZ.length;have Ju:=bI ks;refine⟨lnE rfl,λfd G9=>?_⟩;have s2:k! H0 (upd H0 fd (.lst [])):=ae G9 _;have e2:(upd H0 fd (.lst [])) fd=A? (.lst []):=ac;have hfH:H fd=none:=s0.free G9;generalize(upd H0 fd (.lst []))=H2 at s2 e2 |-;have Ce:=s0.trans s2;have Fq:=ea.mono (j! s2);have IY:=AZ.mono (j! s2);dsimp only[ak,nE,wM];refine⟨_,D?,a,_,D?,.inr Fq.sq,_,_,D?,⟨by decide,by decide,by lia,?_⟩,?_⟩
   .rw[W0,WM];lia
   refine cw (λi Z H3=>Ex3 λ(c:Option V)(fl:WQ)(as:List WQ)=>An5 (Z=[A? (.ref a),A? (.ref fl),c]) (k! H2 H3) (H fl=B?) (H3 fl=A? (.lst (as.map i!))) (Xk (yu H3) (lhs 1 (ks.take i)) as)) ⟨B?,fd,[],rfl,.refl _,hfH,e2,.nil⟩ ?_ ?_
   .rintro i Z H3 hi ⟨c,fl,as,rfl,s3,DZ,e3,D9⟩
    have AF:i<ks.length:=by
     rw[W0,WM,BI]at hi;lia
    refine hid λZZ kZ=>?_;obtain⟨u,hu⟩:∃u,ks[i]?=A? u:=⟨_,WR AF⟩;obtain⟨ua,Dw,E1⟩:=IY.at hu;refine kZ ?_;have DG:u∈ks:=WS hu;have M3:=bL DG;have WJ:=aY DG;cases n with
    | zero =>
      have:=u.tall_eq;lia
    |succ n =>
    have k3:=j! s3;have M5:=ug u
    have AN:as.length<=1000:=by
     have h1:=WZ D9;have h2:=px 1 (ks.take i);have h3:=(rV (ks.take i)).1;have h4:=iJ i ks;lia
    refine⟨_,D?,_,D?,_,D?,a,_,_,.ref ua,D?,D?,(Fq.mono k3).sq,at_nonneg (by lia) (by rw[show(1+(i:Int)).toNat=i+1 by lia,YN,WY,Dw];rfl),?_⟩;refine⟨ua,u,D?,E1.mono k3,ce D8 DG,by lia,by lia,by lia,λr bs H6 s6 nr er Ah=>?_⟩;have AV:bs.length=u.nh:=by rw[<-WZ Ah,iG]
    refine⟨r,D?,⟨_,l! er⟩,cJ (F:=yu) (xs:=bs.map i!) ((lhO u).map ((1+(i:Int))::·)) (λH1 H2 z p kt h=>kt _ _ h) (by rw[WM,WM];exact WZ Ah) (by rw[WM];lia) (λj Hx sx hj=>⟨_,_,l! (sx _ _ er),WR hj⟩) (λHx sx=>⟨_,l! (sx _ _ er),WV _⟩) (λj Hx x Hy sx hj hy=>⟨hy.1,hy.2 _ (l! (sx _ _ er))⟩) (λj y z Hx R W' hy AG sx hR=>?_) (λD Hx ds hD sx eD Bh=>?_)⟩
    .obtain⟨pa,rfl,CD⟩:=aG hy;obtain⟨sp,BZ,Bu⟩:=y! Ah CD;rw[WY,BZ]at AG;cases AG;have ab1:=M5.2 sp (WS BZ);refine⟨_,D?,lnE rfl,λn1 Ft=>?_⟩;refine gU Ft λH7 s7 e7=>?_;refine⟨_,D?,?_⟩;exact mH e7 (s7 _ _ (sx _ _ Bu)) (by rw[WM];show 1+sp.length<=1000000;lia) λn2 H8 s8 e8=>hR H8 n2 (s7.trans s8) e8
    .have IQ:=s6.trans sx;have DK:=WZ Bh;rw[WM,iG]at DK;refine⟨fl,D,_,_,D?,D?,IQ _ _ e3,eD,cQ (by rw[WM,WM];lia),λp hp=>?_⟩;have s7:=ae hp (.lst (as.map i!++ds.map i!));refine⟨_,p,as++ds,D?,s3.trans (IQ.trans s7),(Ce.trans (s3.trans IQ)).free hp,by rw[ac,Xa],?_⟩;rw[XU,hu];show Xk _ (lhs 1 (ks.take i++[u])) _;rw[qu,XF,Nat.min_eq_left (by lia)];exact r! (v! (λ_ _ h=>(IQ.trans s7) _ _ h) D9) (v! (λ_ _ h=>s7 _ _ h) Bh)
   .rintro Z H3 ⟨c,fl,as,rfl,s3,DZ,e3,D9⟩
    have e:ks.take ((((N! nm::ka.map i!).length:Nat):Int) - 1).toNat=ks:=by
     rw[W0,WM,BI];exact XZ (by lia)
    rw[e]at D9;exact⟨_,D?,k fl as H3 (Ce.trans s3) DZ e3 D9⟩
mutual
theorem qD(g:Nat->Th)(m:Nat):∀(t:Th)(i:Nat),t.hg (λj=>g (m+j)) i=t.hg g (m+i)
 | .knot n ks,i=>by
   rw[Th.hg,Th.hg];by_cases h:(o! n ks).isHole=C?
   .rw[b! h,b! h]
   .rw[a! h,a! h,m4 g m ks i]
 |.call s k,i=>by rw[Th.hg,Th.hg]
theorem m4(g:Nat->Th)(m:Nat):∀(ts:List Th)(i:Nat),hgs (λj=>g (m+j)) ts i=hgs g ts (m+i)
 | [],i=>by rw[hgs,hgs]
 |t::ts,i=>by rw[hgs,hgs,qD g m t i,m4 g m ts (i+t.nh),Zv]
end
mutual
theorem qA{g g':Nat->Th}:∀(t:Th)(i:Nat),(∀j,i<=j->j<i+t.nh->g j=g' j)->t.hg g i=t.hg g' i
 | .knot n ks,i,h=>by
   rw[Th.nh]at h;rw[Th.hg,Th.hg];by_cases c:(o! n ks).isHole=C?
   .rw[b! c]at h;rw[b! c,b! c];exact h i (WV _) (by lia)
   .rw[a! c]at h;rw[a! c,a! c,nB ks i h]
 |.call s k,i,h=>by rw[Th.hg,Th.hg]
theorem nB{g g':Nat->Th}:∀(ts:List Th)(i:Nat),(∀j,i<=j->j<i+nhs ts->g j=g' j)->hgs g ts i=hgs g' ts i
 | [],i,h=>by rw[hgs,hgs]
 | t::ts,i,h=>by
   rw[nhs]at h;rw[hgs,hgs,qA t i λj a b=>h j a (by lia),nB ts (i+t.nh) λj a b=>h j (by lia) (by lia)]
end
theorem uw(g:Nat->Th):∀(ts:List Th)(i j:Nat){t:Th},ts[j]?=A? t->(hgs g ts i)[j]?=A? (t.hg g (i+nhs (ts.take j)))
 | [],i,j,t,h=>by cases h
 | u::ts,i,0,t,h=>by
   cases h;rw[hgs];rfl
 | u::ts,i,j+1,t,h=>by
   rw[hgs,YN,uw g ts (i+u.nh) j h,List.take_succ_cons,nhs,Zv]
theorem lM:∀(ts:List Th)(t:Th),nhs (ts++[t])=nhs ts+t.nh
 | [],t=>by show t.nh+0=0+t.nh;lia
 |u::ts,t=>by rw[X7,nhs,nhs,lM ts t];lia
theorem v7(i:Nat)(ts:List Th){t:Th}(h:ts[i]?=A? t):nhs (ts.take i)+t.nh<=nhs ts:=by
 have e:ts=ts.take (i+1)++ts.drop (i+1):=(YV ..).symm
 have h1:∀a b:List Th,nhs (a++b)=nhs a+nhs b:=λa b=>by
  induction a with
  |nil=>show nhs b=0+nhs b;lia
  |cons x a ih=>rw[X7,nhs,nhs,ih];lia
 have h2:=h! nhs e;rw[h1,XU,h]at h2;have h3:nhs (ts.take i++[t])=nhs (ts.take i)+t.nh:=lM _ _;have h4:(Option.some t).toList=[t]:=rfl;rw[h4,h3]at h2;lia
abbrev LG(L:List Th)(j:Nat):Th:=L.getD j hole
theorem xJ(L:List Th)(m:Nat):LG (L.drop m)=λj=>LG L (m+j):=by
 funext j;unfold LG;rw[List.getD_eq_getElem?_getD,List.getD_eq_getElem?_getD,List.getElem?_drop]
def iS(K:WO):Nat->Sp
 |0=>λ_ _ _ _=>False
 |n+1=>λvs H Q _=>∃(a pl:WQ)(f:Th)(L:List Th)(as:List WQ),vs=[.ref a,.ref pl]/\AtK .i K H f a/\f.noCall/\f.size<=1000/\f.tall<=n+1/\f.tall<=149/\H pl=A? (.lst (as.map i!))/\Xk (AtK .p K H) L as/\f.nh<=L.length/\L.length<=1000/\∀(r:WQ)(H':Hp),SameB pl H H'->H' pl=A? (.lst ((as.drop f.nh).map i!))->AtK .p K H' (f.hg (LG L) 0) r->Q (.ref r) H'
theorem je:∀n:Nat,aT P w K mg base CX0 n T.g_57.f T.g_57.d ["front","calls"] (iS K n)
 |0=>⟨λ_ _ _ _ h=>h.elim,λ_ _ _ _ _ _ _ _ _ _ _ _ _ h=>h.elim⟩
 | n+1=>by
   have ih:=je n;refine T.g_57.F.ok oR (λvs H Q E h=>?_) (λAg A outer s H vs Q E hr h=>?_)
   .obtain⟨a,pl,f,L,as,rfl,_⟩:=h;rfl
   obtain⟨a,pl,f,L,as,rfl,hA,D8,hsz,Aw,Q0,Iu,hL,M4,hLl,k⟩:=h
   refine⟨_,(ad (bZ (bh (kL (B:=150) (eY hr)) (pv 0) (az (aa dr ab)) (aZ _)) (af (ax (bT Xc Zg Zf xu (pv 1) (aa ag ab)))) bB)
    (af (ax (aB cY (az (aa (aC aF (pv 0) ag (λ_ _=>rfl)) ab)) (bd aP rfl T.n_11 XX (aa (bH (N:=["part","calls"]) (js:=[B?,A? 1]) (g:=(ak 0)) (tt:=bi) (te:=(cx (iS K _) [] E0 (aD (aR 0) (aD (aR 1) bY)))) rfl (bU rfl (by decide +kernel) (by decide +kernel) rfl rfl rfl) (di (cK fR (pv 0) (cW ag) dG)) (λ_ _ _ _ _ _=>(pgN 0 aaw)) (aH rfl) (λ_ _ _ _ _ _=>bt) (λ_ _ _ _ _ _=>(cR (ih) (hr.mono (WV _)) rfl T.g_57.m T.g_57.F.kp T.g_57.b .nil eS (aa (pv 0) (aa (pv 1) ab))))) ab)))))),?_⟩
   try dsimp only[Av,Ad]
   have AN:L.length=as.length:=WZ hL;refine⟨_,D?,lnE rfl,λhz Mc=>?_⟩;have s0:k! H (upd H hz (.tup [.str (Xm "*")])):=ae Mc _;have e0:(upd H hz (.tup [.str (Xm "*")])) hz=A? (.tup [.str (Xm "*")]):=ac;have B3:=hA.mono (j! s0);refine oN B3 (.of e0) (by lia) ⟨_,rfl,?_⟩;generalize(upd H hz (.tup [.str (Xm "*")]))=H0 at s0 e0 B3 |-;have Gv:=s0 _ _ Iu;have Q1:=v! (λ_ _ e=>F! (j! s0) e) hL;cases f with
   |call sn kn=>rw[u!]at D8;exact D8.elim
   |knot nm ks =>
   rw[Th.nh]at M4 k;refine cy (λhh=>?_) (λhh=>?_)
   .rw[b! hh]at M4 k;rw[Th.hg,b! hh]at k;cases as with
    |nil=>rw[List.length_nil]at AN;lia
    |cons a0 as =>
    cases L with
    |nil=>simp at AN
    |cons t0 L =>
    cases Q1 with
    |cons h0 Q1 =>
    refine⟨_,D?,.inl ⟨D?,_,l! Gv⟩,pl,_,0,0,.ref a0,D?,D?,Gv,by decide,by decide,?_,D?,?_⟩
    .show seqIndex? 0 (Zm (i! a0::as.map i!))=_;simp[seqIndex?]
    refine k a0 _ (λb o hb e=>by rw[ai hb];exact s0 _ _ e) (by rw[ac];rfl) (h0.mono (aI Gv))
   rw[a! hh]at M4 k;rw[Th.hg,a! hh]at k;rw[t!]at Aw Q0;rw[p!]at hsz;rw[u!]at D8;rw[AtK]at B3;refine hid λZZ kZ=>?_;obtain⟨Ep,ka,ea,AZ⟩:=B3;refine kZ ?_;have BI:ka.length=ks.length:=AZ.length;have Ju:=bI ks;dsimp only[nE];refine⟨_,D?,a,_,0,.str nm,D?,D?,ea.sq,at0,lnE rfl,λp1 CB=>?_⟩;refine gU CB λH1 s1 e1=>?_;refine⟨_,D?,1,D?,a,_,D?,(ea.mono (j! s1)).sq,?_,λp2 AW=>?_⟩
   .rintro⟨z,_⟩;rw[W0,show(1:Int)=((1:Nat):Int)by rfl,M!]at z;lia
   rw[dP];refine gU AW λH2 s2 e2=>?_;have Ba:=s1.trans s2;have DD:=Ba _ _ Gv;have Ob:=v! (λ_ _ e=>F! (j! Ba) e) Q1;have IY:=AZ.mono (j! Ba);have Q2:p2≠pl:=λz=>by rw[z,DD]at e2;cases e2
   have Q3:p1≠pl:=λz=>by have:=s2 _ _ e1;rw[z,DD]at this;cases this
   have Jx:∀(H7:Hp),SameB pl H2 H7->KT H2 H7:=λH7 sb b xs e=>sb b _ (cp e DD (λz=>nomatch z)) e;refine⟨p2,D?,⟨_,n! e2⟩,?_⟩;intro D hD;have IZ:D≠pl:=λz=>by rw[z,DD]at hD;cases hD
   refine⟨ka.length,λj H7=>An4 (j<=ka.length) (SameB pl H2 H7) (H7 pl=A? (.lst ((as.drop (nhs (ks.take j))).map i!))) (Ex1 λ(ds:List WQ)=>An2 (H7 D=A? (.lst (ds.map i!))) (Xk (AtK .p K H7) ((hgs (LG L) ks 0).take j) ds)),
    ⟨Xg _,SameB.of (ae hD _),by rw[ai IZ.symm];exact DD,[],ac,.nil⟩,?_⟩
   rintro j H7 ⟨hj,BM,DF,ds,eD,Bl⟩;have IK:H7 p2=A? (.tup (ka.map i!)):=BM _ _ Q2 e2;have MS:=ox (LG L) ks 0
   have DK:ds.length=j:=by
    have:=WZ Bl;rw[XF]at this;lia
   by_cases Cd:j=ka.length
   .left;refine⟨⟨_,n! IK,by rw[WM,Cd];exact WV _⟩,?_⟩;rw[XZ (by lia)]at Bl;rw[XZ (by lia)]at DF;refine⟨D,_,D?,.inl ⟨l! eD,λtp Bn=>?_⟩⟩;refine gU Bn λH8 s8 e8=>?_;refine mH (s8 _ _ (BM _ _ Q3 (s2 _ _ e1))) e8 (by rw[WM];show 1+ds.length<=1000000;lia) λp H9 s9 e9=>?_;have Q4:=s8.trans s9;refine k p H9 (λb o hb e=>Q4 _ _ (BM b o hb (Ba _ _ (s0 _ _ e)))) (Q4 _ _ DF) ?_;rw[AtK];exact⟨Ep,ds,.of e9,(f8 Bl).mono (j! Q4)⟩
   .right;have Ap:j<ka.length:=by lia
    refine⟨Ap,⟨_,.ref ka[j],n! IK,by rw[WY,WR Ap];rfl⟩,?_⟩;rintro y H8 ⟨rfl,hv⟩;have Bj:=hv _ (n! IK);obtain⟨ta,rfl,Cc⟩:=aG Bj;obtain⟨t,ht,A9⟩:=(IY.mono (Jx _ BM)).get Cc;have Ha:=WS ht;have Jl:=bL Ha;have Cy:=aY Ha;have QQ:=v7 j ks ht;cases n with
    |zero=>have:=t.tall_eq;lia
    |succ n =>
    refine⟨_,D?,_,D?,ta,pl,t,L.drop (nhs (ks.take j)),as.drop (nhs (ks.take j)),D?,A9,ce D8 Ha,by lia,by lia,by lia,DF,P2.drop _ (v! (λ_ _ e=>F! (Jx _ BM) e) Ob),by rw[Z5];lia,by rw[Z5];lia,λr' H9 Eo QJ h9=>?_⟩;have LP:=Eo _ _ IZ eD;have LR:KT H8 H9:=λb xs e=>Eo b _ (cp e DF (λz=>nomatch z)) e;have kA:KT H9 (upd H9 D (.lst (ds.map i!++[.ref r']))):=aI LP;refine⟨_,LP,lbE (by lia),Ap,λb o hb e=>?_,?_,ds++[r'],?_,?_⟩
    .rw[ai (av e hD)];exact Eo b o hb (BM b o hb e)
    .rw[ai IZ.symm,QJ,List.drop_drop,XU,ht];show _=A? (HO.lst ((as.drop (nhs (ks.take j++[t]))).map i!));rw[lM]
    .rw[ac,Xa];rfl
    .rw[take_snoc (uw (LG L) ks 0 j ht)];refine r! (v! (λ_ _ e=>F! (LR.trans kA) e) Bl) (.cons ?_ .nil);rw[xJ,qD,Nat.add_zero]at h9;rw[Nat.zero_add];exact h9.mono kA
def fz(K:WO):Nat->Sp
 |0=>λ_ _ _ _=>False
 |n+1=>λvs H Q _=>∃(a fl:WQ)(fs:List WQ)(p:Th)(F:Nat->Th)(N:Nat)(C:Int)(outs:List (Xp×Int)),vs=[.ref a,.ref fl]/\AtK .i K H p a/\p.FitS outs (N:Nat) C/\p.size<=1000/\H fl=A? (.lst (fs.map i!))/\Xk (λs b=>AtK .i K H (F s) b) (XD N) fs/\(∀s,s<N->(F s).noCall/\(F s).size<=200/\(F s).tall<=100)/\p.tall+101<=n+1/\∀(r:WQ)(H':Hp),k! H H'->AtK .p K H' (eaP F p) r->Q (.ref r) H'
theorem fC:∀n:Nat,aT P w K mg base CX0 n T.g_58.f T.g_58.d ["pattern","fronts"] (fz K n)
 |0=>⟨λ_ _ _ _ h=>h.elim,λ_ _ _ _ _ _ _ _ _ _ _ _ _ h=>h.elim⟩
 | n+1=>by
   have ih:=fC n;refine T.g_58.F.ok fk (λvs H Q E h=>?_) (λAg A outer s H vs Q E hr h=>?_)
   .obtain⟨a,fl,fs,p,F,N,C,outs,rfl,_⟩:=h;rfl
   obtain⟨a,fl,fs,p,F,N,C,outs,rfl,hA,K5,hsz,CG,C7,hF,Aw,k⟩:=h;have Tx:100<=n:=by have:=p.tall_eq;lia
   refine⟨_,(ad (bZ (bh eJ (aC aF (pv 0) ag (λ_ _=>rfl)) dr (aZ _)) (ad (aj 2 fk.nd (aC bj (pv 1) (aC aF (pv 0) ag (λ_ _=>rfl)) (λ_ _=>rfl)))
    (ad (aj 3 fk.nd (aA aw rfl T.n_5 XE (aa (pcF T.g_56 (fu T 100) hr (aa (pv 2) ab)) ab)))
    (af (ax (pcF T.g_57 (je T 100) hr (aa (pv 2) (aa (bH (N:=["k","pattern"]) (js:=[B?,A? 0]) (g:=(ak 0)) (tt:=bi) (te:=(iz (aD (tC (.str (Xm "?"))) (aD (iz (aD (tOp (vC K) (aR 1) (tC (.int 1))) (aD (aR 0) bY))) (aD (tOp (vC K) (aR 1) (tC (.int 2))) bY))))) rfl (bU rfl (by decide +kernel) (by decide +kernel) rfl rfl rfl) (bu rfl T.n_9 (aa (pv 3) ab)) (λ_ _ _ _ _ _=>(pgN 0 aa1)) (aH rfl) (λ_ _ _ _ _ _=>bt) (λ_ _ _ _ _ _=>(az (aa dr (aa (az (aa (aC aF (pv 1) ag (λ_ _=>rfl)) (aa (pv 0) ab))) (aa (aC aF (pv 1) ag (λ_ _=>rfl)) ab)))))) ab))))))) bB)
    (af (ax (aB cY (az (aa (aC aF (pv 0) ag (λ_ _=>rfl)) ab)) (bd aP rfl T.n_11 XX (aa (bH (N:=["part","fronts"]) (js:=[B?,A? 1]) (g:=(ak 0)) (tt:=bi) (te:=(cx (fz K _) [] E0 (aD (aR 0) (aD (aR 1) bY)))) rfl (bU rfl (by decide +kernel) (by decide +kernel) rfl rfl rfl) (di (cK fR (pv 0) (cW ag) dG)) (λ_ _ _ _ _ _=>(pgN 0 aa0)) (aH rfl) (λ_ _ _ _ _ _=>bt) (λ_ _ _ _ _ _=>(cR (ih) (hr.mono (WV _)) rfl T.g_58.m T.g_58.F.kp T.g_58.b .nil eS (aa (pv 0) (aa (pv 1) ab))))) ab)))))),?_⟩
   try dsimp only[Av,Ad]
   cases p with
   | call sn kn =>
     rw[AtK]at hA;obtain⟨v,ea,hv⟩:=hA;obtain rfl:v=q! sn:=hv;rw[z!]at K5;refine hid λZZ kZ=>?_;obtain⟨f1,f2,f3,f4⟩:=K5;have Tz:sn.toNat<N:=by lia
     obtain⟨fa,BW,A9⟩:=B! C7 (XJ Tz);obtain⟨z1,z2,z3⟩:=hF _ Tz;refine kZ ?_;have QK:=(ug (F sn.toNat)).1;refine⟨_,D?,a,_,0,.str q,D?,D?,ea.sq,at0,D?,_,D?,?_⟩;refine cy (λ_=>?_) (λc=>g! (d! rfl) c);refine⟨_,D?,_,D?,a,_,1,.int sn,D?,D?,ea.sq,at1,fl,_,_,.ref fa,D?,D?,l! CG,at_nonneg f1 (gmE BW),?_⟩;dsimp only[ak];refine⟨_,D?,fa,F sn.toNat,D?,A9,z1,by lia,by lia,by lia,λhl bs H1 s1 Q5 D0 Ah=>?_⟩;have AV:bs.length=(F sn.toNat).nh:=by rw[<-WZ Ah,iG]
     refine⟨hl,_,D?,.inl (l! D0),?_⟩;dsimp only[ak];have CT:=ea.mono (j! s1);refine⟨_,D?,_,D?,_,D?,by lia,by rw[WM];lia,cJ (F:=AtK .p K) (xs:=(XD bs.length).map λ(m:Nat)=>q! (m:Nat)) ((XD bs.length).map λ(m:Nat)=>x! (enc sn (m:Nat)) kn) (λH1 H2 z p kt h=>h.mono kt) (by rw[WM,WM]) (by rw[WM,Xi];lia) (λm Hx sx hi=>by rw[WM,Xi]at hi;show m<(((bs.map i!).length:Nat):Int).toNat;rw[WM];lia) (λHx sx=>by show(((bs.map i!).length:Nat):Int).toNat<=((XD bs.length).map λ(m:Nat)=>q! (m:Nat)).length;rw[WM,WM,Xi];lia) (λm Hx x Hy sx hi hy=>⟨hy.1,?_⟩) (λm y z Hx R W' hy AG sx hR=>?_) (λD H6 cs hD s6 e6 Bh=>?_)⟩
     .rw[WM,Xi]at hi;rw[WY,XJ hi,hy.2];show A? (q! ((m:Nat):Int))=A? (q! (0+((m:Nat):Int)));rw[X6]
     .have hi:m<bs.length:=by
       have:=(glE AG);rw[WM,Xi]at this;exact this
      rw[WY,XJ hi]at hy AG;cases hy;cases AG;have ex:=CT.mono (j! sx);refine⟨_,D?,a,_,1,.int sn,D?,D?,ex.sq,at1,_,D?,lnE rfl,λpp Ih=>?_⟩;refine gU Ih λHy sp ep=>?_;refine⟨_,D?,a,_,2,.int kn,D?,D?,(ex.mono (j! sp)).sq,at2,lnE rfl,λca Cr=>hR _ ca (sp.trans (ae Cr _)) ?_⟩;rw[AtK];exact⟨_,.of ac,pp,_,_,D?,ae Cr _ _ _ ep,D?,by lia,by lia,by lia⟩
     have IF:=s1.trans s6;refine⟨fa,D,F sn.toNat,_,cs,D?,A9.mono (j! IF),z1,by lia,by lia,by lia,e6,Bh,by rw[WM,Xi];lia,by rw[WM,Xi];lia,λr H7 BM e7 LW=>k r H7 (λb o e=>BM b o (av (s1 _ _ e) hD) (IF _ _ e)) ?_⟩
     have e:(F sn.toNat).hg (LG ((XD bs.length).map λ(m:Nat)=>x! (enc sn (m:Nat)) kn)) 0=eaP F (.call sn kn):=by
      show _=(x! sn kn).fill (hgF F);rw[A!];unfold hgF;refine qA _ 0 λj _ hj=>?_;unfold LG;rw[List.getD_eq_getElem?_getD,WY,XJ (by lia)];rfl
     rw[<-e];exact LW
   | knot nm us =>
     rw[AtK]at hA;refine hid λZZ kZ=>?_;obtain⟨Ep,ka,ea,AZ⟩:=hA;refine kZ ?_;have BI:ka.length=us.length:=AZ.length;rw[t!]at Aw;rw[p!]at hsz;rw[z!]at K5;have WK:=bI us;refine⟨_,D?,a,_,0,.str nm,D?,D?,ea.sq,at0,D?,_,D?,?_⟩;refine cy (λc=>g! (e! c) (λz=>Ep (V.str.inj z))) (λ_=>?_);refine⟨_,D?,a,_,0,.str nm,D?,D?,ea.sq,at0,lnE rfl,λp1 CB=>?_⟩;dsimp only;refine gU CB λH1 s1 e1=>?_;refine⟨_,D?,1,D?,a,_,D?,(ea.mono (j! s1)).sq,?_,λp2 AW=>?_⟩
     .rintro⟨z,_⟩;rw[W0,show(1:Int)=((1:Nat):Int)by rfl,M!]at z;lia
     rw[dP];refine gU AW λH2 s2 e2=>?_;have Ba:=s1.trans s2;refine⟨p2,D?,⟨_,n! e2⟩,cJ (F:=AtK .p K) (xs:=ka.map i!) (us.map (eaP F)) (λH1 H2 z p kt h=>h.mono kt) (by rw[WM,WM];lia) (by rw[WM];lia) (λi Hx sx hi=>⟨_,_,n! (sx _ _ e2),WR hi⟩) (λHx sx=>⟨_,n! (sx _ _ e2),WV _⟩) (λi Hx x Hy sx hi hy=>⟨hy.1,hy.2 _ (n! (sx _ _ e2))⟩) (λi y z Hx R W' hy AG sx hR=>?_) (λD Hx bs hD sx eD Bh=>?_)⟩
     .obtain⟨xa,rfl,Ie⟩:=aG hy;obtain⟨tx,ES,Fv⟩:=AZ.get Ie;rw[WY,ES]at AG;cases AG;have El:=WS ES;have Ca:=bL El;have QY:=aY El;have k3:=j! (Ba.trans sx);cases n with
      |zero=>lia
      |succ n =>
      exact⟨_,D?,_,D?,xa,fl,fs,tx,F,N,C,outs,D?,Fv.mono k3,nO K5.2 tx El,by lia,(Ba.trans sx) _ _ CG,v! (λ_ _ e=>F! k3 e) C7,hF,by lia,λrr H5 s5 E6=>hR H5 rr s5 E6⟩
     .have QZ:=WZ Bh;rw[WM]at QZ;refine⟨D,_,D?,.inl ⟨l! eD,λtp Bn=>?_⟩⟩;refine gU Bn λH4 s4 e4=>?_;have FE:=(s2.trans sx).trans s4;refine mH (FE _ _ e1) e4 (by rw[WM];show 1+bs.length<=1000000;lia) λp H5 s5 e5=>?_;refine k p H5 ((s1.trans FE).trans s5) ?_;show AtK .p K H5 ((o! nm us).fill (hgF F)) p;rw[A!,eF,AtK];exact⟨Ep,bs,.of e5,(f8 Bh).mono (j! (s4.trans s5))⟩
inductive iB(K:WO)(vs:List V)(H:Hp)(Q:VK)(_E:XK):Prop
 |mk (a pa:WQ) (t u:Th) (sp:List Int):vs=[.ref a,.ref pa]->AtK .p K H t a->yu H sp pa->t.sub (sp.map (· - 1))=A? u->(∀r,AtK .p K H u r->Q (.ref r) H)->iB K vs H Q _E
theorem sK:aT P w K mg base CX0 1 T.g_59.f T.g_59.d ["thing","spot"] (iB K):=by
 refine T.g_59.F.okA io λAg A outer s H vs Q E hr h=>?_;obtain⟨a,pa,t,u,sp,rfl,hA,ep,hs,k⟩:=h
 refine⟨_,(ad (bq Xr rfl (di (pv 1)) (pgN 2 io.nd) (af (aj 0 io.nd (aC aF (pv 0) (pv 2) (λ_ _=>rfl)))))
  (af (ax (pv 0)))),?_⟩
 try dsimp only[Av,Ad]
 refine⟨_,D?,pa,D?,⟨_,n! ep⟩,?_⟩;refine oG (K:=K) (a:=pa) (xs:=sp.map q!) (λi Z H2=>Ex3 λ(c:Option V)(x:WQ)(t1:Th)=>An4 (Z=[A? (.ref x),A? (.ref pa),c]) (H2=H) (AtK .p K H t1 x) (t1.sub ((sp.drop i).map (· - 1))=A? u)) ⟨B?,a,t,rfl,rfl,hA,hs⟩ (λi Z H2 _⟨_,_,_,_,e,_,_⟩=>by rw[e];exact n! ep) ?_ ?_
 .rintro i y Z H2 hy ⟨c,x,t1,rfl,rfl,h1,h2⟩;rw[WY,XM]at hy;refine hid λZZ kZ=>?_;obtain⟨z,hz,rfl⟩:=hy;obtain⟨hl,B7⟩:=Yw.mp hz;rw[ZK hl,B7,XB]at h2;obtain⟨h0,v,hv,h3⟩:=oY h2;refine kZ ?_;cases t1 with
  |call s' k'=>cases hv
  |knot nm us =>
  rw[AtK]at h1;refine hid λZZ kZ=>?_;obtain⟨_,ka,ea,AZ⟩:=h1;obtain⟨va,hva,A9⟩:=AZ.at hv;refine kZ ?_;exact⟨_,D?,_,D?,x,_,_,.ref va,D?,D?,ea.sq,at_nonneg (by lia) (by rw[show z.toNat=(z - 1).toNat+1 by lia,YN,WY,hva];rfl),_,va,v,D?,D?,A9,h3⟩
 .rintro Z H2 ⟨c,x,t1,rfl,rfl,h1,h2⟩;rw[WM,List.drop_length]at h2;rw[Y0,fb]at h2;cases h2;exact⟨_,D?,k x h1⟩
inductive fO(K:WO)(vs:List V)(H:Hp)(Q:VK)(_E:XK):Prop
 |mk (ha rd:WQ) (head:Th) (R:Int->List Th) (f':List (List Key×V)):vs=[.ref ha,.ref rd]->AtK .p K H head ha->H rd=A? (.dT f')->head.size<=1000->head.tall<=40->(bS R head).length<=20->(∀s∈bS R head,(R s).length<=8/\(∀t∈R s,t.size<=1000/\t.tall<=40)/\∃(la:WQ)(as:List WQ),aN f' (kP s)=A? (.ref la)/\H la=A? (.lst (as.map i!))/\Xk (AtK .p K H) (R s) as)->(∀(r fh rl:WQ)(C9:List WQ)(H':Hp),k! H H'->H' r=A? (.tup [.ref fh,.ref rl])->AtK .i K H' (ren (idx (bS R head)) head) fh->H' rl=A? (.tup (C9.map i!))->Xk (RowK K H') ((bS R head).map λx=>(R x).map (ren (idx (bS R head)))) C9->Q (.ref r) H')->fO K vs H Q _E
def NuI(K:WO)(H:Hp)(R:Int->List Th)(f':List (List Key×V))(M:List Int)(ha rd ml rl:WQ)(mz:Nat)(Z:St)(H4:Hp):Prop:=∃(i:Nat)(mm l:List Int)(ms bs I0:List WQ)(al:WQ)(c5 c6:Option V),Z=[A? (.ref ha),A? (.ref rd),A? (.ref ml),A? (.ref rl),A? (.ref al),c5,c6,B?,B?,B?]/\k! H H4/\H4 ml=A? (.lst (ms.map i!))/\Xk (PrAt H4) mm ms/\H4 rl=A? (.lst (bs.map i!))/\Xk (λs b=>aN f' (kP s)=A? (.ref b)) (M.take i) bs/\H4 al=A? (.lst (I0.map i!))/\Xk (CaP H4) l I0/\al≠ml/\al≠rl/\mm.Nodup/\bfs R (21 - i) (bo mm l) i=M/\i<=mm.length/\l.length<=10000/\mz=21 - i
theorem jA:aT P w K mg base CX0 45 T.g_55.f T.g_55.d ["head","rules"] (fO K):=by
 refine T.g_55.F.okA aL λAg A outer s H vs Q E hr h=>?_;obtain⟨ha,rd,head,R,f',rfl,hA,NH,hsz,Aw,Gs,hR,k⟩:=h
 refine⟨_,(ad (aj 2 aL.nd (bp ab))
  (ad (aj 3 aL.nd (bp ab))
  (ad (aj 4 aL.nd (pcF T.g_53 (fA T 40) hr (aa (pv 0) ab)))
  (ad (dO Xr (bz xq (λ_=>rfl)) (ad (bq Xr rfl (bQ (pv 4)) (pgN 5 aL.nd) (af (bZ (bh (uz (B:=150) (eY hr)) (aC aF (pv 5) ag (λ_ _=>rfl)) (pv 2) (by with_unfolding_all rfl)) (af (aS (bT Xc Xv Xu aQ (pv 2) (aa (aC aF (pv 5) ag (λ_ _=>rfl)) ab)))) bB)))
  (ad (bZ (bh eJ (aA aw rfl T.n_5 XE (aa (pv 3) ab)) (aA aw rfl T.n_5 XE (aa (pv 2) ab)) (aZ _)) (af wf) bB)
  (ad (aS (bT Xc Xv Xu aQ (pv 3) (aa (jl (gr hr) (pv 1) (aC bj (pv 2) (aA aw rfl T.n_5 XE (aa (pv 3) ab)) (λ_ _=>rfl)) (λ_ _=>rfl)) ab)))
  (ad (aj 4 aL.nd (bp ab))
  (af (bq Xr rfl (bQ (aC bj (pv 3) (aB pA (aA aw rfl T.n_5 XE (aa (pv 3) ab)) ag) (λ_ _=>rfl))) (pgN 6 aL.nd) (af (aj 4 aL.nd (aB rE (pv 4) (pcF T.g_53 (fA T 40) hr (aa (pv 6) ab))))))))))))
  (ad (aj 7 aL.nd gJ)
  (ad (bq Xr rfl (bu rfl T.n_9 (aa (aA aw rfl T.n_5 XE (aa (pv 2) ab)) ab)) (pgN 8 aL.nd) (af (kU (gr hr) (pv 7) (aC bj (pv 2) (pv 8) (λ_ _=>rfl)) (pv 8) rfl)))
  (ad (du (i:=9) (N:=["row","numbers"]) (js:=[B?,A? 7]) (g:=(ak 0)) (tt:=bi) (te:=(tCB (λxs H Q=>∃p ys,xs=[.ref p]/\((SqL K H p ys/\∀l,H l=B?->Q (.ref l) (upd H l (.tup ys)))\/(SqT K H p ys/\Q (.ref p) H))) (aD (vx [B?,A? 1] (yZ K (aR 0)) (ak 0) bi (cx (cO K _) [] E0 (aD (aR 0) (aD (aR 1) bY)))) bY))) aL.nd rfl (Or.inl rfl) rfl (bU rfl (by decide +kernel) (by decide +kernel) rfl rfl rfl) (bQ (pv 3)) (λ_ _ _ _ _ _=>(pgN 0 aa4)) (aH rfl) (λ_ _ _ _ _ _=>bt) (λ_ _ _ _ _ _=>(bd aP rfl T.n_11 XX (aa (bH (N:=["pattern","numbers"]) (js:=[B?,A? 1]) (g:=(ak 0)) (tt:=bi) (te:=(cx (cO K _) [] E0 (aD (aR 0) (aD (aR 1) bY)))) rfl (bU rfl (by decide +kernel) (by decide +kernel) rfl rfl rfl) (bQ (pv 0)) (λ_ _ _ _ _ _=>(pgN 0 zc)) (aH rfl) (λ_ _ _ _ _ _=>bt) (λ_ _ _ _ _ _=>(pcF T.g_54 (dU T 40) hr (aa (pv 0) (aa (pv 1) ab))))) ab))))
  (af (ax (az (aa (pcF T.g_54 (dU T 40) hr (aa (pv 0) (aa (pv 7) ab))) (aa (bd aP rfl T.n_11 XX (aa (pv 9) ab)) ab)))))))))))),?_⟩
 try dsimp only[Av,Ad]
 have hhd:∀x∈stT head,x∈bS R head:=λx hx=>(gX _ _ _ _).subset (eQ.mpr (.inr hx));have Bm:∀s∈bS R head,∀x∈bK (R s),x∈bS R head:=lK 21 _ 0 (by show(bS R head).length<0+21;lia) λj s hj=>g! hj (Zc _);have hMe:bfs R (21 - 0) (bo [] (stT head)) 0=bS R head:=rfl;generalize hM:bS R head=M at*;refine⟨lnE rfl,λml M1=>?_⟩;refine gU M1 λH1 s1 e1=>?_;have e1:H1 ml=A? (.lst (([]:List WQ).map i!)):=e1;dsimp only[ak];refine⟨lnE rfl,λrl Gw=>?_⟩;have s2:k! H1 (upd H1 rl (.lst [])):=ae Gw _;have e2:(upd H1 rl (.lst [])) rl=A? (.lst (([]:List WQ).map i!)):=ac;have C3:H rl=none:=s1.free Gw;have TB:ml≠rl:=λz=>by rw[z,Gw]at e1;cases e1
 generalize(upd H1 rl (.lst []))=H2 at s2 e2 |-;have Ce:=s1.trans s2;dsimp only[ak];refine⟨_,D?,ha,head,D?,hA.mono (j! Ce),hsz,Aw,λal I0 H3 s3 Mu JC Ee=>?_⟩;dsimp only[ak];have AX:=kJ head;refine⟨NuI K H R f' M ha rd ml rl,⟨_,0,[],stT head,[],[],I0,al,B?,B?,D?,Ce.trans s3,s3 _ _ (s2 _ _ e1),.nil,s3 _ _ e2,.nil,JC,Ee,(λz=>by rw[z,s2 _ _ e1]at Mu;cases Mu),(λz=>by rw[z,e2]at Mu;cases Mu),List.nodup_nil,hMe,Xg _,by lia,rfl⟩,?_⟩;clear Ee JC Mu s3 e1 e2 s1 s2 Ce Gw;rintro mz Z H4 ⟨i,mm,l,ms,bs,I0,al,c5,c6,rfl,s4,NI,Ja,JD,Ah,JC,Ee,Mv,NJ,Eb,Cv,hi,Ot,rfl⟩;have BA:bo mm l <+: M:=by rw[<-Cv];exact gX _ _ _ _
 have ab2:(bo mm l).length<=20:=Xs BA.length_le Gs;have Mw:l.length=I0.length:=WZ Ee;refine⟨C?,D?,sg ?_⟩;refine⟨λAb H'=>∃m',m'<21 - i/\NuI K H R f' M ha rd ml rl m' Ab H',λ_ _ h=>h,?_⟩;refine⟨_,D?,al,D?,⟨_,l! JC⟩,?_⟩;refine cE (K:=K) (a:=al) (xs:=I0.map i!) (λj Z H5=>Ex2 λ(c5:Option V)(ms:List WQ)=>An4 (Z=[A? (.ref ha),A? (.ref rd),A? (.ref ml),A? (.ref rl),A? (.ref al),c5,c6,B?,B?,B?]) (SameB ml H4 H5) (H5 ml=A? (.lst (ms.map i!))) (Xk (PrAt H5) (bo mm (l.take j)) ms)) ⟨c5,ms,rfl,.refl,NI,by rw[ZC];exact Ja⟩ (λj Z H5 _⟨_,_,_,sb,_,_⟩=>l! (sb _ _ Mv JC)) ?_ ?_
 .rintro j x Z H5 hx ⟨c5,ms,rfl,Hf,C8,Ja⟩;refine hid λZZ kZ=>?_;obtain⟨ca,rfl,Cr⟩:=aG hx;obtain⟨sn,Dg,pa,cc,TC,Bc⟩:=y! Ee Cr;refine kZ ?_;have Mx:KT H4 H5:=Hf.kt NI;have My:=Bc.mono Mx;have E9:bo mm (l.take (j+1))=gC (bo mm (l.take j)) sn:=by rw[take_snoc Dg,cU];rfl
  have hlen:(bo mm (l.take j)).length<=20:=by
   have e:bo mm l=bo (bo mm (l.take j)) (l.drop j):=by rw[<-cU,YV]
   have:=(eI (l.drop j) (bo mm (l.take j))).length_le;rw[<-e]at this;lia
  have ab3:=WZ Ja;refine⟨_,D?,ca,_,0,.ref pa,D?,D?,n! (Mx _ _ TC),at0,_,D?,ml,_,pDv sn,_,D?,l! C8,My.dv,wo Ja,Xs (qj _) (by decide),λrb Q6=>⟨_,D?,?_⟩⟩;rw[yx]at Q6;refine cy (λc=>?_) (λc=>?_)
  .have hn:=Q6.mp c;refine⟨_,D?,.inl ⟨D?,_,l! C8⟩,_,D?,ca,_,0,.ref pa,D?,D?,n! (Mx _ _ TC),at0,ml,_,_,D?,D?,C8,lbE (by lia),_,ms++[pa],D?,λc o hc e=>by rw[ai hc];exact Hf c o hc e,uAE,?_⟩;have k6:KT H5 (upd H5 ml (.lst (ms.map i!++[.ref pa]))):=aI C8;rw[E9];unfold gC;rw[a! hn];exact r! (i0 k6 Ja) (.cons (My.mono k6) .nil)
  .have hn:sn∈bo mm (l.take j):=Classical.byContradiction λz=>c (Q6.mpr z);refine⟨_,ms,D?,Hf,C8,?_⟩;rw[E9];unfold gC;rw[b! hn];exact Ja
 rintro Z H5 ⟨Q7,TF,rfl,Hf,C8,Ef⟩;rw[WM,<-Mw,Yo]at Ef;have Mx:KT H4 H5:=Hf.kt NI;have s5:k! H H5:=λb o e=>Hf b o (av e M1) (s4 b o e);have Dc:=Hf _ _ TB.symm JD;have Mz:(bo mm l).Nodup:=oV Eb;have CU:i<=(bo mm l).length:=Xs hi (eI _ _).length_le;clear Ee JC Ja NI JD Hf Eb Mw Mv NJ hi;generalize bo mm l=m5 at*;have Q8:=WZ Ef
 have AV:bs.length=i:=by
  have h1:=WZ Ah;rw[XF]at h1;have:=BA.length_le;lia
 dsimp only[nE,wM];refine⟨_,D?,rl,_,D?,.inl (l! Dc),_,D?,ml,_,D?,.inl (l! C8),D?,_,D?,?_⟩;rw[WM,WM,AV,<-Q8];refine cy (λc=>?_) (λc=>?_)
 .have Q9:i=m5.length:=by
   have:=e! c;have:=V.int.inj this;lia
  have Ny:M=m5:=by rw[<-Cv,tR _ _ _ _ (by lia)]
  rw[XZ (by rw[Ny];lia)]at Ah;subst Ny;clear Cv BA c Q9 CU Ot;dsimp only[vZ,wM];intro nd Eb;have s6:k! H5 (upd H5 nd (.dT [])):=ae Eb _;have e6:(upd H5 nd (.dT [])) nd=A? (.dT (dl [])):=ac;have Ra:H nd=none:=s5.free Eb;have Ep:nd≠ml:=λz=>by rw[z,C8]at Eb;cases Eb
  have hnr:nd≠rl:=λz=>by rw[z,Dc]at Eb;cases Eb
  generalize(upd H5 nd (.dT []))=H6 at s6 e6 |-;have FD:=s6 _ _ C8;have MA:=i0 (j! s6) Ef;dsimp only[ak];refine⟨_,D?,ml,_,D?,.inl (l! FD),_,D?,by lia,by rw[WM];lia,?_⟩;refine cw (λj Z H7=>Ex1 λ(c8:Option V)=>An3 (Z=[A? (.ref ha),A? (.ref rd),A? (.ref ml),A? (.ref rl),A? (.ref al),Q7,c6,A? (.ref nd),c8,B?]) (SameB nd H6 H7) (H7 nd=A? (.dT (dl (M.take j))))) ⟨B?,rfl,.refl,e6⟩ ?_ ?_
  .rintro j Z H7 hj ⟨c8,rfl,BM,DF⟩;have Ap:j<M.length:=by rw[WM]at hj;lia
   refine hid λZZ kZ=>?_;obtain⟨sn,Dg⟩:∃sn,M[j]?=A? sn:=⟨_,WR Ap⟩;have Rb:KT H6 H7:=λb xs e=>BM b _ (cp e e6 (λz=>nomatch z)) e;obtain⟨pa,CD,Bc⟩:=B! (i0 Rb MA) Dg;refine kZ ?_;have Fs:=BM _ _ Ep.symm FD;have Le:=i5 (M.take j)
   have Rc:sn∉M.take j:=λh=>by
    obtain⟨i',AF⟩:=Xj.mp h;obtain⟨h1,_⟩:=Yw.mp AF;rw[XF]at h1;rw[List.getElem?_take_of_lt (by lia),<-Dg]at AF;have:=(List.getElem?_inj (by lia) Mz).mp AF;lia
   refine⟨_,D?,_,D?,_,D?,_,D?,ml,_,_,.ref pa,D?,D?,l! Fs,at_nonneg (by lia) (by rw[X6,Xy,WY,CD];rfl),nd,_,D?,DPut.t (k:=kP sn) DF Bc.get (bE (by rw[Le,XF];lia)),?_⟩;refine⟨_,D?,λb o hb e=>by rw[ai hb];exact BM b o hb e,?_⟩;rw[ac,gF _ (qU Rc),take_snoc Dg,nG,XF,Nat.min_eq_left (by lia),X6]
  rintro Z H7 ⟨c8,rfl,BM,DF⟩;rw[XZ (by rw[WM];lia)]at DF;have Rb:KT H6 H7:=λb xs e=>BM b _ (cp e e6 (λz=>nomatch z)) e;have s7:k! H H7:=λb o e=>BM b o (av e Ra) (s6 _ _ (s5 _ _ e));have Cz:=BM _ _ hnr.symm (s6 _ _ Dc);have ab4:=WZ Ah;clear MA FD s6 e6 BM Rb C8 Ef Dc Mx;dsimp only[ak];refine⟨_,D?,rl,D?,⟨_,l! Cz⟩,cJ (F:=RowK K) (xs:=bs.map i!) (M.map λx=>(R x).map (ren (idx M))) (λH1 H2 z p kt h=>RowK.mono kt h) (by rw[WM,WM];lia) (by rw[WM];lia) (λj Hx sx hj=>⟨_,_,l! (sx _ _ Cz),WR hj⟩) (λHx sx=>⟨_,l! (sx _ _ Cz),WV _⟩) (λj Hx x Hy sx hj hy=>⟨hy.1,hy.2 _ (l! (sx _ _ Cz))⟩) (λj y z Hx R' W' hy AG sx hR'=>?_) (λD Hx ds hD sx eD Bh=>?_)⟩
  .refine hid λZZ kZ=>?_;obtain⟨b,rfl,hb⟩:=aG hy;obtain⟨sn,Dg,D'⟩:=y! Ah hb;rw[WY,Dg]at AG;cases AG;have II:=WS Dg;obtain⟨E7,BY,la,as,Hi,Rf,BV⟩:=hR sn II;refine kZ ?_;rw[D']at Hi;cases Hi;have MB:=s7.trans sx;have Gx:=MB _ _ Rf;have MC:=v! (λ_ _ e=>F! (j! MB) e) BV;have AN:=WZ BV;refine⟨_,D?,b,D?,⟨_,l! Gx⟩,cJ (F:=AtK .i K) (xs:=as.map i!) ((R sn).map (ren (idx M))) (λH1 H2 z p kt h=>h.mono kt) (by rw[WM,WM];lia) (by rw[WM];lia) (λj Hy sy hj=>⟨_,_,l! (sy _ _ Gx),WR hj⟩) (λHy sy=>⟨_,l! (sy _ _ Gx),WV _⟩) (λj Hy x Hz sy hj hy=>⟨hy.1,hy.2 _ (l! (sy _ _ Gx))⟩) (λj y z Hy R2 W2 hy AG sy hR2=>?_) (λD2 Hy cs Ta sy GW AW=>?_)⟩
   .obtain⟨ta,rfl,Cc⟩:=aG hy;obtain⟨t,ht,A9⟩:=y! MC Cc;rw[WY,ht]at AG;cases AG;have Ha:=WS ht;obtain⟨z1,z2⟩:=BY t Ha;exact⟨_,D?,_,D?,ta,nd,t,M,D?,A9.mono (j! sy),sy _ _ (sx _ _ DF),λs hs=>Bm sn II s (lb Ha hs),z1,z2,λrr H9 s9 E6=>hR2 H9 rr s9 E6⟩
   .have Ck:=WZ AW;rw[WM]at Ck;refine⟨D2,_,D?,.inl ⟨l! GW,λtp Bn=>?_⟩⟩;have s8:=ae Bn (.tup (cs.map i!));exact hR' _ tp (sy.trans s8) ⟨cs,ac,(f8 AW).mono (j! s8)⟩
  .have MB:=s7.trans sx;dsimp only[ak];refine⟨_,D?,_,D?,ha,nd,head,M,D?,hA.mono (j! MB),sx _ _ DF,hhd,hsz,Aw,λfh H9 s9 G4=>?_⟩;have DK:=WZ Bh;rw[WM]at DK;refine⟨_,D?,D,_,D?,.inl ⟨l! (s9 _ _ eD),λrt LL=>⟨lnE rfl,λr Bv=>?_⟩⟩⟩;have t1:=ae LL (.tup (ds.map i!));have t2:=ae Bv (.tup [.ref fh,.ref rt]);have IL:=t1.trans t2;exact k r fh rt ds _ (MB.trans (s9.trans IL)) ac (G4.mono (j! IL)) (t2 _ _ ac) (v! (λ_ _ e=>RowK.mono (j! (s9.trans IL)) e) Bh)
 .have Ai:i<m5.length:=by
   rcases Nat.lt_or_ge i m5.length with h|h
   .exact h
   .exact g! (d! (by rw[show i=m5.length by lia])) c
  refine hid λZZ kZ=>?_;obtain⟨sn,Dg⟩:∃sn,m5[i]?=A? sn:=⟨_,WR Ai⟩
  have E5:M[i]?=A? sn:=by
   obtain⟨rr,E6⟩:=BA;rw[<-E6,X0 Ai];exact Dg
  have II:=WS E5;obtain⟨E7,BY,la,as,D',Rf,BV⟩:=hR sn II;obtain⟨pa,CD,Bc⟩:=B! Ef Dg;refine kZ ?_;have hsz:=jo λt ht=>(BY t ht).1;have AN:=WZ BV;have E8:bfs R (21 - i) m5 i=bfs R (21 - (i+1)) (bo m5 (bK (R sn))) (i+1):=by rw[show 21 - i=(21 - (i+1))+1 by lia,bfs,Dg]
  have Nv:(bs.map i!).length=i:=by rw[WM];exact AV
  dsimp only[nE];refine⟨_,D?,.inl ⟨D?,_,l! Dc⟩,_,D?,_,D?,_,D?,rl,_,D?,.inl (l! Dc),ml,_,_,.ref pa,D?,D?,l! C8,at_nonneg (by lia) (by rw[Nv,Xy,WY,CD];rfl),rd,.ref la,D?,.inr ⟨f',kP sn,pa,.inl (s5 _ _ NH),D?,Bc.get,D'.symm⟩,rl,_,_,D?,D?,Dc,bE (by lia),?_⟩;have k6:KT H5 (upd H5 rl (.lst (bs.map i!++[.ref la]))):=aI Dc;have e6:(upd H5 rl (.lst (bs.map i!++[.ref la]))) rl=A? (.lst ((bs++[la]).map i!)):=uAE;have s6:k! H (upd H5 rl (.lst (bs.map i!++[.ref la]))):=ao s5 C3;have FD:(upd H5 rl (.lst (bs.map i!++[.ref la]))) ml=A? (.lst (TF.map i!)):=by rw[ai TB];exact C8
  generalize(upd H5 rl (.lst (bs.map i!++[.ref la])))=H6 at k6 e6 s6 FD |-;refine⟨lnE rfl,λJb Ff=>?_⟩;have s7:k! H6 (upd H6 Jb (.lst [])):=ae Ff _;have e7:(upd H6 Jb (.lst [])) Jb=A? (.lst (([]:List WQ).map i!)):=ac;have n2m:Jb≠ml:=λz=>by rw[z,FD]at Ff;cases Ff
  have n2r:Jb≠rl:=λz=>by rw[z,e6]at Ff;cases Ff
  generalize(upd H6 Jb (.lst []))=H7 at s7 e7 |-;have Cz:=s7 _ _ e6;have Fs:=s7 _ _ FD;have LO:=s6.trans s7;have MD:=LO _ _ Rf;have ME:=v! (λ_ _ e=>F! (j! LO) e) BV;have k57:KT H5 H7:=k6.trans (j! s7);have Rg:((bs++[la]).map i!).length=i+1:=by rw[WM,Xd];show bs.length+1=_;lia
  dsimp only[ak];refine⟨_,D?,_,D?,rl,_,D?,.inl (l! Cz),_,_,D?,D?,rl,_,_,.ref la,D?,D?,l! Cz,at_nonneg (by lia) (by rw[Rg,show((((i+1:Nat):Int) - 1).toNat)=i by lia,Xa,Yq (by lia),Nv,Nat.sub_self];rfl),la,D?,⟨_,l! MD⟩,?_⟩;refine cE (K:=K) (a:=la) (xs:=as.map i!) (λj Z H8=>Ex3 λ(c6:Option V)(Hj:WQ)(DH:List WQ)=>An6 (Z=[A? (.ref ha),A? (.ref rd),A? (.ref ml),A? (.ref rl),A? (.ref Hj),Q7,c6,B?,B?,B?]) (k! H7 H8) (Hj≠ml) (Hj≠rl) (H8 Hj=A? (.lst (DH.map i!))) (Xk (CaP H8) (bK ((R sn).take j)) DH)) ⟨c6,Jb,[],rfl,.refl _,n2m,n2r,e7,.nil⟩ (λj Z H8 _⟨_,_,_,_,s8,_,_,_,_⟩=>l! (s8 _ _ MD)) ?_ ?_
  .rintro j x Z H8 hx ⟨c6,Hj,DH,rfl,s8,Mv,NJ,e8,Dd⟩;refine hid λZZ kZ=>?_;obtain⟨ta,rfl,Cc⟩:=aG hx;obtain⟨t,ht,A9⟩:=y! ME Cc;have Ha:=WS ht;obtain⟨z1,z2⟩:=BY t Ha;refine kZ ?_;refine⟨_,D?,_,D?,ta,t,D?,A9.mono (j! s8),z1,z2,λr rs H9 s9 nr er Nu=>?_⟩;have g1:=gw ((R sn).take j);have g2:=iJ j (R sn);have g3:=kJ t;have l1:=WZ Dd;have l2:=WZ Nu;refine⟨Hj,r,_,_,D?,D?,s9 _ _ e8,er,cQ (by rw[WM,WM];lia),λp hp=>?_⟩;have AS:=ae hp (.lst (DH.map i!++rs.map i!));have TH:=s9.trans AS;refine⟨_,p,DH++rs,D?,s8.trans TH,(λz=>by rw[z,(s8.trans s9) _ _ Fs]at hp;cases hp),(λz=>by rw[z,(s8.trans s9) _ _ Cz]at hp;cases hp),by rw[ac,Xa],?_⟩;rw[XU,ht];show Xk _ (bK ((R sn).take j++[t])) _;rw[i6];show Xk _ (bK ((R sn).take j)++(stT t++[])) _;rw[XA];exact r! (iU (j! TH) Dd) (iU (j! AS) Nu)
  .rintro Z H8 ⟨c6',Hj,DH,rfl,s8,Mv,NJ,e8,Dd⟩;rw[WM,<-AN,Yo]at Dd;have g1:=gw (R sn);exact⟨21 - (i+1),by lia,i+1,m5,bK (R sn),TF,bs++[la],DH,Hj,Q7,c6',D?,LO.trans s8,s8 _ _ Fs,i0 (k57.trans (j! s8)) Ef,s8 _ _ Cz,by rw[take_snoc E5];exact r! Ah (.cons D' .nil),e8,Dd,Mv,NJ,Mz,by rw[<-E8];exact Cv,Ai,by lia,D?⟩
mutual
theorem lc(f:Int->Int->Th):∀t:Th,t.tall<=(t.fill f).tall
 | .call s k=>by
   have:=(f s k).tall_eq;rw[A!,t!];lia
 | .knot n ks=>by
   have:=nw f ks;rw[A!,t!,t!];lia
theorem nw(f:Int->Int->Th):∀ts:List Th,aJ ts<=aJ (fills f ts)
 | []=>by rw[fills];exact WV _
 | t::ts=>by
   have h1:=lc f t;have h2:=nw f ts;rw[fills,aJ,aJ];lia
end
def EntL(K:WO)(F:Nat->Th)(rows:List (List Th))(tk:List (List Key×V))(H:Hp)(x:Int):Prop:=∃(la:WQ)(as:List WQ),aN tk (kP x)=A? (.ref la)/\H la=A? (.lst (as.map i!))/\Xk (AtK .p K H) (eaR F rows x) as
theorem EntL.mono{F:Nat->Th}{tk MO:List (List Key×V)}{x:Int}{rd:WQ}{zz:List (List Key×V)}(h:EntL K F rows tk H x)(NH:H rd=A? (.dT zz))(s:SameB rd H H')(hv:aN MO (kP x)=aN tk (kP x)):EntL K F rows MO H' x:=by
 obtain⟨la,as,h1,h2,h3⟩:=h;exact⟨la,as,hv.trans h1,s _ _ (cp h2 NH (λz=>nomatch z)) h2,v! (λ_ _ e=>F! (λb xs e=>s b _ (cp e NH (λz=>nomatch z)) e) e) h3⟩
inductive fN(K:WO)(vs:List V)(H:Hp)(Q:VK)(_E:XK):Prop
 |mk (b fl ia oa ha ra:WQ) (Ak Az AM fs:List WQ) (ins outs:List (Xp×Int)) (F:Nat->Th) (head:Th) (rows:List (List Th)):vs=[.ref b,.ref fl]->BookAt H ins outs head rows b ia oa ha ra Ak Az AM->H fl=A? (.lst (fs.map i!))->Xk (λs a=>AtK .i K H (F s) a) (XD rows.length) fs->EaOk ins outs F head rows->rows.length<=20->(∀(r fh rl:WQ)(C9:List WQ)(H':Hp),k! H H'->H' r=A? (.tup [.ref ia,.ref oa,.ref fh,.ref rl])->AtK .i K H' (ren (idx (bS (eaR F rows) (eaP F head))) (eaP F head)) fh->H' rl=A? (.tup (C9.map i!))->Xk (RowK K H') ((bS (eaR F rows) (eaP F head)).map λx=>(eaR F rows x).map (ren (idx (bS (eaR F rows) (eaP F head))))) C9->Q (.ref r) H')->fN K vs H Q _E
theorem jm:aT P w K mg base CX0 140 T.g_60.f T.g_60.d ["book","fronts"] (fN K):=by
 refine T.g_60.F.okA bJ λAg A outer s H vs Q E hr h=>?_;obtain⟨b,fl,ia,oa,ha,ra,Ak,Az,AM,fs,ins,outs,F,head,rows,rfl,bk,CG,C7,J,hN,k⟩:=h
 refine⟨_,(ad (aj 2 bJ.nd gJ)
  (ad (bq Xr rfl (bu rfl T.n_9 (aa (aA aw rfl T.n_5 XE (aa (aC aF (pv 0) ag (λ_ _=>rfl)) ab)) ab)) (pgN 3 bJ.nd) (ad (aj 4 bJ.nd (pcF T.g_56 (fu T 100) hr (aa (aC bj (pv 1) (pv 3) (λ_ _=>rfl)) ab)))
  (af (bq Xr rfl (bu rfl T.n_9 (aa (aA aw rfl T.n_5 XE (aa (pv 4) ab)) ab)) (pgN 5 bJ.nd) (af (kU (gr hr) (pv 2) (az (aa (pv 3) (aa (pv 5) ab))) (bH (N:=["pattern","fronts","spots","k"]) (js:=[B?,A? 1,A? 4,A? 5]) (g:=(ak 0)) (tt:=bi) (te:=(cx (iB K) [] E0 (aD (cx (fz K _) [] E0 (aD (aR 0) (aD (aR 1) bY))) (aD (tOp (uI K) (aR 2) (aR 3)) bY)))) rfl (bU rfl (by decide +kernel) (by decide +kernel) rfl rfl rfl) (di (aC aF (aC aF (pv 0) ag (λ_ _=>rfl)) (pv 3) (λ_ _=>rfl))) (λ_ _ _ _ _ _=>(pgN 0 aa6)) (aH rfl) (λ_ _ _ _ _ _=>bt) (λ_ _ _ _ _ _=>(pcF T.g_59 (sK T) hr (aa (pcF T.g_58 (fC T 130) hr (aa (pv 0) (aa (pv 1) ab))) (aa (aC bj (pv 2) (pv 3) (λ_ _=>rfl)) ab))))) rfl))))))
  (ad (aj 6 bJ.nd (pcF T.g_55 (jA T) hr (aa (pcF T.g_58 (fC T 130) hr (aa (aC aF (pv 0) ag (λ_ _=>rfl)) (aa (pv 1) ab))) (aa (pv 2) ab))))
  (af (ax (az (aa (aC aF (pv 0) ag (λ_ _=>rfl)) (aa (aC aF (pv 0) ag (λ_ _=>rfl)) (aa (aC aF (pv 6) ag (λ_ _=>rfl)) (aa (aC aF (pv 6) ag (λ_ _=>rfl)) ab)))))))))),?_⟩
 try dsimp only[Av,Ad]
 have C3:rows.length=AM.length:=WZ bk.rw;have hle:=J.gi.le;intro rd MN;refine gU MN λH1 s1 e1=>?_;dsimp only[ak];refine⟨_,D?,b,_,3,.ref ra,D?,D?,n! (s1 _ _ bk.bk),at3,ra,_,D?,.inr (n! (s1 _ _ bk.rl)),_,D?,by lia,by rw[WM];lia,?_⟩;refine cw (λi Z H2=>Ex4 λ(c3 c4 c5:Option V)(tk:List (List Key×V))=>An5 (Z=[A? (.ref b),A? (.ref fl),A? (.ref rd),c3,c4,c5,B?]) (k! H H2) (H2 rd=A? (.dT tk)) (tk.length<=200 * i) (∀x,kC F i x->EntL K F rows tk H2 x)) ⟨B?,B?,B?,[],rfl,s1,e1,Xg _,λx hx=>g! hx.2.1 (Zc _)⟩ ?_ ?_
 .rintro i Z H2 hi ⟨c3,c4,c5,tk,rfl,s2,e2,hlen,Aa⟩;have AF:i<rows.length:=by rw[WM]at hi;lia
  refine hid λZZ kZ=>?_;obtain⟨fa,BW,A9⟩:=B! C7 (XJ AF);obtain⟨z1,z2,z3⟩:=J.fr i AF;refine kZ ?_;have QK:=ug (F i);have k2:=j! s2;dsimp only[ak];refine⟨_,D?,_,D?,fl,_,_,.ref fa,D?,D?,l! (s2 _ _ CG),at_nonneg (by lia) (by rw[show(0+(i:Int)).toNat=i by lia,WY,BW];rfl),fa,F i,D?,A9.mono k2,z1,by lia,by lia,by lia,λhl bs H3 s3 Q5 D0 Ah=>?_⟩;have AV:bs.length=(F i).nh:=by rw[<-WZ Ah,iG]
  have e3:=s3 _ _ e2;have Dx:=s2.trans s3;have hlr:hl≠rd:=λz=>by rw[z,e2]at Q5;cases Q5
  dsimp only[ak];refine⟨_,D?,hl,_,D?,.inl (l! D0),_,D?,by lia,by rw[WM];lia,?_⟩
  refine cw (λj Z H4=>Ex2 λ(c5:Option V)(tk:List (List Key×V))=>An5 (Z=[A? (.ref b),A? (.ref fl),A? (.ref rd),A? (.int (0+(i:Int))),A? (.ref hl),c5,B?]) (SameB rd H3 H4) (H4 rd=A? (.dT tk)) (tk.length<=200 * i+j) (∀x,kC F i x\/(∃m,m<j/\x=enc (i:Nat) (m:Nat))->EntL K F rows tk H4 x)) ⟨_,tk,rfl,.refl,e3,hlen,λx hx=>by
   rcases hx with hx|⟨m,hm,_⟩
   .exact(Aa x hx).mono e2 (SameB.of s3) rfl
   .exact g! hm (Zc _)⟩ ?_ ?_
  .rintro j Z H4 hj ⟨c5,tk,rfl,JE,e4,hlen,Aa⟩;have Ap:j<(F i).nh:=by rw[WM]at hj;lia
   have JF:KT H3 H4:=λb xs e=>JE b _ (cp e e3 (λz=>nomatch z)) e;have IV:k! H H4:=λb o e=>JE b o (av e MN) (Dx b o e);have Jc:=j! IV;have DO:enc (i:Nat) (j:Nat) / 1000=(i:Nat):=by unfold enc;lia
   have B1:enc (i:Nat) (j:Nat)%1000=(j:Nat):=by unfold enc;lia
   have hx:kC F rows.length (enc (i:Nat) (j:Nat)):=⟨by lia,by rw[DO];exact AF,by rw[DO,B1];exact Ap⟩;refine hid λZZ kZ=>?_;obtain⟨row,Af,IP,TJ,C1⟩:=J.row hx;obtain⟨Bi,Bw,LZ,Ec,Fb⟩:=B! bk.rw Af;have Aw:LZ.length=row.length:=Fb.length;have C6:=JE _ _ hlr D0;obtain⟨sp,BZ⟩:∃sp,(lhO (F i))[j]?=A? sp:=⟨_,WR (by rw[iG];exact Ap)⟩;obtain⟨pa,CD,Bu⟩:=B! Ah BZ;refine kZ ?_;have Rh:AM[i]?=A? Bi:=by rw[DO,Xy]at Bw;exact Bw
   dsimp only[ak];refine⟨_,D?,b,_,3,.ref ra,D?,D?,n! (Jc _ _ bk.bk),at3,_,D?,ra,_,_,.ref Bi,D?,D?,n! (Jc _ _ bk.rl),at_nonneg (by lia) (by rw[show(0+(i:Int)).toNat=i by lia,WY,Rh];rfl),Bi,D?,⟨_,n! (Jc _ _ Ec)⟩,cJ (F:=AtK .p K) (xs:=LZ.map i!) (row.map (eaU F (enc (i:Nat) (j:Nat)))) (λH1 H2 z p kt h=>h.mono kt) (by rw[WM,WM];lia) (by rw[WM];lia) (λi Hx sx hi=>⟨_,_,n! (sx _ _ (Jc _ _ Ec)),WR hi⟩) (λHx sx=>⟨_,n! (sx _ _ (Jc _ _ Ec)),WV _⟩) (λi Hx x Hy sx hi hy=>⟨hy.1,hy.2 _ (n! (sx _ _ (Jc _ _ Ec)))⟩) (λi' y z Hx R W' hy AG sx hR=>?_) (λD Hx as hD sx eD Bh=>?_)⟩
   .obtain⟨ua,rfl,Dw⟩:=aG hy;obtain⟨u,hu,E1⟩:=Fb.get Dw;rw[WY,hu]at AG;cases AG;have DG:=WS hu;obtain⟨C,hC,Wo⟩:=C1 u DG;have kx:=Jc.trans (j! sx);have E2:=J.smR row (WS Af) u DG;have Fj:u.size<=600:=Xs (iL _ _) E2.size;have Ss:u.tall<=20:=Xs (lc _ _) E2.tall;refine⟨_,D?,_,D?,ua,fl,fs,u,F,rows.length,C,outs,D?,(E1.mono kx).k,hC,by lia,sx _ _ (IV _ _ CG),v! (λ_ _ e=>F! kx e) C7,J.fr,(by show u.tall+101<=130;lia),λr1 H5 s5 h5=>?_⟩
    have DS:(F i).lies (eaP F u)=true:=by
     have:=J.lies Af DG hC;rw[DO,Xy]at this;exact this
    obtain⟨x',g1,g2⟩:=wm [] (F i) (eaP F u) DS j sp BZ;refine⟨_,D?,_,D?,hl,_,_,.ref pa,D?,D?,l! (s5 _ _ (sx _ _ C6)),at_nonneg (by lia) (by rw[show(0+(j:Int)).toNat=j by lia,WY,CD];rfl),r1,pa,eaP F u,eaU F (enc (i:Nat) (j:Nat)) u,sp,D?,h5,(j! s5) _ _ ((j! sx) _ _ (JF _ _ Bu)),?_,λr2 h2=>hR H5 r2 s5 h2⟩;rw[g2];unfold eaU;rw[DO,B1,Xy,Xy,g1];rfl
   .refine⟨_,D?,_,D?,_,D?,lnE rfl,λkp Ct=>?_⟩;have s8:k! Hx (upd Hx kp (.tup [.int (0+(i:Int)),.int (0+(j:Int))])):=ae Ct _
    have e8:(upd Hx kp (.tup [.int (0+(i:Int)),.int (0+(j:Int))])) kp=A? (.tup ((kP (enc (i:Nat) (j:Nat))).map kV)):=by
     unfold kP;rw[ac,DO,B1,X6,X6];rfl
    generalize(upd Hx kp (.tup [.int (0+(i:Int)),.int (0+(j:Int))]))=H8 at s8 e8 |-;have IM:=sx.trans s8;have JB:=IM _ _ e4;refine⟨rd,_,D?,DPut.t JB e8 (bE (by lia)),?_⟩;have Eo:SameB rd H8 (upd H8 rd (.dT (putK tk (kP (enc (i:Nat) (j:Nat))) (.ref D)))):=SameB.set;have LR:KT H8 (upd H8 rd (.dT (putK tk (kP (enc (i:Nat) (j:Nat))) (.ref D)))):=λb xs e=>Eo b _ (cp e JB (λz=>nomatch z)) e;refine⟨_,_,D?,λb o hb e=>Eo b o hb (IM _ _ (JE b o hb e)),ac,?_,λx AY=>?_⟩
    .have:=bw tk (kP (enc (i:Nat) (j:Nat))) (i! D);lia
    .by_cases Ri:x=enc (i:Nat) (j:Nat)
     .subst Ri;refine⟨D,as,by rw[dM,b! rfl],Eo _ _ (cp (s8 _ _ eD) JB (λz=>nomatch z)) (s8 _ _ eD),?_⟩;unfold eaR;rw[IP];exact v! (λ_ _ e=>F! ((j! s8).trans LR) e) Bh
     .refine(Aa x ?_).mono e4 (λb o hb e=>Eo b o hb (IM _ _ e)) (by rw[dM,a! λz=>Ri (wk z)]);rcases AY with h|⟨m,hm,rfl⟩
      .exact .inl h
      .refine .inr ⟨m,?_,rfl⟩;by_cases h:m=j
       .exact g! (by rw[h]) Ri
       .lia
  .rintro Z H4 ⟨c5,tk,rfl,JE,e4,hlen,Aa⟩;refine⟨_,_,_,tk,D?,λb o e=>JE b o (av e MN) (Dx b o e),e4,by rw[WM]at hlen;lia,λx hx=>Aa x ?_⟩;obtain⟨h0,h1,h2⟩:=hx;by_cases h:(x / 1000).toNat<i
   .exact .inl ⟨h0,h,h2⟩
   .have hxi:(x / 1000).toNat=i:=by lia
    rw[hxi]at h2;refine .inr ⟨(x%1000).toNat,by rw[WM];lia,?_⟩;unfold enc;lia
 .rintro Z H2 ⟨c3,c4,c5,tk,rfl,s2,e2,hlen,Aa⟩;have k2:=j! s2;have hz:=J.smH.size;have Mc:head.size<=600:=Xs (iL _ _) hz;have hht:head.tall<=20:=Xs (lc _ _) J.smH.tall;have hM:=J.len;dsimp only[ak];refine⟨_,D?,b,_,2,.ref ha,D?,D?,n! (s2 _ _ bk.bk),at2,_,D?,ha,fl,fs,head,F,rows.length,1,outs,D?,(bk.hd.mono k2).k,J.hd,by lia,s2 _ _ CG,v! (λ_ _ e=>F! k2 e) C7,J.fr,(by show head.tall+101<=130;lia),λr1 H5 s5 h5=>?_⟩;refine⟨_,D?,r1,rd,eaP F head,eaR F rows,tk,D?,h5,s5 _ _ e2,by lia,Xs J.smH.tall (by decide),hM,λx hx=>?_,λr fh rl C9 H6 s6 er G4 JD Jd=>?_⟩
  .have hp:=J.met x hx;refine hid λZZ kZ=>?_;obtain⟨h1,h2⟩:=J.small hp;rw[C3]at hp;obtain⟨la,as,g1,g2,g3⟩:=Aa x (by rw[WM];exact hp);refine kZ ?_;exact⟨h1,λt ht=>⟨Xs (h2 t ht).size (by decide),Xs (h2 t ht).tall (by decide)⟩,la,as,g1,s5 _ _ g2,v! (λ_ _ e=>F! (j! s5) e) g3⟩
  have G7:=s2.trans (s5.trans s6);dsimp only[ak];refine⟨_,D?,b,_,0,.ref ia,D?,D?,n! (G7 _ _ bk.bk),at0,_,D?,b,_,1,.ref oa,D?,D?,n! (G7 _ _ bk.bk),at1,_,D?,r,_,0,.ref fh,D?,D?,n! er,at0,_,D?,r,_,1,.ref rl,D?,D?,n! er,at1,lnE rfl,λrr E6=>?_⟩;have s7:=ae E6 (.tup [.ref ia,.ref oa,.ref fh,.ref rl]);exact k rr fh rl C9 _ (G7.trans s7) ac (G4.mono (j! s7)) (s7 _ _ JD) (v! (λ_ _ e=>RowK.mono (j! s7) e) Jd)
structure v9(K:WO)(H:Hp)(ins:List (Xp×Int))(head:Th)(rows:List (List Th))(b ia oa ha ra:WQ)(Ak AM:List WQ):Prop where
 bk:H b=A? (.tup [.ref ia,.ref oa,.ref ha,.ref ra])
 inE:H ia=A? (.tup (Ak.map i!))
 inK:KsAt H ins Ak
 hd:AtK .i K H head ha
 rl:H ra=A? (.tup (AM.map i!))
 rw:Xk (RowK K H) rows AM
theorem pC(F:FrB ins outs rows)(hD:FrD ins rows (f'.map (·.1))){s:Nat}{row:List Th}(Af:rows[s]?=A? row){p:Th}(hp:p∈row) :
 ((frS ins rows s).cut (Dk f' (s:Nat)) []).lies (p.fill λl _=>(frS ins rows l.toNat).cut (Dk f' ((l.toNat:Nat):Int)) [])=true:=by
 have hs:=(glE Af);obtain⟨j,hj⟩:=Xj.mp hp;obtain⟨C3,C1⟩:=F.fit.row row (WS Af);obtain⟨k0,CF⟩:∃k0,ins[j]?=A? k0:=⟨_,WR (by have:=(glE hj);lia)⟩;have hpf:=C1 j p k0 hj CF;obtain⟨z1,z2,z3⟩:=lm F hs;have TL:=jN _ _ (WV _) z3
 have DS:∀(m:Nat),m<rows.length->(frS ins rows m).lies (mkF ins rows (m:Nat))=C?/\∀BE,rows[m]?=A? BE->∀p'∈BE,(frS ins rows m).lies (p'.fill λl _=>mkF ins rows l)=true:=λm hm=>by
  obtain⟨y1,y2,y3⟩:=lm F hm;have h0:=jN _ _ (WV _) y3;obtain⟨g1,g2⟩:=qC (frS ins rows m) ((rows[m]?).getD []) (mkF ins rows (m:Nat)) h0;refine⟨g1,λBE Bv p' BC=>g2 p' (by rw[Bv];exact BC)⟩
 have:=lB (f0:=λl=>frS ins rows l.toNat) (D:=λl=>Dk f' ((l.toNat:Nat):Int)) (mk:=mkF ins rows) (s:=(s:Nat)) (pat:=p) (λc hc=>?_) _ (frS ins rows s) p [] (WV _) (λx hx=>hx) (λc hc=>hc) z3 ((DS s hs).2 row Af p hp)
 .exact this
 .obtain⟨c0,c1,_⟩:=gN p [] hpf c hc;have Rj:c.2.1.toNat<rows.length:=by lia
  have Dh:((c.2.1.toNat:Nat):Int)=c.2.1:=Yu c0;have hl:=(DS _ Rj).1;rw[Dh]at hl;refine⟨hl,(lm F Rj).2.2,λr u hu hh=>lD.mpr (hD.hol _ Rj (r,u) hu hh),λr u hd hu=>?_⟩;have B8:(c.1++r,u)∈(frS ins rows s).pl []:=hu;obtain⟨v,hv1,hv2⟩:=qr _ (u:=u) (WV _) B8;have hk:=lD.mp hd;rw[Dh]at hk;exact lD.mpr (hD.cl s row Af p hp c hc v hv1 (r,u) hv2 hk)
theorem oM{D:Nat}(h:Drw ins outs W D head rows):FrB ins outs rows:=⟨h.gi,h.fit,Xs h.le (by decide),λrow hr p hp=>by
 obtain⟨C,_,hb⟩:=h.pat hr hp;have l:=h.lim;have h1:=hb.sz;have h2:=hb.tall;lia⟩
theorem jk{D:Nat}(h:Drw ins outs W D head rows)(f':List (ay×V)){s:Nat}(hs:s<rows.length):(lr ins rows f' s).noCall/\(lr ins rows f' s).lf<=W ^ D/\(lr ins rows f' s).size<=15/\(lr ins rows f' s).tall<=4:=by
 refine hid λZZ kZ=>?_;obtain⟨row,p,hr,hp,e,_⟩:=(oM h).mkd (l:=(s:Nat)) (by lia) (by lia);obtain⟨C,_,hb⟩:=h.pat (WS hr) (WS hp);refine kZ ?_;have l:=h.lim;have h1:=hb.sz;have h2:=hb.tall;have h3:=hb.lf;rw[<-e]at h1 h2 h3;have h4:=iR (mkF ins rows) (mkF ins rows (s:Nat)) ((rows[s]?).getD []);have h5:=ve (mkF ins rows) ((rows[s]?).getD []) (mkF ins rows (s:Nat));have h6:=wE (Dk f' (s:Nat)) (frS ins rows s) [];have h7:=qf (Dk f' (s:Nat)) _ (frS ins rows s) [] (WV _);unfold lr;unfold frS at h6 h7 |-;exact⟨h6.2.2,by lia,by lia,by lia⟩
theorem yV{D:Nat}(h:Drw ins outs W D head rows)(hD:FrD ins rows (f'.map (·.1))):EaOk ins outs (lr ins rows f') head rows :=
 ⟨h.gi,h.fit,h.hd.fit,λs hs=>by
  refine hid λZZ kZ=>?_;obtain⟨h1,_,h3,h4⟩:=jk h f' hs;refine kZ ?_;exact⟨h1,by lia,by lia⟩,λs row p hr hp=>pC (oM h) hD hr hp,h.small (λs hs=>jk h f' hs) h.hd,λrow hr p hp=>by
  obtain⟨C,_,hb⟩:=h.pat hr hp;exact h.small (λs hs=>jk h f' hs) hb,h.many λs hs=>(jk h f' hs).2.1⟩
inductive sP(K:WO)(tp:WQ)(vs:List V)(H:Hp)(Q:VK)(_E:XK):Prop
 |mk (a:WQ) (ns:List Int):vs=[.ref a]->SqL K H a (ns.map q!)->ns.length<=63->H tp=A? (.tbl #[])->(∀H',Q (.bl C?) H')->sP K tp vs H Q _E
def p7(rows:List (List Th)):List Dv:=rows.map λts=>.tup (dvs ts)
theorem rj:∀{rows:List (List Th)}{as:List WQ},Xk (RowK K H) rows as->DAtsK K H (p7 rows) (as.map i!)
 |_,_,.nil=>.nil
 |_,_,.cons ⟨as,e,h⟩ t=>.cons (by rw[DAtK];exact⟨_,_,D?,.inl e,h.dvs⟩) (rj t)
theorem lY:∀{rows:List (List Th)},(∀row∈rows,∀p∈row,p.size<=600/\p.tall<=38)->bO (p7 rows)<=39
 | [],_=>Xg _
 | row::rows,h=>by
   have h1:=jU (B:=600) (C:=38) row λu hu=>h row (Xh ..) u hu;have h2:=lY (rows:=rows) λr hr=>h r (Xe _ hr);show max (bO (dvs row)+1) (bO (p7 rows))<=39;lia
def v5(ins outs:List (Xp×Int))(head:Th)(rows:List (List Th)):List Dv:=[.tup (ins.map kDv),.tup (outs.map kDv),head.dv,.tup (p7 rows)]
theorem pT{ia oa ha ra:WQ}{Ak Az AM:List WQ}(h:v9 K H ins head rows b ia oa ha ra Ak AM)(eo:H oa=A? (.tup (Az.map i!)))(ho:KsAt H outs Az):DAtsK K H (v5 ins outs head rows) [.ref ia,.ref oa,.ref ha,.ref ra] :=
 .cons (by rw[DAtK];exact⟨_,_,D?,.inl h.inE,(tJ h.inK).k⟩) (.cons (by rw[DAtK];exact⟨_,_,D?,.inl eo,(tJ ho).k⟩) (.cons h.hd.dv (.cons (by rw[DAtK];exact⟨_,_,D?,.inl h.rl,rj h.rw⟩) .nil)))
theorem zF(L:Lam mg base T.g_44.tc T.g_44.tp):aT P w K mg base CX0 160 T.g_61.f T.g_61.d ["script"] (sP K T.g_44.tp):=by
 refine T.g_61.F.okA wx λAg A outer s H vs Q E hr h=>?_;obtain⟨a,ns,rfl,hS,CM,Bn,q⟩:=h
 refine⟨_,(ad (aj 1 wx.nd (pcF T.g_52 (oP T) hr (aa (pv 0) ab)))
  (af (ax (dB (kL (B:=150) (eY hr)) (pcF T.g_44.1 (pF T L) hr (aa (pv 1) ab)) (pcF T.g_60 (jm T) hr (aa (pv 1) (aa (pcF T.g_39 (jd T) hr (aa (pv 1) ab)) ab))) (aZ _))))),?_⟩
 try dsimp only[Av,Ad]
 refine⟨_,D?,a,ns,D?,hS,CM,λb ia oa ha ra Ak Az AM ins outs W D head rows H1 s1 bk hd=>?_⟩;dsimp only[ak];have MF:=s1 _ _ Bn;have Rk:=oM hd;refine⟨_,D?,b,ia,oa,ha,ra,Ak,Az,AM,ins,outs,head,rows,D?,bk,Rk,hd.go,λf' hD=>yV hd hD,.inl MF,λr fh rl C9 f' F M H2 hD hK hF hM s2 Ky er G4 JD Jd=>?_⟩;have J:EaOk ins outs F head rows:=by rw[hF];exact yV hd hD
 have k2:=s2.kt MF;have TM:=bk.mono k2;refine⟨_,D?,_,D?,b,ins,outs,head,rows,D?,⟨_,_,_,_,_,_,_,TM⟩,Rk,hd.go,λfl fs L6 H3 s3 CG C7 Ta hK2=>?_⟩;have k3:=j! s3;have TN:=TM.mono k3
 have Fc:Xk (λs a=>AtK .i K H3 (F s) a) (XD rows.length) fs:=by
  rw[hF];refine v! (λs a h=>?_) C7;unfold lr;rw[hK.eq hK2 s];exact h
 refine⟨b,fl,ia,oa,ha,ra,Ak,Az,AM,fs,ins,outs,F,head,rows,D?,TN,CG,Fc,J,Rk.le,λr2 fh2 rl2 Rl H4 s4 er2 MG Rm Hk=>?_⟩;rw[<-hM]at MG Hk;have k4:=j! s4;have JF:=k3.trans k4;have Hm:=TN.mono k4;have bf:v9 K H4 ins (ren (idx M) (eaP F head)) (M.map λx=>(eaR F rows x).map (ren (idx M))) r ia oa fh rl Ak C9:=⟨JF _ _ er,Hm.inE,Hm.inK,G4.mono JF,JF _ _ JD,v! (λ_ _ e=>RowK.mono JF e) Jd⟩;have bg:v9 K H4 ins (ren (idx M) (eaP F head)) (M.map λx=>(eaR F rows x).map (ren (idx M))) r2 ia oa fh2 rl2 Ak Rl:=⟨er2,Hm.inE,Hm.inK,MG,Rm,Hk⟩;refine⟨r,r2,_,_,v5 ins outs _ _,v5 ins outs _ _,D?,D?,n! bf.bk,n! bg.bk,pT bf Hm.outE Hm.outK,pT bg Hm.outE Hm.outK,?_,λbb hb=>?_⟩
 .have h1:=iP ins;have h2:=iP outs;have h3:=(ren (idx M) (eaP F head)).dv_deep
  have E2:∀t:Th,Small t->(ren (idx M) t).size<=600/\(ren (idx M) t).tall<=38:=λt ht=>by
   obtain⟨r1,r2⟩:=pN (idx M) t;exact⟨by rw[r1];exact ht.size,by rw[r2];have:=ht.tall;lia⟩
  have h4:=lY (rows:=M.map λx=>(eaR F rows x).map (ren (idx M))) λBE Bv p' BC=>by
   obtain⟨x,hx,rfl⟩:=Xx.mp Bv;obtain⟨t,ht,rfl⟩:=Xx.mp BC;exact E2 t ((J.small (J.met x (by rw[<-hM];exact hx))).2 t ht)
  have h5:=(E2 _ J.smH).2;show max (bO (ins.map kDv)+1) (max (bO (outs.map kDv)+1) (max (ren (idx M) (eaP F head)).dv.deep (max (bO (p7 (M.map λx=>(eaR F rows x).map (ren (idx M))))+1) 0)))<=150;lia
 .rw[hb.mpr rfl];exact q H4
end
theorem walk{l:PySem.W.OpenLaw}{q:W5}{d dt:DefRec}{K:Params->WO}(hn:l.most=A? 63)(JW:d.params.defaults=[])(hd:d.name="law")(hq:(PyProof.Rows.recsOf q).find? (λe=>e.name == ("earliest":Xp))=A? dt)(hY:∀(w:Xq)(h:Yh),YP w h->(K w.params).In h)
 (F:∀(w:Xq)(mg:Xp->Option WT)(h:Yh),(K w.params).In h->h.Ns Yn mg->TX (K w.params) mg):PySem.W.WalkO q loose XP YP l.row.toRowW d [] (λf vs=>PySem.call f vs) :=
 L2.wZ (n:=63) (k:=160) (x:="script") (tn:="earliest") (CX:=λ_=>CX0) (sp:=λw T=>sP (K w.params) T) hn (by decide) JW ⟨rfl,by decide,by decide⟩ hq hY (λw mg fa h KX G hm=>by
  have T:=F w mg h KX G;obtain⟨_,_,_,_,_,_,_,_,_,e,_⟩:=T.g_61.F.ex;rw[hd]at hm;have e2:T.g_61.f=fa:=(Value.ref.inj (Xn (hm.symm.trans T.g_61.m))).symm;subst e2;exact⟨_,_,_,λs v=>by rw[e];exact .of_eq rfl,T.g_44.t,T.g_44.u,λbase _ _ L=>zF T L⟩) (λ_ _ _ a ns hl hS hT=>⟨a,ns,rfl,hS,hl,hT,λ_=>rfl⟩) λ_ _ _ _ _ z=>z
end LAW
open PySem PySem.W PyProof.Rows
set_option maxRecDepth 100000 in
theorem PySem.Challenge.cw_boughbook_k67_written_early_holds : PySem.Challenge.rw_boughbook_k67_written_early.Holds := by
 w_on;(refine holds_law LAW.ws λab5=>?_);(refine holds_open (q:=LAW.vw) (N:=90000) (loose:=[]) (XP:=XL LAW.vw []) (Yf:=Hook.obs (kHook LAW.d0.heap_1 LAW.ks LAW.ke)) (Ya:=Hook.val (kHook LAW.d0.heap_1 LAW.ks LAW.ke)) (YP:=Hook.says (kHook LAW.d0.heap_1 LAW.ks LAW.ke)) (Xt:=LAW.xt) (HD.u9 (by kernel_rfl) (by kernel_rfl) (λ_=>by kernel_rfl) LAW.lk0 LAW.lk1 LAW.lk2 LAW.lk3 LAW.lk4 LAW.lk5 (HD.Pc.k LAW.kp)) (Hook.of (kHook LAW.d0.heap_1 LAW.ks LAW.ke)) (Hook.keeps (kHook LAW.d0.heap_1 LAW.ks LAW.ke)) (λs e=>xl_of s (Bool.and_eq_true_iff.mp e).1) XL.keeps (by rfl) (by rfl) (by rfl) (λs e=>recFacts_of (Bool.and_eq_true_iff.mp e).2) (by rfl) (by assumption) (by decide +kernel) ⟨rfl,rfl,rfl,rfl,rfl,by decide +kernel⟩ ?_ ?_);w_witness2
 k_fill
 exact LAW.walk (l:=PySem.Challenge.rw_boughbook_k67_written_early) rfl rfl rfl (by rfl) (λw h Y=>PySem.W.kIn_of Y) λw mg h x g=>by constructor <;> first|exact LAW.fx x g|exact LAW.bn x g|exact LAW.ci x g|exact LAW.fm|exact LAW.na|exact LAW.cs x g|exact LAW.ck1 x g|exact LAW.ft x g|exact LAW.gn x g|exact⟨by k_is,by k_is,by k_is,by k_is⟩|exact⟨by k_is,by k_is⟩
