import PyProof.Rows.All
import Wide.All
import OpenK.AllK
import Wide.FinOn
import Lean
import PyProof.EqAt
import PyProof.EqKinds
import PyProof.TupleCall
import KE.KRevIter
import PyProof.ListNew
import PyProof.Draws
import PyProof.EnumMake
import PyProof.Rows.EnumRows
import PyProof.ZipIter
import PyProof.ConsumeWalk
import KE.LcSums
import PyProof.AttrMissHeap
import KE.KDictOf
import PyProof.DictWalks
import PyProof.ListMulRoad
import PyProof.FactsAll.tuple
import PyProof.NeKinds
import KE.RegKTryMore
import KE.RegKIsAll
import PyProof.StrWalks
import PyProof.Rows.SetFrom
import PyProof.FString5
import Wide.Txt
import PyProof.Rows.SeqMore
import PyProof.StrOps2
import KE.KEqDict
import PyProof.CollectIter
import PyProof.JoinWalk
import PyProof.CallStr
import PyProof.DictRoadsH
import PyProof.MeetsDictList
import PyProof.DictTruth
import PyProof.StrLawsChain
import PyProof.StrCalls6
import PyProof.ToksMono
import PyProof.StrCalls2
import KE.KWords
import PyProof.MeetsStr2
import KE.KLam
import KE.KDictLaws
import PyProof.DictItems
import PyProof.DictValues
import PyProof.DictItemsLoops
import PySem.Challenge.RW_boughbook_k27_whole_four_tellings
set_option maxHeartbeats 0
set_option Elab.async false
set_option linter.all false
set_option maxRecDepth 100000
set_option genInjectivity false
set_option genSizeOf false
open PySem renaming wpAny_bind->WN,Addr->WS,Value->WV,wpAny_pure->WX,Shared->WZ,wpAny->Xf,sizeLine->Xi,Str->Xj,Program->Xm,Paired->Xv,model->Xx,boot_len->Xy,World->XD,starEach->XE,Around->XH,wpAny_newObj_type->XO,wpAny_callSpecial?_slot->XS,wpAny_field->XT,wpAny_call_entry->XY,Expr->XZ,Heap->X3,mainGlobals->X8,mem_of_lookup->Yc,wpAny_holding->Yn,wpAny_Call_Name_kw->Yo,sysModules->YD,Obj->YF,wpAny_mono->YI,rawInt->YJ,wpAny_seqItems->YN,eval->YQ,FuncData->YT,Builtin->YZ,wpAny_setField_rec->Y5,cLine->Zb,wpAny_dictEntries->Ze,compareOp->Zf,NameKind->Zl,wpAny_typeOf->Zs,pyNext->Zw,backTo->ZC,IsPair->ZD,wpAny_truthy_bool->ZH,sizeLine_eq->ZI,wpAny_attempt->ZO,Scope->ZP,wpAny_typeNameOfWhole_itemiter->ZS,wpAny_setField->ZT,firstArgMember->ZU,wpAny_typeNameOfWhole_keyiter->Z2,wpAny_pyIter_tuple->Z4,tupleKind_room_in1->Z5,wpAny_passesOwn->Z6,binaryOp->Z7,attributeBase->Z8,Pos->Z9
open List renaming length_map->WO,getElem?_eq_getElem->WQ,mem_cons_of_mem->WR,mem_of_getElem?->WT,mem_singleton->WY,mem_cons_self->W2,length_append->W4,map_append->W5,mem_append->W7,length_cons->W8,size_toArray->Xa,mem_cons->Xc,getElem?_map->Xd,mem_append_left->Xg,mem_iff_getElem?->Xk,mem_append_right->Xl,mem_map->Xn,getElem?_eq_some_iff->Xu,getElem?_append_left->XB,length_take->XC,map_cons->XG,length_drop->XJ,length_reverse->XR,replicate->XU,reverse_cons->XW,getElem?_append_right->X0,take_add_one->X5,nodup_cons->X6,append_assoc->X7,getElem?_eq_none->Yb,take_of_length_le->Yi,reverse_append->Yq,range->Yr,length_eq_zero_iff->Ys,getElem?_zip_eq_some->Yu,getElem?_set_self->Yv,drop_zero->Yw,append_nil->Yx,cons_append->YC,drop_eq_getElem_cons->YE,length_singleton->YH,dropLast_concat_getLast->YL,getElem?_cons_succ->YO,map_nil->YS,lookup_cons->YW,reverse_reverse->Y0,nodup_nil->Y1,mem_of_mem_take->Y2,length->Y3,getElem?_set_ne->Y4,nodup_append->Y7,replicate_succ->Zc,map_map->Zd,lookup->Zg,take_length->Zi,take_zero->Zm,mem_of_mem_drop->Zz,filterMap_cons->ZF,not_mem_nil->ZK,mem_range->ZL,reverse_singleton->ZR,nil_append->ZV,mem_zipIdx_iff_getElem?->ZW,mem_filter->ZX,singleton_append->Z0
open PySem.Heap renaming get?_push_of_some->WU,get?_push_size->W3,lt_size->Xe,SameBut->X1,size_push->Ym,get?_update_self->Yt,get?_update_other->YG
open PySem.W renaming Frag->WW,findIn->Yg,kia_one->YK,emptyDict->YR,kla_obj->Zt,instObj->Zu,boot_heap->Zx,keepIn->ZJ
open Nat renaming le_refl->W0,lt_of_lt_of_le->Xz,zero_le->XA,ne_of_lt->XF,le_trans->X2,lt_irrefl->Yk,le_add_right->YV,lt_succ_iff_lt_or_eq->YY,pow_le_pow_right->Zy,le_of_lt->ZQ
open PySem.Str renaming ofString->W6,empty->YU
open PySem.Paired renaming length->W9
open PySem.F renaming plainAttrs_list->Xb,type_list_append->Xo,slot_list_append->Xp,slot_dict_itemiterator_next->Yy,slot_dict_keyiterator_next->Zj,type_list_pop->Zo,slot_list_pop->Zp,slot_dict_itemiterator_iter->Z3
open Option.some renaming inj->Xh
open Bool renaming false_ne_true->Xq,false_eq_true->YX,eq_iff_iff->ZY
open Array renaming length_toList->Xr,getElem?_eq_some_iff->Zn,toList_append->ZG,getElem?_toList->Z1
open Sum renaming inl->Xs
open PySem.PassesOwn renaming never->Xw
open PySem.Value renaming ref->XI,none->Yp
open PyProof.Rows renaming slot_tuple_getitem->XM,boot_tuple->XX,callWith_type1->Yl,boot_max->Zq,envOfC->ZN
open Int renaming emod_lt_of_pos->XN,emod_nonneg->XQ,toNat_natCast->Yj,toNat_of_nonneg->YA
open PySem.Builtin.SmallTypes renaming nextOf->X4,ownedTupleIsFree->X9
open False renaming elim->Yd
open PySem.NameKind renaming free->Ye
open Option renaming map_eq_some_iff->Yh
open PySem.Builtin.Slice renaming slicePlaces->Yz,sliceAdjust->ZE
open PySem.Builtin.Tuple renaming tupleExact->YB
open PySem.Heap.SameBut renaming update->YM
open PySem.Obj renaming data_mapFields->Y6,mapSeq->Zh
open True renaming intro->Y8
open PySem.Builtin.List renaming listTooLong->Y9
open PySem.AutoSeq1 renaming wpAny_loadPart'->Za
open PySem.Builtin.Dict_items renaming ownsTuple->Zk
open Ne renaming symm->Zr
open ForInStep renaming yield->Zv
open PySem.Calls renaming spliced_cons->ZA
open PySem.Around renaming under_plainId->ZM
open Option renaming some->A?,none->B?
open Bool renaming true->C?,false->D?
theorem Dn.{u}{α:Sort u}{a:α}:a=a:=rfl
variable{w:XD}{h base h':X3}{α β κ:Type}{a f b l it c ta C dx sl d z tp l1 l2 i1 i2 ea c' td:WS}{loose N ps:List Xj}{as ch fp:List WS}{K:WW}{e tg iter elt:XZ}{i t' j n c0 ep:Nat}{x qual name stem p1 p2:Xj}{us its:List WV}{u oc vl vu:WV}{F:α->β->Prop}{P prog:Xm}{M:Model}{A:XH}{E Q:WV->WZ->Prop}{s' s:WZ}{pos pos':Z9}{pins:List (WS×YF)}{op:CmpOp}{st:Stmt}{body:List Stmt}{R:Result->WZ->Prop}{lo hi:Option Int}{kw:List (Xj×WV)}{env:Env}{mg:Xj->Option WV}{fd:YT}{kindOf:Xj->Option Zl}{sc scope:ZP}{params:Arguments}{od:Option WS}{items ys:Array WV}{XP:(Xj->Option WV)->X3->Prop}{YP:XD->X3->Prop}{js:List (Option Nat)}{cl:List (Xj×WS)}{ifs elts:List XZ}{S:Int}{ins outs:List (Xj×Int)}{begun:Bool}{vs:List (κ×WV)}
def a!:=@if_neg
def b!:=@if_pos
def c!:=@decide_eq_false
def d!:=@decide_eq_true
def e!:=@of_decide_eq_true
def g!:=@absurd
def h!:=@congrArg
set_option hygiene false
local macro_rules
|`(tactic|walk_at"a")=>`(tactic|(intro X hP hw hK hc i Z s Y H E I hf st hg;subst hP hw hK))
set_option hygiene true
namespace HD
open PySem PySem.W PySem.Calls PyProof.Rows
def jO(tb:String->Option YZ)(p:Xm)(w:XD)(m:Nat)(ann:Option WV):Nat->SharedT->Thread->Option SharedT
 |0,_,_=>B?
 | n+1,s,t=>match through t with
   |true=>A? s
   | false=>match stepOk m ann t with
     |false=>B?
     | true=>match stepT (denote tb) p w s t with
       |some (s',t')=>jO tb p w m ann n s' t'
       |none=>B?
theorem ly{tb:String->Option YZ}{p:Xm}{m:Nat}{ann:Option WV}:∀{n:Nat}{s s':SharedT}{t:Thread},jO tb p w m ann n s t=A? s'->topRun tb p w m ann n s.abs t=A? s'.abs
 |0,_,_,_,h=>by cases h
 | n+1,s,s',t,h=>by
   unfold jO at h;unfold topRun;cases he:through t with
   |true=>rw[he]at h;cases h;rfl
   | false =>
     rw[he]at h;cases hk:stepOk m ann t with
     |false=>rw[hk]at h;cases h
     | true =>
       rw[hk]at h;cases hs:stepT (denote tb) p w s t with
       |none=>rw[hs]at h;cases h
       | some r =>
         obtain⟨s2,t2⟩:=r;rw[hs]at h;rw[stepT_spec hs];exact ly h
def uJ:List YF->Nat->BT->BT
 | [],_,t=>t
 |o::l,n,t=>uJ l (n+1) (t.ins n o)
def wx:List YF->Nat->BT->Bool
 | [],_,_=>C?
 |o::l,n,t=>((t.ins n o).get n).isSome && wx l (n+1) (t.ins n o)
theorem mi:∀(l:List YF)(n:Nat)(t:BT),wx l n t=C?->(uJ l n t).list (n+l.length)=t.list n++l
 | [],n,t,_=>by rw[Yx];rfl
 | o::l,n,t,h=>by
   obtain⟨h1,h2⟩:=Bool.and_eq_true_iff.mp h;have e:=absHeap_ins (life:=default) h1
   have e2:(t.ins n o).list (n+1)=t.list n++[o]:=by
    have:=h! (λx:X3=>x.objs.toList) e;simpa[absHeap,Heap.push]using this
   have ih:=mi l (n+1) (t.ins n o) h2;rw[e2,X7]at ih;rw[W8,show n+(l.length+1)=n+1+l.length by lia];exact ih
theorem xy(ok:wx h.objs.toList 0 .nil=C?):absHeap (uJ h.objs.toList 0 .nil) h.objs.size h.life=h:=by
 have e:=mi _ _ _ ok;rw[Nat.zero_add]at e;unfold absHeap;rw[<-Xr,e];rfl
noncomputable abbrev nQ(p:Xm)(N:Nat)(w:XD)(os:OsState):Option SharedT :=
 jO treeTable p w 11 (A? (.ref 6)) N ⟨uJ (Zx w.params).objs.toList 0 .nil,11,(Zx w.params).life,Array.mk [],boot_drawn,boot_toks,os⟩ (topStub p)
theorem we(P:Params):(wx (Zx P).objs.toList 0 .nil,(Zx P).isNs X8,(Zx P).objs.size,(Zx P).nsMap X8 "__annotations__")=(C?,C?,11,A? (.ref 6)):=by kernel_rfl
theorem map_some{o:Option α}{a:α}{f:α->β}{b:β}(h:o=A? a)(e:o.map f=A? b):f a=b:=by rw[h]at e;exact Xh e
abbrev Tr0(p q:Xm)(loose:List Xj)(Xt:WZ->Bool)(N:Nat)(g0:Bool):Prop:=∀(w:XD)(os:OsState),((nQ p N w os).map λs=>(staticsOk (importedModules p.main.body) (Zx w.params) s.abs.heap && namesBound p s.abs.heap && gensDone s.abs && laidKept (Zx w.params) s.abs.heap,s.abs.heap.bltView,pinSeenD q (drecsOf q) s.abs,plainSeenD q loose s.abs,clsSeenW q loose s.abs,(s.abs.heap.accountedOkI (importedModules p.main.body),s.abs.heap.isNs X8,s.abs.heap.isNs builtinsNs,tablesOk q s.abs.heap,Xt s.abs,(if g0 then s.abs.gens.size == 0 else !leftWithCleanup s.abs.gens))))=A? (C?,bltViewBooted,pinGoodD (drecsOf q),plainGoodD q loose,clsGoodW q loose,(C?,C?,C?,C?,C?,C?))
abbrev Tr1(p q:Xm)(N:Nat):Prop:=∀(w:XD)(os:OsState),((nQ p N w os).map λs=>seen ((recsOf q).map (·.name)) (ownsOf q) [] {s.abs with gens:=#[]})=A? (expectedOf q)
abbrev Tr2(p q:Xm)(loose:List Xj)(N:Nat):Prop:=∀(w:XD)(os:OsState),((nQ p N w os).map λs=>s.abs.heap.keysOk (looseW q loose) ((recsOf q).map (·.name)) ((litsOf q).map (·.1)) ((clssOf q (looseW q loose)).map (·.name)))=A? C?
abbrev Tr3(p q:Xm)(N:Nat):Prop:=∀(w:XD)(os:OsState),((nQ p N w os).map λs=>tabsOk q s.abs)=A? C?
abbrev Tr4(p q:Xm)(loose:List Xj)(N:Nat):Prop:=∀(w:XD)(os:OsState),((nQ p N w os).map λs=>plainSeenE q (looseW q loose) s.abs)=A? (plainGoodE q (looseW q loose))
abbrev Tr5(p q:Xm)(N:Nat):Prop:=∀(w:XD)(os:OsState),((nQ p N w os).map λs=>wideSeen q s.abs)=A? (wideGood q)
theorem sK{p q:Xm}{Xt:WZ->Bool}{Yf:WZ->α}{Ya:XD->α}{N:Nat}{g0:Bool}
 (e:opening p=plainProg p.main.scope.names) (hN:Nat.ble 600 N=C?) (f:∀s,fenceModules? p s=A? s)
 (r0:Tr0 p q loose Xt N g0)
 (r1:Tr1 p q N)
 (r2:Tr2 p q loose N)
 (r3:Tr3 p q N)
 (r4:Tr4 p q loose N)
 (r5:Tr5 p q N)
 (rY:∀(w:XD)(os:OsState),((nQ p N w os).map λs=>Yf s.abs)=A? (Ya w)) :
 LeftO p q loose Xt Yf Ya N g0:=λw=>by
 obtain⟨⟨h,gs,d,k,os⟩,e1,e'⟩:=Yh.mp (boot_open e hN f w);obtain⟨rfl,rfl,rfl,rfl⟩:h=Zx w.params/\gs=Array.mk []/\d=boot_drawn/\k=boot_toks:=by simpa using e'
 have LQ:=we w.params;have z0:=h! Prod.fst LQ;have z1:=h! (λx=>x.2.1) LQ;have z2:=h! (λx=>x.2.2.1) LQ;have z3:=h! (λx=>x.2.2.2) LQ;dsimp only at z0 z1 z2 z3;obtain⟨s1,GN,hY⟩:=Yh.mp (rY w os);have q0:=map_some GN (r0 w os);have q1:=map_some GN (r1 w os);have q2:=map_some GN (r2 w os);have q3:=map_some GN (r3 w os);have q4:=map_some GN (r4 w os);have q5:=map_some GN (r5 w os);have rr:=ly GN
 have M7:SharedT.abs ⟨uJ (Zx w.params).objs.toList 0 .nil,11,(Zx w.params).life,Array.mk [],boot_drawn,boot_toks,os⟩=⟨Zx w.params,Array.mk [],boot_drawn,boot_toks,os⟩:=by
  unfold SharedT.abs;dsimp only;rw[<-z2,xy z0]
 rw[M7]at rr;have a0:=h! Prod.fst q0;have a1:=h! (λx=>x.2.1) q0;have a2:=h! (λx=>x.2.2.1) q0;have a3:=h! (λx=>x.2.2.2.1) q0;have a4:=h! (λx=>x.2.2.2.2.1) q0;have b0:=h! (λx=>x.2.2.2.2.2.1) q0;have b1:=h! (λx=>x.2.2.2.2.2.2.1) q0;have b2:=h! (λx=>x.2.2.2.2.2.2.2.1) q0;have b3:=h! (λx=>x.2.2.2.2.2.2.2.2.1) q0;have b4:=h! (λx=>x.2.2.2.2.2.2.2.2.2.1) q0;have b5:=h! (λx=>x.2.2.2.2.2.2.2.2.2.2) q0;dsimp only at a0 a1 a2 a3 a4 b0 b1 b2 b3 b4 b5
 have l2:openSeen q loose (importedModules p.main.body) Xt g0 s1.abs=openGood q loose:=by
  unfold openSeen openGood;rw[q1,a1,q2,b0,b1,b2,b3,b4,b5,q3,a2,q4,a3,q5,a4];rfl
 have t:topFrom treeTable p w N ⟨Zx w.params,Array.mk [],boot_drawn,boot_toks,os⟩=A? s1.abs:=by
  unfold topFrom;dsimp only;rw[z1,z2,z3,rr];show(match staticsOk (importedModules p.main.body) (Zx w.params) s1.abs.heap && namesBound p s1.abs.heap && gensDone s1.abs && laidKept (Zx w.params) s1.abs.heap with|true=>_|false=>_)=_;rw[a0]
 unfold openEnds;rw[e1];show(topFrom treeTable p w N _).map _=_;rw[t];exact h! A? (Prod.ext l2 hY)
def p0:Params:={strHash:=λ_=>0,shareClass:=λ_=>0,mergeTok:=λt=>t,idOf:=λ_=>0,idOfShared:=λ_ _=>0,followText:=λ_=>D?,idOfImm:=λ_=>0}
structure Pc(p:Xm)(N:Nat)(as:List WS)(vs:XD->List (Option YF)):Prop where
 out:∀(w:XD)(os:OsState),((nQ p N w os).map λs=>as.map s.abs.heap.get?)=A? (vs w)
theorem Pc.k{p:Xm}{N:Nat}{K:Params->Frag}{e:∀P,as=(K P).map (·.1)}(h:Pc p N as λw=>(K w.params).map λp=>A? p.2):∀(w:XD)(os:OsState),((nQ p N w os).map λs=>(kHook K as e).obs s.abs)=A? ((kHook K as e).val w):=h.out
end HD
section
open PySem PySem.W PyProof.Rows
def LAW.vw:Xm:=PySem.W.view PySem.Challenge.pw_boughbook_k27_whole_four_tellings [1,2,3,5,6,7,8,9,10,11,12,13,15,16,17,18,19,20,21,22,24,25,26,27,29,30,31,32,33,34,35,36,37,38,40,41,42,43,44,45,47,48,49,50,51,52,54,55,57,58,59,60,61,62,64,65,66,67,68,69,70,71,72,73,74,75,76,77,78,79,80]
def LAW.xt(s:WZ):Bool:=xlAt LAW.vw [] s && recOk (RowW.records (OpenRow.toRowW (OpenLaw.row PySem.Challenge.rw_boughbook_k27_whole_four_tellings))) s
theorem LAW.ws:OpenLaw.wellSaid PySem.Challenge.rw_boughbook_k27_whole_four_tellings=true:=by kernel_rfl
theorem LAW.lk0:HD.Tr0 PySem.Challenge.pw_boughbook_k27_whole_four_tellings LAW.vw [] LAW.xt 90000 true:=λ_ _=>by kernel_rfl
theorem LAW.lk1:HD.Tr1 PySem.Challenge.pw_boughbook_k27_whole_four_tellings LAW.vw 90000:=λ_ _=>by kernel_rfl
theorem LAW.lk2:HD.Tr2 PySem.Challenge.pw_boughbook_k27_whole_four_tellings LAW.vw [] 90000:=λ_ _=>by kernel_rfl
theorem LAW.lk3:HD.Tr3 PySem.Challenge.pw_boughbook_k27_whole_four_tellings LAW.vw 90000:=λ_ _=>by kernel_rfl
theorem LAW.lk4:HD.Tr4 PySem.Challenge.pw_boughbook_k27_whole_four_tellings LAW.vw [] 90000:=λ_ _=>by kernel_rfl
theorem LAW.lk5:HD.Tr5 PySem.Challenge.pw_boughbook_k27_whole_four_tellings LAW.vw 90000:=λ_ _=>by kernel_rfl
section
local macro_rules | `(tactic| o_head $_H) => `(tactic| assumption)
theorem LAW.d0(h:OpenRow.Holds (OpenLaw.row PySem.Challenge.rw_boughbook_k27_whole_four_tellings)):OpenRow.Holds (OpenLaw.row PySem.Challenge.rw_boughbook_k27_whole_four_tellings):=by
 k_head
end
noncomputable def LAW.ks:List WS:=(LAW.d0.heap_1 HD.p0).map (·.1)
theorem LAW.ke:∀P,LAW.ks=(LAW.d0.heap_1 P).map (·.1):=λ_=>by kernel_rfl
theorem LAW.kp:HD.Pc PySem.Challenge.pw_boughbook_k27_whole_four_tellings 90000 LAW.ks λw=>(LAW.d0.heap_1 w.params).map λp=>A? p.2:=⟨λ_ _=>by kernel_rfl⟩
end
namespace L2
open PySem PySem.Spec PyProof.Rows
theorem gmE{f:α->β}{l:List α}{x:α}(h:l[i]?=A? x):(l.map f)[i]?=A? (f x):=by rw[Xd,h];rfl
theorem glE{l:List α}{x:α}(h:l[i]?=A? x):i<l.length:=(Xu.mp h).1
abbrev Key:=Sum Int Xj
def lX:Key->WV->Bool
 |.inl k,v=>Value.isInt k v
 |.inr x,v=>Value.isStrOf x v
def zU(w:XD):Key->Int
 |.inl k=>hashInt k
 |.inr x=>hashStr w x
theorem bA:∀{k:Key}{v:WV},lX k v=C?->(∃i t,k=Xs i/\v=Value.int i t)\/(∃x t,k=Sum.inr x/\v=Value.str x t)
 | .inl i,v,h=>by
   obtain⟨t,e⟩:=Value.isInt_shape (k:=i) (v:=v) h;exact .inl ⟨i,t,rfl,e⟩
 | .inr x,v,h=>by
   obtain⟨t,e⟩:=Value.isStrOf_shape (x:=x) (v:=v) h;exact .inr ⟨x,t,rfl,e⟩
theorem sg(i:Int)(t:Tok):lX (.inl i) (.int i t)=true:=by simp[lX,Value.isInt]
theorem tw(x:Xj)(t:Tok):lX (.inr x) (.str x t)=true:=by simp[lX,Value.isStrOf]
theorem xV(a b:Int):decide ((Xs a:Key)=Xs b)=(a == b):=by
 by_cases e:a=b
 .subst e;simp
 .have h:¬(Xs a:Key)=Xs b:=λq=>e (Sum.inl.inj q);rw[c! h];exact(beq_eq_false_iff_ne.mpr e).symm
theorem yb(a b:Xj):decide ((Sum.inr a:Key)=Sum.inr b)=decide (a=b):=by
 by_cases e:a=b
 .subst e;simp
 .have h:¬(Sum.inr a:Key)=Sum.inr b:=λq=>e (Sum.inr.inj q);rw[c! h,c! e]
theorem xT(a:Int)(b:Xj):decide ((Xs a:Key)=Sum.inr b)=false:=c! (λq=>nomatch q)
theorem xP(a:Xj)(b:Int):decide ((Sum.inr a:Key)=Xs b)=false:=c! (λq=>nomatch q)
def aU(prog:Xm)(w:XD):PySem.KeyKind prog w Key where
 is:=lX
 hash:=zU w
 inj:=λv a b ha hb=>by
  rcases bA ha with⟨i,t,rfl,rfl⟩|⟨x,t,rfl,rfl⟩
  .rcases bA hb with⟨j,u,rfl,e⟩|⟨y,u,rfl,e⟩
   .injection e with e1 _;rw[e1]
   .exact nomatch e
  .rcases bA hb with⟨j,u,rfl,e⟩|⟨y,u,rfl,e⟩
   .exact nomatch e
   .injection e with e1 _;rw[e1]
 byValue:=λk v h=>by
  rcases bA h with⟨i,t,rfl,rfl⟩|⟨x,t,rfl,rfl⟩ <;> rfl
 pyHash:=λhv h=>by
  rcases bA hv with⟨i,t,rfl,rfl⟩|⟨x,t,rfl,rfl⟩
  .exact wpAny_pyHash_int h
  .exact wpAny_pyHash_str h
 eqBool:=λhu hv h=>by
  rcases bA hu with⟨i,t,rfl,rfl⟩|⟨x,t,rfl,rfl⟩
  .rcases bA hv with⟨j,u,rfl,rfl⟩|⟨y,u,rfl,rfl⟩
   .rw[xV]at h;exact wpAny_eqBool_int h
   .rw[xT]at h;exact SeqAt.EqAt.int_str i t y u _ _ _ _ h
  .rcases bA hv with⟨j,u,rfl,rfl⟩|⟨y,u,rfl,rfl⟩
   .rw[xP]at h;exact SeqAt.EqAt.str_int x t j u _ _ _ _ h
   .rw[yb]at h;exact wpAny_eqBool_str h
 «strs»:=λk x t v h=>by
  rcases bA h with⟨i,u,rfl,e⟩|⟨y,u,rfl,e⟩
  .exact nomatch e
  .injection e with e1 _;subst e1;cases v <;> rfl
theorem pN(prog:Xm)(w:XD)(i:Int)(t:Tok):(aU prog w).is (.inl i) (.int i t)=true:=sg i t
theorem pA(prog:Xm)(w:XD)(x:Xj)(t:Tok):(aU prog w).is (.inr x) (.str x t)=true:=tw x t
set_option genInjectivity true in
inductive V where
 |non|bl (b:Bool)|int (i:Int)|str (x:Xj)|byt (b:Array UInt8)|flt (b:UInt64)|ref (a:WS)|ty (n:String)
 deriving DecidableEq
def RelV:V->WV->Prop
 |.non,u=>u=Yp
 |.bl b,u=>u=Value.bool b
 |.int i,u=>∃t,u=Value.int i t
 |.str x,u=>∃t,u=Value.str x t
 |.byt b,u=>∃t,u=Value.bytes b t
 |.flt b,u=>∃t,u=Value.float b t
 |.ref a,u=>u=XI a
 |.ty n,u=>u=Value.type n
abbrev Vals:List V->List WV->Prop:=Xv RelV
theorem Vals.length{xs:List V}(r:Vals xs us):xs.length=us.length:=W9 r
theorem Vals.get:∀{xs:List V}{us:List WV}{i:Nat}{x:V},Vals xs us->xs[i]?=A? x->∃u,us[i]?=A? u/\RelV x u
 |_,_,_,_,.nil,e=>by simp at e
 |_,_,0,_,.cons r _,e=>by simp at e;subst e;exact⟨_,Dn,r⟩
 | _,_,i+1,x,.cons _ t,e=>by
   obtain⟨u,h1,h2⟩:=Vals.get (i:=i) (x:=x) t (by simpa using e);exact⟨u,by simpa using h1,h2⟩
theorem Vals.set{x:V}(r:RelV x u):∀{xs:List V}{us:List WV}(i:Nat),Vals xs us->Vals (xs.set i x) (us.set i u)
 |_,_,_,.nil=>.nil
 |_,_,0,.cons _ t=>.cons r t
 |_,_,i+1,.cons q t=>.cons q (Vals.set r i t)
theorem Vals.append:∀{xs ys:List V}{us ws:List WV},Vals xs us->Vals ys ws->Vals (xs++ys) (us++ws)
 |_,_,_,_,.nil,s=>s
 |_,_,_,_,.cons r t,s=>.cons r (Vals.append t s)
theorem Vals.take:∀{xs:List V}{us:List WV}(n:Nat),Vals xs us->Vals (xs.take n) (us.take n)
 |_,_,0,_=>.nil
 |_,_,_+1,.nil=>.nil
 |_,_,n+1,.cons r t=>.cons r (Vals.take n t)
theorem Vals.drop:∀{xs:List V}{us:List WV}(n:Nat),Vals xs us->Vals (xs.drop n) (us.drop n)
 |_,_,0,r=>r
 |_,_,_+1,.nil=>.nil
 |_,_,n+1,.cons _ t=>Vals.drop n t
def RelO:Option V->Option WV->Prop
 |some v,A? u=>RelV v u
 |none,B?=>True
 |_,_=>False
def KV{κ:Type}:List (κ×V)->List (κ×WV)->Prop:=Xv λ(p:κ×V)(q:κ×WV)=>p.1=q.1/\RelV p.2 q.2
def kV:Key->V
 |.inl i=>.int i
 |.inr x=>.str x
set_option genSizeOf true in
inductive HO where
 |lst (xs:List V)
 |tup (xs:List V)
 |dK (kvs:List (Key×V))|dT (kvs:List (List Key×V))
 |set (S:Int->Bool) (n:Nat)
 |ins (C dx:WS) (fs:List (Xj×V))
 |own (x:WS)
 |xd (fs:List (Xj×V))
 |met (f x:WS)
 |rng (lo hi:Int)
 |frz (o:YF) (u:HO)
 |tbl (ps:Array WV)
 |ext (φ:X3->Prop)
abbrev Hp:=WS->Option HO
def upd(H:Hp)(a:WS)(o:HO):Hp:=λb=>if b=a then A? o else H b
theorem ae{H:Hp}{o:HO}:upd H a o a=A? o:=by unfold upd;rw[b! rfl]
theorem af{H:Hp}{o:HO}(h:b≠a):upd H a o b=H b:=by unfold upd;rw[a! h]
theorem iA{H:Hp}{o u:HO}:upd (upd H a o) a u=upd H a u:=by
 funext b;unfold upd;split <;> rfl
theorem aA{H:Hp}{o u:HO}(h:H a=A? o)(h':H b=A? u)(d:o≠u):a≠b:=by
 intro e;subst e;rw[h]at h';exact d (Xh h')
theorem aq{H:Hp}{o:HO}(h:H a=A? o)(h':H b=B?):a≠b:=by
 intro e;subst e;rw[h]at h';cases h'
section
variable(P:Xm)(w:XD)
def ObjOk(H:Hp)(h:X3)(a:WS):HO->Prop
 |.lst xs=>xs.length<=Xi/\∃(its:List WV)(n:Nat),Vals xs its/\h.get? a=A? {cls:=.type "list",data:=.seq its.toArray n}
 |.tup xs=>xs.length<=Xi/\∃(its:List WV)(n:Nat),Vals xs its/\h.get? a=A? {cls:=.type "tuple",data:=.seq its.toArray n}
 |.dK kvs=>kvs.length<=Xi/\(a == YD)=D?/\∃vs,KV kvs vs/\h.DictOf (aU P w) a vs
 |.dT kvs=>kvs.length<=Xi/\(a == YD)=D?/\∃xs:List (List Key×WS×WV),
  Xv (λ(p:List Key×V)(q:List Key×WS×WV)=>p.1=q.1/\H q.2.1=A? (.tup (p.1.map kV))/\RelV p.2 q.2.2) kvs xs /\
  ∃o es ep,h.get? a=A? o/\o.ExactDict/\o.data=.dict es ep/\es.toList=xs.map (entryOfKey (tupleKind (aU P w)))/\(xs.map (·.1)).Nodup
 |.set S n=>h.SetOf (intKind P w) a S n
 |.ins C dx fs=>H dx=A? (.own a)/\fs.length<=1000/\dx≠a/\h.get? a=A? (Zu C dx) /\
  ∃mA,h.Ns1 dx mA/\(∀f,RelO (fs.lookup f) (mA f))/\PySem.Within mA (fs.map (·.1))
 |.own _=>∃o,h.get? a=A? o
 |.xd fs=>∃mA,h.Ns1 a mA/\∀f,RelO (fs.lookup f) (mA f)
 |.rng lo hi=>∃t u v,h.get? a=A? {cls:=.type "range",data:=.fields #[.int lo t,.int hi u,.int 1 v]}
 |.frz o u=>h.get? a=A? o/\ObjOk H h a u
 |.tbl ps=>h.get? a=A? {cls:=.none,data:=.fields ps}
 |.met f x=>h.get? a=A? (PySem.W.methodObj (.ref f) (.ref x))
 |.ext φ=>φ h/\(∃o,h.get? a=A? o)/\∀h1 h2:X3,φ h1->(∀o,h1.get? a=A? o->h2.get? a=A? o)->φ h2
def HOk(H:Hp)(h:X3):Prop:=∀a o,H a=A? o->ObjOk P w H h a o
end
section
variable{H H':Hp}{o:HO}
theorem ObjOk.lt(x:ObjOk P w H h a o):a<h.objs.size:=by
 cases o with
 |lst xs=>obtain⟨_,_,_,_,e⟩:=x;exact Xe e
 |tup xs=>obtain⟨_,_,_,_,e⟩:=x;exact Xe e
 |dK kvs=>obtain⟨_,_,_,_,o,_,_,e,_⟩:=x;exact Xe e
 |dT kvs=>obtain⟨_,_,_,_,o,_,_,e,_⟩:=x;exact Xe e
 |set S n=>obtain⟨o,_,_,_,e,_⟩:=x;exact Xe e
 |ins C dx fs=>obtain⟨_,_,_,e,_⟩:=x;exact Xe e
 |own y=>obtain⟨_,e⟩:=x;exact Xe e
 |xd fs=>obtain⟨_,⟨_,_,_,e,_⟩,_⟩:=x;exact Xe e
 |rng lo hi=>obtain⟨_,_,_,e⟩:=x;exact Xe e
 |frz ob u=>obtain⟨e,_⟩:=x;exact Xe e
 |tbl ps=>exact Xe (show h.get? a=A? _ from x)
 |met f y=>exact Xe (show h.get? a=A? _ from x)
 |ext φ=>obtain⟨_,⟨_,e⟩,_⟩:=x;exact Xe e
theorem Xv.mapP{G:α->β->Prop}:∀{Jj:List α}{l₂:List β},Xv F Jj l₂->(∀a b,F a b->G a b)->Xv G Jj l₂
 |_,_,.nil,_=>.nil
 |_,_,.cons r t,f=>.cons (f _ _ r) (Xv.mapP t f)
theorem ObjOk.stay(x:ObjOk P w H h a o)(k:∀b u,(b=a\/H b=A? (.own a))->h.get? b=A? u->h'.get? b=A? u)
 (ho:∀b,H b=A? (.own a)->H' b=A? (.own a)) (ht:∀b xs,H b=A? (.tup xs)->H' b=A? (.tup xs)):ObjOk P w H' h' a o:=by
 induction o with
 |lst xs=>obtain⟨z,its,n,r,e⟩:=x;exact⟨z,its,n,r,k _ _ (.inl rfl) e⟩
 |tup xs=>obtain⟨z,its,n,r,e⟩:=x;exact⟨z,its,n,r,k _ _ (.inl rfl) e⟩
 |dK kvs=>obtain⟨z,y,vs,r,ob,es,ep,e,c⟩:=x;exact⟨z,y,vs,r,ob,es,ep,k _ _ (.inl rfl) e,c⟩
 | dT kvs =>
   obtain⟨z,y,xs,r,ob,es,ep,e,c⟩:=x;exact⟨z,y,xs,Xv.mapP r λp q z=>⟨z.1,ht _ _ z.2.1,z.2.2⟩,ob,es,ep,k _ _ (.inl rfl) e,c⟩
 |set S n=>obtain⟨ob,es,ep,t,e,c⟩:=x;exact⟨ob,es,ep,t,k _ _ (.inl rfl) e,c⟩
 | ins C dx fs =>
   obtain⟨d,z,ne,e,mA,⟨od,es,ep,e2,c⟩,r⟩:=x;exact⟨ho _ d,z,ne,k _ _ (.inl rfl) e,mA,⟨od,es,ep,k _ _ (.inr d) e2,c⟩,r⟩
 |own y=>obtain⟨ob,e⟩:=x;exact⟨ob,k _ _ (.inl rfl) e⟩
 |xd fs=>obtain⟨mA,⟨od,es,ep,e,c⟩,r⟩:=x;exact⟨mA,⟨od,es,ep,k _ _ (.inl rfl) e,c⟩,r⟩
 |rng lo hi=>obtain⟨t,u,v,e⟩:=x;exact⟨t,u,v,k _ _ (.inl rfl) e⟩
 |frz ob u ih=>obtain⟨e,q⟩:=x;exact⟨k _ _ (.inl rfl) e,ih q⟩
 | tbl ps =>
   have e:h.get? a=A? {cls:=.none,data:=.fields ps}:=x;show h'.get? a=A? {cls:=.none,data:=.fields ps};exact k a _ (.inl rfl) e
 | met f y =>
   have e:h.get? a=A? (PySem.W.methodObj (.ref f) (.ref y)):=x;show h'.get? a=A? (PySem.W.methodObj (.ref f) (.ref y));exact k a _ (.inl rfl) e
 |ext φ=>obtain⟨p,⟨o,e⟩,st⟩:=x;exact⟨st _ _ p λo q=>k _ _ (.inl rfl) q,⟨o,k _ _ (.inl rfl) e⟩,st⟩
theorem HOk.lt(x:HOk P w H h)(e:H a=A? o):a<h.objs.size:=(x a o e).lt
theorem HOk.fresh(x:HOk P w H h)(e:h.objs.size<=a):H a=none:=by
 cases q:H a with
 |none=>rfl
 |some u=>exact g! (Xz (x.lt q) e) (Yk _)
theorem HOk.kept(x:HOk P w H h)(k:∀b u,h.get? b=A? u->h'.get? b=A? u):HOk P w H h':=λa o e =>
 (x a o e).stay (λb u _ q=>k b u q) (λ_ q=>q) λ_ _ q=>q
theorem HOk.laid(x:HOk P w H h)(k:∀b u,h.get? b=A? u->h'.get? b=A? u)(hp:h.objs.size<=a)(new:ObjOk P w (upd H a o) h' a o):HOk P w (upd H a o) h':=λb u e=>by
 have hn:=x.fresh hp;by_cases hb:b=a
 .subst hb;rw[ae]at e;cases e;exact new
 .rw[af hb]at e;exact(x b u e).stay (λc v _ q=>k c v q) (λc q=>by rw[af (aq q hn)];exact q) λc xs q=>by rw[af (aq q hn)];exact q
end
def Rd(H:Hp)(a:WS)(u:HO):Prop:=H a=A? u\/∃o,H a=A? (.frz o u)
theorem Rd.ok{H:Hp}{u:HO}(r:Rd H a u)(x:HOk P w H h):ObjOk P w H h a u:=by
 rcases r with r|⟨o,r⟩
 .exact x a u r
 .obtain⟨_,q⟩:=x a _ r;exact q
def Mut:Option HO->Prop
 |some (.lst _)=>True
 |some (.dK _)=>True
 |some (.dT _)=>True
 |some (.set _ _)=>True
 |some (.ins _ _ _)=>True
 |some (.ext _)=>True
 |_=>False
section
variable{H:Hp}{x e:WS}{o':HO}
theorem HOk.write(ok:HOk P w H h)(mu:Mut (H x))(he:e=x\/H e=A? (.own x))(k:∀b u,b≠e->h.get? b=A? u->h'.get? b=A? u)(Io:∃u,h'.get? e=A? u)
 (new:ObjOk P w (upd H x o') h' x o'):HOk P w (upd H x o') h':=λb u q=>by
 have Jk:∀c y,H c=A? (.own y)->c≠x:=λc y r z=>by subst z;rw[r]at mu;exact mu
 have M8:∀c xs,H c=A? (.tup xs)->c≠x:=λc xs r z=>by subst z;rw[r]at mu;exact mu
 by_cases hb:b=x
 .subst hb;rw[ae]at q;cases q;exact new
 .rw[af hb]at q;by_cases ET:b=e
  .have q':H b=A? (.own x):=by
    rcases he with z|z
    .exact g! (ET.trans z) hb
    .rw[ET];exact z
   rw[q]at q';cases q';obtain⟨v,hv⟩:=Io;exact⟨v,by rw[ET];exact hv⟩
  .refine(ok b u q).stay (λc v hc r=>k c v ?_ r) (λc r=>by rw[af (Jk c b r)];exact r) λc xs r=>by rw[af (M8 c xs r)];exact r
   rcases hc with rfl|hc
   .exact ET
   .rintro rfl;rcases he with z|z
    .exact Jk c b hc z
    .rw[hc]at z;cases z;exact hb rfl
end
structure Un(fs ex:List WS)(H H':Hp)(h h':X3):Prop where
 keep:∀b o,h.get? b=A? o->H b=B?->b∉fs->b∉ex->h'.get? b=A? o
 slot:∀b o,h.get? b=A? o->H b=B?->b∈fs->b∉ex->∃sl,h'.get? b=A? {o with slots:=sl}
 free:∀b o,h.get? b=A? o->H b=B?->b∉ex->H' b=B?
 there:∀b o,h.get? b=A? o->b∉ex->∃o',h'.get? b=A? o'
 tups:∀b xs,H b=A? (.tup xs)->H' b=A? (.tup xs)
 frzs:∀b o u,H b=A? (.frz o u)->H' b=A? (.frz o u)
 tbls:∀b ps,H b=A? (.tbl ps)->∃more,H' b=A? (.tbl (ps++more))
section
variable{fs T6 ex ex':List WS}{H H1 H2:Hp}{h1 h2:X3}{x e:WS}{o:HO}
theorem Un.any(u:Un fs ex H H1 h h1){ob:YF}(q:h.get? b=A? ob)(n:H b=B?)(hx:b∉ex):∃sl,h1.get? b=A? {ob with slots:=sl}:=by
 by_cases hb:b∈fs
 .exact u.slot b ob q n hb hx
 .exact⟨ob.slots,u.keep b ob q n hb hx⟩
theorem Un.kept(k:∀b u,h.get? b=A? u->h'.get? b=A? u):Un fs ex H H h h' :=
 ⟨λb ob q _ _ _=>k b ob q,λb ob q _ _ _=>⟨ob.slots,k b ob q⟩,λ_ _ _ n _=>n,λb ob q _=>⟨ob,k b ob q⟩,λ_ _ q=>q,λ_ _ _ q=>q,λ_ ps q=>⟨#[],by rw[q];simp⟩⟩
theorem Un.refl:Un fs ex H H h h:=Un.kept λ_ _ q=>q
theorem Un.laid(k:∀b u,h.get? b=A? u->h'.get? b=A? u)(hp:h.objs.size<=a)(hn:H a=B?):Un fs ex H (upd H a o) h h' where
 keep:=λb u q _ _ _=>k b u q
 slot:=λb u q _ _ _=>⟨u.slots,k b u q⟩
 free:=λb u q n _=>by rw[af (XF (Xz (Xe q) hp))];exact n
 there:=λb u q _=>⟨u,k b u q⟩
 tups:=λb xs q=>by rw[af (aq q hn)];exact q
 frzs:=λb u xs q=>by rw[af (aq q hn)];exact q
 tbls:=λb ps q=>⟨#[],by rw[af (aq q hn),q];simp⟩
theorem Un.write(mu:Mut (H x))(he:e=x\/H e=A? (.own x))(k:∀b u,b≠e->h.get? b=A? u->h'.get? b=A? u)(Io:∃u,h'.get? e=A? u):Un fs ex H (upd H x o) h h':=by
 have hx:∀b,H b=B?->b≠x:=λb n z=>by subst z;rw[n]at mu;exact mu
 have hb:∀b,H b=B?->b≠e:=λb n z=>by
  subst z;rcases he with r|r
  .exact hx b n r
  .rw[n]at r;cases r
 have hm:∀b u,H b=A? u->¬Mut (A? u)->b≠x:=λb u q nm z=>by subst z;rw[q]at mu;exact nm mu
 refine⟨λb u q n _ _=>k b u (hb b n) q,λb u q n _ _=>⟨u.slots,k b u (hb b n) q⟩,λb u q n _=>by rw[af (hx b n)];exact n,λb u q _=>?_,
  λb xs q=>by rw[af (hm b _ q λz=>z)];exact q,λb u xs q=>by rw[af (hm b _ q λz=>z)];exact q,λb ps q=>⟨#[],by rw[af (hm b _ q λz=>z),q];simp⟩⟩
 by_cases ET:b=e
 .subst ET;exact Io
 .exact⟨u,k b u ET q⟩
end
def trk(h:X3)(H:Hp):List WS:=(Yr h.objs.size).filter λa=>(H a).isSome
def lE(h:X3)(H:Hp):X3:=PySem.W.hideAll h (trk h H)
theorem tM(h:X3)(H:Hp):(lE h H).objs.size=h.objs.size:=PySem.W.hideAll_size _ _
theorem uX{H:Hp}{o:YF}(e:h.get? b=A? o)(n:H b=B?):(lE h H).get? b=A? o :=
 PySem.W.hideAll_get _ e λhm=>by
  have q:(H b).isSome=true:=(ZX.mp hm).2;rw[n]at q;simp at q
theorem wt{H:Hp}{o:YF}(e:(lE h H).get? b=A? o):h.get? b=A? o/\H b=none:=by
 have e':h.get? b=A? o:=PySem.W.of_hideAll (trk h H) e;refine⟨e',?_⟩;cases q:H b with
 |none=>rfl
 | some x =>
   have hm:b∈trk h H:=ZX.mpr ⟨ZL.mpr (Xe e'),by simp[q]⟩;have z:(lE h H).get? b=none:=PySem.W.hideAll_none (trk h H) hm;rw[z]at e;cases e
end L2
open L2.V renaming ref->i!,int->o!,str->F!
variable{o:L2.HO}{xs:List L2.V}{H H' H1 H2 H4:L2.Hp}{v y:L2.V}{tk kvs:List (List L2.Key×L2.V)}{fin:WS->L2.Hp->Prop}{kv:L2.Key×L2.V}
namespace L2
open PySem PySem.Spec PyProof.Rows
structure Mod(K:WW)(mg:Xj->Option WV)(base:X3):Prop where
 kin:K.In base
 glob:base.Ns X8 mg
 blt:∃mb,base.Ns builtinsNs mb/\∀x:Xj,x≠"__name__"->mb x=bootBuiltins x
 nolimit:base.NoLimit
set_option genInjectivity true in
structure Cx where
 prog:Xm
 w:XD
 K:WW
 mg:Xj->Option WV
 base:X3
 A:XH
 N:List Xj
 s₀:WZ
 H₀:Hp
 env:Env
 outer:List Env
 stack:List Env
 ex:List WS
 fn:Xj->Bool
 calm:Bool
 pn:List (WS×YF)
 xe:WV->WZ->Prop
def frs(l:List Env):List WS:=l.filterMap (·.frame)
abbrev Cx.fs(X:Cx):List WS:=frs X.outer
def Vis(sc:ZP)(x:Xj):Prop:=sc.names.lookup x=A? .local\/sc.names.lookup x=A? .cell\/sc.names.lookup x=A? .free
def Loc(sc:ZP)(x:Xj):Prop:=sc.names.lookup x=A? .local\/sc.names.lookup x=A? .cell
def Look(env:Env)(h:X3)(m:Xj->Option WV)(x:Xj)(u:WV):Prop :=
 (env.kindOf x=A? .local/\m x=A? u)\/((env.kindOf x=A? .cell\/env.kindOf x=A? .free)/\∃c,env.cells.lookup x=A? c/\h.IsCell c (A? u))
structure Cx.Ok(X:Cx):Prop where
 mod:Mod X.K X.mg X.base
 kind:X.env.scope.kind=.function
 glob:X.env.globals=X8
 blt:X.env.builtins=builtinsNs
 above:X.s₀.heap.1.size<=X.env.locals
 inj:∀x y c,X.env.cells.lookup x=A? c->X.env.cells.lookup y=A? c->x=y
 has:∀x,(X.env.kindOf x=A? .cell\/X.env.kindOf x=A? .free)->∃c,X.env.cells.lookup x=A? c
 cab:∀x c,X.fn x=C?->X.env.cells.lookup x=A? c->X.s₀.heap.1.size<=c
 hd:X.calm=C?->X.A.handled=B?
 frames:X.A.frames=A? X.stack
 stk:X.stack=X.outer\/(X.stack=X.env::X.outer/\X.env.frame=A? X.env.locals)
 exf:∀b∈X.ex,b≠X.env.locals/\∀x c,X.env.cells.lookup x=A? c->c≠b
 bs:∀b o,X.base.get? b=A? o->X.s₀.heap.get? b=A? o/\X.H₀ b=B?
 bsz:X.base.objs.size<=X.s₀.heap.1.size
 noex:∀b o,X.base.get? b=A? o->b∉X.ex
 exfs:∀b∈X.ex,b∉X.fs
 funs:X.s₀.heap.FunFrames X.base X.outer
 frf:∀b∈X.fs,X.H₀ b=B?
structure Inv(X:Cx)(Z:List (WS×YF))(Y:List (Option V))(H:Hp)(s:WZ):Prop where
 ok:X.Ok
 os:s.os=X.s₀.os
 bare:AllBare s.gens
 base:Un X.fs X.ex X.H₀ H X.s₀.heap s.1
 loc:∃m,s.1.Ns X.env.locals m/\∀(i:Nat)(x:Xj)(v:V),X.N[i]?=A? x->Y[i]?=A? (A? v)->Vis X.env.scope x->∃u,RelV v u/\Look X.env s.1 m x u
 cell:∀x c,X.env.cells.lookup x=A? c->∃v,s.1.IsCell c v
 free:H X.env.locals=B?
 freeC:∀x c,X.env.cells.lookup x=A? c->H c=B?
 pin:∀p∈X.pn++Z,s.1.get? p.1=A? p.2/\H p.1=B?/\p.1≠X.env.locals/\p.1∉X.fs/\∀v,p.2.data≠.cell v
 hok:HOk X.prog X.w H s.1
 len:Y.length=X.N.length
section
variable{X:Cx}{Y:List (Option V)}
theorem Cx.Ok.nofr(ok:X.Ok){o:YF}(e:X.base.get? b=A? o):b∉X.fs:=λhb=>by
 have:=(ok.funs.mem hb).1;rw[e]at this;cases this
theorem Inv.bs(I:Inv X Z Y H s):∀b o,X.base.get? b=A? o->s.1.get? b=A? o/\H b=none:=λb o e =>
 ⟨I.base.keep b o (I.ok.bs b o e).1 (I.ok.bs b o e).2 (I.ok.nofr e) (I.ok.noex b o e),I.base.free b o (I.ok.bs b o e).1 (I.ok.bs b o e).2 (I.ok.noex b o e)⟩
theorem Inv.bk(I:Inv X Z Y H s):∀b o,X.base.get? b=A? o->s.1.get? b=A? o:=λb o e=>(I.bs b o e).1
theorem Inv.mod(I:Inv X Z Y H s):Mod X.K X.mg X.base:=I.ok.mod
theorem Inv.kIn(I:Inv X Z Y H s):X.K.In s.1:=I.ok.mod.kin.keeps I.bk
theorem Inv.lt(I:Inv X Z Y H s):X.env.locals<s.1.1.size:=let⟨_,hn,_⟩:=I.loc;hn.lt
theorem Inv.sz(I:Inv X Z Y H s):X.s₀.heap.1.size<=s.1.1.size:=X2 I.ok.above (ZQ I.lt)
theorem Inv.nofs(I:Inv X Z Y H s)(h:s.1.1.size<=a):a∉X.fs:=λhb=>by
 obtain⟨_,o,ho,_⟩:=I.ok.funs.mem hb;exact g! (Xz (Xe ho) (X2 I.sz h)) (Yk _)
theorem Inv.cne(I:Inv X Z Y H s):∀x c,X.env.cells.lookup x=A? c->c≠X.env.locals:=λx c e z=>by
 obtain⟨v,o,ho,hd⟩:=I.cell x c e;obtain⟨m,⟨o',es,ep,B0,Jl,_⟩,_⟩:=I.loc;rw[z,B0]at ho;cases ho;rw[Jl]at hd;cases hd
theorem Inv.funs(I:Inv X Z Y H s):s.1.FunFrames X.base X.outer:=by
 have all:∀(l:List Env),(∀b∈frs l,b∈X.fs)->X.s₀.heap.FunFrames X.base l->s.1.FunFrames X.base l:=by
  intro l;induction l with
  |nil=>intro _ _;trivial
  | cons env r ih =>
    intro hs hl;obtain⟨hk,⟨L,o,hf,hn,ho,hd⟩,hr⟩:=hl;have hL:L∈X.fs:=hs L (by unfold frs;rw[ZF,hf];exact W2);obtain⟨sl,e⟩:=I.base.slot L o ho (I.ok.frf L hL) hL λz=>I.ok.exfs L z hL;exact⟨hk,⟨L,_,hf,hn,e,hd⟩,ih (λb hb=>hs b (by unfold frs;rw[ZF,hf];exact WR _ hb)) hr⟩
 exact all X.outer (λ_ hb=>hb) I.ok.funs
theorem Inv.stack(I:Inv X Z Y H s):s.1.FunFrames X.base X.stack:=by
 rcases I.ok.stk with e|⟨e,hf⟩
 .rw[e];exact I.funs
 .rw[e];obtain⟨m,hn,_⟩:=I.loc;refine .cons (by rw[I.ok.kind];decide) hf hn ?_ I.funs;exact Heap.get?_none_of_le (X2 I.ok.bsz I.ok.above)
theorem Inv.stkSub(I:Inv X Z Y H s):∀b∈frs X.stack,b∈X.env.locals::X.fs:=λb hb=>by
 rcases I.ok.stk with e|⟨e,hf⟩
 .rw[e]at hb;exact WR _ hb
 .rw[e]at hb;unfold frs at hb;rw[ZF,hf]at hb;exact hb
theorem Inv.stkFree(I:Inv X Z Y H s):∀b∈frs X.stack,H b=none:=λb hb=>by
 rcases Xc.mp (I.stkSub b hb)with e|hb
 .rw[e];exact I.free
 .obtain⟨_,o,ho,_⟩:=I.ok.funs.mem hb;exact I.base.free b o ho (I.ok.frf b hb) λz=>I.ok.exfs b z hb
theorem Inv.step{g':Array GenState}{d':Drawn}(I:Inv X Z Y H s)
 (CN:∀b∈ch,(b∈X.ex\/X.s₀.heap.1.size<=b)/\b≠X.env.locals/\(∀x c,X.env.cells.lookup x=A? c->c≠b)/\∀p∈X.pn++Z,p.1≠b)
 (keep:∀b o,b≠X.env.locals->b∉X.fs->b∉ch->s.1.get? b=A? o->H b=B?->h'.get? b=A? o)
 (slot:∀b o,b≠X.env.locals->b∈X.fs->b∉ch->s.1.get? b=A? o->H b=B?->∃sl,h'.get? b=A? {o with slots:=sl}) (free:∀b o,b∉ch->s.1.get? b=A? o->H b=B?->H' b=B?)
 (there:∀b o,b∉ch->s.1.get? b=A? o->∃o',h'.get? b=A? o')
 (tups:∀b xs,H b=A? (.tup xs)->H' b=A? (.tup xs)) (frzs:∀b o u,H b=A? (.frz o u)->H' b=A? (.frz o u)) (tbls:∀b ps,H b=A? (.tbl ps)->∃more,H' b=A? (.tbl (ps++more)))
 (ns:∀m,s.1.Ns X.env.locals m->h'.Ns X.env.locals m) (hok:HOk X.prog X.w H' h') (hg:AllBare g') :
 Inv X Z Y H' {s with heap:=h',gens:=g',drawn:=d',toks:=t'}:=by
 have Rz:∀b o,X.s₀.heap.get? b=A? o->b≠X.env.locals:=λb o e=>XF (Xz (Xe e) I.ok.above)
 have LR:∀b o,X.s₀.heap.get? b=A? o->b∉X.ex->b∉ch:=λb o e hx hb=>by
  rcases(CN b hb).1 with z|z
  .exact hx z
  .exact g! (Xz (Xe e) z) (Yk _)
 have cellK:∀x c,X.env.cells.lookup x=A? c->∀v,s.1.IsCell c v->h'.IsCell c v:=λx c e v⟨o,ho,hd⟩=>by
  have Jm:c∉ch:=λz=>(CN c z).2.2.1 x c e rfl;by_cases hc:c∈X.fs
  .obtain⟨sl,q⟩:=slot c o (I.cne x c e) hc Jm ho (I.freeC x c e);exact⟨_,q,hd⟩
  .exact⟨o,keep c o (I.cne x c e) hc Jm ho (I.freeC x c e),hd⟩
 refine⟨I.ok,I.os,hg,⟨λb o e n hb hx=>?_,λb o e n hb hx=>?_,λb o e n hx=>?_,λb o e hx=>?_,λb xs e=>tups b xs (I.base.tups b xs e),λb o xs e=>frzs b o xs (I.base.frzs b o xs e),λb ps e=>?_⟩,?_,λx c e=>?_,?_,λx c e=>?_,λp hp=>?_,hok,I.len⟩
 .exact keep b o (Rz b o e) hb (LR b o e hx) (I.base.keep b o e n hb hx) (I.base.free b o e n hx)
 .obtain⟨sl,e1⟩:=I.base.slot b o e n hb hx;obtain⟨T7,e2⟩:=slot b _ (Rz b o e) hb (LR b o e hx) e1 (I.base.free b o e n hx);exact⟨T7,e2⟩
 .obtain⟨o',e1⟩:=I.base.there b o e hx;exact free b o' (LR b o e hx) e1 (I.base.free b o e n hx)
 .obtain⟨o',e1⟩:=I.base.there b o e hx;exact there b o' (LR b o e hx) e1
 .obtain⟨m1,e1⟩:=I.base.tbls b ps e;obtain⟨m2,e2⟩:=tbls b _ e1;exact⟨m1++m2,by rw[e2,Array.append_assoc]⟩
 .obtain⟨m,hn,hl⟩:=I.loc;refine⟨m,ns m hn,λi x v e1 e2 e3=>?_⟩;obtain⟨u,r,l⟩:=hl i x v e1 e2 e3;refine⟨u,r,?_⟩;rcases l with l|⟨k,c,e,z⟩
  .exact .inl l
  .exact .inr ⟨k,c,e,cellK x c e _ z⟩
 .obtain⟨v,z⟩:=I.cell x c e;exact⟨v,cellK x c e v z⟩
 .obtain⟨m,⟨o,_,_,ho,_⟩,_⟩:=I.loc;exact free _ o (λz=>(CN _ z).2.1 rfl) ho I.free
 .obtain⟨v,o,ho,hd⟩:=I.cell x c e;exact free c o (λz=>(CN c z).2.2.1 x c e rfl) ho (I.freeC x c e)
 .obtain⟨e,n,ne,nf,d⟩:=I.pin p hp;have Jm:p.1∉ch:=λz=>(CN p.1 z).2.2.2 p hp rfl;exact⟨keep p.1 p.2 ne nf Jm e n,free p.1 p.2 Jm e n,ne,nf,d⟩
theorem Inv.un(I:Inv X Z Y H s)(u:Un X.fs [] H H' s.1 h')(hok:HOk X.prog X.w H' h'):Inv X Z Y H' {s with heap:=h',toks:=t'}:=by
 obtain⟨m,⟨o,es,ep,ho,r⟩,_⟩:=id I.loc;obtain⟨sl,hL⟩:=u.any ho I.free (by simp)
 exact I.step (g':=s.gens) (d':=s.drawn) (ch:=[]) (λ_ z=>nomatch z) (λb o _ hb _ e n=>u.keep b o e n hb (by simp)) (λb o _ hb _ e n=>u.slot b o e n hb (by simp)) (λb o _ e n=>u.free b o e n (by simp)) (λb o _ e=>u.there b o e (by simp)) u.tups u.frzs u.tbls (λm' hm=>by
  obtain⟨o',F5,F6,B0,r'⟩:=hm;rw[ho]at B0;cases B0;exact⟨_,F5,F6,hL,r'⟩) hok I.bare
theorem Inv.call{g':Array GenState}{d':Drawn}(I:Inv X Z Y H s)(u:Un (frs X.stack) ch H H' s.1 h')(hok:HOk X.prog X.w H' h')(hg:AllBare g')
 (CN:∀b∈ch,(b∈X.ex\/X.s₀.heap.1.size<=b)/\b≠X.env.locals/\(∀x c,X.env.cells.lookup x=A? c->c≠b)/\∀p∈X.pn++Z,p.1≠b) :
 Inv X Z Y H' {s with heap:=h',gens:=g',drawn:=d',toks:=t'}:=by
 obtain⟨m,⟨o,es,ep,ho,r⟩,_⟩:=id I.loc;obtain⟨sl,hL⟩:=u.any ho I.free λz=>(CN _ z).2.1 rfl
 exact I.step (ch:=ch) CN (λb o hL hb hc e n=>u.keep b o e n (λz=>(Xc.mp (I.stkSub b z)).elim hL hb) hc) (λb o _ _ hc e n=>u.any e n hc) (λb o hc e n=>u.free b o e n hc) (λb o hc e=>u.there b o e hc) u.tups u.frzs u.tbls (λm' hm=>by
  obtain⟨o',F5,F6,B0,r'⟩:=hm;rw[ho]at B0;cases B0;exact⟨_,F5,F6,hL,r'⟩) hok hg
theorem Inv.turned(I:Inv X Z Y H s)(k:∀b o,b≠it->s.1.get? b=A? o->h'.get? b=A? o)(hn:H it=B?)(hL:it≠X.env.locals)
 (h1:it∈X.ex\/X.s₀.heap.1.size<=it) (h2:∀x c,X.env.cells.lookup x=A? c->c≠it) (h3:∀p∈X.pn++Z,p.1≠it):Inv X Z Y H {s with heap:=h',toks:=t'}:=by
 have Jn:∀b u,H b=A? u->b≠it:=λb u e z=>by rw[z,hn]at e;cases e
 refine I.step (g':=s.gens) (d':=s.drawn) (ch:=[it]) (λb hb=>?_) (λb o _ _ hc e _=>k b o (λz=>hc (by simp[z])) e) (λb o _ _ hc e _=>⟨o.slots,k b o (λz=>hc (by simp[z])) e⟩) (λ_ _ _ _ n=>n)
  (λb o hc e=>⟨o,k b o (λz=>hc (by simp[z])) e⟩) (λ_ _ e=>e) (λ_ _ _ e=>e) (λb ps e=>⟨#[],by rw[e];simp⟩) (λm hm=>?_) (λb u e=>?_) I.bare
 .have e:b=it:=by simpa using hb
  subst e;exact⟨h1,hL,h2,h3⟩
 .obtain⟨o,es,ep,ho,r⟩:=hm;exact⟨o,es,ep,k _ o (Zr hL) ho,r⟩
 .refine(I.hok b u e).stay (λc v hc q=>k c v ?_ q) (λ_ q=>q) λ_ _ q=>q;rcases hc with z|z
  .rw[z];exact Jn b u e
  .exact Jn c _ z
theorem Inv.tok(I:Inv X Z Y H s)(t:Nat):Inv X Z Y H {s with toks:=t}:=I.un (h':=s.1) (t':=t) Un.refl I.hok
theorem Inv.kept(I:Inv X Z Y H s)(k:∀b u,s.1.get? b=A? u->h'.get? b=A? u):Inv X Z Y H {s with heap:=h',toks:=t'}:=I.un (Un.kept k) (I.hok.kept k)
theorem Inv.laid(I:Inv X Z Y H s)(k:∀b u,s.1.get? b=A? u->h'.get? b=A? u)(hp:s.1.1.size<=a)(new:ObjOk X.prog X.w (upd H a o) h' a o) :
 Inv X Z Y (upd H a o) {s with heap:=h',toks:=t'}:=I.un (Un.laid k hp (I.hok.fresh hp)) (I.hok.laid k hp new)
theorem Inv.write{x e:WS}(I:Inv X Z Y H s)(mu:Mut (H x))(he:e=x\/H e=A? (.own x))(k:∀b u,b≠e->s.1.get? b=A? u->h'.get? b=A? u)(Io:∃u,h'.get? e=A? u)
 (new:ObjOk X.prog X.w (upd H x o) h' x o):Inv X Z Y (upd H x o) {s with heap:=h',toks:=t'}:=I.un (Un.write mu he k Io) (I.hok.write mu he k Io new)
theorem Inv.weak{l':List (Option V)}(I:Inv X Z Y H s)(hl:l'.length=Y.length)(w:∀(i:Nat)v,l'[i]?=A? (A? v)->Y[i]?=A? (A? v)):Inv X Z l' H s :=
 ⟨I.ok,I.os,I.bare,I.base,let⟨m,hn,Cn⟩:=I.loc;⟨m,hn,λi x v e1 e2 e3=>Cn i x v e1 (w i v e2) e3⟩,I.cell,I.free,I.freeC,I.pin,I.hok,hl.trans I.len⟩
theorem Inv.pins_of{B3:List (WS×YF)}(I:Inv X Z Y H s)(h:∀p∈B3,s.1.get? p.1=A? p.2/\H p.1=B?/\p.1≠X.env.locals/\p.1∉X.fs/\∀v,p.2.data≠.cell v):Inv X B3 Y H s :=
 ⟨I.ok,I.os,I.bare,I.base,I.loc,I.cell,I.free,I.freeC,λp hp=>(W7.mp hp).elim (λz=>I.pin p (Xg _ z)) (h p),I.hok,I.len⟩
theorem og(hN:N.Nodup)(a:N[i]?=A? x)(b:N[j]?=A? x):i=j:=by
 obtain⟨h1,e1⟩:=Xu.mp a;obtain⟨h2,e2⟩:=Xu.mp b;exact(List.getElem_inj hN).mp (e1.trans e2.symm)
theorem mV{Q:Unit->WZ->Prop}(I:Inv X Z Y H s)(hN:X.N.Nodup)(hi:X.N[i]?=A? x)(hx:Loc X.env.scope x)(r:RelV v u)
 (h:∀s',Inv X Z (Y.set i (A? v)) H s'->(∃a,X1 a s.1 s'.1/\(a=X.env.locals\/X.env.cells.lookup x=A? a))->Q () s') (hf:X.fn x=C?\/X.env.scope.names.lookup x=A? .local:=by first|exact .inl rfl|exact .inr rfl|assumption):Xf M A (storeName X.env x u) Q E s:=by
 obtain⟨m,hn,hl⟩:=id I.loc;have M9:(X.env.scope.kind == .class ||(X.env.scope.kind == .module && X.env.locals != X.env.globals))=false:=by rw[I.ok.kind];rfl
 have Jo:i<Y.length:=by rw[I.len];exact(glE hi)
 have cne:=I.cne
 have tracked:∀{a:WS}{h':X3},(∃o,s.1.get? a=A? o/\H a=B?)->X1 a s.1 h'->HOk X.prog X.w H h':=λ{a h'}ha hs b ob e=>by
  obtain⟨_,_,Cr⟩:=ha;refine(I.hok b ob e).stay (λc w' hc q=>(hs.2 c ?_).trans q) (λ_ q=>q) λ_ _ q=>q;rintro rfl;rcases hc with rfl|hc
  .rw[Cr]at e;cases e
  .rw[Cr]at hc;cases hc
 rcases hx with hk|hk
 .refine wpAny_storeName_local hk hn (λh' LS hs=>?_) M9;obtain⟨oL,_,_,T8,_⟩:=id hn;refine h _ ⟨I.ok,I.os,I.bare,⟨λb o e n hb hx=>?_,λb o e n hb hx=>?_,I.base.free,λb o e hx=>?_,I.base.tups,I.base.frzs,I.base.tbls⟩,⟨_,LS,λj y v' e1 e2 e3=>?_⟩,λy c e=>?_,I.free,I.freeC,λp hp=>?_,tracked ⟨oL,T8,I.free⟩ hs,by simpa using I.len⟩ ⟨_,hs,.inl rfl⟩
  .exact(hs.2 b (XF (Xz (Xe e) I.ok.above))).trans (I.base.keep b o e n hb hx)
  .obtain⟨sl,e1⟩:=I.base.slot b o e n hb hx;exact⟨sl,(hs.2 b (XF (Xz (Xe e) I.ok.above))).trans e1⟩
  .obtain⟨o',e1⟩:=I.base.there b o e hx;exact⟨o',(hs.2 b (XF (Xz (Xe e) I.ok.above))).trans e1⟩
  .by_cases hj:j=i
   .subst hj;rw[hi]at e1;cases e1;rw[Yv Jo]at e2;cases e2;exact⟨u,r,.inl ⟨hk,by simp⟩⟩
   .rw[Y4 (Zr hj)]at e2;obtain⟨u',r',q⟩:=hl j y v' e1 e2 e3;refine⟨u',r',?_⟩;rcases q with⟨k,e⟩|⟨k,c,e,z⟩
    .refine .inl ⟨k,?_⟩;have:y≠x:=λe=>hj (og hN e1 (e ▸ hi));simp[this,e]
    .exact .inr ⟨k,c,e,z.sameBut hs (cne y c e)⟩
  .obtain⟨w',z⟩:=I.cell y c e;exact⟨w',z.sameBut hs (cne y c e)⟩
  .obtain⟨e,n,ne,nf,d⟩:=I.pin p hp;exact⟨(hs.2 p.1 ne).trans e,n,ne,nf,d⟩
 .have M':X.fn x=true:=by
   rcases hf with z|z
   .exact z
   .rw[z]at hk;cases hk
  obtain⟨c,hc⟩:=I.ok.has x (.inl hk);obtain⟨w',z⟩:=I.cell x c hc;refine wpAny_storeName_cell I.ok.kind hk hc z (λh' BA hs=>?_);obtain⟨oc,GO,Na⟩:=id z;refine h {s with heap:=h'} ⟨I.ok,I.os,I.bare,⟨λb o e n hb hx=>?_,λb o e n hb hx=>?_,I.base.free,λb o e hx=>?_,I.base.tups,I.base.frzs,I.base.tbls⟩,⟨m,hn.sameBut hs (Zr (cne x c hc)),λj y v' e1 e2 e3=>?_⟩,λy c' e=>?_,I.free,I.freeC,λp hp=>?_,tracked ⟨oc,GO,I.freeC x c hc⟩ hs,by simpa using I.len⟩ ⟨c,hs,.inr hc⟩
  .exact(hs.2 b (XF (Xz (Xe e) (I.ok.cab x c M' hc)))).trans (I.base.keep b o e n hb hx)
  .obtain⟨sl,e1⟩:=I.base.slot b o e n hb hx;exact⟨sl,(hs.2 b (XF (Xz (Xe e) (I.ok.cab x c M' hc)))).trans e1⟩
  .obtain⟨o',e1⟩:=I.base.there b o e hx;exact⟨o',(hs.2 b (XF (Xz (Xe e) (I.ok.cab x c M' hc)))).trans e1⟩
  .by_cases hj:j=i
   .subst hj;rw[hi]at e1;cases e1;rw[Yv Jo]at e2;cases e2;exact⟨u,r,.inr ⟨.inl hk,c,hc,BA⟩⟩
   .rw[Y4 (Zr hj)]at e2;obtain⟨u',r',q⟩:=hl j y v' e1 e2 e3;refine⟨u',r',?_⟩;rcases q with q|⟨k,c',e,z'⟩
    .exact .inl q
    .refine .inr ⟨k,c',e,z'.sameBut hs ?_⟩;rintro rfl;exact hj (og hN e1 (I.ok.inj _ _ _ e hc ▸ hi))
  .by_cases EU:c'=c
   .subst EU;exact⟨_,BA⟩
   .obtain⟨w2,z2⟩:=I.cell y c' e;exact⟨w2,z2.sameBut hs EU⟩
  .obtain⟨e,n,ne,nf,d⟩:=I.pin p hp;refine⟨(hs.2 p.1 ?_).trans e,n,ne,nf,d⟩;intro q;rw[q,GO]at e;have q':oc=p.2:=Xh e;exact d w' (by rw[<-q'];exact Na)
theorem lz{Q:Unit->WZ->Prop}(I:Inv X Z Y H s)(hN:X.N.Nodup)(hi:X.N[i]?=A? x)(hx:Loc X.env.scope x)(r:RelV v u)
 (h:∀s',Inv X Z (Y.set i (A? v)) H s'->Q () s') (hf:X.fn x=C?\/X.env.scope.names.lookup x=A? .local:=by first|exact .inl rfl|exact .inr rfl|assumption):Xf M A (storeName X.env x u) Q E s :=
 mV I hN hi hx r (λs' I' _=>h s' I') hf
theorem Inv.call'(I:Inv X Z Y H s)(ho:s'.os=s.os)(u:Un (frs X.stack) ch H H' s.1 s'.1)(hok:HOk X.prog X.w H' s'.1)(hg:AllBare s'.gens)
 (CN:∀b∈ch,(b∈X.ex\/X.s₀.heap.1.size<=b)/\b≠X.env.locals/\(∀x c,X.env.cells.lookup x=A? c->c≠b)/\∀p∈X.pn++Z,p.1≠b):Inv X Z Y H' s':=by
 obtain⟨h',g',d',t',o'⟩:=s';have e:o'=s.os:=ho;subst e;exact I.call (g':=g') (t':=t') (d':=d') u hok hg CN
end
abbrev XK:=WV->Option WS->Hp->Prop
abbrev St:=List (Option V)
abbrev VK:=V->Hp->Prop
abbrev TE:=St->Hp->VK->Prop
abbrev TT:=St->Hp->(Bool->Hp->Prop)->Prop
abbrev TA:=St->Hp->(List V->Hp->Prop)->Prop
structure Ends where
 nx:St->Hp->Prop
 rt:VK
 bk:St->Hp->Prop:=λ_ _=>False
 ct:St->Hp->Prop:=λ_ _=>False
abbrev TS:=Ends->St->Hp->Prop
def EP(X:Cx)(Z:List (WS×YF))(Y:St)(Q:VK)(u:WV)(s':WZ):Prop:=∃v H',Inv X Z Y H' s'/\RelV v u/\Q v H'
def TP(X:Cx)(Z:List (WS×YF))(Y:St)(Q:Bool->Hp->Prop)(b:Bool)(s':WZ):Prop:=∃H',Inv X Z Y H' s'/\Q b H'
def AP(X:Cx)(Z:List (WS×YF))(Y:St)(Q:List V->Hp->Prop)(us:List WV)(s':WZ):Prop:=∃vs H',Inv X Z Y H' s'/\Vals vs us/\Q vs H'
def SP(X:Cx)(Z:List (WS×YF))(D:Ends)(f:Flow)(s':WZ):Prop :=
 match f with
 |.next=>∃l' H',Inv X Z l' H' s'/\D.nx l' H'
 |.brk=>∃l' H',Inv X Z l' H' s'/\D.bk l' H'
 |.cont=>∃l' H',Inv X Z l' H' s'/\D.ct l' H'
 |.ret u=>∃v l' H',Inv X Z l' H' s'/\RelV v u/\D.rt v H'
def PE(X:Cx)(e:XZ)(t:TE):Prop :=
 ∀(Z:List (WS×YF))(s:WZ)(Y:St)(H:Hp)(Q:VK),Inv X Z Y H s->t Y H Q->Xf (Xx X.prog X.w) X.A (YQ e X.env) (EP X Z Y Q) X.xe s
def PT(X:Cx)(e:XZ)(t:TT):Prop :=
 ∀(Z:List (WS×YF))(s:WZ)(Y:St)(H:Hp)(Q:Bool->Hp->Prop),Inv X Z Y H s->t Y H Q->Xf (Xx X.prog X.w) X.A (isTrue e X.env (YQ e X.env)) (TP X Z Y Q) X.xe s
def PW(X:Cx)(e:XZ)(t:TT):Prop :=
 ∀(whole:Sem WV)(Z:List (WS×YF))(s:WZ)(Y:St)(H:Hp)(Q:Bool->Hp->Prop),Inv X Z Y H s->t Y H Q->Xf (Xx X.prog X.w) X.A (isTrue e X.env whole) (TP X Z Y Q) X.xe s
theorem PW.pt{X:Cx}{t:TT}(h:PW X e t):PT X e t:=h _
def PA(X:Cx)(es:List XZ)(t:TA):Prop :=
 ∀(pos:Z9)(Z:List (WS×YF))(s:WZ)(Y:St)(H:Hp)(Q:List V->Hp->Prop),Inv X Z Y H s->t Y H Q->Xf (Xx X.prog X.w) X.A (spliced (ZC pos (XE es X.env))) (AP X Z Y Q) X.xe s
def PS(X:Cx)(st:Stmt)(t:TS):Prop :=
 ∀(Z:List (WS×YF))(s:WZ)(Y:St)(H:Hp)(D:Ends),Inv X Z Y H s->t D Y H->Xf (Xx X.prog X.w) X.A (exec st X.env) (SP X Z D) X.xe s
def PSs(X:Cx)(st:List Stmt)(t:TS):Prop :=
 ∀(Z:List (WS×YF))(s:WZ)(Y:St)(H:Hp)(D:Ends),Inv X Z Y H s->t D Y H->Xf (Xx X.prog X.w) X.A (execs st X.env) (SP X Z D) X.xe s
theorem thn{t:Sem α}{Q Q':α->WZ->Prop}(h:Xf M A t Q E s)(hQ:∀a s,Q a s->Q' a s):Xf M A t Q' E s:=YI h hQ λ_ _ x=>x
end L2
variable{tb:L2.TS}{Y:L2.St}{D:L2.Ends}{te tl:L2.TE}{tt:L2.TT}
namespace L2
open PySem PySem.Spec PyProof.Rows
section
variable{X:Cx}
inductive wP(i:Nat)(Y:St)(H:Hp)(Q:VK):Prop
 |mk (v:_) (BR:Y[i]?=A? (A? v)) (BS:Q v H):wP i Y H Q
def bt(i:Nat):TE:=wP i
def tC(v:V):TE:=λ_ H Q=>Q v H
theorem t5(hN:X.N[i]?=A? x)(hv:Vis X.env.scope x)(hd:(x == ("__debug__":Xj))=false:=by decide)(BU:(x == ("__classdict__":Xj))=false:=by decide):PE X (.Name x pos) (bt i):=by
 intro Z s Y H Q I h;obtain⟨v,e,h⟩:=h;obtain⟨m,hn,hl⟩:=I.loc;obtain⟨u,r,l⟩:=hl i x v hN e hv;have fin:EP X Z Y Q u s:=⟨v,H,I,r,h⟩;rcases l with⟨hk,hm⟩|⟨hk,c,hc,Ao⟩
 .exact wpAny_Name (wpAny_loadName_local I.ok.kind hk hn hm fin) hd
 .rcases hk with hk|hk
  .exact wpAny_Name (wpAny_loadName_cell I.ok.kind hk hc Ao fin) hd
  .exact wpAny_Name (wpAny_loadName_free I.ok.kind hk hc Ao fin BU) hd
theorem ai{i j pos}:PE X (.Constant (.int i) j pos) (tC (.int i)):=λ_ _ _ H _ I h=>wpAny_Constant_int ⟨.int i,H,I.tok _,⟨_,rfl⟩,h⟩
theorem ji{b j pos}:PE X (.Constant (.bool b) j pos) (tC (.bl b)):=λ_ _ _ H _ I h=>Constant_bool ⟨.bl b,H,I,rfl,h⟩
theorem dh{x j pos}:PE X (.Constant (.str x) j pos) (tC (.str x)):=λ_ _ _ H _ I h=>Calls.Constant_str ⟨.str x,H,I.tok _,⟨_,rfl⟩,h⟩
def Gl(X:Cx)(x:Xj):Prop:=X.env.kindOf x=A? .globalImplicit
theorem fR(I:Inv X Z Y H s)(hg:Gl X x)(hm:X.mg x=A? u)(h:Q u s)
 (hd:(x == ("__debug__":Xj))=false:=by decide):Xf (Xx X.prog X.w) X.A (YQ (.Name x pos) X.env) Q E s :=
 Calls.Name_function_global I.ok.kind hg (Calls.loadGlobal_global (by rw[I.ok.glob];exact I.mod.glob.keeps I.bk) hm h) hd
theorem d6(I:Inv X Z Y H s)(hg:Gl X x)(hm:X.mg x=B?)(hv:bootBuiltins x=A? u)(h:Q u s)
 (hn:x≠"__name__":=by decide) (hd:(x == ("__debug__":Xj))=false:=by decide):Xf (Xx X.prog X.w) X.A (YQ (.Name x pos) X.env) Q E s:=by
 obtain⟨mb,h1,h2⟩:=I.mod.blt;exact Calls.Name_function_global I.ok.kind hg (Calls.loadGlobal_builtin (by rw[I.ok.glob];exact I.mod.glob.keeps I.bk) hm (by rw[I.ok.blt];exact h1.keeps I.bk) ((h2 x hn).trans hv) h) hd
theorem bY(hg:Gl X x)(hm:X.mg x=A? u)(r:RelV v u)(hd:(x == ("__debug__":Xj))=false:=by decide):PE X (.Name x pos) (tC v) :=
 λ_ _ _ H _ I h=>fR I hg hm ⟨v,H,I,r,h⟩ hd
theorem rB(hg:Gl X x)(hm:X.mg x=B?)(hv:bootBuiltins x=A? u)(r:RelV v u)(hn:x≠"__name__":=by decide)(hd:(x == ("__debug__":Xj))=false:=by decide):PE X (.Name x pos) (tC v) :=
 λ_ _ _ H _ I h=>d6 I hg hm hv ⟨v,H,I,r,h⟩ hn hd
variable{a b:XZ}{ta tb:TE}
def PC(X:Cx)(op:CmpOp)(a b:XZ)(t:TE):Prop :=
 ∀(Z:List (WS×YF))(s:WZ)(Y:St)(H:Hp)(Q:VK),Inv X Z Y H s->t Y H Q ->
   Xf (Xx X.prog X.w) X.A (YQ a X.env) (λv zX=>Xf (Xx X.prog X.w) X.A (YQ b X.env) (λu A8=>Xf (Xx X.prog X.w) X.A (Zf op v u) (EP X Z Y Q) X.xe A8) X.xe zX) X.xe s
def tB(t:TE):TT:=λY H Q=>t Y H λx H1=>∃c,x=.bl c/\Q c H1
theorem ue{t:TE}(h:PC X op a b t)(h1:behindInMarks op b=false:=by first|exact Jp _ (by decide) (by decide)|rfl):PT X (.Compare a [op] [b] pos) (tB t):=by
 intro Z s Y H Q I hw;refine wpAny_isTrue_Compare1 (thn (h Z s Y H _ I hw) λv s1 h1=>thn h1 λu s2 h2=>thn h2 λc s3⟨x,H1,I1,r1,q1⟩=>?_) h1;obtain⟨d,rfl,q⟩:=q1;cases r1;exact ZH ⟨H1,I1,q⟩
variable{tA LU:TT}{rest:List XZ}
def zT(t u:TT):TT:=λY H Q=>t Y H λc H1=>if c=C? then u Y H1 Q else Q D? H1
def tOr(t u:TT):TT:=λY H Q=>t Y H λc H1=>if c=C? then Q C? H1 else u Y H1 Q
def zB(t:TT):TT:=λY H Q=>t Y H λc H1=>Q (!c) H1
theorem jR(ha:PT X a tA):PW X (.BoolOp .And [a] pos) tA:=by
 intro wh Z s Y H Q I h;refine isTrue_and (thn (ha Z s Y H Q I h) λc s1 e=>?_);cases c with
 |true=>exact isTrue_and_nil e
 |false=>exact e
theorem gM(ha:PT X a tA):PW X (.BoolOp .Or [a] pos) tA:=by
 intro wh Z s Y H Q I h;refine isTrue_or (thn (ha Z s Y H Q I h) λc s1 e=>?_);cases c with
 |false=>exact isTrue_or_nil e
 |true=>exact e
theorem iY(ha:PT X a tA)(hb:PW X (.BoolOp .And (b::rest) pos) LU):PW X (.BoolOp .And (a::b::rest) pos) (zT tA LU):=by
 intro wh Z s Y H Q I h;refine isTrue_and (thn (ha Z s Y H _ I h) λc s1⟨H1,I1,q1⟩=>?_);cases c with
 |true=>exact hb wh Z s1 Y H1 Q I1 q1
 |false=>exact⟨H1,I1,q1⟩
theorem jB(ha:PT X a tA)(hb:PW X (.BoolOp .Or (b::rest) pos) LU):PW X (.BoolOp .Or (a::b::rest) pos) (tOr tA LU):=by
 intro wh Z s Y H Q I h;refine isTrue_or (thn (ha Z s Y H _ I h) λc s1⟨H1,I1,q1⟩=>?_);cases c with
 |true=>exact⟨H1,I1,q1⟩
 |false=>exact hb wh Z s1 Y H1 Q I1 q1
theorem uT(ha:PT X a tA):PT X (.UnaryOp .Not a pos) (zB tA):=by
 intro Z s Y H Q I h;exact isTrue_not (ha Z s Y H (λc H1=>Q (!c) H1) I h)
def yA(ta tb:TE):TE:=λY H Q=>ta Y H λx H1=>∃c,x=.bl c/\if c=C? then tb Y H1 Q else Q (.bl D?) H1
def yE(ta:TE):TE:=λY H Q=>ta Y H λx H1=>∃c,x=.bl c/\Q (.bl (!c)) H1
theorem qk{op}{t:TE}(h:PE X a t):PE X (.BoolOp op [a] pos) t:=λZ s Y H Q I hw=>BoolOp_one (h Z s Y H Q I hw)
theorem qU(ha:PE X a ta)(hb:PE X (.BoolOp .And (b::rest) pos) tb):PE X (.BoolOp .And (a::b::rest) pos) (yA ta tb):=by
 intro Z s Y H Q I h;refine BoolOp_and (thn (ha Z s Y H _ I h) λv s1⟨x,H1,I1,r1,q1⟩=>?_);obtain⟨c,rfl,q1⟩:=q1;cases r1;refine ZH ?_;cases c with
 |true=>exact hb Z s1 Y H1 Q I1 q1
 |false=>exact⟨.bl D?,H1,I1,Dn,q1⟩
theorem qh(ha:PE X a ta):PE X (.UnaryOp .Not a pos) (yE ta):=by
 intro Z s Y H Q I h;refine UnaryOp_ (thn (ha Z s Y H _ I h) λv s1⟨x,H1,I1,r1,q1⟩=>?_);obtain⟨c,rfl,q1⟩:=q1;cases r1;exact not_of (ZH ⟨.bl (!c),H1,I1,rfl,q1⟩)
end
def SqL(K:WW)(H:Hp)(a:WS)(xs:List V):Prop :=
 Rd H a (.lst xs) \/
  ∃(o:YF)(its:Array WV)(n:Nat),K.lookup a=A? o/\o.cls=.type "list"/\o.dict=B?/\o.data=.seq its n/\its.size<=Xi/\Vals xs its.toList
def SqT(K:WW)(H:Hp)(a:WS)(xs:List V):Prop :=
 Rd H a (.tup xs) \/
  ∃(o:YF)(its:Array WV)(n:Nat),K.lookup a=A? o/\o.cls=.type "tuple"/\o.data=.seq its n/\its.size<=Xi/\Vals xs its.toList
def zg:WV->Option V
 |.none=>A? .non
 |.bool b=>A? (.bl b)
 |.int i _=>A? (.int i)
 |.str x _=>A? (.str x)
 |.bytes b _=>A? (.byt b)
 |.float b _=>A? (.flt b)
 |.ref a=>A? (.ref a)
 |.type n=>A? (.ty n)
 |_=>B?
theorem RelV.abs{x:V}(r:RelV x u):zg u=A? x:=by
 cases x with
 |non=>cases r;rfl
 |bl _=>cases r;rfl
 |int _=>obtain⟨t,rfl⟩:=r;rfl
 |str _=>obtain⟨t,rfl⟩:=r;rfl
 |byt _=>obtain⟨t,rfl⟩:=r;rfl
 |flt _=>obtain⟨t,rfl⟩:=r;rfl
 |ref _=>cases r;rfl
 |ty _=>cases r;rfl
theorem RelV.inj{x:V}(r:RelV x u)(q:RelV y u):x=y:=Xh (r.abs.symm.trans q.abs)
theorem Vals.inj:∀{xs ys:List V}{us:List WV},Vals xs us->Vals ys us->xs=ys
 |_,_,_,.nil,.nil=>rfl
 |_,_,_,.cons r t,.cons r' t'=>by rw[r.inj r',Vals.inj t t']
section
variable{X:Cx}{ys:List V}
theorem SqL.of(h:H a=A? (.lst xs)):SqL K H a xs:=.inl (.inl h)
theorem SqT.of(h:H a=A? (.tup xs)):SqT K H a xs:=.inl (.inl h)
theorem Inv.list(I:Inv X Z Y H s)(h:SqL X.K H a xs):∃its:List WV,Vals xs its/\PlainL s.1 a its.toArray/\xs.length<=Xi:=by
 rcases h with h|⟨o,its,n,hk,hc,hd,hs,hz,r⟩
 .obtain⟨z,its,n,r,e⟩:=h.ok I.hok;exact⟨its,r,⟨_,n,e,Dn,Dn,Dn⟩,z⟩
 .refine⟨its.toList,r,⟨o,n,I.kIn a o hk,hc,hd,by simpa using hs⟩,?_⟩;have e:=r.length;simp only[Xr]at e;lia
theorem Inv.tuple(I:Inv X Z Y H s)(h:SqT X.K H a xs):∃its:List WV,Vals xs its/\IsTup s.1 a its.toArray/\xs.length<=Xi:=by
 rcases h with h|⟨o,its,n,hk,hc,hs,hz,r⟩
 .obtain⟨z,its,n,r,p⟩:=h.ok I.hok;exact⟨its,r,⟨_,p,Dn,n,Dn⟩,z⟩
 .refine⟨its.toList,r,⟨o,I.kIn a o hk,hc,n,by simpa using hs⟩,?_⟩;have e:=r.length;simp only[Xr]at e;lia
theorem Inv.list_inj(I:Inv X Z Y H s)(h:SqL X.K H a xs)(h':SqL X.K H a ys):xs=ys:=by
 obtain⟨its,r,⟨o,n,e,_,_,d⟩,_⟩:=I.list h;obtain⟨its',r',⟨o',n',e',_,_,d'⟩,_⟩:=I.list h';rw[e]at e';cases e';rw[d]at d';injection d' with d1 _;have:its=its':=by simpa using h! Array.toList d1
 subst this;exact r.inj r'
theorem Inv.tuple_inj(I:Inv X Z Y H s)(h:SqT X.K H a xs)(h':SqT X.K H a ys):xs=ys:=by
 obtain⟨its,r,⟨o,e,_,n,d⟩,_⟩:=I.tuple h;obtain⟨its',r',⟨o',e',_,n',d'⟩,_⟩:=I.tuple h';rw[e]at e';cases e';rw[d]at d';injection d' with d1 _;have:its=its':=by simpa using h! Array.toList d1
 subst this;exact r.inj r'
end
abbrev Cx.wish(X:Cx)(E:WV->WZ->Prop):Cx:={X with xe:=E}
abbrev Cx.nox(X:Cx):Cx:=X.wish λ_ _=>False
theorem Cx.Ok.wish{X:Cx}(ok:X.Ok)(E:WV->WZ->Prop):(X.wish E).Ok :=
 ⟨ok.mod,ok.kind,ok.glob,ok.blt,ok.above,ok.inj,ok.has,ok.cab,ok.hd,ok.frames,ok.stk,ok.exf,ok.bs,ok.bsz,ok.noex,ok.exfs,ok.funs,ok.frf⟩
theorem Cx.Ok.unwish{X:Cx}(ok:(X.wish E).Ok):X.Ok :=
 ⟨ok.mod,ok.kind,ok.glob,ok.blt,ok.above,ok.inj,ok.has,ok.cab,ok.hd,ok.frames,ok.stk,ok.exf,ok.bs,ok.bsz,ok.noex,ok.exfs,ok.funs,ok.frf⟩
section
variable{X:Cx}
theorem Inv.wish(I:Inv X Z Y H s)(E:WV->WZ->Prop):Inv (X.wish E) Z Y H s:=⟨I.ok.wish E,I.os,I.bare,I.base,I.loc,I.cell,I.free,I.freeC,I.pin,I.hok,I.len⟩
theorem Inv.unwish(I:Inv (X.wish E) Z Y H s):Inv X Z Y H s:=⟨I.ok.unwish,I.os,I.bare,I.base,I.loc,I.cell,I.free,I.freeC,I.pin,I.hok,I.len⟩
theorem SP.unwish{f:Flow}(h:SP (X.wish E) Z D f s'):SP X Z D f s':=by
 cases f with
 |next=>obtain⟨l',H',I,q⟩:=h;exact⟨l',H',I.unwish,q⟩
 |brk=>obtain⟨l',H',I,q⟩:=h;exact⟨l',H',I.unwish,q⟩
 |cont=>obtain⟨l',H',I,q⟩:=h;exact⟨l',H',I.unwish,q⟩
 |ret u=>obtain⟨v,l',H',I,r,q⟩:=h;exact⟨v,l',H',I.unwish,r,q⟩
theorem PSs.nox{st:List Stmt}{t:TS}(h:PSs X.nox st t):PSs X st t:=λZ s Y H D I hw =>
 YI (h Z s Y H D (I.wish _) hw) (λ_ _ q=>q.unwish) λ_ _ z=>Yd z
end
section
variable{X:Cx}{rest:List Stmt}{t u:TS}
def vj:TS:=λD Y H=>D.nx Y H
def lP(t u:TS):TS:=λD Y H=>t {D with nx:=u D} Y H
theorem bx:PSs X [] vj:=λ_ _ Y H _ I h=>wpAny_execs_nil ⟨Y,H,I,h⟩
theorem ag(h1:PS X st t)(h2:PSs X rest u):PSs X (st::rest) (lP t u):=by
 intro Z s Y H D I h;refine wpAny_execs_cons (thn (h1 Z s Y H {D with nx:=u D} I h) λf s1 q=>?_);cases f with
 | next =>
   obtain⟨l',H',I',q⟩:=q;exact h2 Z s1 l' H' D I' q
 |ret v=>exact q
 |brk=>exact q
 |cont=>exact q
theorem aj(h1:PS X st t):PSs X [st] t:=by
 intro Z s Y H D I h;refine wpAny_execs_cons (thn (h1 Z s Y H D I h) λf s1 q=>?_);cases f with
 |next=>exact wpAny_execs_nil q
 |ret v=>exact q
 |brk=>exact q
 |cont=>exact q
theorem Inv.quiet(I:Inv X Z Y H s):interactive X.env=false:=by simp[interactive,I.ok.kind]
def w9(te:TE):TS:=λD Y H=>te Y H λ_ H1=>D.nx Y H1
theorem aM(he:PE X e te)(hs:swapsWith e B? pos.line X.env=pure false:=by rfl):PS X (.Expr e pos) (w9 te):=by
 intro Z s Y H D I h;exact wpAny_Expr_any (thn (he Z s Y H _ I h) λv s1⟨x,H1,I1,r1,q1⟩=>⟨Y,H1,I1,q1⟩) I.quiet hs
def zI(te:TE):TS:=λD Y H=>te Y H D.rt
theorem ax(he:PE X e te):PS X (.Return (A? e) pos) (zI te):=by
 intro Z s Y H D I h;exact wpAny_Return_some (thn (he Z s Y H _ I h) λv s1⟨x,H1,I1,r1,q1⟩=>⟨x,Y,H1,I1,r1,q1⟩)
def yy(c:TT)(t u:TS):TS:=λD Y H=>c Y H λb H1=>if b=C? then t D Y H1 else u D Y H1
theorem cb{c:XZ}{a b:List Stmt}{tc:TT}(hc:PT X c tc)(ha:PSs X a t)(hb:PSs X b u):PS X (.If c a b pos) (yy tc t u):=by
 intro Z s Y H D I h;refine wpAny_If (thn (hc Z s Y H _ I h) λd s1⟨H1,I1,q1⟩=>?_);cases d with
 |true=>exact ha Z s1 Y H1 D I1 q1
 |false=>exact hb Z s1 Y H1 D I1 q1
end
abbrev TG:=V->St->Hp->(St->Hp->Prop)->Prop
abbrev TGs:=List V->St->Hp->(St->Hp->Prop)->Prop
def PG(X:Cx)(target:XZ)(t:TG):Prop :=
 ∀(Z:List (WS×YF))(s:WZ)(Y:St)(H:Hp)(v:V)(u:WV)(Q:St->Hp->Prop),Inv X Z Y H s->RelV v u->t v Y H Q ->
   Xf (Xx X.prog X.w) X.A (assign target X.env u) (λ_ s'=>∃l' H',Inv X Z l' H' s'/\Q l' H') X.xe s
def PGs(X:Cx)(ts:List XZ)(t:TGs):Prop :=
 ∀(Z:List (WS×YF))(s:WZ)(Y:St)(H:Hp)(vs:List V)(us:List WV)(Q:St->Hp->Prop),Inv X Z Y H s->Vals vs us->t vs Y H Q ->
   Xf (Xx X.prog X.w) X.A (assignInOrder ((assignEach ts X.env).map (·.2)) us) (λ_ s'=>∃l' H',Inv X Z l' H' s'/\Q l' H') X.xe s
abbrev xD:=V->V->V->Hp->(Hp->Prop)->Prop
def yI(X:Cx)(t:xD):Prop :=
 ∀(Z:List (WS×YF))(s:WZ)(Y:St)(H:Hp)(o i v:V)(ov iv u:WV)(Q:Hp->Prop),Inv X Z Y H s->RelV o ov->RelV i iv->RelV v u->t o i v H Q ->
   Xf (Xx X.prog X.w) X.A (setItem ov iv u) (λ_ s'=>∃H',Inv X Z Y H' s'/\Q H') X.xe s
abbrev TIp:=V->V->Hp->VK->Prop
def PIp(X:Cx)(op:Operator)(t:TIp):Prop :=
 ∀(Z:List (WS×YF))(s:WZ)(Y:St)(H:Hp)(x y:V)(v u:WV)(Q:VK),Inv X Z Y H s->RelV x v->RelV y u->t x y H Q ->
   Xf (Xx X.prog X.w) X.A (inplaceOp op v u) (EP X Z Y Q) X.xe s
section
variable{X:Cx}
def ay(i:Nat):TG:=λv Y H Q=>Q (Y.set i (A? v)) H
theorem vM(hN:X.N.Nodup)(hi:X.N[i]?=A? x)(hx:Loc X.env.scope x)(hf:X.fn x=C?\/X.env.scope.names.lookup x=A? .local:=by first|exact .inl rfl|exact .inr rfl|assumption):PG X (.Name x pos) (ay i):=by
 intro Z s Y H v u Q I r h;exact wpAny_assign_Name (lz I hN hi hx r (λs' I'=>⟨_,H,I',h⟩) hf)
def oy:TGs:=λvs Y H Q=>vs=[]/\Q Y H
def dS(t:TG)(u:TGs):TGs:=λvs Y H Q=>∃v r,vs=v::r/\t v Y H λl' H'=>u r l' H' Q
theorem aT:PGs X [] oy:=by
 intro Z s Y H vs us Q I r h;obtain⟨e,h⟩:=h;subst e;cases r;exact assignInOrder_nil ⟨Y,H,I,h⟩
theorem au{es:List XZ}{t:TG}{u:TGs}(h1:PG X e t)(h2:PGs X es u)
 (hs:(assignEach (e::es) X.env).map (·.2)=assign e X.env::(assignEach es X.env).map (·.2):=by rfl):PGs X (e::es) (dS t u):=by
 intro Z s Y H vs us Q I r h;obtain⟨v,vr,e1,h⟩:=h;subst e1;cases r with
 | cons r rr =>
   rw[hs];refine assignInOrder_cons (thn (h1 Z s Y H _ _ _ I r h) λ_ s1⟨AA,H1,I1,q1⟩=>?_);exact h2 Z s1 AA H1 _ _ Q I1 rr q1
def pL(K:WW)(n:Nat)(t:TGs):TG:=λv Y H Q=>∃a xs,v=.ref a/\SqT K H a xs/\xs.length=n/\t xs Y H Q
theorem bh{es:List XZ}{k:Nat}{t:TGs}(hc:X.calm=C?)(h:PGs X es t)
 (hn:(assignEach es X.env).length=n:=by rfl) (BV:(assignEach es X.env).findIdx? (·.1)=none:=by rfl):PG X (.Tuple es k pos) (pL X.K n t):=by
 intro Z s Y H v u Q I r hw;obtain⟨a,xs,e1,hq,hl,hw⟩:=hw;subst e1;cases r;obtain⟨its,rv,ht,hz⟩:=I.tuple hq;refine assign_Tuple_tuple (I.ok.hd hc) ht (by simp[hn,<-hl,rv.length]) BV λh' hx=>?_;have I1:Inv X Z Y H {s with heap:=h'}:=I.kept (t':=s.toks) λb o e=>hx b o (XF (Xe e)) e;exact h Z _ Y H xs _ Q I1 (by simpa using rv) hw
def zF(to ti:TE)(t:xD):TG:=λv Y H Q=>to Y H λo H1=>ti Y H1 λi H2=>t o i v H2 λH3=>Q Y H3
theorem xB{o i:XZ}{to ti:TE}{t:xD}(ho:PE X o to)(hi:PE X i ti)(hs:yI X t)
 (ha:∀v,assign (.Subscript o i pos) X.env v=(do
  let ov <-holding [v] (YQ o X.env)
  let iv <-holding [v,ov] (YQ i X.env)
  standAt pos
  holding [v,ov,iv] (setItem ov iv v)
  release [v,ov,iv] []):=by intro _;rfl):PG X (.Subscript o i pos) (zF to ti t):=by
 intro Z s Y H v u Q I r h;rw[ha];refine WN (Yn (thn (ho Z s Y H _ I h) λov s1⟨x,H1,I1,r1,q1⟩=>?_));refine WN (Yn (thn (hi Z s1 Y H1 _ I1 q1) λiv s2⟨y,H2,I2,r2,q2⟩=>?_));refine WN (wpAny_standAt (WN (Yn (thn (hs Z s2 Y H2 x y v ov iv u _ I2 r1 r2 r q2) λ_ s3⟨H3,I3,q3⟩=>?_))));exact wpAny_release ⟨Y,H3,I3,q3⟩
def sR(te:TE)(g:TG):TS:=λD Y H=>te Y H λx H1=>g x Y H1 D.nx
theorem de{g:TG}(he:PE X e te)(hg:PG X tg g)(hs:swapsWithSole [tg] e pos.line X.env=pure false:=by rfl)(hw:swappedStores [tg] e X.env=pure none:=by rfl)
 (h1:(assignEach [tg] X.env).map (·.2)=[assign tg X.env]:=by rfl):PS X (.Assign [tg] e pos) (sR te g):=by
 intro Z s Y H D I h;refine wpAny_Assign_stores (thn (he Z s Y H _ I h) λv s1⟨x,H1,I1,r1,q1⟩=>?_) hs hw;rw[h1];exact thn (hg Z s1 Y H1 x v _ I1 r1 q1) λ_ s2 q=>q
theorem xE(hN:X.N.Nodup)(hi:X.N[i]?=A? x)(hx:Loc X.env.scope x)(he:PE X e te)(hs:swapsWith e (A? (.Name x pos')) pos.line X.env=pure false:=by rfl)(hf:X.fn x=C?\/X.env.scope.names.lookup x=A? .local:=by first|exact .inl rfl|exact .inr rfl|assumption) :
 PS X (.Assign [.Name x pos'] e pos) (sR te (ay i)):=by
 intro Z s Y H D I h;refine wpAny_Assign_Name (thn (he Z s Y H _ I h) λv s1⟨y,H1,I1,r1,q1⟩=>?_) hs;exact lz I1 hN hi hx r1 (λs2 I2=>⟨_,H1,I2,q1⟩) hf
def zn(i:Nat)(te:TE)(ti:TIp):TS:=λD Y H=>∃x,Y[i]?=A? (A? x)/\te Y H λy H1=>ti x y H1 λz H2=>D.nx (Y.set i (A? z)) H2
theorem xo{op:Operator}{ti:TIp}(hN:X.N.Nodup)(hi:X.N[i]?=A? x)(hx:Loc X.env.scope x)(he:PE X e te)(ho:PIp X op ti)(hf:X.fn x=C?\/X.env.scope.names.lookup x=A? .local:=by first|exact .inl rfl|exact .inr rfl|assumption) :
 PS X (.AugAssign (.Name x pos') op e pos) (zn i te ti):=by
 intro Z s Y H D I h;obtain⟨v,e1,h⟩:=h;obtain⟨m,hn,hl⟩:=I.loc;have RA:Vis X.env.scope x:=by rcases hx with k|k;exact .inl k;exact .inr (.inl k)
 obtain⟨u,r,l⟩:=hl i x v hi e1 RA;refine wpAny_AugAssign_Name ?_
 have go:Xf (Xx X.prog X.w) X.A (YQ e X.env) (λw A8=>Xf (Xx X.prog X.w) X.A (inplaceOp op u w) (λr Cb=>Xf (Xx X.prog X.w) X.A (storeName X.env x r) (λ_=>SP X Z D .next) X.xe Cb) X.xe A8) X.xe s:=by
  refine thn (he Z s Y H _ I h) λw s1⟨y,H1,I1,r1,q1⟩=>?_;refine thn (ho Z s1 Y H1 v y u w _ I1 r r1 q1) λz s2⟨zv,H2,I2,r2,q2⟩=>?_;exact lz I2 hN hi hx r2 (λs3 I3=>⟨_,H2,I3,q2⟩) hf
 rcases l with⟨hk,hm⟩|⟨hk,c,hc,Ao⟩
 .exact wpAny_loadName_local I.ok.kind hk hn hm go
 .rcases hk with hk|hk
  .exact wpAny_loadName_cell I.ok.kind hk hc Ao go
  .rcases hx with k|k
   .have:X.env.scope.names.lookup x=A? .free:=hk;rw[k]at this;cases this
   .have:X.env.scope.names.lookup x=A? .free:=hk;rw[k]at this;cases this
def ipI(f:Int->Int->Int):TIp:=λx y H Q=>∃i j,x=.int i/\y=.int j/\Q (.int (f i j)) H
theorem xY:PIp X .Add (ipI λi j=>i+j):=by
 intro Z s Y H x y v u Q I r1 r2 h;obtain⟨i,j,e1,e2,q⟩:=h;subst e1;subst e2;obtain⟨t,rfl⟩:=r1;obtain⟨t',rfl⟩:=r2;exact iadd_int ⟨.int _,H,I.tok _,⟨_,rfl⟩,q⟩
end
section
variable{X:Cx}
def xw(c:TT)(tb:TS):TS:=λD Y H=>∃W:Nat->St->Hp->Prop,(∃m,W m Y H)/\∀m Y H,W m Y H ->
 c Y H λb H1=>if b=C? then∃N:St->Hp->Prop,(∀l' H',N l' H'->∃m',m'<m/\W m' l' H')/\tb {D with nx:=N,ct:=N,bk:=D.nx} Y H1 else D.nx Y H1
theorem cY{c:XZ}{tc:TT}(hp:PassesOwn (Xx X.prog X.w) X.A X.env X.xe)(hc:PT X c tc)(hb:PSs X body tb):PS X (.While c body [] pos) (xw tc tb):=by
 intro Z s Y H D I h;obtain⟨W,⟨m0,w0⟩,turn⟩:=h;refine wpAny_While (codeAny_whileLoop (λn s'=>∃l' H',Inv X Z l' H' s'/\W n l' H') ?_ m0 ⟨Y,H,I,w0⟩);rintro n s1 ⟨AA,H1,I1,w1⟩;refine Z6 hp (thn (hc Z s1 AA H1 _ I1 (turn n AA H1 w1)) λb s2⟨H2,I2,q2⟩=>?_);cases b with
 | true =>
   obtain⟨N,hN,q2⟩:=q2;rw[b! rfl];refine Z6 hp (thn (hb Z s2 AA H2 _ I2 q2) λf s3 q3=>?_);cases f with
   | next =>
     obtain⟨Ed,H3,I3,n3⟩:=q3;obtain⟨m',hm,w3⟩:=hN Ed H3 n3;exact⟨m',hm,Ed,H3,I3,w3⟩
   | cont =>
     obtain⟨Ed,H3,I3,n3⟩:=q3;obtain⟨m',hm,w3⟩:=hN Ed H3 n3;exact⟨m',hm,Ed,H3,I3,w3⟩
   |brk=>exact q3
   |ret v=>exact q3
 | false =>
   rw[a! Xq];exact wpAny_execs_nil ⟨AA,H2,I2,q2⟩
end
structure It where
 go:Nat->Hp->Prop
 yld:Nat->Hp->V->Hp->Prop
 stop:Nat->Hp->Prop
def jd(X:Cx)(Z:List (WS×YF))(H:Hp)(b:WS):Prop :=
 H b=B?/\b≠X.env.locals/\b∉X.fs/\(b∈X.ex\/X.s₀.heap.1.size<=b)/\(∀x c,X.env.cells.lookup x=A? c->c≠b)/\∀p∈X.pn++Z,p.1≠b
theorem Inv.fpOk{X:Cx}(I:Inv X Z Y H s)(hb:s.1.1.size<=b)(hn:H' b=B?):jd X Z H' b:=by
 refine⟨hn,Nat.ne_of_gt (Xz I.lt hb),I.nofs hb,.inr (X2 I.sz hb),λx c e z=>?_,λp hp z=>?_⟩
 .obtain⟨v,q⟩:=I.cell x c e;exact g! (Xz q.lt (by rw[z];exact hb)) (Yk _)
 .exact g! (Xz (Xe (I.pin p hp).1) (by rw[z];exact hb)) (Yk _)
structure Turn(P:Xm)(w:XD)(K:WW)(tg:XZ)(J:It)(fp:List WS)(it:WS)(tn:Nat->X3->Prop):Prop where
 mem:it∈fp
 obj:∀i h,tn i h->∀b∈fp,∃o,h.get? b=A? o/\∀v,o.data≠.cell v
 keep:∀i h h',tn i h->(∀b∈fp,∀o,h.get? b=A? o->h'.get? b=A? o)->tn i h'
 item:∀(X:Cx),X.prog=P->X.w=w->X.K=K->X.calm=C?->∀(i:Nat)(Z:List (WS×YF))(s:WZ)(Y:St)(H:Hp)(E:WV->WZ->Prop),Inv X Z Y H s->(∀b∈fp,jd X Z H b)->tn i s.1->J.go i H ->
  Xf (Xx P w) X.A (Zw (.ref it)) (λr s1=>∃u,r=A? u /\
   Xf (Xx P w) X.A (letOwnedTupleGo tg (.ref it) u) (λ_ s2=>∃x H',Inv X Z Y H' s2/\RelV x u/\J.yld i H x H'/\tn (i+1) s2.1/\∀b∈fp,H' b=B?) E s1) E s
 done:∀(X:Cx),X.prog=P->X.w=w->X.K=K->X.calm=C?->∀(i:Nat)(Z:List (WS×YF))(s:WZ)(Y:St)(H:Hp)(E:WV->WZ->Prop),Inv X Z Y H s->(∀b∈fp,jd X Z H b)->tn i s.1->J.stop i H ->
  Xf (Xx P w) X.A (Zw (.ref it)) (λr s1=>r=B?/\Inv X Z Y H s1) E s
 self:∀(A:XH)(i:Nat)(s:WZ)(Q:WV->WZ->Prop)(E:WV->WZ->Prop),tn i s.1->Q (.ref it) s->Xf (Xx P w) A (pyIter (.ref it)) Q E s
abbrev TI:=St->Hp->(It->Hp->Prop)->Prop
def PIE(X:Cx)(Z:List (WS×YF))(Y:St)(tg:XZ)(R:It->Hp->Prop)(LV:WV)(s2:WZ):Prop :=
 ∃(it:WS)(fp:List WS)(tn:Nat->X3->Prop)(J:It)(H':Hp),LV=.ref it/\Inv X Z Y H' s2/\Turn X.prog X.w X.K tg J fp it tn/\tn 0 s2.1/\(∀b∈fp,jd X Z H' b)/\R J H'
def PI(X:Cx)(tg iter:XZ)(wi:TI):Prop :=
 ∀(Z:List (WS×YF))(s:WZ)(Y:St)(H:Hp)(R:It->Hp->Prop),Inv X Z Y H s->wi Y H R ->
   Xf (Xx X.prog X.w) X.A (YQ iter X.env) (λv s1=>Xf (Xx X.prog X.w) X.A (pyIter v) (PIE X Z Y tg R) X.xe s1) X.xe s
theorem j4{o:YF}{n:String}{vs:Array WV}{Q:Unit->WZ->Prop}(ho:s.1.get? it=A? o)(hc:o.cls=.type n)(hd:o.data=.fields vs)
 (hn:["enumerate","zip","dict_itemiterator","dict_reverseitemiterator","odict_iterator","itertools.zip_longest","itertools.pairwise"].contains n=D?) (hQ:Q () s):Xf M A (letOwnedTupleGo tg (.ref it) u) Q E s:=by
 unfold letOwnedTupleGo
 cases tg <;> first
  |exact WX hQ
  |(cases u <;> first
   |exact WX hQ
   | (refine WN (wpAny_load ho ?_)
      rw[hc,hd];show Xf M A (if(["enumerate","zip","dict_itemiterator","dict_reverseitemiterator","odict_iterator","itertools.zip_longest","itertools.pairwise"].contains n && vs[0]? == A? (YJ _))=C? then _ else _) Q E s;rw[a! (by intro h;rw[hn,Bool.false_and]at h;cases h)];exact WX hQ))
def Itl(K:WW)(a:WS):It :=
 ⟨λi H=>∃xs x,SqL K H a xs/\xs[i]?=A? x,λi H x H'=>H'=H/\∀xs,SqL K H a xs->xs[i]?=A? x,λi H=>∃xs,SqL K H a xs/\xs.length<=i⟩
def Itt(K:WW)(a:WS):It :=
 ⟨λi H=>∃xs x,SqT K H a xs/\xs[i]?=A? x,λi H x H'=>H'=H/\∀xs,SqT K H a xs->xs[i]?=A? x,λi H=>∃xs,SqT K H a xs/\xs.length<=i⟩
def Itr(lo:Int)(n:Nat):It:=⟨λi _=>i<n,λi H x H'=>H'=H/\x=.int (lo+i),λi _=>n<=i⟩
theorem sN(a it:WS):Turn P w K tg (Itl K a) [it] it (λi h=>h.IsListIter it a i) where
 mem:=by simp
 obj:=λi h st b hb=>by
  have e:b=it:=by simpa using hb
  subst e;obtain⟨o,e,c,d⟩:=st;exact⟨o,e,λv z=>by rw[d]at z;cases z⟩
 keep:=λi h h' st k=>st.at λo e=>k it (by simp) o e
 item:=by
  walk_at"a";obtain⟨xs,x,hq,hx⟩:=hg;obtain⟨its,rv,p,hz⟩:=I.list hq;obtain⟨u,hu,ru⟩:=rv.get hx;obtain⟨f0,f1,f2,f3,f4,f5⟩:=hf it (by simp);refine wpAny_pyNext_list_item st p.isList (x:=u) (by simpa using hu) λh' Bt sb=>?_;have I1:Inv X Z Y H {s with heap:=h'}:=I.turned (t':=s.toks) (λb o hb e=>(sb.2 b hb).trans e) f0 f1 f3 f4 f5;obtain⟨o,e,c,d⟩:=id Bt;exact⟨u,Dn,j4 (s:={s with heap:=h'}) e c d (by decide) ⟨x,H,I1,ru,⟨Dn,λys hy=>by rw[I.list_inj hy hq];exact hx⟩,Bt,λb hb=>(hf b hb).1⟩⟩
 done:=by
  walk_at"a";obtain⟨xs,hq,hx⟩:=hg;obtain⟨its,rv,p,hz⟩:=I.list hq;obtain⟨f0,f1,f2,f3,f4,f5⟩:=hf it (by simp);have hl:=rv.length;exact wpAny_pyNext_list_end (I.ok.hd hc) st p.isList (by simp;lia) λh' eb=>⟨rfl,I.turned (t':=s.toks) (λb o hb e=>eb b o hb e) f0 f1 f3 f4 f5⟩
 self:=λ_ _ _ _ _ st h=>wpAny_pyIter_listiter st h
theorem qy(a it:WS):Turn P w K tg (Itt K a) [it] it (λi h=>h.IsTupleIter it a i) where
 mem:=by simp
 obj:=λi h st b hb=>by
  have e:b=it:=by simpa using hb
  subst e;obtain⟨o,e,c,d⟩:=st;exact⟨o,e,λv z=>by rw[d]at z;cases z⟩
 keep:=λi h h' st k=>st.at λo e=>k it (by simp) o e
 item:=by
  walk_at"a";obtain⟨xs,x,hq,hx⟩:=hg;obtain⟨its,rv,p,hz⟩:=I.tuple hq;obtain⟨u,hu,ru⟩:=rv.get hx;obtain⟨f0,f1,f2,f3,f4,f5⟩:=hf it (by simp);refine wpAny_pyNext_tuple_item st (show s.1.IsTuple a its.toArray from p) (x:=u) (by simpa using hu) λh' Bt sb=>?_;have I1:Inv X Z Y H {s with heap:=h'}:=I.turned (t':=s.toks) (λb o hb e=>(sb.2 b hb).trans e) f0 f1 f3 f4 f5;obtain⟨o,e,c,d⟩:=id Bt;exact⟨u,Dn,j4 (s:={s with heap:=h'}) e c d (by decide) ⟨x,H,I1,ru,⟨Dn,λys hy=>by rw[I.tuple_inj hy hq];exact hx⟩,Bt,λb hb=>(hf b hb).1⟩⟩
 done:=by
  walk_at"a";obtain⟨xs,hq,hx⟩:=hg;obtain⟨its,rv,p,hz⟩:=I.tuple hq;obtain⟨f0,f1,f2,f3,f4,f5⟩:=hf it (by simp);have hl:=rv.length;exact wpAny_pyNext_tuple_end (I.ok.hd hc) st (show s.1.IsTuple a its.toArray from p) (by simp;lia) λh' eb=>⟨rfl,I.turned (t':=s.toks) (λb o hb e=>eb b o hb e) f0 f1 f3 f4 f5⟩
 self:=λ_ _ _ _ _ st h=>wpAny_pyIter_tupleiter st h
theorem pU(it:WS)(lo:Int)(n:Nat):Turn P w K tg (Itr lo n) [it] it (λi h=>IsRangeIter h it (lo+(i:Nat) * 1) ((n:Int) - (i:Nat)) 1) where
 mem:=by simp
 obj:=λi h st b hb=>by
  have e:b=it:=by simpa using hb
  subst e
  exact⟨_,st,λv z=>by
   have z':Data.fields _=Data.cell v:=z;cases z'⟩
 keep:=λi h h' st k=>k it (by simp) _ st
 item:=by
  walk_at"a";obtain⟨f0,f1,f2,f3,f4,f5⟩:=hf it (by simp);have W:=Walks.range (prog:=X.prog) (w:=X.w) (I.ok.hd hc) it lo 1 n;refine W.item i s _ _ hg st λv h' tk hv Bt kk=>?_;obtain⟨t,rfl⟩:=hv;have I1:Inv X Z Y H {s with heap:=h',toks:=tk}:=I.turned (λb o hb e=>kk b o (by simpa using hb) e) f0 f1 f3 f4 f5;refine⟨_,Dn,j4 (s:={s with heap:=h',toks:=tk}) (n:="range_iterator") Bt rfl rfl (by decide) ⟨.int (lo+i),H,I1,⟨t,?_⟩,⟨Dn,Dn⟩,Bt,λb hb=>(hf b hb).1⟩⟩;rw[Int.mul_one]
 done:=by
  walk_at"a";obtain⟨f0,f1,f2,f3,f4,f5⟩:=hf it (by simp);exact wpAny_pyNext_range_end (I.ok.hd hc) st (by have:n<=i:=hg;lia) λh' eb=>⟨rfl,I.turned (t':=s.toks) (λb o hb e=>eb b o hb e) f0 f1 f3 f4 f5⟩
 self:=λ_ _ _ _ _ st h=>wpAny_pyIter_rangeiter st h
end L2
open L2.SqT renaming of->l!
open L2.SqL renaming of->n!
variable{g:L2.TG}{wi:L2.TI}{J:L2.It}
namespace L2
open PySem PySem.Spec PyProof.Rows
section
variable{X:Cx}
def yv(K:WW)(tl:TE):TI:=λY H R=>tl Y H λx H1=>∃a,x=.ref a/\(∃xs,SqL K H1 a xs)/\R (Itl K a) H1
def zr(K:WW)(tl:TE):TI:=λY H R=>tl Y H λx H1=>∃a,x=.ref a/\(∃xs,SqT K H1 a xs)/\R (Itt K a) H1
theorem cT{l:XZ}(hl:PE X l tl):PI X tg l (yv X.K tl):=by
 intro Z s Y H R I h;refine thn (hl Z s Y H _ I h) λv s1⟨x,H1,I1,r1,q1⟩=>?_;obtain⟨a,e,⟨xs,hq⟩,q⟩:=q1;subst e;cases r1;obtain⟨its,rv,p,hz⟩:=I1.list hq;refine wpAny_pyIter_list p.isList ?_;refine⟨s1.1.1.size,[s1.1.1.size],_,_,H1,Dn,I1.kept (t':=s1.toks) λb o e=>WU _ e,sN a _,⟨_,W3 _ rfl,Dn,Dn⟩,λb hb=>?_,q⟩;have e:b=s1.1.1.size:=by simpa using hb
 subst e;exact I1.fpOk (W0 _) (I1.hok.fresh (W0 _))
theorem dJ{l:XZ}(hl:PE X l tl):PI X tg l (zr X.K tl):=by
 intro Z s Y H R I h;refine thn (hl Z s Y H _ I h) λv s1⟨x,H1,I1,r1,q1⟩=>?_;obtain⟨a,e,⟨xs,hq⟩,q⟩:=q1;subst e;cases r1;obtain⟨its,rv,p,hz⟩:=I1.tuple hq;refine Z4 (show s1.1.IsTuple a its.toArray from p) ?_;refine⟨s1.1.1.size,[s1.1.1.size],_,_,H1,Dn,I1.kept (t':=s1.toks) λb o e=>WU _ e,qy a _,⟨_,W3 _ rfl,Dn,Dn⟩,λb hb=>?_,q⟩;have e:b=s1.1.1.size:=by simpa using hb
 subst e;exact I1.fpOk (W0 _) (I1.hok.fresh (W0 _))
theorem oJ{R:It->Hp->Prop}{lo hi:Int}{t u v:Tok}{tk:Nat}(I:Inv X Z Y H s)(h1:-(2 ^ 62)<=lo)(h2:lo<2 ^ 62)(h3:-(2 ^ 62)<=hi)(h4:hi<2 ^ 62)
 (q:R (Itr lo (hi - lo).toNat) H):Xf (Xx X.prog X.w) X.A (pyIter (.ref s.1.1.size)) (PIE X Z Y tg R) E {s with heap:=s.1.push {cls:=.type "range",data:=.fields #[.int lo t,.int hi u,.int 1 v]},toks:=tk}:=by
 refine wpAny_pyIter_range (IsRange.new ..) (small_one h1 h2 h3 h4) ?_;have I1:Inv X Z Y H {s with heap:=s.1.push {cls:=.type "range",data:=.fields #[.int lo t,.int hi u,.int 1 v]},toks:=tk}:=I.kept λb o e=>WU _ e
 refine⟨(s.1.push {cls:=.type "range",data:=.fields #[.int lo t,.int hi u,.int 1 v]}).objs.size,[(s.1.push {cls:=.type "range",data:=.fields #[.int lo t,.int hi u,.int 1 v]}).objs.size],_,_,H,Dn,
  I1.kept (t':=tk) λb o e=>WU _ e,pU _ lo (hi - lo).toNat,?_,λb hb=>?_,q⟩
 .have e1:lo+((0:Nat):Int) * 1=lo:=by simp
  have e2:(((hi - lo).toNat:Nat):Int) - ((0:Nat):Int)=Builtin.Range.rangeSize lo hi 1:=by rw[rangeSize_one];split <;> lia
  show IsRangeIter _ _ (lo+((0:Nat):Int) * 1) ((((hi - lo).toNat:Nat):Int) - ((0:Nat):Int)) 1;rw[e1,e2];exact W3 _ rfl
 .have e:b=(s.1.push {cls:=.type "range",data:=.fields #[.int lo t,.int hi u,.int 1 v]}).objs.size:=by simpa using hb
  subst e;exact I1.fpOk (W0 _) (I1.hok.fresh (W0 _))
def yt(ta:TA):TI:=λY H R=>ta Y H λvs H1=>∃j:Int,vs=[.int j]/\-(2 ^ 62)<=j/\j<2 ^ 62/\R (Itr 0 j.toNat) H1
def y4(ta:TA):TI:=λY H R=>ta Y H λvs H1=>∃i j:Int,vs=[.int i,.int j]/\(-(2 ^ 62)<=i/\i<2 ^ 62/\-(2 ^ 62)<=j/\j<2 ^ 62)/\R (Itr i (j - i).toNat) H1
theorem cf{a:XZ}{ta:TA}{p:Z9}(hg:Gl X "range")(hm:X.mg "range"=B?)(ha:PA X [a] ta)(hs:XE [a] X.env=[(D?,YQ a X.env)]:=by rfl):PI X tg (.Call (.Name "range" p) [a] [] pos) (yt ta):=by
 intro Z s Y H R I h;refine Call_ (d6 I hg hm boot_range (Yl (thn (ha pos Z s Y H _ I h) λus s1⟨vs,H1,I1,r1,q1⟩=>?_) hs rfl));obtain⟨j,e,q1,q2,q⟩:=q1;subst e;cases r1 with
 | cons r rr =>
   cases rr;obtain⟨t,rfl⟩:=r;exact call_range_1 (oJ I1 (by lia) (by lia) q1 q2 (by simpa using q))
theorem lR{a b:XZ}{ta:TA}{p:Z9}(hg:Gl X "range")(hm:X.mg "range"=B?)(ha:PA X [a,b] ta)(hs:XE [a,b] X.env=[(D?,YQ a X.env),(D?,YQ b X.env)]:=by rfl)(EV:XE [b] X.env=[(D?,YQ b X.env)]:=by rfl) :
 PI X tg (.Call (.Name "range" p) [a,b] [] pos) (y4 ta):=by
 intro Z s Y H R I h;refine Call_ (d6 I hg hm boot_range (Yl (thn (ha pos Z s Y H _ I h) λus s1⟨vs,H1,I1,r1,q1⟩=>?_) (by rw[hs,EV]) (by rw[EV];rfl)));obtain⟨i,j,e,⟨q1,q2,q3,q4⟩,q⟩:=q1;subst e;cases r1 with
 | cons r rr =>
   cases rr with
   | cons r' rr =>
     cases rr;obtain⟨t,rfl⟩:=r;obtain⟨t',rfl⟩:=r';exact call_range_2 (oJ I1 q1 q2 q3 q4 q)
def zJ(wi:TI)(g:TG)(tb:TS):TS:=λD Y H=>wi Y H λJ H1=>∃W:Nat->Nat->St->Hp->Prop,(∃m,W 0 m Y H1)/\∀i m Y H,W i m Y H ->
 (J.stop i H/\D.nx Y H)\/(J.go i H/\∃N:St->Hp->Prop,(∀l' H',N l' H'->∃m',m'<m/\W (i+1) m' l' H')/\∀x H',J.yld i H x H'->g x Y H' λAg H2=>tb {D with nx:=N,ct:=N,bk:=D.nx} Ag H2)
def kM(fp:List WS)(h:X3):List (WS×YF):=fp.filterMap λb=>(h.get? b).map λo=>(b,o)
theorem eS{o:YF}(hb:b∈fp)(e:h.get? b=A? o):(b,o)∈kM fp h:=List.mem_filterMap.mpr ⟨b,hb,by rw[e];rfl⟩
theorem tN{p:WS×YF}(hp:p∈kM fp h):p.1∈fp/\h.get? p.1=A? p.2:=by
 obtain⟨b,hb,e⟩:=List.mem_filterMap.mp hp;cases q:h.get? b with
 |none=>rw[q]at e;cases e
 | some o =>
   rw[q]at e;have e':(b,o)=p:=Xh e;subst e';exact⟨hb,q⟩
theorem Inv.pinned(I:Inv X Z Y H s)(hf:∀b∈fp,jd X Z H b)(ho:∀b∈fp,∃o,s.1.get? b=A? o/\∀v,o.data≠.cell v):Inv X (Z++kM fp s.1) Y H s :=
 I.pins_of λp hp=>(W7.mp hp).elim (λz=>I.pin p (Xl _ z)) λz=>by
  obtain⟨hb,e⟩:=tN z;obtain⟨f0,f1,f2,_⟩:=hf p.1 hb;obtain⟨o,e',d⟩:=ho p.1 hb;rw[e]at e';cases e';exact⟨e,f0,f1,f2,d⟩
theorem Inv.unpinned{pl:List (WS×YF)}(I:Inv X (Z++pl) Y H s):Inv X Z Y H s:=I.pins_of λp hp=>I.pin p (Xl _ (Xg _ hp))
theorem br(hp:PassesOwn (Xx X.prog X.w) X.A X.env X.xe)(hc:X.calm=C?)(hi:PI X tg iter wi)(hg:PG X tg g)(hb:PSs X body tb)
 (hs:∀x,foldedSetIterable iter X.env x=pure x:=by intro _;rfl):PS X (.For tg iter body [] pos) (zJ wi g tb):=by
 intro Z s Y H D I h;refine wpAny_For (thn (hi Z s Y H _ I h) λv s1 h1=>thn h1 λLV s2 h2=>?_) hs;obtain⟨it,fp,tn,J,H2,e,I2,T,Jq,f2,W,⟨m0,w0⟩,turn⟩:=h2;subst e
 have CY:∀{H':Hp},(∀b∈fp,H' b=B?)->∀b∈fp,jd X Z H' b:=λhn b hb=>⟨hn b hb,(f2 b hb).2⟩;refine codeAny_forLoop_any (λn s'=>∃i l' H',Inv X Z l' H' s'/\tn i s'.1/\(∀b∈fp,H' b=B?)/\W i n l' H') ?_ m0 ⟨0,Y,H2,I2,Jq,λb hb=>(f2 b hb).1,w0⟩;rintro n s3 ⟨i,Ed,H3,I3,RB,F7,w3⟩;rcases turn i n Ed H3 w3 with⟨stop,qn⟩|⟨go,N,hN,step⟩
 .refine Z6 hp (thn (T.done X rfl rfl rfl hc i Z s3 Ed H3 X.xe I3 (CY F7) RB stop) λr s4⟨hr,I4⟩=>?_);subst hr;exact wpAny_execs_nil ⟨Ed,H3,I4,qn⟩
 .refine Z6 hp (thn (T.item X rfl rfl rfl hc i Z s3 Ed H3 X.xe I3 (CY F7) RB go) λr s4⟨u,hr,h4⟩=>?_);subst hr;refine Z6 hp (thn h4 λ_ s5⟨x,H5,I5,r5,y5,Ip,Fd⟩=>?_);have T9:=I5.pinned (CY Fd) (T.obj _ _ Ip);refine Z6 hp (thn (hg _ s5 Ed H5 x u _ T9 r5 (step x H5 y5)) λ_ s6⟨T',H6,I6,q6⟩=>?_);refine Z6 hp (thn (hb _ s6 T' H6 _ I6 q6) λf s7 q7=>?_)
  have again:∀{Ee:St}{H7:Hp},Inv X (Z++kM fp s5.1) Ee H7 s7->N Ee H7->∃m,m<n/\∃i l' H',Inv X Z l' H' s7/\tn i s7.1/\(∀b∈fp,H' b=B?)/\W i m l' H':=λ{Ee H7}I7 n7=>by
   obtain⟨m',hm,w7⟩:=hN Ee H7 n7;refine⟨m',hm,i+1,Ee,H7,I7.unpinned,T.keep _ _ _ Ip λb hb o e=>(I7.pin (b,o) (Xl _ (Xl _ (eS hb e)))).1,λb hb=>?_,w7⟩;obtain⟨o,e,d⟩:=T.obj _ _ Ip b hb;exact(I7.pin (b,o) (Xl _ (Xl _ (eS hb e)))).2.1
  cases f with
  |next=>obtain⟨Ee,H7,I7,n7⟩:=q7;exact again I7 n7
  |cont=>obtain⟨Ee,H7,I7,n7⟩:=q7;exact again I7 n7
  |brk=>obtain⟨Ee,H7,I7,q7⟩:=q7;exact⟨Ee,H7,I7.unpinned,q7⟩
  |ret v=>obtain⟨x7,Ee,H7,I7,r7,q7⟩:=q7;exact⟨x7,Ee,H7,I7.unpinned,r7,q7⟩
end
theorem fL(Pv:Nat->St->Hp->Prop)(h0:Pv 0 Y H)(hl:∀i Y H,i<=xs.length->Pv i Y H->SqL K H a xs)
 (hs:∀i x Y H,xs[i]?=A? x->Pv i Y H->g x Y H λAg H2=>tb {D with nx:=Pv (i+1),ct:=Pv (i+1),bk:=D.nx} Ag H2) (hd:∀Y H,Pv xs.length Y H->D.nx Y H) :
 ∃W:Nat->Nat->St->Hp->Prop,(∃m,W 0 m Y H)/\∀i m Y H,W i m Y H ->
   ((Itl K a).stop i H/\D.nx Y H)\/((Itl K a).go i H/\∃N:St->Hp->Prop,(∀l' H',N l' H'->∃m',m'<m/\W (i+1) m' l' H')/\∀x H',(Itl K a).yld i H x H'->g x Y H' λAg H2=>tb {D with nx:=N,ct:=N,bk:=D.nx} Ag H2):=by
 refine⟨λi m Y H=>m=xs.length - i/\i<=xs.length/\Pv i Y H,⟨xs.length,by simp,XA _,h0⟩,?_⟩;rintro i m Y H ⟨rfl,hi,p⟩;have q:=hl i Y H hi p;by_cases Ad:i<xs.length
 .refine .inr ⟨⟨xs,xs[i],q,by simp[Ad]⟩,Pv (i+1),λl' H' p'=>⟨xs.length - (i+1),by lia,rfl,Ad,p'⟩,λx H' y=>?_⟩;obtain⟨e,y⟩:=y;subst e;exact hs i x Y _ (y xs q) p
 .have e:i=xs.length:=by lia
  subst e;exact .inl ⟨⟨xs,q,W0 _⟩,hd Y H p⟩
theorem qV(Pv:Nat->St->Hp->Prop)(h0:Pv 0 Y H)(hl:∀i Y H,i<=xs.length->Pv i Y H->SqT K H a xs)
 (hs:∀i x Y H,xs[i]?=A? x->Pv i Y H->g x Y H λAg H2=>tb {D with nx:=Pv (i+1),ct:=Pv (i+1),bk:=D.nx} Ag H2) (hd:∀Y H,Pv xs.length Y H->D.nx Y H) :
 ∃W:Nat->Nat->St->Hp->Prop,(∃m,W 0 m Y H)/\∀i m Y H,W i m Y H ->
   ((Itt K a).stop i H/\D.nx Y H)\/((Itt K a).go i H/\∃N:St->Hp->Prop,(∀l' H',N l' H'->∃m',m'<m/\W (i+1) m' l' H')/\∀x H',(Itt K a).yld i H x H'->g x Y H' λAg H2=>tb {D with nx:=N,ct:=N,bk:=D.nx} Ag H2):=by
 refine⟨λi m Y H=>m=xs.length - i/\i<=xs.length/\Pv i Y H,⟨xs.length,by simp,XA _,h0⟩,?_⟩;rintro i m Y H ⟨rfl,hi,p⟩;have q:=hl i Y H hi p;by_cases Ad:i<xs.length
 .refine .inr ⟨⟨xs,xs[i],q,by simp[Ad]⟩,Pv (i+1),λl' H' p'=>⟨xs.length - (i+1),by lia,rfl,Ad,p'⟩,λx H' y=>?_⟩;obtain⟨e,y⟩:=y;subst e;exact hs i x Y _ (y xs q) p
 .have e:i=xs.length:=by lia
  subst e;exact .inl ⟨⟨xs,q,W0 _⟩,hd Y H p⟩
theorem cj{lo:Int}(Pv:Nat->St->Hp->Prop)(h0:Pv 0 Y H)
 (hs:∀i Y H,i<n->Pv i Y H->g (.int (lo+i)) Y H λAg H2=>tb {D with nx:=Pv (i+1),ct:=Pv (i+1),bk:=D.nx} Ag H2) (hd:∀Y H,Pv n Y H->D.nx Y H) :
 ∃W:Nat->Nat->St->Hp->Prop,(∃m,W 0 m Y H)/\∀i m Y H,W i m Y H ->
   ((Itr lo n).stop i H/\D.nx Y H)\/((Itr lo n).go i H/\∃N:St->Hp->Prop,(∀l' H',N l' H'->∃m',m'<m/\W (i+1) m' l' H')/\∀x H',(Itr lo n).yld i H x H'->g x Y H' λAg H2=>tb {D with nx:=N,ct:=N,bk:=D.nx} Ag H2):=by
 refine⟨λi m Y H=>m=n - i/\i<=n/\Pv i Y H,⟨n,by simp,XA _,h0⟩,?_⟩;rintro i m Y H ⟨rfl,hi,p⟩;by_cases Ad:i<n
 .refine .inr ⟨Ad,Pv (i+1),λl' H' p'=>⟨n - (i+1),by lia,rfl,Ad,p'⟩,λx H' y=>?_⟩;obtain⟨e,y⟩:=y;subst e y;exact hs i Y _ Ad p
 .have e:i=n:=by lia
  subst e;exact .inl ⟨W0 _,hd Y H p⟩
abbrev R2:=V->V->Hp->VK->Prop
def OpR(X:Cx)(f:WV->WV->Sem WV)(r:R2):Prop :=
 ∀(Z:List (WS×YF))(s:WZ)(Y:St)(H:Hp)(x y:V)(v u:WV)(Q:VK),Inv X Z Y H s->RelV x v->RelV y u->r x y H Q ->
   Xf (Xx X.prog X.w) X.A (f v u) (EP X Z Y Q) X.xe s
def UnR(X:Cx)(f:WV->Sem WV)(r:V->Hp->VK->Prop):Prop :=
 ∀(Z:List (WS×YF))(s:WZ)(Y:St)(H:Hp)(x:V)(v:WV)(Q:VK),Inv X Z Y H s->RelV x v->r x H Q ->
   Xf (Xx X.prog X.w) X.A (f v) (EP X Z Y Q) X.xe s
def dm(X:Cx)(f:WV)(r:List V->Hp->VK->Prop):Prop :=
 ∀(Z:List (WS×YF))(s:WZ)(Y:St)(H:Hp)(xs:List V)(us:List WV)(Q:VK),Inv X Z Y H s->Vals xs us->r xs H Q ->
   Xf (Xx X.prog X.w) X.A (call f us) (EP X Z Y Q) X.xe s
def zC(X:Cx)(r:V->Hp->(Bool->Hp->Prop)->Prop):Prop :=
 ∀(Z:List (WS×YF))(s:WZ)(Y:St)(H:Hp)(x:V)(v:WV)(Q:Bool->Hp->Prop),Inv X Z Y H s->RelV x v->r x H Q ->
   Xf (Xx X.prog X.w) X.A (truthy v) (TP X Z Y Q) X.xe s
def tOp(r:R2)(ta tb:TE):TE:=λY H Q=>ta Y H λx H1=>tb Y H1 λy H2=>r x y H2 Q
def tUn(r:V->Hp->VK->Prop)(ta:TE):TE:=λY H Q=>ta Y H λx H1=>r x H1 Q
inductive IrI(C:Int->Int->Prop)(g:Int->Int->V)(x:V)(y:V)(H:Hp)(Q:VK):Prop
 |mk (i:_) (j:_) (BR:x=.int i) (BS:y=.int j) (CZ:C i j) (EW:Q (g i j) H):IrI C g x y H Q
def rI(C:Int->Int->Prop)(g:Int->Int->V):R2:=IrI C g
inductive yM(g:Int->Int->V)(x:V)(y:V)(H:Hp)(Q:VK):Prop
 |mk (i:_) (j:_) (BR:x=.int i) (BS:y=.int j) (CZ:Q (g i j) H):yM g x y H Q
def rI0(g:Int->Int->V):R2:=yM g
inductive IrU(g:Int->V)(x:V)(H:Hp)(Q:VK):Prop
 |mk (i:_) (BR:x=.int i) (BS:Q (g i) H):IrU g x H Q
def rU(g:Int->V):V->Hp->VK->Prop:=IrU g
section
variable{X:Cx}{a b c:XZ}{ta tb tc:TE}
theorem xI(ha:PE X a ta)(hb:PE X b tb){R:V->V->Hp->Prop}(I:Inv X Z Y H s)
 (h:ta Y H λx H1=>tb Y H1 λy H2=>R x y H2) {f:WV->WV->Sem WV}
 (hf:∀v u s2 x y H2,Inv X Z Y H2 s2->RelV x v->RelV y u->R x y H2->Xf (Xx X.prog X.w) X.A (f v u) Q X.xe s2) :
 Xf (Xx X.prog X.w) X.A (YQ a X.env) (λv zX=>Xf (Xx X.prog X.w) X.A (YQ b X.env) (λu A8=>Xf (Xx X.prog X.w) X.A (f v u) Q X.xe A8) X.xe zX) X.xe s:=by
 refine thn (ha Z s Y H _ I h) λv s1⟨x,H1,I1,r1,q1⟩=>?_;refine thn (hb Z s1 Y H1 _ I1 q1) λu s2⟨y,H2,I2,r2,q2⟩=>?_;exact hf v u s2 x y H2 I2 r1 r2 q2
theorem av{op:Operator}{r:R2}(ho:OpR X (Z7 op) r)(ha:PE X a ta)(hb:PE X b tb):PE X (.BinOp a op b pos) (tOp r ta tb):=by
 intro Z s Y H Q I h;exact wpAny_BinOp (xI ha hb I h λv u s2 x y H2 I2 rx ry q=>ho Z s2 Y H2 x y v u Q I2 rx ry q)
theorem xi{op:UnaryOp}{r:V->Hp->VK->Prop}(ho:UnR X (unaryOp op) r)(ha:PE X a ta):PE X (.UnaryOp op a pos) (tUn r ta):=by
 intro Z s Y H Q I h;exact UnaryOp_ (thn (ha Z s Y H _ I h) λv s1⟨x,H1,I1,r1,q1⟩=>ho Z s1 Y H1 x v Q I1 r1 q1)
theorem opI{f:WV->WV->Sem WV}{C:Int->Int->Prop}{g:Int->Int->Int}
 (rule:∀(i j:Int)(t u:Tok)(s:WZ)(Q:WV->WZ->Prop)(E:WV->WZ->Prop),C i j->Q (.int (g i j) s.toks) {s with toks:=s.toks+1}->Xf (Xx X.prog X.w) X.A (f (.int i t) (.int j u)) Q E s) :
 OpR X f (rI C λi j=>.int (g i j)):=by
 intro Z s Y H x y v u Q I rx ry h;obtain⟨i,j,rfl,rfl,hc,q⟩:=h;obtain⟨t,rfl⟩:=rx;obtain⟨t',rfl⟩:=ry;exact rule i j t t' s _ _ hc ⟨.int (g i j),H,I.tok _,⟨_,rfl⟩,q⟩
theorem yx{f:WV->WV->Sem WV}{g:Int->Int->Int}
 (rule:∀(i j:Int)(t u:Tok)(s:WZ)(Q:WV->WZ->Prop)(E:WV->WZ->Prop),Q (.int (g i j) s.toks) {s with toks:=s.toks+1}->Xf (Xx X.prog X.w) X.A (f (.int i t) (.int j u)) Q E s) :
 OpR X f (rI0 λi j=>.int (g i j)):=by
 intro Z s Y H x y v u Q I rx ry h;obtain⟨i,j,rfl,rfl,q⟩:=h;obtain⟨t,rfl⟩:=rx;obtain⟨t',rfl⟩:=ry;exact rule i j t t' s _ _ ⟨.int (g i j),H,I.tok _,⟨_,rfl⟩,q⟩
theorem wo{f:WV->WV->Sem WV}{g:Int->Int->Bool}
 (rule:∀(i j:Int)(t u:Tok)(s:WZ)(Q:WV->WZ->Prop)(E:WV->WZ->Prop),Q (.bool (g i j)) s->Xf (Xx X.prog X.w) X.A (f (.int i t) (.int j u)) Q E s) :
 OpR X f (rI0 λi j=>.bl (g i j)):=by
 intro Z s Y H x y v u Q I rx ry h;obtain⟨i,j,rfl,rfl,q⟩:=h;obtain⟨t,rfl⟩:=rx;obtain⟨t',rfl⟩:=ry;exact rule i j t t' s _ _ ⟨.bl (g i j),H,I,rfl,q⟩
def zM(i j:Int):Prop:=0<j/\j<1073741824
def CMul(i j:Int):Prop:=(-(2 ^ 64)<i/\i<2 ^ 64)\/(-(2 ^ 64)<j/\j<2 ^ 64)
theorem CMul.ok{i j:Int}(h:CMul i j):IntMulOk i j:=by
 rcases h with⟨h1,h2⟩|⟨h1,h2⟩
 .exact .of_left (intBits_le_64 h1 h2)
 .exact .of_right (intBits_le_64 h1 h2)
theorem bz:OpR X (Z7 .Add) (rI0 λi j=>.int (i+j)):=yx λ_ _ _ _ _ _ _ q=>add_int q
theorem fP:OpR X (Z7 .Sub) (rI0 λi j=>.int (i - j)):=yx λ_ _ _ _ _ _ _ q=>sub_int q
theorem dF:OpR X (Z7 .Mult) (rI CMul λi j=>.int (i * j)):=opI λ_ _ _ _ _ _ _ hc q=>mul_int q hc.ok
theorem bU:OpR X (Z7 .FloorDiv) (rI zM λi j=>.int (i / j)):=opI λi j _ _ _ _ _ hc q=>by
 have h1:(0:Int)<j:=hc.1;have h2:j<1073741824:=hc.2;exact floordiv_int (by lia) (by rw[Int.fdiv_eq_ediv_of_nonneg i (by lia)];exact q) (.inl (PyProof.noPylong_small (by lia)))
theorem bB:OpR X (Z7 .Mod) (rI (λ_ j=>0<j) λi j=>.int (i%j)):=opI λi j _ _ _ _ _ hc q=>by
 have h1:(0:Int)<j:=hc;exact mod_int' (by lia) (by rw[Int.fmod_eq_emod_of_nonneg i (by lia)];exact q)
theorem unI{f:WV->Sem WV}{g:Int->Int}
 (rule:∀(i:Int)(t:Tok)(s:WZ)(Q:WV->WZ->Prop)(E:WV->WZ->Prop),Q (.int (g i) s.toks) {s with toks:=s.toks+1}->Xf (Xx X.prog X.w) X.A (f (.int i t)) Q E s) :
 UnR X f (rU λi=>.int (g i)):=by
 intro Z s Y H x v Q I rx h;obtain⟨i,rfl,q⟩:=h;obtain⟨t,rfl⟩:=rx;exact rule i t s _ _ ⟨.int (g i),H,I.tok _,⟨_,rfl⟩,q⟩
theorem uU:UnR X (unaryOp .USub) (rU λi=>.int (-i)):=unI λ_ _ _ _ _ q=>neg_int q
end
def yN:V->V->Bool
 |.non,.non=>C?|.non,.int _=>C?|.int _,.non=>C?|.non,.bl _=>C?|.bl _,.non=>C?|.non,.str _=>C?|.str _,.non=>C?
 |.int _,.int _=>C?|.bl _,.bl _=>C?|.str _,.str _=>C?|.byt _,.byt _=>C?
 |.int _,.str _=>C?|.str _,.int _=>C?|.bl _,.str _=>C?|.str _,.bl _=>C?
 |_,_=>D?
inductive yP(x:V)(y:V)(H:Hp)(Q:VK):Prop
 |mk  (BR:yN x y=C?) (BS:Q (.bl (decide (x=y))) H):yP  x y H Q
def rEq:R2:=yP
inductive yG(x:V)(y:V)(H:Hp)(Q:VK):Prop
 |mk  (BR:yN x y=C?) (BS:Q (.bl (!decide (x=y))) H):yG  x y H Q
def rNe:R2:=yG
theorem rT{i j:Int}:decide (o! i=o! j)=(i == j):=by
 rw[ZY];simp
theorem uq{i j:Bool}:decide (V.bl i=V.bl j)=(i == j):=by
 rw[ZY];simp
theorem rC{i j:Xj}:decide (F! i=F! j)=(i == j):=by
 rw[ZY];simp
theorem rh{i j:Array UInt8}:decide (V.byt i=V.byt j)=(i.toList == j.toList):=by
 rw[ZY];cases i;cases j;simp
section
variable{X:Cx}{a b c:XZ}{ta tb tc:TE}
theorem aZ{Q:VK}{k k':Bool}(I:Inv X Z Y H s)(q:Q (.bl k) H)(e:k=k'):EP X Z Y Q (.bool k') s:=by
 subst e;exact⟨.bl k,H,I,Dn,q⟩
theorem gA:OpR X (Zf .Eq) rEq:=by
 intro Z s Y H x y v u Q I rx ry h;obtain⟨hs,q⟩:=h;cases x with
 | non =>
   cases rx;cases y with
   |non=>cases ry;exact PySem.EqNone.eq_none_none (aZ I q (by simp))
   |bl j=>cases ry;exact PySem.EqNone.eq_none_bool (aZ I q (by simp))
   |int j=>obtain⟨t',rfl⟩:=ry;exact PySem.EqNone.eq_none_int (aZ I q (by simp))
   |str j=>obtain⟨t',rfl⟩:=ry;exact PySem.EqNone.eq_none_str (aZ I q (by simp))
   |_=>exact g! (show D?=C? from hs) Xq
 | bl i =>
   cases rx;cases y with
   |non=>cases ry;exact PySem.EqNone.eq_bool_none (aZ I q (by simp))
   |bl j=>cases ry;exact eq_bool (aZ I q uq)
   |str j=>obtain⟨t',rfl⟩:=ry;exact PySem.EqMixed.eq_bool_str (aZ I q (by simp))
   |_=>exact g! (show D?=C? from hs) Xq
 | int i =>
   obtain⟨t,rfl⟩:=rx;cases y with
   |non=>cases ry;exact PySem.EqNone.eq_int_none (aZ I q (by simp))
   |int j=>obtain⟨t',rfl⟩:=ry;exact eq_int (aZ I q rT)
   |str j=>obtain⟨t',rfl⟩:=ry;exact PySem.EqMixed.eq_int_str (aZ I q (by simp))
   |_=>exact g! (show D?=C? from hs) Xq
 | str i =>
   obtain⟨t,rfl⟩:=rx;cases y with
   |non=>cases ry;exact PySem.EqNone.eq_str_none (aZ I q (by simp))
   |bl j=>cases ry;exact PySem.EqMixed.eq_str_bool (aZ I q (by simp))
   |int j=>obtain⟨t',rfl⟩:=ry;exact PySem.EqMixed.eq_str_int (aZ I q (by simp))
   |str j=>obtain⟨t',rfl⟩:=ry;exact eq_str (aZ I q rC)
   |_=>exact g! (show D?=C? from hs) Xq
 | byt i =>
   obtain⟨t,rfl⟩:=rx;cases y with
   |byt j=>obtain⟨t',rfl⟩:=ry;exact PySem.W.eq_bytes (aZ I q rh)
   |_=>exact g! (show D?=C? from hs) Xq
 |_=>cases y <;> exact g! (show D?=C? from hs) Xq
theorem ml:OpR X (Zf .NotEq) rNe:=by
 intro Z s Y H x y v u Q I rx ry h;obtain⟨hs,q⟩:=h;cases x with
 | non =>
   cases rx;cases y with
   |non=>cases ry;exact PySem.EqNone.ne_none_none (aZ I q (by simp))
   |bl j=>cases ry;exact PySem.EqNone.ne_none_bool (aZ I q (by simp))
   |int j=>obtain⟨t',rfl⟩:=ry;exact PySem.EqNone.ne_none_int (aZ I q (by simp))
   |str j=>obtain⟨t',rfl⟩:=ry;exact PySem.EqNone.ne_none_str (aZ I q (by simp))
   |_=>exact g! (show D?=C? from hs) Xq
 | bl i =>
   cases rx;cases y with
   |non=>cases ry;exact PySem.EqNone.ne_bool_none (aZ I q (by simp))
   |bl j=>cases ry;exact ne_bool (aZ I q (h! not uq))
   |str j=>obtain⟨t',rfl⟩:=ry;exact PySem.EqMixed.ne_bool_str (aZ I q (by simp))
   |_=>exact g! (show D?=C? from hs) Xq
 | int i =>
   obtain⟨t,rfl⟩:=rx;cases y with
   |non=>cases ry;exact PySem.EqNone.ne_int_none (aZ I q (by simp))
   |int j=>obtain⟨t',rfl⟩:=ry;exact ne_int (aZ I q (h! not rT))
   |str j=>obtain⟨t',rfl⟩:=ry;exact PySem.EqMixed.ne_int_str (aZ I q (by simp))
   |_=>exact g! (show D?=C? from hs) Xq
 | str i =>
   obtain⟨t,rfl⟩:=rx;cases y with
   |non=>cases ry;exact PySem.EqNone.ne_str_none (aZ I q (by simp))
   |bl j=>cases ry;exact PySem.EqMixed.ne_str_bool (aZ I q (by simp))
   |int j=>obtain⟨t',rfl⟩:=ry;exact PySem.EqMixed.ne_str_int (aZ I q (by simp))
   |str j=>obtain⟨t',rfl⟩:=ry;exact ne_str (aZ I q (h! not rC))
   |_=>exact g! (show D?=C? from hs) Xq
 | byt i =>
   obtain⟨t,rfl⟩:=rx;cases y with
   |byt j=>obtain⟨t',rfl⟩:=ry;exact PySem.W.ne_bytes (aZ I q (h! not rh))
   |_=>exact g! (show D?=C? from hs) Xq
 |_=>cases y <;> exact g! (show D?=C? from hs) Xq
theorem vn:OpR X (Zf .Lt) (rI0 λi j=>.bl (decide (i<j))):=wo λ_ _ _ _ _ _ _ q=>lt_int q
theorem yJ:OpR X (Zf .LtE) (rI0 λi j=>.bl (decide (i<=j))):=wo λ_ _ _ _ _ _ _ q=>le_int q
theorem cN:OpR X (Zf .Gt) (rI0 λi j=>.bl (decide (j<i))):=wo λ_ _ _ _ _ _ _ q=>gt_int q
theorem yT:OpR X (Zf .GtE) (rI0 λi j=>.bl (decide (j<=i))):=wo λ_ _ _ _ _ _ _ q=>ge_int q
theorem aK(b:XZ)(h:op≠.In:=by decide)(h2:op≠.NotIn:=by decide):behindInMarks op b=false:=by
 have e1:(op == CmpOp.In)=false:=by cases op <;> first|rfl|exact g! rfl h
 have e2:(op == CmpOp.NotIn)=false:=by cases op <;> first|rfl|exact g! rfl h2
 cases b <;> simp[behindInMarks,e1,e2]
theorem eT{r:R2}(ho:OpR X (Zf op) r)(ha:PE X a ta)(hb:PE X b tb)(hm:behindInMarks op b=D?):PE X (.Compare a [op] [b] pos) (tOp r ta tb):=by
 intro Z s Y H Q I h;exact wpAny_Compare1 (xI ha hb I h λv u s2 x y H2 I2 rx ry q=>ho Z s2 Y H2 x y v u Q I2 rx ry q) hm
inductive wX(x:V)(Q:Bool->Hp->Prop)(H':Hp):Prop
 |mk (k:Bool) (BR:x=.bl k) (BS:Q k H'):wX x Q H'
def ph(t:TE):TT:=λY H Q=>t Y H λx H'=>wX x Q H'
theorem aI{r:R2}(ho:OpR X (Zf op) r)(ha:PE X a ta)(hb:PE X b tb)(hm:behindInMarks op b=D?):PT X (.Compare a [op] [b] pos) (ph (tOp r ta tb)):=by
 intro Z s Y H Q I h
 refine wpAny_isTrue_Compare1 (thn (ha Z s Y H _ I h) λv s1⟨x,H1,I1,r1,q1⟩=>thn (hb Z s1 Y H1 _ I1 q1) λu s2⟨y,H2,I2,r2,q2⟩ =>
  thn (ho Z s2 Y H2 x y v u _ I2 r1 r2 q2) λc s3⟨z,H3,I3,r3,k,e,q3⟩=>?_) hm
 subst e;cases r3;exact ZH ⟨H3,I3,q3⟩
def xF(r r':R2)(ta tb tc:TE):TE:=λY H Q=>ta Y H λx H1=>tb Y H1 λy H2=>r x y H2 λz H3=>∃k,z=.bl k /\
 (if k=C? then tc Y H3 λw' H4=>r' y w' H4 Q else Q (.bl D?) H3)
theorem uv{Nb:CmpOp}{r r':R2}(ho:OpR X (Zf op) r)(B0:OpR X (Zf Nb) r')(ha:PE X a ta)(hb:PE X b tb)(hc:PE X c tc)
 (hm:lastMarks [op,Nb] [b,c]=false:=by with_unfolding_all rfl):PE X (.Compare a [op,Nb] [b,c] pos) (xF r r' ta tb tc):=by
 intro Z s Y H Q I h
 refine Compare_chain (thn (ha Z s Y H _ I h) λv s1⟨x,H1,I1,r1,q1⟩=>chain_link (thn (hb Z s1 Y H1 _ I1 q1) λu s2⟨y,H2,I2,r2,q2⟩ =>
  thn (ho Z s2 Y H2 x y v u _ I2 r1 r2 q2) λd s3⟨z,H3,I3,r3,k,e,q3⟩=>?_)) hm
 subst e;cases r3;refine ZH ?_;cases k with
 |false=>exact ite_ff ⟨.bl D?,H3,I3,rfl,q3⟩
 |true=>exact ite_tt (chain_last (thn (hc Z s3 Y H3 _ I3 q3) λw' s4⟨z',H4,I4,r4,q4⟩=>B0 Z s4 Y H4 y z' u w' Q I4 r2 r4 q4))
def vt(K:WW)(x:V)(H:Hp)(k:Bool):Prop :=
 match x with
 |.non=>k=D?
 |.bl b=>k=b
 |.int i=>k=(i != 0)
 |.str y=>y.length<=Xi/\k=((y.length:Int) != 0)
 |.byt y=>y.size<=Xi/\k=((y.size:Int) != 0)
 |.ref p=>(∃xs,SqL K H p xs/\k=!xs.isEmpty)\/(∃xs,SqT K H p xs/\k=!xs.isEmpty)\/∃kvs,H p=A? (.dK kvs)/\k=!kvs.isEmpty
 |_=>False
theorem pV{kvs:List (κ×V)}(r:KV kvs vs):(!vs.isEmpty)=!kvs.isEmpty:=by
 cases r <;> rfl
theorem jZ(r:Vals xs its):(!its.toArray.isEmpty)=!xs.isEmpty:=by
 cases r <;> simp
theorem dC:(Xi:Nat)<2 ^ 63:=by rw[ZI];decide
theorem yp:zC X (λx H Q=>∃k,vt X.K x H k/\Q k H):=by
 intro Z s Y H x v Q I rx h;obtain⟨k,e,q⟩:=h;have hl:=dC;have hs:Xi=16777216:=ZI;cases x with
 | non =>
   cases rx;have e':k=false:=e;subst e';exact truthy_none ⟨H,I,q⟩
 | bl b =>
   cases rx;have e':k=b:=e;subst e';exact ZH ⟨H,I,q⟩
 | int i =>
   obtain⟨t,rfl⟩:=rx;have e':k=(i != 0):=e;subst e';exact PySem.P.truthy_int ⟨H,I,q⟩
 | str y =>
   obtain⟨t,rfl⟩:=rx;obtain⟨hy,e'⟩:y.length<=Xi/\k=((y.length:Int) != 0):=e;subst e';exact PySem.P.truthy_str (by lia) ⟨H,I.tok _,q⟩
 | byt y =>
   obtain⟨t,rfl⟩:=rx;obtain⟨hy,e'⟩:y.size<=Xi/\k=((y.size:Int) != 0):=e;subst e';exact PySem.W.truthy_bytes (by lia) ⟨H,I.tok _,q⟩
 | ref p =>
   cases rx;have e':(∃xs,SqL X.K H p xs/\k=!xs.isEmpty)\/(∃xs,SqT X.K H p xs/\k=!xs.isEmpty)\/∃kvs,H p=A? (.dK kvs)/\k=!kvs.isEmpty:=e;rcases e' with⟨xs,hx,e'⟩|⟨xs,hx,e'⟩|⟨kvs,hx,e'⟩
   .subst e';obtain⟨its,r,pl,hz⟩:=I.list hx;have hlen:=r.length;exact wpAny_truthy_list pl.isList (by simp only[Xa];lia) ⟨H,I.tok _,by rw[jZ r];exact q⟩
   .subst e';obtain⟨its,r,pl,hz⟩:=I.tuple hx;have hlen:=r.length;exact truthy_tuple pl (by simp only[Xa];lia) ⟨H,I.tok _,by rw[jZ r];exact q⟩
   .subst e';obtain⟨hz,hS,vs,r,m⟩:kvs.length<=Xi/\(p == YD)=D?/\∃vs,KV kvs vs/\s.1.DictOf (aU X.prog X.w) p vs:=I.hok p _ hx;have hlen:kvs.length=vs.length:=W9 r;exact wpAny_truthy_dict hS m (by lia) ⟨H,I.tok _,by rw[pV r];exact q⟩
 |_=>exact(show False from e).elim
theorem bH(ha:PE X a ta)(he:∀whole,isTrue a X.env whole=(do let v <-whole;standAt a.pos;holding [v] (truthy v))) :
 PT X a (λY H Q=>ta Y H λx H'=>∃k,vt X.K x H' k/\Q k H'):=by
 intro Z s Y H Q I h;exact isTrue_plain (thn (ha Z s Y H _ I h) λv s1⟨x,H1,I1,r1,q1⟩=>yp Z s1 Y H1 x v Q I1 r1 q1) (he _)
theorem gK:OpR X (Z7 .Add) (λx y H Q=>∃i j,x=.str i/\y=.str j/\i.length+j.length<=Xi/\Q (.str (i++j)) H):=by
 intro Z s Y H x y v u Q I rx ry h;obtain⟨i,j,rfl,rfl,hz,q⟩:=h;obtain⟨t,rfl⟩:=rx;obtain⟨t',rfl⟩:=ry;exact add_str (λt' tk=>⟨.str (i++j),H,I.tok _,⟨_,rfl⟩,q⟩) hz
theorem vals1{x:V}(r:Vals [x] us):∃u,us=[u]/\RelV x u:=by
 cases r with
 |cons r1 r2=>cases r2;exact⟨_,Dn,r1⟩
theorem vals2{x:V}(r:Vals [x,y] us):∃u w',us=[u,w']/\RelV x u/\RelV y w':=by
 cases r with
 | cons r1 r2 =>
   cases r2 with
   |cons r3 r4=>cases r4;exact⟨_,_,Dn,r1,r3⟩
theorem iR(hc:X.calm=C?):dm X (.builtin "max") (λxs H Q=>∃i j,xs=[.int i,.int j]/\Q (.int (if j > i then j else i)) H):=by
 intro Z s Y H xs us Q I r h;obtain⟨i,j,rfl,q⟩:=h;obtain⟨u,w',rfl,⟨t,rfl⟩,⟨t',rfl⟩⟩:=vals2 r;refine max_two_ints (I.ok.hd hc) λh' tk k=>⟨_,H,I.kept k,?_,q⟩;by_cases hj:j > i
 .rw[b! hj,b! hj];exact⟨_,Dn⟩
 .rw[a! hj,a! hj];exact⟨_,Dn⟩
theorem iU:dm X (.type "int") (λxs H Q=>(∃i,xs=[.int i]/\Q (.int i) H)\/∃k,xs=[.bl k]/\Q (.int (if k then 1 else 0)) H):=by
 intro Z s Y H xs us Q I r h;rcases h with⟨i,rfl,q⟩|⟨k,rfl,q⟩
 .obtain⟨u,rfl,t,rfl⟩:=vals1 r;exact call_int_int ⟨.int i,H,I,⟨_,rfl⟩,q⟩
 .obtain⟨u,rfl,r1⟩:=vals1 r;cases r1;exact call_int_bool ⟨.int (if k then 1 else 0),H,I.tok _,⟨_,rfl⟩,q⟩
end
end L2
variable{r:L2.R2}
namespace L2
open PySem PySem.Spec PyProof.Rows
structure ObjM(h:X3)(x dx C:WS)(mA:Xj->Option WV):Prop where
 obj:h.get? x=A? (Zu C dx)
 ns:h.Ns1 dx mA
 ne:dx≠x
theorem sJ{mA:Xj->Option WV}(n:h.Ns1 dx mA):∃od,h.get? dx=A? od/\∀name,PySem.W.lookIn name od=A? (mA name):=by
 obtain⟨o,es,ep,ho,hd,hk,_,hm⟩:=n;refine⟨o,ho,λname=>?_⟩;have e:=hm name;unfold nsFind findBy at e;rw[<-Array.find?_toList]at e;unfold PySem.W.lookIn;rw[hd];dsimp only;split
 .rename_i y q
  rw[q]at e;exact h! A? e
 .rename_i q
  rw[q]at e
  have a:es.toList.any (·.refKey)=false:=by
   rw[List.any_eq_false];intro y hy;obtain⟨z,t,Cc⟩:=hk y (Array.mem_toList_iff.mp hy);simp[DictEntry.refKey,Cc]
  have a':¬es.toList.any (·.refKey)=true:=by rw[a];exact Xq
  rw[a! a'];exact h! A? e
theorem ObjM.look{x:WS}{mA:Xj->Option WV}(I:ObjM h x dx C mA):∃od,PySem.W.InstAt h x (Zu C dx) C (A? od)/\∀name,PySem.W.lookIn name od=A? (mA name) :=
 let⟨od,ho,hl⟩:=sJ I.ns
 ⟨od,⟨I.obj,rfl,rfl,ho⟩,hl⟩
section
variable{x:WS}{mA:Xj->Option WV}{v:WV}
theorem get_map{expr:Bool}(X:K.In s.1)(I:ObjM s.1 x dx C mA)(hg:PySem.W.plainGet K C name=C?)(hh:PySem.W.hasDictIn K C=C?)
 (ha:Yg K (.ref C) name=A? B?) (hv:mA name=A? v) (B4:PySem.W.handedIn v=C?) (h:Q v {s with toks:=s.toks+1}) :
 Xf (Xx prog w) A (getAttr (.ref x) name expr) Q E s:=by
 obtain⟨od,J,hl⟩:=I.look;exact PySem.W.get_value X J (PySem.W.plainGet_of hg).1 (PySem.W.findObj_own hh ha rfl (by rw[hl,hv])) B4 h
theorem uz{pl:Sem Bool}{Q:WV×List WV->WZ->Prop}(X:K.In s.1)(I:ObjM s.1 x dx C mA)(hg:PySem.W.plainGet K C name=C?)
 (hf:Yg K (.ref C) name=A? (A? (.ref f))) (ht:PySem.W.isFn K (.ref f)=C?) (hv:mA name=B?) (h:Q (.ref f,[.ref x]) s) :
 Xf (Xx prog w) A (getMethod (.ref x) name pl) Q E s:=by
 obtain⟨od,J,hl⟩:=I.look;exact PySem.W.method_fn X J (PySem.W.plainGet_of hg).1 (PySem.W.plainGet_of hg).2 hf (beq_iff_eq.mp ht) (by show(PySem.W.lookIn name od).map (·.isSome)=A? D?;rw[hl,hv];rfl) h
theorem wK{ns:List Xj}{Q:Unit->WZ->Prop}(X:K.In s.1)(I:ObjM s.1 x dx C mA)
 (hs:Yg K (.ref C) "__setattr__"=A? (A? (.builtin "object.__setattr__"))) (hp:PySem.W.plainOver K C=C?) (ht:PySem.W.takerIn K C name=A? B?) (hh:PySem.W.hasDictIn K C=C?)
 (hw:PySem.Within mA ns) (hsz:ns.length<=Xi)
 (h:∀h',ObjM h' x dx C (λy=>if y=name then A? v else mA y)->X1 dx s.1 h'->Q () {s with heap:=h',toks:=s.toks+2}) :
 Xf (Xx prog w) A (setAttr (.ref x) name v) Q E s:=by
 obtain⟨od,J,hl⟩:=I.look;refine PySem.W.set_plain X J hs (PySem.W.osa_open (s:={s with toks:=s.toks+1}) (r:=B?) X J hp ht λb=>?_);obtain⟨cd,hc,Jl⟩:=PySem.W.any_some hh;have hx:s.1.get? x=A? ⟨.ref C,A? dx,.plain,#[]⟩:=I.obj;refine WN (WX (WN (WN (wpAny_loadPart hx (WN (PySem.W.Looks.here (s:={s with toks:=s.toks+1}) (PySem.W.looks_clsIn X hc) ?_))))));rw[Jl];refine WX (a:=A? dx) (WN (WX (WN ?_)));refine wpAny_nsSet1 (s:={s with toks:=s.toks+1}) I.ns λh' Jr EV=>?_;obtain⟨oD,esD,epD,Ua,Ub,Uc⟩:=Jr.count (PySem.Within.cons name v hw);refine WN (wpAny_lookBehind Ua (by rw[Ub];exact pastItsLine_dict (X2 Uc (by rw[W8];lia))) ?_);exact WX (h _ ⟨(EV.2 _ (Zr I.ne)).trans I.obj,Jr,I.ne⟩ EV)
theorem uI{vs:List WV}(X:K.In s.1)(hm:PySem.W.makesIn K C=C?)
 (hi:Yg K (.ref C) "__init__"=A? (A? (.ref f))) (hf:PySem.W.typeIn K (.ref f)=A? (.type "function"))
 (h:codeAny (Xx prog w) (A.under (.builtin "type.__call__" ⟨.ref C::vs,kw⟩)) (.call (.ref f) ⟨.ref (s.1.1.size+1)::vs,kw⟩) (PySem.W.InitBack (s.1.1.size+1) R)
  {s with heap:=(s.1.push YR).push (Zu C s.1.1.size)}) :
 codeAny (Xx prog w) A (.call (.ref C) ⟨vs,kw⟩) R s:=by
 obtain⟨hh,g,d,t,os⟩:=s;exact PySem.W.make_core (PySem.W.makes_of X hm) (PySem.W.looks_findIn X hi) (λself=>PySem.W.bind_fn X self hf) (.inl rfl) h
end
def dO(f:Xj)(v:V):List (Xj×V)->List (Xj×V)
 | []=>[(f,v)]
 |(g,x)::r=>if g=f then(g,v)::r else(g,x)::dO f v r
theorem jE(f g:Xj)(v:V):∀fs:List (Xj×V),(dO f v fs).lookup g=if g=f then A? v else fs.lookup g
 | []=>by
   show Zg g [(f,v)]=_;by_cases h:g=f
   .have hb:(g == f)=true:=beq_iff_eq.mpr h;simp only[Zg,hb,b! h]
   .have hb:(g == f)=false:=beq_eq_false_iff_ne.mpr h;simp only[Zg,hb,a! h]
 | (k,x)::r=>by
   have ih:=jE f g v r;rw[show dO f v ((k,x)::r)=(if k=f then(k,v)::r else(k,x)::dO f v r)from rfl];by_cases hk:k=f
   .rw[b! hk];by_cases h:g=k
    .have hb:(g == k)=true:=beq_iff_eq.mpr h;simp only[Zg,hb,b! (h.trans hk)]
    .have hb:(g == k)=false:=beq_eq_false_iff_ne.mpr h;simp only[Zg,hb,a! (λe:g=f=>h (e.trans hk.symm))]
   .rw[a! hk];by_cases h:g=k
    .have hb:(g == k)=true:=beq_iff_eq.mpr h;simp only[Zg,hb,a! (λe:g=f=>hk (h.symm.trans e))]
    .have hb:(g == k)=false:=beq_eq_false_iff_ne.mpr h;simp only[Zg,hb];exact ih
theorem iN(f:Xj)(v:V):∀fs:List (Xj×V),f∈(dO f v fs).map (·.1)/\∀g,g∈fs.map (·.1)->g∈(dO f v fs).map (·.1)
 | []=>⟨by simp[dO],λg h=>by simp at h⟩
 | (k,x)::r=>by
   obtain⟨i1,i2⟩:=iN f v r;rw[show dO f v ((k,x)::r)=(if k=f then(k,v)::r else(k,x)::dO f v r)from rfl];by_cases hk:k=f
   .rw[b! hk];subst hk;exact⟨by simp,λg h=>by simpa using h⟩
   .rw[a! hk];refine⟨?_,λg h=>?_⟩
    .rw[XG];exact WR _ i1
    .rw[XG]at h |-;rcases Xc.mp h with e|e
     .exact Xc.mpr (.inl e)
     .exact WR _ (i2 g e)
theorem jh(f:Xj)(v:V):∀fs:List (Xj×V),(dO f v fs).length<=fs.length+1
 | []=>by simp[dO]
 | (k,x)::r=>by
   have ih:=jh f v r;rw[show dO f v ((k,x)::r)=(if k=f then(k,v)::r else(k,x)::dO f v r)from rfl];by_cases hk:k=f
   .rw[b! hk,W8,W8];lia
   .rw[a! hk,W8,W8];lia
theorem RelO.some_of{o:Option WV}(r:RelO (A? v) o):∃u,o=A? u/\RelV v u:=by
 cases o with
 |none=>exact(show False from r).elim
 |some u=>exact⟨u,Dn,r⟩
theorem RelO.none_of{o:Option WV}(r:RelO B? o):o=none:=by
 cases o with
 |none=>rfl
 |some u=>exact(show False from r).elim
theorem tj(r:RelV v u):PySem.W.handedIn u=true:=by
 cases v with
 |non=>cases(show u=Yp from r);rfl
 |bl b=>cases(show u=Value.bool b from r);rfl
 |int i=>obtain⟨t,e⟩:=(show∃t,u=Value.int i t from r);cases e;rfl
 |str x=>obtain⟨t,e⟩:=(show∃t,u=Value.str x t from r);cases e;rfl
 |byt b=>obtain⟨t,e⟩:=(show∃t,u=Value.bytes b t from r);cases e;rfl
 |flt b=>obtain⟨t,e⟩:=(show∃t,u=Value.float b t from r);cases e;rfl
 |ref a=>cases(show u=XI a from r);rfl
 |ty n=>cases(show u=Value.type n from r);rfl
section
variable{fs T6:List (Xj×V)}
theorem jQ(hok:HOk P w H h)(e:H a=A? (.ins C dx fs)):∃mA,ObjM h a dx C mA/\(∀f,RelO (fs.lookup f) (mA f))/\PySem.Within mA (fs.map (·.1))/\fs.length<=1000/\H dx=A? (.own a):=by
 obtain⟨d,z,ne,ob,mA,n,r,q⟩:=(show ObjOk P w H h a (.ins C dx fs)from hok a _ e);exact⟨mA,⟨ob,n,ne⟩,r,q,z,d⟩
end
structure Cls(K:WW)(C:WS):Prop where
 pg:PySem.W.plainGet K C YU=C?
 hd:PySem.W.hasDictIn K C=C?
 po:PySem.W.plainOver K C=C?
 sa:Yg K (.ref C) "__setattr__"=A? (A? (.builtin "object.__setattr__"))
theorem Cls.get(c:Cls K C)(f:Xj):PySem.W.plainGet K C f=true:=c.pg
def NoAttr(K:WW)(C:WS)(f:Xj):Prop:=Yg K (.ref C) f=A? B?
theorem NoAttr.taker{f:Xj}(n:NoAttr K C f):PySem.W.takerIn K C f=A? none:=by
 unfold PySem.W.takerIn;rw[show Yg K (.ref C) f=A? B? from n];rfl
structure Meth(K:WW)(C:WS)(m:Xj)(f:WS):Prop where
 at_:Yg K (.ref C) m=A? (A? (.ref f))
 fn:PySem.W.isFn K (.ref f)=C?
 kp:ZJ K (.ref f)=C?
section
variable{X:Cx}{fs:List (Xj×V)}{f:Xj}
theorem pW{b:Bool}(I:Inv X Z Y H s)(e:H a=A? (.ins C dx fs))(c:Cls X.K C)(n:NoAttr X.K C f)(l:fs.lookup f=A? v)
 (h:∀u s',Inv X Z Y H s'->RelV v u->Q u s'):Xf (Xx X.prog X.w) A (getAttr (.ref a) f b) Q E s:=by
 obtain⟨mA,O,r,_,_,_⟩:=jQ I.hok e;obtain⟨u,hu,ru⟩:=RelO.some_of (v:=v) (o:=mA f) (by rw[<-l];exact r f);exact get_map I.kIn O (c.get f) c.hd n hu (tj ru) (h u _ (I.tok _) ru)
theorem qb{m:Xj}{g:WS}{pl:Sem Bool}{Q:WV×List WV->WZ->Prop}(I:Inv X Z Y H s)(e:H a=A? (.ins C dx fs))(c:Cls X.K C)(k:Meth X.K C m g)(l:fs.lookup m=B?)
 (h:Q (.ref g,[.ref a]) s):Xf (Xx X.prog X.w) A (getMethod (.ref a) m pl) Q E s:=by
 obtain⟨mA,O,r,_,_,_⟩:=jQ I.hok e;have hn:mA m=none:=RelO.none_of (by rw[<-l];exact r m);exact uz I.kIn O (c.get m) k.at_ k.fn hn h
theorem pR{Q:Unit->WZ->Prop}(I:Inv X Z Y H s)(e:H a=A? (.ins C dx fs))(c:Cls X.K C)(n:NoAttr X.K C f)(hl:fs.length<1000)(ry:RelV y u)
 (h:∀s',Inv X Z Y (upd H a (.ins C dx (dO f y fs))) s'->Q () s'):Xf (Xx X.prog X.w) A (setAttr (.ref a) f u) Q E s:=by
 obtain⟨mA,O,r,wi,_,ho⟩:=jQ I.hok e;have hz:(fs.map (·.1)).length<=Xi:=by rw[WO,ZI];lia
 refine wK I.kIn O c.sa c.po n.taker c.hd wi hz λh' O' sb=>h _ ?_;have hd:∃o,h'.get? dx=A? o:=let⟨o,_,_,e',_⟩:=O'.ns;⟨o,e'⟩
 refine I.write (x:=a) (e:=dx) (by rw[e];exact Y8) (.inr ho) (λb q hb z=>(sb.2 b hb).trans z) hd ?_;refine⟨by rw[af O.ne];exact ho,?_,O.ne,O'.obj,_,O'.ns,λg=>?_,λg hg=>?_⟩
 .have:=jh f y fs;lia
 .show RelO ((dO f y fs).lookup g) (if g=f then A? u else mA g);rw[jE];by_cases q:g=f
  .rw[b! q,b! q];exact ry
  .rw[a! q,a! q];exact r g
 .by_cases q:g=f
  .rw[q];exact(iN f y fs).1
  .refine(iN f y fs).2 g (wi g λz=>hg ?_);show(if g=f then A? u else mA g)=B?;rw[a! q];exact z
theorem Inv.made(I:Inv X Z Y H s):Inv X Z Y (upd (upd H s.1.1.size (.own (s.1.1.size+1))) (s.1.1.size+1) (.ins C s.1.1.size []))
 {s with heap:=(s.1.push YR).push (Zu C s.1.1.size)}:=by
 have e1:(s.1.push YR).get? s.1.1.size=A? YR:=W3 s.1 rfl
 have e2:((s.1.push YR).push (Zu C s.1.1.size)).get? (s.1.1.size+1)=A? (Zu C s.1.1.size):=by
  have:=W3 (s.1.push YR) (o:=Zu C s.1.1.size) rfl
  rwa [Ym]at this
 have e3:(s.1.push YR).Ns s.1.1.size (λ_=>B?):=⟨YR,#[],_,e1,rfl,(λe he=>g! he (by simp)),λ_=>rfl⟩;have I1:=I.laid (a:=s.1.1.size) (o:=.own (s.1.1.size+1)) (h':=s.1.push YR) (t':=s.toks) (λb u q=>WU _ q) (W0 _) ⟨_,e1⟩;refine I1.laid (a:=s.1.1.size+1) (o:=.ins C s.1.1.size []) (t':=s.toks) (λb u q=>WU _ q) (Nat.le_of_eq (Ym _ _)) ?_;have ne:s.1.1.size≠s.1.1.size+1:=XF (Nat.lt_succ_self _);refine⟨by rw[af ne,ae],XA _,ne,e2,λ_=>B?,(Heap.Ns1.of_empty e3).at λo q=>WU _ q,λ_=>Y8,λy hy=>g! rfl hy⟩
theorem wJ{f:Xj}(hb:Z8 e f env (YQ e env)=YQ e env)
 (h:Xf (Xx prog w) A (YQ e env) (λo zX=>Xf (Xx prog w) A (getAttr o f C?) Q E zX) E s):Xf (Xx prog w) A (YQ (.Attribute e f pos) env) Q E s :=
 Attribute_any_ h (by rw[arm_eval_Attribute,hb])
end
def zL(K:WW)(ta:TE)(f:Xj):TE:=λY H Q=>ta Y H λx H1=>∃a C dx fs v,x=.ref a/\H1 a=A? (.ins C dx fs)/\Cls K C/\NoAttr K C f/\fs.lookup f=A? v/\Q v H1
def zR(K:WW)(ta tv:TE)(f:Xj):TS:=λD Y H=>tv Y H λy H1=>ta Y H1 λx H2=>∃a C dx fs,x=.ref a/\H2 a=A? (.ins C dx fs)/\Cls K C/\NoAttr K C f/\fs.length<1000 /\
 D.nx Y (upd H2 a (.ins C dx (dO f y fs)))
section
variable{X:Cx}{o value:XZ}{f:Xj}{Nc:Z9}{ta tv:TE}
theorem cJ(he:PE X e ta)(hb:Z8 e f X.env (YQ e X.env)=YQ e X.env):PE X (.Attribute e f pos) (zL X.K ta f):=by
 intro Z s Y H Q I h;refine wJ hb (thn (he Z s Y H _ I h) λu s1⟨x,H1,I1,rx,a,C,dx,fs,v,ex,ea,c,n,l,q⟩=>?_);subst ex;obtain rfl:u=XI a:=rx;exact pW I1 ea c n l λu' s2 I2 ru=>⟨v,H1,I2,ru,q⟩
theorem p8(ha:PE X o ta)(hv:PE X value tv)(hs:swapsWith value (A? (.Attribute o f pos')) pos.line X.env=pure D?):PS X (.Assign [.Attribute o f pos'] value pos) (zR X.K ta tv f):=by
 intro Z s Y H D I h;refine plainObj_wpAny_Assign_Attribute (thn (hv Z s Y H _ I h) λu s1⟨y,H1,I1,ry,q⟩=>thn (ha Z s1 Y H1 _ I1 q) λov s2⟨x,H2,I2,rx,a,C,dx,fs,ex,ea,c,n,l,q2⟩=>?_) hs;subst ex;obtain rfl:ov=XI a:=rx;exact pR I2 ea c n l ry λs3 I3=>⟨Y,_,I3,q2⟩
end
section
variable{X:Cx}{c:WV}{b:Bool}
inductive gR(K:WW)(H:Hp):V->WV->Prop where
 |non:gR K H .non (.type "NoneType")
 |bl (x:Bool):gR K H (.bl x) (.type "bool")
 |int (i:Int):gR K H (.int i) (.type "int")
 |str (x:Xj):gR K H (.str x) (.type "str")
 |flt (x:UInt64):gR K H (.flt x) (.type "float")
 |lst {a:WS} {xs:List V} (e:H a=A? (.lst xs)):gR K H (.ref a) (.type "list")
 |frz {a:WS} {o:YF} {xs:List V} (e:H a=A? (.frz o (.lst xs))):gR K H (.ref a) (.type "list")
 |tup {a:WS} {xs:List V} (e:H a=A? (.tup xs)):gR K H (.ref a) (.type "tuple")
 |dK {a:WS} {kvs:List (Key×V)} (e:H a=A? (.dK kvs)):gR K H (.ref a) (.type "dict")
 |dT {a:WS} {kvs:List (List Key×V)} (e:H a=A? (.dT kvs)):gR K H (.ref a) (.type "dict")
 |ins {a C dx:WS} {fs:List (Xj×V)} (e:H a=A? (.ins C dx fs)) (cl:Cls K C) (ha:Yg K (.ref C) "__class__"=A? (A? (.builtin "object.__class__")))
  (hn:PySem.W.specialIn K (.builtin "object.__class__") "__get__"=A? (A? (.builtin "getset_descriptor.__get__"))) (D0:PySem.W.takesIn K (.builtin "object.__class__")=A? C?)
  (hm:PySem.W.mroIn K C (.type "object")=A? C?):gR K H (.ref a) (.ref C)
theorem sO{x:V}{t:WV}(I:Inv X Z Y H s)(rx:RelV x u)(ty:gR X.K H x t)(e:PySem.W.kitOne X.K t c=A? b)(h:∀tk,Q (.bool b) {s with toks:=tk}) :
 Xf (Xx X.prog X.w) A (call (.builtin "isinstance") [u,c]) Q E s:=by
 cases ty with
 |non=>cases(show u=Yp from rx);exact YK PySem.W.kitx_none I.kIn Y8 e (λz=>nomatch z) h
 |bl y=>cases(show u=Value.bool y from rx);exact YK PySem.W.kitx_bool I.kIn Y8 e (λz=>nomatch z) h
 |int i=>obtain⟨t,q⟩:=(show∃t,u=Value.int i t from rx);cases q;exact YK PySem.W.kitx_int I.kIn Y8 e (λz=>nomatch z) h
 |str y=>obtain⟨t,q⟩:=(show∃t,u=Value.str y t from rx);cases q;exact YK PySem.W.kitx_str I.kIn Y8 e (λz=>nomatch z) h
 |flt y=>obtain⟨t,q⟩:=(show∃t,u=Value.float y t from rx);cases q;exact YK PySem.W.kitx_float I.kIn Y8 e (λz=>nomatch z) h
 | @lst a xs ea =>
   cases(show u=XI a from rx);obtain⟨_,_,n,_,h1⟩:=(show ObjOk X.prog X.w H s.1 a (.lst xs)from I.hok a _ ea);exact YK PySem.W.kitx_list I.kIn ⟨_,h1,rfl⟩ e (λz=>nomatch z) h
 | @frz a ob xs ea =>
   cases(show u=XI a from rx);obtain⟨_,_,_,n,_,h1⟩:=(show ObjOk X.prog X.w H s.1 a (.frz ob (.lst xs))from I.hok a _ ea);exact YK PySem.W.kitx_list I.kIn ⟨_,h1,rfl⟩ e (λz=>nomatch z) h
 | @tup a xs ea =>
   cases(show u=XI a from rx);obtain⟨_,_,_,_,h1⟩:=(show ObjOk X.prog X.w H s.1 a (.tup xs)from I.hok a _ ea);exact YK PySem.W.kitx_tuple I.kIn ⟨_,h1,rfl⟩ e (λz=>nomatch z) h
 | @dK a kvs ea =>
   cases(show u=XI a from rx);obtain⟨_,_,vs,_,p⟩:=(show ObjOk X.prog X.w H s.1 a (.dK kvs)from I.hok a _ ea);obtain⟨o,es,ep,h1,h2,_⟩:=p;exact YK PySem.W.kitx_dict I.kIn ⟨o,h1,h2.1⟩ e (λz=>nomatch z) h
 | @dT a kvs ea =>
   cases(show u=XI a from rx);obtain⟨_,_,xs,_,o,es,ep,h1,h2,_⟩:=(show ObjOk X.prog X.w H s.1 a (.dT kvs)from I.hok a _ ea);exact YK PySem.W.kitx_dict I.kIn ⟨o,h1,h2.1⟩ e (λz=>nomatch z) h
 | @ins a C dx fs ea cl ha hn D0 hm =>
   cases(show u=XI a from rx);obtain⟨mA,O,_⟩:=jQ I.hok ea;obtain⟨od,J,_⟩:=O.look;exact YK (PySem.W.kitx_own (cl.get _) cl.hd ha hn D0 hm) I.kIn J e (λz=>nomatch z) h
end
structure Room(k:Nat)(A:XH):Prop where
 hd:A.handled=B?
 dp:A.depth+3 * k+5<recursionLimit
 un:A.units+16 * k+200<Zb
theorem Room.mono{k:Nat}(r:Room k A)(h:j<=k):Room j A:=⟨r.hd,by have:=r.dp;lia,by have:=r.un;lia⟩
theorem Room.deeper{k:Nat}(r:Room (k+1) A)(env:Env):Room k (A.deeper env) :=
 ⟨r.hd,by have:=r.dp;show A.depth+1+3 * k+5<_;lia,by have:=r.un;show A.units+3+16 * k+200<_;lia⟩
theorem qj:(A.under (.builtin "type.__call__" ⟨.ref C::us,kw⟩)).depth=A.depth+1:=by
 first|rfl|simp[Around.under,Code.weight,Code.isCreation,Code.isGuard,Code.isCaller,Code.frames,Code.isFrame,guardIds]
theorem qp:(A.under (.builtin "type.__call__" ⟨.ref C::us,kw⟩)).units=A.units+1:=by
 first|rfl|simp[Around.under,Code.cUnits,Code.frames,Code.isFrame]
theorem Room.make{k:Nat}(r:Room (k+1) A)(C:WS)(us:List WV)(kw:List (Xj×WV)):Room k (A.under (.builtin "type.__call__" ⟨.ref C::us,kw⟩)) :=
 ⟨r.hd,by have:=r.dp;rw[qj];lia,by have:=r.un;rw[qp];lia⟩
theorem Room.depth{k:Nat}(r:Room k A):A.depth<recursionLimit:=by have:=r.dp;lia
theorem Room.units{k:Nat}(r:Room k A):A.units+64<Zb:=by have:=r.un;lia
def gb:TA:=λ_ H Q=>Q [] H
def bP(ta:TE)(tr:TA):TA:=λY H Q=>ta Y H λx H1=>tr Y H1 λxs H2=>Q (x::xs) H2
section
variable{X:Cx}{es:List XZ}{t:TA}
theorem ad:PA X [] gb:=λ_ _ _ _ H Q I h=>Calls.spliced_nil ⟨[],H,I,.nil,h⟩
theorem ac(ha:PE X e te)(hr:PA X es t)(hs:XE (e::es) X.env=(D?,YQ e X.env)::XE es X.env:=by rfl):PA X (e::es) (bP te t):=by
 intro pos Z s Y H Q I h;rw[hs];show Xf _ _ (spliced ((D?,YQ e X.env)::ZC pos (XE es X.env))) _ _ s;refine ZA (thn (ha Z s Y H _ I h) λu s1⟨x,H1,I1,r1,q1⟩=>?_);exact thn (hr pos Z s1 Y H1 _ I1 q1) λus s2⟨xs,H2,I2,r2,q2⟩=>⟨x::xs,H2,I2,.cons r1 r2,q2⟩
def qi(t:TA):TE:=λY H Q=>t Y H λxs H1=>xs.length<=Xi/\∀p,H1 p=B?->Q (.ref p) (upd H1 p (.tup xs))
def zm(t:TA):TE:=λY H Q=>t Y H λxs H1=>xs.length<=Xi/\∀p,H1 p=B?->Q (.ref p) (upd H1 p (.lst xs))
theorem aQ{x1}(h:PA X es t):PE X (.Tuple es x1 pos) (qi t):=by
 intro Z s Y H Q I hq;refine wpAny_Tuple_spliced (thn (h pos Z s Y H _ I hq) λus s1⟨xs,H1,I1,r,z,q⟩=>⟨by rw[<-r.length];exact z,?_⟩);have hf:H1 s1.1.1.size=none:=I1.hok.fresh (W0 _);refine⟨.ref s1.1.1.size,upd H1 s1.1.1.size (.tup xs),I1.laid (t':=s1.toks) (λb u e=>WU _ e) (W0 _) ?_,Dn,q _ hf⟩;exact⟨z,us,0,r,W3 _ rfl⟩
theorem aN(h:PA X es t):PE X (.List es pos) (zm t):=by
 intro Z s Y H Q I hq;refine wpAny_List_spliced (thn (h pos Z s Y H _ I hq) λus s1⟨xs,H1,I1,r,z,q⟩=>⟨by rw[<-r.length];exact z,?_⟩);have hf:H1 s1.1.1.size=none:=I1.hok.fresh (W0 _);refine⟨.ref s1.1.1.size,upd H1 s1.1.1.size (.lst xs),I1.laid (t':=s1.toks) (λb u e=>WU _ e) (W0 _) ?_,Dn,q _ hf⟩;exact⟨z,us,0,r,W3 _ rfl⟩
end
abbrev Sp:=List V->Hp->VK->XK->Prop
abbrev CXT:=List Env->Hp->WZ->XK->WV->WZ->Prop
structure Env0(P:Xm)(w:XD)(K:WW)(mg:Xj->Option WV)(base:X3)(A:XH)(outer:List Env)(s:WZ)(H:Hp):Prop where
 frames:A.frames=A? outer
 mod:Mod K mg base
 bs:∀b o,base.get? b=A? o->s.1.get? b=A? o/\H b=B?
 bsz:base.objs.size<=s.1.1.size
 funs:s.1.FunFrames base outer
 frf:∀b∈frs outer,H b=B?
 hok:HOk P w H s.1
 bare:AllBare s.gens
def CE(outer:List Env)(P:Xm)(w:XD)(H:Hp)(s:WZ)(Q:VK)(u:WV)(s':WZ):Prop :=
 ∃v H',s'.os=s.os/\AllBare s'.gens/\Un (frs outer) [] H H' s.1 s'.1/\HOk P w H' s'.1/\RelV v u/\Q v H'
def CR(CX:CXT)(outer:List Env)(P:Xm)(w:XD)(H:Hp)(s:WZ)(Q:VK)(E:XK)(r:Result)(s':WZ):Prop :=
 match r with
 |.ok (.ret u)=>CE outer P w H s Q u s'
 |.ok _=>False
 |.error e=>CX outer H s E e s'
structure FnOk(P:Xm)(w:XD)(K:WW)(mg:Xj->Option WV)(base:X3)(CX:CXT)(k:Nat)(f:WS)(fd:YT)(ps:List Xj)(sp:Sp):Prop where
 len:∀vs H Q E,sp vs H Q E->vs.length=ps.length
 run:∀(A:XH)(outer:List Env)(s:WZ)(H:Hp)(args:Args)(us:List WV)(vs:List V)(Q:VK)(E:XK),Room k A->Env0 P w K mg base A outer s H->BindsTo s fd args (ps.zip us)->Vals vs us->sp vs H Q E ->
  codeAny (Xx P w) A (.call (.ref f) args) (CR CX outer P w H s Q E) s
theorem Env0.make{outer:List Env}(e:Env0 P w K mg base A outer s H)(C:WS)(us:List WV)(kw:List (Xj×WV)) :
 Env0 P w K mg base (A.under (.builtin "type.__call__" ⟨.ref C::us,kw⟩)) outer s H:=⟨by first|exact e.frames|(simpa[Around.under,Code.envs,Code.isFrame,pushEnvs]using e.frames),e.mod,e.bs,e.bsz,e.funs,e.frf,e.hok,e.bare⟩
section
variable{X:Cx}
theorem Inv.env0(I:Inv X Z Y H s):Env0 X.prog X.w X.K X.mg X.base X.A X.stack s H :=
 ⟨I.ok.frames,I.ok.mod,I.bs,X2 I.ok.bsz I.sz,I.stack,I.stkFree,I.hok,I.bare⟩
theorem Inv.after{Q:VK}(I:Inv X Z Y H s)(h:CE X.stack X.prog X.w H s Q u s'):EP X Z Y Q u s':=by
 obtain⟨v,H',os,bare,un,hok,r,q⟩:=h;obtain⟨hh,g,d,t,Dq⟩:=s';obtain rfl:Dq=s.os:=os;exact⟨v,H',I.call (h':=hh) (g':=g) (d':=d) (t':=t) (ch:=[]) un hok bare (λb z=>g! z (by simp)),r,q⟩
end
def kF(sp:Sp)(dvs:List V)(E:XK)(t:TA):TE:=λY H Q=>t Y H λvs H1=>sp (vs++dvs) H1 Q E
def yZ(C:WS)(m:Xj)(sp:Sp)(dvs:List V)(E:XK)(ta:TE)(t:TA):TE:=λY H Q=>ta Y H λx H1=>∃a dx fs,x=.ref a/\H1 a=A? (.ins C dx fs)/\fs.lookup m=B? /\
 t Y H1 λvs H2=>sp (x::(vs++dvs)) H2 Q E
def yC(C:WS)(sp:Sp)(dvs:List V)(E:XK)(t:TA):TE:=λY H Q=>t Y H λvs H1=>∀x dx,H1 x=B?->H1 dx=B?->dx≠x ->
 sp (.ref x::(vs++dvs)) (upd (upd H1 dx (.own x)) x (.ins C dx [])) (λv H2=>v=.non/\Q (.ref x) H2) E
def Binds(K:WW)(fd:YT)(ps:List Xj)(ds:List WV):Prop :=
 ∀(s:WZ)(us:List WV),K.In s.1->(us++ds).length=ps.length->BindsTo s fd ⟨us,[]⟩ (ps.zip (us++ds))
theorem Binds.all(h:∀us:List WV,us.length=ps.length->bindArgs fd ⟨us,[]⟩=pure (ps.zip us)):Binds K fd ps []:=λs us _ hl=>by
 rw[Yx]at hl |-;exact .of_eq (h us hl)
def Passes(CX:CXT)(X:Cx)(E:XK):Prop:=∀(Z:List (WS×YF))(Y:St)(H:Hp)(s:WZ)(e:WV)(s':WZ),Inv X Z Y H s->CX X.stack H s E e s'->X.xe e s'
section
variable{X:Cx}{CX:CXT}{k:Nat}{sp:Sp}{dvs:List V}{ds:List WV}{E:XK}{m:Xj}{p apos:Z9}{o:XZ}{es:List XZ}{ta:TE}{t:TA}
theorem uR{Q:VK}{vs:List V}(F:FnOk X.prog X.w X.K X.mg X.base CX k f fd ps sp)(hr:Room k X.A)(hb:Binds X.K fd ps ds)(hd:Vals dvs ds)(hx:Passes CX X E)
 (I:Inv X Z Y H s) (r:Vals vs us) (h:sp (vs++dvs) H Q E):Xf (Xx X.prog X.w) X.A (call (.ref f) us) (EP X Z Y Q) X.xe s:=by
 have r2:Vals (vs++dvs) (us++ds):=r.append hd;have hl:(us++ds).length=ps.length:=by rw[<-r2.length];exact F.len _ _ _ _ h
 refine wpAny_call (codeAny_mono (F.run X.A X.stack s H ⟨us,[]⟩ (us++ds) (vs++dvs) Q E hr I.env0 (hb s us I.kIn hl) r2 h) λr s' hq=>?_);cases r with
 |error e=>exact hx Z Y H s e s' I hq
 | ok fl =>
   cases fl with
   |ret u=>exact I.after hq
   |next=>exact Yd hq
   |brk=>exact Yd hq
   |cont=>exact Yd hq
theorem cg(F:FnOk X.prog X.w X.K X.mg X.base CX k f fd ps sp)(hr:Room k X.A)(hg:Gl X x)(hm:X.mg x=A? (.ref f))(hk:ZJ X.K (.ref f)=C?)(hb:Binds X.K fd ps ds)(hd:Vals dvs ds)(hx:Passes CX X E)
 (ha:PA X (e::es) t) (C0:(x == ("__debug__":Xj))=false:=by decide) (he:XE (e::es) X.env=(D?,YQ e X.env)::XE es X.env:=by rfl) (AF:(ZC pos (XE es X.env)).any (·.1)=false:=by rfl) :
 PE X (.Call (.Name x p) (e::es) [] pos) (kF sp dvs E t):=by
 intro Z s Y H Q I h;refine Yo (fR I hg hm ?_ C0);refine PySem.W.callWith_K (h₀:=X.base) I.ok.mod.kin hk (thn (ha pos Z s Y H _ I h) λus s1⟨vs,H1,I1,r,q⟩=>⟨I1.kIn,?_⟩) he AF;exact uR F hr hb hd hx I1 r q
theorem rJ{pl:Sem Bool}(he:PE X o ta)(c:Cls X.K C)(hm:Meth X.K C m f)(F:FnOk X.prog X.w X.K X.mg X.base CX k f fd ps sp)(hr:Room k X.A)(hb:Binds X.K fd ps ds)(hd:Vals dvs ds)(hx:Passes CX X E)(ha:PA X (e::es) t)
 (BV:XE (e::es) X.env=(D?,YQ e X.env)::XE es X.env:=by rfl) (AF:(ZC pos (XE es X.env)).any (·.1)=false:=by rfl)
 (ht:YQ (.Call (.Attribute o m apos) (e::es) [] pos) X.env=(do
  let ov <-YQ o X.env
  standAt apos.atName
  let(f,first) <-holding [ov] (getMethod ov m pl)
  callWith pos f first (ZC pos (XE (e::es) X.env)) (backToKw pos (keywordEach [] X.env))):=by rfl) :
 PE X (.Call (.Attribute o m apos) (e::es) [] pos) (yZ C m sp dvs E ta t):=by
 intro Z s Y H Q I h;refine PySem.W.methodCall_KW (pl:=pl) (thn (he Z s Y H _ I h) λu s1⟨x,H1,I1,rx,a,dx,fs,ex,ea,l,q⟩=>?_) ht;subst ex;obtain rfl:u=XI a:=rx;refine qb I1 ea c hm l ?_;refine PySem.W.callWith_K (first:=[.ref a]) (h₀:=X.base) I.ok.mod.kin hm.kp (thn (ha pos Z s1 Y H1 _ I1 q) λus s2⟨vs,H2,I2,r,q2⟩=>⟨I2.kIn,?_⟩) BV AF;exact uR (us:=.ref a::us) (vs:=.ref a::vs) F hr hb hd hx I2 (.cons rfl r) q2
structure Mk(K:WW)(C f:WS):Prop where
 makes:PySem.W.makesIn K C=C?
 init:Yg K (.ref C) "__init__"=A? (A? (.ref f))
 fn:PySem.W.isFn K (.ref f)=C?
 kp:ZJ K (.ref C)=C?
theorem uQ{Q:VK}{vs:List V}(M:Mk X.K C f)(F:FnOk X.prog X.w X.K X.mg X.base CX k f fd ps sp)(hr:Room (k+1) X.A)(hb:Binds X.K fd ps ds)(hd:Vals dvs ds)
 (hx:Passes CX X E) (I:Inv X Z Y H s) (r:Vals vs us)
 (h:∀x dx,H x=B?->H dx=B?->dx≠x->sp (.ref x::(vs++dvs)) (upd (upd H dx (.own x)) x (.ins C dx [])) (λv H2=>v=.non/\Q (.ref x) H2) E) :
 Xf (Xx X.prog X.w) X.A (call (.ref C) us) (EP X Z Y Q) X.xe s:=by
 have hq:=h (s.1.1.size+1) s.1.1.size (I.hok.fresh (Nat.le_succ _)) (I.hok.fresh (W0 _)) (XF (Nat.lt_succ_self _));have I2:=Inv.made (C:=C) I;have r2:Vals (i! (s.1.1.size+1)::(vs++dvs)) (XI (s.1.1.size+1)::(us++ds)):=.cons rfl (r.append hd)
 have hl:(XI (s.1.1.size+1)::us++ds).length=ps.length:=by
  have e:=r2.length;rw[F.len _ _ _ _ hq]at e;exact e.symm
 refine wpAny_call (uI (f:=f) I.kIn M.makes M.init (beq_iff_eq.mp M.fn) (codeAny_mono (F.run _ X.stack _ _ ⟨XI (s.1.1.size+1)::us,[]⟩ (XI (s.1.1.size+1)::(us++ds)) _ _ E (hr.make C us [])
  (I2.env0.make C us []) (hb _ (XI (s.1.1.size+1)::us) I2.kIn hl) r2 hq) λr s' Fe=>?_))
 cases r with
 |error e=>exact hx Z Y _ _ e s' I2 Fe
 | ok fl =>
   cases fl with
   | ret u =>
     obtain⟨v,H',I3,rv,ev,q3⟩:=I2.after Fe;subst ev;exact⟨rv,⟨i! (s.1.1.size+1),H',I3,Dn,q3⟩⟩
   |next=>exact Yd Fe
   |brk=>exact Yd Fe
   |cont=>exact Yd Fe
theorem px(M:Mk X.K C f)(F:FnOk X.prog X.w X.K X.mg X.base CX k f fd ps sp)(hr:Room (k+1) X.A)(hg:Gl X x)(hm:X.mg x=A? (.ref C))(hb:Binds X.K fd ps ds)(hd:Vals dvs ds)(hx:Passes CX X E)
 (C0:(x == ("__debug__":Xj))=false:=by decide):PE X (.Call (.Name x p) [] [] pos) (yC C sp dvs E gb):=by
 intro Z s Y H Q I h;refine Yo (fR I hg hm ?_ C0);exact PySem.W.callWith_K0 I.kIn M.kp (uQ (us:=[]) M F hr hb hd hx I .nil h)
end
section
variable{X:Cx}{CX:CXT}{k:Nat}{ks:List Xj}{sp:Sp}{E:XK}{m:Xj}{p apos Ud:Z9}{o:XZ}{es:List XZ}{kws:List Keyword}{ta:TE}{t tk:TA}{nm:Option Xj}
variable{g:List WV->List WV->List WV}{gV:List V->List V->List V}
end
structure cQ(N P:List Xj)(sc:ZP):Prop where
 kind:sc.kind=.function
 co:sc.isCoroutine=D?
 gen:sc.isGenerator=D?
 nd:N.Nodup
 pre:N.take P.length=P
 par:∀x∈P,sc.names.lookup x=A? .local\/sc.names.lookup x=A? .cell
 nofree:∀y∈sc.names,y.2≠.free
theorem lU:∀{binds:List (Xj×WV)}{m:Xj->Option WV},(∀v,(x,v)∉binds)->bindL kindOf binds m x=m x
 | [],_,_=>rfl
 | (n,v)::r,m,h=>by
   unfold bindL;rw[lU λw hw=>h w (WR _ hw)];split
   .have:x≠n:=by rintro rfl;exact h v W2
    simp[this]
   .rfl
theorem mq:∀{binds:List (Xj×WV)}{m:Xj->Option WV},(∀v,(x,v)∉binds)->bindC kindOf binds m x=m x
 | [],_,_=>rfl
 | (n,v)::r,m,h=>by
   unfold bindC;rw[mq λw hw=>h w (WR _ hw)];split
   .rfl
   .have:x≠n:=by rintro rfl;exact h v W2
    simp[this]
theorem mw{v:WV}:∀{P:List Xj}{vs:List WV}{i:Nat}{m:Xj->Option WV},P.Nodup->P[i]?=A? x->vs[i]?=A? v->kindOf x=A? .local ->
 bindL kindOf (P.zip vs) m x=A? v
 | [],_,_,_,_,h,_,_=>by simp at h
 |_::_,[],_,_,_,_,h,_=>by simp at h
 | p::P,w::vs,0,m,nd,h1,h2,hk=>by
   simp at h1 h2;subst h1;subst h2;show bindL kindOf ((p,w)::P.zip vs) m p=_;unfold bindL;rw[lU λv hv=>(X6.mp nd).1 (List.of_mem_zip hv).1,b! hk];simp
 | p::P,w::vs,i+1,m,nd,h1,h2,hk=>by
   show bindL kindOf ((p,w)::P.zip vs) m x=_;unfold bindL;exact mw (i:=i) (X6.mp nd).2 (by simpa using h1) (by simpa using h2) hk
theorem mS{v:WV}:∀{P:List Xj}{vs:List WV}{i:Nat}{m:Xj->Option WV},P.Nodup->P[i]?=A? x->vs[i]?=A? v->kindOf x≠A? .local ->
 bindC kindOf (P.zip vs) m x=A? v
 | [],_,_,_,_,h,_,_=>by simp at h
 |_::_,[],_,_,_,_,h,_=>by simp at h
 | p::P,w::vs,0,m,nd,h1,h2,hk=>by
   simp at h1 h2;subst h1;subst h2;show bindC kindOf ((p,w)::P.zip vs) m p=_;unfold bindC;rw[mq λv hv=>(X6.mp nd).1 (List.of_mem_zip hv).1,a! hk];simp
 | p::P,w::vs,i+1,m,nd,h1,h2,hk=>by
   show bindC kindOf ((p,w)::P.zip vs) m x=_;unfold bindC;exact mS (i:=i) (X6.mp nd).2 (by simpa using h1) (by simpa using h2) hk
def start(N:List Xj)(vs:List V):St:=vs.map A?++XU (N.length - vs.length) B?
def jH(CX:CXT)(P:Xm)(w:XD)(K:WW)(mg:Xj->Option WV)(base:X3)(N:List Xj)(qual:Xj)(scope:ZP)(f:WS)(cd:WV)(A:XH)(outer:List Env)(s:WZ)(H:Hp)(E:XK):Cx where
 prog:=P
 w:=w
 K:=K
 mg:=mg
 base:=base
 A:=A.deeper (ZN qual scope s.1.1.size f cd)
 N:=N
 s₀:=s
 H₀:=H
 env:=ZN qual scope s.1.1.size f cd
 outer:=outer
 stack:=ZN qual scope s.1.1.size f cd::outer
 ex:=[]
 calm:=C?
 fn:=λ_=>C?
 pn:=[]
 xe:=λe s'=>Xf (Xx P w) (A.deeper (ZN qual scope s.1.1.size f cd)) (leaving (ZN qual scope s.1.1.size f cd) e) (λ_ Js=>CX outer H s E e Js) (λe' Js=>CX outer H s E e' Js) s'
theorem oR(h:sc.names.lookup x=A? .cell):∃c,(cellsFrom n sc.names []).lookup x=A? c:=by
 have q:=PySem.W.cellsFrom_some sc.names n [] (.inl h);exact Option.isSome_iff_exists.mp q
theorem sS{CX:CXT}{cd:WV}{outer:List Env}{s1:WZ}{E:XK}{vs:List V}
 (S:cQ N ps scope) (hd:A.handled=B?) (e0:Env0 P w K mg base A outer s H) (hl:vs.length=ps.length) (r:Vals vs us)
 (x:InCallC s s.1.1.size (bindL (ZN qual scope s.1.1.size f cd).kindOf (ps.zip us) λ_=>B?) (cellsFrom (s.1.1.size+1) scope.names []) (bindC (ZN qual scope s.1.1.size f cd).kindOf (ps.zip us) λ_=>B?) s1) :
 Inv (jH CX P w K mg base N qual scope f cd A outer s H E) [] (start N vs) H s1:=by
 have AF:ps.length<=N.length:=by have:=h! Y3 S.pre;rw[XC]at this;lia
 obtain⟨h1,tk,rfl,hk⟩:=x.done;have Nf:∀b:WS,b∉(jH CX P w K mg base N qual scope f cd A outer s H E).ex:=λb z=>g! (show b∈([]:List WS)from z) (by simp)
 refine⟨⟨e0.mod,S.kind,Dn,Dn,W0 _,λy z c h1 h2=>?_,λy hy=>?_,λy c _ h=>?_,λ_=>hd,Around.frames_deeper e0.frames,.inr ⟨Dn,Dn⟩,λb z=>g! z (Nf b),e0.bs,e0.bsz,λb _ _=>Nf b,λb z=>g! z (Nf b),e0.funs,e0.frf⟩,
  rfl,e0.bare,Un.kept hk,⟨_,x.toInCall.ns,λi y v h1 h2 h3=>?_⟩,λy c h=>⟨_,x.cell y c h⟩,e0.hok.fresh (W0 _),λy c h=>?_,λp hp=>g! (show p∈([]:List (WS×YF))from hp) (by simp),e0.hok.kept hk,?_⟩
 .exact name_of_addr x.apart (Yc h1) (Yc h2)
 .have hy:scope.names.lookup y=A? .cell\/scope.names.lookup y=A? .free:=hy;rcases hy with hy|hy
  .exact oR hy
  .exact g! rfl (S.nofree _ (Yc hy))
 .exact ZQ (x.above y c (Yc h))
 .have hi:i<vs.length:=by
   unfold start at h2;by_cases hi:i<vs.length
   .exact hi
   .rw[X0 (by simpa using hi)]at h2;rw[List.getElem?_replicate]at h2;split at h2 <;> cases h2
  have ha:vs[i]?=A? v:=by
   unfold start at h2;rw[XB (by simpa using hi),Xd]at h2;cases e:vs[i]? with
   |none=>rw[e]at h2;cases h2
   |some a=>rw[e]at h2;cases h2;rfl
  obtain⟨u,hu,rv⟩:=r.get ha
  have hp:ps[i]?=A? y:=by
   rw[<-S.pre,List.getElem?_take_of_lt (by lia)];exact h1
  have LW:ps.Nodup:=by rw[<-S.pre];exact S.nd.sublist (List.take_sublist _ _)
  refine⟨u,rv,?_⟩;rcases S.par y (WT hp)with k|k
  .exact .inl ⟨k,mw LW hp hu k⟩
  .obtain⟨c,e⟩:=oR (n:=s.1.1.size+1) k;refine .inr ⟨.inl k,c,e,?_⟩;have q:=x.cell y c e;rw[mS LW hp hu (by show scope.names.lookup y≠_;rw[k];decide)]at q;exact q
 .exact e0.hok.fresh (ZQ (x.above y c (Yc h)))
 .unfold start;show _=N.length;rw[W4,WO,List.length_replicate];lia
theorem va{CX:CXT}{k:Nat}{dV kV doc pm zZ ct:WV}{an:Option WS}
 {D1:Array (Option WV)} {sp:Sp} (lk:K.lookup f=A? ⟨oc,od,.func (PySem.W.fnOf name qual params body scope dV kV doc pm an zZ ct),D1⟩) (BU:PySem.W.codeIn K zZ qual=C?) (S:cQ N ps scope)
 (len:∀vs H Q E,sp vs H Q E->vs.length=ps.length)
 (AG:∀(A:XH)(outer:List Env)(s:WZ)(H:Hp)(vs:List V)(Q:VK)(E:XK),Room k (A.deeper (ZN qual scope s.1.1.size f zZ))->sp vs H Q E ->
  ∃t,PSs (jH CX P w K mg base N qual scope f zZ A outer s H E) body t/\t {nx:=λ_ H'=>Q .non H',rt:=Q} (start N vs) H) :
 FnOk P w K mg base CX (k+1) f (PySem.W.fnOf name qual params body scope dV kV doc pm an zZ ct) ps sp:=by
 refine⟨len,λA outer s H args us vs Q E hr e0 hb r Bu=>?_⟩;have hl:=len _ _ _ _ Bu;have KX:K.In s.1:=e0.mod.kin.keeps λb o e=>(e0.bs b o e).1;have lim:s.1.NoLimit:=e0.mod.nolimit.keeps λb o e=>(e0.bs b o e).1
 have Jt:∀y∈ps.zip us,scope.names.lookup y.1=A? .local\/(scope.names.lookup y.1=A? .cell/\((cellsFrom (s.1.1.size+1) scope.names []).lookup y.1).isSome=C?):=λ⟨n,v⟩hy=>by
  rcases S.par n (List.of_mem_zip hy).1 with q|q
  .exact .inl q
  .exact .inr ⟨q,PySem.W.cellsFrom_some _ _ _ (.inl q)⟩
 refine codeAny_call_function hr.depth (KX _ _ lk) rfl S.co S.gen rfl (PySem.W.codeRec_of KX BU) (hb _ _ _ _ ?_);refine wpAny_newFunctionEnv_cells S.kind Jt λenv he s1 x=>?_;subst he;refine⟨lim.keeps x.toInCall.keep,codeAny_func ?_⟩;obtain⟨t,ht,hq⟩:=AG A outer s H vs Q E (hr.deeper _) Bu;have I:Inv (jH CX P w K mg base N qual scope f zZ A outer s H E) [] (start N vs) H s1:=sS S hr.hd e0 hl r x;refine YI (ht [] s1 (start N vs) H _ I hq) (λfl s' hs=>?_) λe s' hs=>hs
 have fin:∀{l':St}{H':Hp}{v:V}{u:WV},Inv (jH CX P w K mg base N qual scope f zZ A outer s H E) [] l' H' s'->RelV v u->Q v H'->CE outer P w H s Q u s' :=
  λ{l' H' v u}J rv q=>⟨v,H',J.os,J.bare,J.base,J.hok,rv,q⟩
 cases fl with
 | ret u =>
   obtain⟨v,l',H',J,rv,q⟩:=hs;exact fin J rv q
 | next =>
   obtain⟨l',H',J,q⟩:=hs;exact fin (v:=V.non) (u:=Yp) J rfl q
 | brk =>
   obtain⟨_,_,_,q⟩:=hs;exact Yd q
 | cont =>
   obtain⟨_,_,_,q⟩:=hs;exact Yd q
end L2
variable{CX:L2.CXT}{sp:L2.Sp}
namespace L2
open PySem PySem.Spec PyProof.Rows
section
variable{X:Cx}{p:Z9}{es:List XZ}{t:TA}{id T:String}{r:List V->Hp->VK->Prop}
def tCB(r:List V->Hp->VK->Prop)(t:TA):TE:=λY H Q=>t Y H λvs H1=>r vs H1 Q
theorem az(hc:dm X (.builtin id) r)(hg:Gl X x)(hm:X.mg x=B?)(hv:bootBuiltins x=A? (.builtin id))(ha:PA X (e::es) t)(hn:x≠"__name__":=by decide)(C0:(x == ("__debug__":Xj))=false:=by decide)
 (he:XE (e::es) X.env=(D?,YQ e X.env)::XE es X.env:=by rfl) (AF:(ZC pos (XE es X.env)).any (·.1)=false:=by rfl):PE X (.Call (.Name x p) (e::es) [] pos) (tCB r t):=by
 intro Z s Y H Q I h;refine Yo (d6 I hg hm hv ?_ hn C0);exact PyProof.Rows.callWith_builtin1 (thn (ha pos Z s Y H _ I h) λus s1⟨vs,H1,I1,r1,q1⟩=>hc Z s1 Y H1 vs us Q I1 r1 q1) he AF
theorem aS(hc:dm X (.type T) r)(hg:Gl X x)(hm:X.mg x=B?)(hv:bootBuiltins x=A? (.type T))(ha:PA X (e::es) t)(hn:x≠"__name__":=by decide)(C0:(x == ("__debug__":Xj))=false:=by decide)
 (he:XE (e::es) X.env=(D?,YQ e X.env)::XE es X.env:=by rfl) (AF:(ZC pos (XE es X.env)).any (·.1)=false:=by rfl):PE X (.Call (.Name x p) (e::es) [] pos) (tCB r t):=by
 intro Z s Y H Q I h;refine Yo (d6 I hg hm hv ?_ hn C0);exact Yl (thn (ha pos Z s Y H _ I h) λus s1⟨vs,H1,I1,r1,q1⟩=>hc Z s1 Y H1 vs us Q I1 r1 q1) he AF
end
end L2
namespace HT
open PySem PyProof.Rows
section
open PySem.SeqAt
open PySem.AutoSeq1 (wpAny_loadPart')
open PySem.MeetsSeq PySem.MeetsSeq2 PySem.MeetsSeq3
end
theorem cat_tup{t:WS}{vs ws:List WV}(ht:IsTup s.1 t vs.toArray)(hb:IsTup s.1 b ws.toArray)(hv:vs≠[])
 (h1:ws=[]->Q (.ref t) s) (h2:ws≠[]->Q (.ref s.1.1.size) {s with heap:=s.1.push {cls:=.type "tuple",data:=.seq (vs++ws).toArray}})
 (hsz:vs.length+ws.length<=Xi):Xf (Xx prog w) A (Z7 .Add (.ref t) (.ref b)) Q E s:=by
 obtain⟨⟨cls,dd,data,sl⟩,ho,hc,n,hd⟩:=id ht;obtain⟨⟨Ju,Iq,data2,Ir⟩,DI,Dr,n2,hd2⟩:=id hb;simp only at hc hd Dr hd2;subst hc hd Dr hd2;have e:vs.toArray++ws.toArray=(vs++ws).toArray:=by simp
 by_cases hw:ws=[]
 .exact concat_meets ⟨_,ho,rfl⟩ ⟨_,DI,rfl⟩ noFill_tuple_add seq_tuple_add PySem.F.slot_tuple_add PySem.F.entry_tuple_add (PySem.F.args_tuple_add_2 _ _)
   (tuple_addW1 t b vs.toArray ws.toArray n n2 dd Iq sl Ir (by simpa using hv) (by simp[hw])) ⟨ho,DI,h1 hw⟩
 .refine concat_meets ⟨_,ho,rfl⟩ ⟨_,DI,rfl⟩ noFill_tuple_add seq_tuple_add PySem.F.slot_tuple_add PySem.F.entry_tuple_add (PySem.F.args_tuple_add_2 _ _)
   (tuple_addW2 t b vs.toArray ws.toArray n n2 dd Iq sl Ir (by simpa using hv) (by simpa using hw) (by rw[Xa,Xa];exact hsz)) ⟨ho,DI,?_⟩
  rw[e];exact h2 hw
def sIx(n d:Nat):Option Int->Nat
 |none=>d
 |some v=>if v<0 then(v+(n:Int)).toNat else min v.toNat n
theorem sIx_none(n d:Nat):sIx n d B?=d:=rfl
theorem sIx_nat(n d k:Nat):sIx n d (A? (k:Int))=min k n:=by
 show(if(k:Int)<0 then((k:Int)+(n:Int)).toNat else min (k:Int).toNat n)=min k n;rw[a! (by lia),Yj]
theorem sIx_le(n d:Nat)(hd:d<=n)(o:Option Int):sIx n d o<=n:=by
 cases o with
 |none=>exact hd
 | some v =>
   show(if v<0 then(v+(n:Int)).toNat else min v.toNat n)<=n;by_cases hv:v<0
   .rw[b! hv];lia
   .rw[a! hv];exact Nat.min_le_right _ _
theorem clip_eq(v:Int)(n d:Nat):(if v<0 then max (v+(n:Int)) 0 else min v (n:Int))=((sIx n d (A? v):Nat):Int):=by
 show(if v<0 then max (v+(n:Int)) 0 else min v (n:Int))=(((if v<0 then(v+(n:Int)).toNat else min v.toNat n):Nat):Int);by_cases hv:v<0
 .simp only[b! hv];lia
 .simp only[a! hv];lia
theorem adjust_gen(lo hi:Option Int)(n:Nat):ZE lo hi 1 (n:Int)=(((sIx n 0 lo:Nat):Int),((sIx n n hi:Nat):Int)):=by
 have h1:¬((1:Int)<0):=by lia
 unfold ZE;simp only[h1,if_false];refine Prod.ext ?_ ?_
 .cases lo with
  |none=>rfl
  |some v=>exact clip_eq v n 0
 .cases hi with
  |none=>rfl
  |some v=>exact clip_eq v n n
theorem places_gen(i j:Nat):Yz (i:Int) (j:Int) 1=j - i:=by
 unfold Yz;have h1:(1:Int) > 0:=by lia
 simp only[h1,if_true,Int.ediv_one];split <;> lia
theorem slicePart_{v:WV}{o:Option Int}{Q:Option Int->WZ->Prop}(p:IsPart v o)(h:Q o s):Xf (Xx prog w) A (Builtin.Slice.slicePartIndex v) Q E s:=by
 cases p with
 |none=>exact slicePart_none h
 |int i t=>exact slicePart_int h
theorem sliceApplied_gen{Q:Int×Int×Nat->WZ->Prop}(hs:s.1.IsSliceOf sl vl vu .none)(pl:IsPart vl lo)(pu:IsPart vu hi)
 (h:Q (((sIx n 0 lo:Nat):Int),1,sIx n n hi - sIx n 0 lo) s):Xf (Xx prog w) A (Builtin.Slice.sliceApplied (.ref sl) (pure (n:Int))) Q E s:=by
 obtain⟨os,Bi,BW,Bq⟩:=id hs;unfold Builtin.Slice.sliceApplied Builtin.Slice.sliceFields;refine WN (WN (XT Bi Bq (x:=vl) rfl (WN (XT Bi Bq (x:=vu) rfl (WN (XT Bi Bq (x:=.none) rfl (WX ?_)))))));refine WN (slicePart_none ?_);show Xf _ _ (if((1:Int) == 0)=C? then _ else _) _ _ s;rw[a! (by decide)];refine WN (slicePart_ pl (WN (slicePart_ pu (WN (WX ?_)))));show Xf _ _ (match ZE lo hi 1 (n:Int)with|(lo,hi)=>pure (lo,(1:Int),Yz lo hi 1)) _ _ s;rw[adjust_gen lo hi n];show Xf _ _ (pure (((sIx n 0 lo:Nat):Int),(1:Int),Yz ((sIx n 0 lo:Nat):Int) ((sIx n n hi:Nat):Int) 1)) _ _ s;rw[places_gen];exact WX h
theorem pick_gen(xs:Array WV)(i k:Nat):((Yr k).filterMap λ(m:Nat)=>xs[((i:Int)+(m:Int) * 1).toNat]?).toArray=((xs.toList.drop i).take k).toArray:=by
 have e:(λ(m:Nat)=>xs[((i:Int)+(m:Int) * 1).toNat]?)=λm=>xs[i+m]?:=by
  funext m;have:((i:Int)+(m:Int) * 1).toNat=i+m:=by lia
  rw[this]
 rw[e];have:=pick_run xs i k;rw[List.filterMap_map]at this;have e2:((λx=>xs[x]?) ∘ λx=>i+x)=λm=>xs[i+m]?:=rfl;rw[e2]at this;rw[this]
theorem getItem_tuple_cut{t:WS}(ht:IsTup s.1 t items)(hs:s.1.IsSliceOf sl vl vu .none)(pl:IsPart vl lo)(pu:IsPart vu hi)
 (hw:¬(sIx items.size 0 lo=0/\sIx items.size items.size hi=items.size))
 (h:Q (.ref s.1.1.size) {s with heap:=s.1.push {cls:=.type "tuple",data:=.seq ((items.toList.drop (sIx items.size 0 lo)).take (sIx items.size items.size hi - sIx items.size 0 lo)).toArray}})
 (hsz:items.size<=Xi):Xf (Xx prog w) A (getItem (.ref t) (.ref sl)) Q E s:=by
 have Be:sizeOk (.seq ((items.toList.drop (sIx items.size 0 lo)).take (sIx items.size items.size hi - sIx items.size 0 lo)).toArray):=by
  show((items.toList.drop (sIx items.size 0 lo)).take (sIx items.size items.size hi - sIx items.size 0 lo)).toArray.size<=Xi;rw[Xa,XC,XJ,Xr];lia
 have hj:sIx items.size items.size hi<=items.size:=sIx_le _ _ (W0 _) hi;obtain⟨os,Bi,BW,Bq⟩:=id hs;have Jv:s.TypeIs (.ref sl) "slice":=⟨os,Bi,BW⟩;unfold getItem
 try with_reducible refine Yn ?_
 first|refine WN (WX ?_)|skip
 refine WN (wpAny_sequenceKey ht.typeIs (by decide) ?_)
 refine WN (XS (name:=W6 "__getitem__") ht.typeIs XM
  (XY XM ht.typeIs entry_tuple_getitem ?_ (args_tuple_getitem _ _)))
 show Xf _ _ (Builtin.Tuple.tupleItemsOf (.ref t) >>= _) _ _ s;refine WN (tupleItemsOf_ ht ?_);refine WN (Zs Jv ?_);rw[b! (by decide)];refine WN (sliceApplied_gen hs pl pu ?_)
 have Bv:¬((((sIx items.size 0 lo:Nat):Int) == 0 && (1:Int) == 1 && (sIx items.size items.size hi - sIx items.size 0 lo) == items.size)=C?):=by
  intro q;rw[Bool.and_eq_true,Bool.and_eq_true]at q;have q1:((sIx items.size 0 lo:Nat):Int)=0:=eq_of_beq q.1.1;have q2:sIx items.size items.size hi - sIx items.size 0 lo=items.size:=eq_of_beq q.2;exact hw ⟨by lia,by lia⟩
 show Xf _ _ (if(((sIx items.size 0 lo:Nat):Int) == 0 && (1:Int) == 1 && (sIx items.size items.size hi - sIx items.size 0 lo) == items.size)=C? then _ else _) _ _ s;rw[a! Bv,pick_gen]
 first
  |exact WN (m:=YB _) (XO (WX ⟨_,rfl,WX h⟩) Be)
  |exact WN (m:=YB _) (XO (WN (WX (WX ⟨_,rfl,WX h⟩))) Be)
  |exact WN (WN (m:=YB _) (XO (WX (WX ⟨_,rfl,WX h⟩)) Be))
  |exact WN (WN (m:=YB _) (XO (WX ⟨_,rfl,WX h⟩) Be))
end HT
open HT renaming sIx->t!,sIx_nat->y!,sIx_none->L!
namespace L2
open PySem PySem.Spec PyProof.Rows
abbrev TO:=St->Hp->(Option Int->Hp->Prop)->Prop
def PO(X:Cx)(e:Option XZ)(t:TO):Prop :=
 ∀(Z:List (WS×YF))(s:WZ)(Y:St)(H:Hp)(Q:Option Int->Hp->Prop),Inv X Z Y H s->t Y H Q ->
   Xf (Xx X.prog X.w) X.A (evalPart e X.env) (λu s'=>∃o H',Inv X Z Y H' s'/\IsPart u o/\Q o H') X.xe s
def vO:TO:=λ_ H Q=>Q B? H
inductive w8(x:V)(Q:Option Int->Hp->Prop)(H1:Hp):Prop
 |mk (i:Int) (BR:x=.int i) (BS:Q (A? i) H1):w8 x Q H1
def wN(t:TE):TO:=λY H Q=>t Y H λx H1=>w8 x Q H1
theorem intsAre_of{ns:List Int}:∀{us:List WV},Vals (ns.map o!) us->IntsAre us ns:=by
 induction ns with
 |nil=>intro us r;rw[YS]at r;cases r;exact .nil
 | cons n ns ih =>
   intro us r;rw[XG]at r;cases r with
   | cons r1 r2 =>
     obtain⟨t,e⟩:=r1;subst e;exact .cons n t (ih r2)
section
variable{X:Cx}{lo hi:Option XZ}{tl th:TO}{p2:Z9}
theorem bp:PO X B? vO:=by
 intro Z s Y H Q I h;rw[evalPart_none];exact WX ⟨B?,H,I,.none,h⟩
theorem bj(h:PE X e te):PO X (A? e) (wN te):=by
 intro Z s Y H Q I hw;rw[evalPart_some];refine thn (h Z s Y H _ I hw) λu s1⟨x,H1,I1,r1,q1⟩=>?_;obtain⟨i,rfl,q⟩:=q1;obtain⟨t,rfl⟩:=r1;exact⟨A? i,H1,I1,.int i t,q⟩
def SlR(X:Cx)(r:V->Option Int->Option Int->Hp->VK->Prop):Prop :=
 ∀(Z:List (WS×YF))(s:WZ)(Y:St)(H:Hp)(x:V)(v vl vu:WV)(lo hi:Option Int)(sl:WS)(Q:VK),Inv X Z Y H s->RelV x v->s.1.IsSliceOf sl vl vu .none->IsPart vl lo->IsPart vu hi->r x lo hi H Q ->
   ∃T id,typeLookup (.type T) "__getitem__"=pure (A? (.builtin id))/\s.TypeIs v T/\Xf (Xx X.prog X.w) X.A (getItem v (.ref sl)) (EP X Z Y Q) X.xe s
def tSl(r:V->Option Int->Option Int->Hp->VK->Prop)(te:TE)(tl th:TO):TE:=λY H Q=>te Y H λx H1=>tl Y H1 λl H2=>th Y H2 λu H3=>r x l u H3 Q
theorem aX{r:V->Option Int->Option Int->Hp->VK->Prop}(hr:SlR X r)(he:PE X e te)(hl:PO X lo tl)(hu:PO X hi th):PE X (.Subscript e (.Slice lo hi B? p2) pos) (tSl r te tl th):=by
 intro Z s Y H Q I h;refine Subscript_ (thn (he Z s Y H _ I h) λv s1⟨x,H1,I1,r1,q1⟩=>?_);refine wpAny_Slice (thn (hl Z s1 Y H1 _ I1 q1) λvl s2⟨l,H2,I2,pl,q2⟩=>thn (hu Z s2 Y H2 _ I2 q2) λvu s3⟨u,H3,I3,pu,q3⟩=>?_);rw[evalPart_none];refine WX ?_;have I4:Inv X Z Y H3 {s3 with heap:=s3.1.push {cls:=.type "slice",data:=.fields #[vl,vu,.none]}}:=I3.kept (t':=s3.toks) λb ob q=>WU _ q;obtain⟨T,id,hT,ht,hg⟩:=hr Z {s3 with heap:=s3.1.push {cls:=.type "slice",data:=.fields #[vl,vu,.none]}} Y H3 x v vl vu l u s3.1.1.size Q I4 r1 (Heap.IsSliceOf.new ..) pl pu q3;show Xf (Xx X.prog X.w) X.A (subscriptTail e (.Slice lo hi B? p2) v (.ref s3.1.1.size)) (EP X Z Y Q) X.xe {s3 with heap:=s3.1.push {cls:=.type "slice",data:=.fields #[vl,vu,.none]}};exact tail_any (ops:=[.ref s3.1.1.size,v]) ht hT hg (by with_unfolding_all rfl)
def cH(xs:List V)(lo hi:Option Int):List V:=(xs.drop (t! xs.length 0 lo)).take (t! xs.length xs.length hi - t! xs.length 0 lo)
theorem dZ(xs:List V)(lo hi:Option Int):(cH xs lo hi).length<=xs.length:=by
 unfold cH;rw[XC,XJ];lia
inductive wM(K:WW)(x:V)(lo:Option Int)(hi:Option Int)(H:Hp)(Q:VK):Prop
 |mk (a:_) (xs:_) (BR:x=.ref a) (BS:SqT K H a xs) (CZ:¬(t! xs.length 0 lo=0/\t! xs.length xs.length hi=xs.length)) (EW:∀p,H p=B?->Q (.ref p) (upd H p (.tup (cH xs lo hi)))):wM K x lo hi H Q
def zo(K:WW):V->Option Int->Option Int->Hp->VK->Prop:=wM K
theorem fJ:SlR X (zo X.K):=by
 intro Z s Y H x v vl vu lo hi sl Q I rx hs pl pu h;obtain⟨a,xs,rfl,hx,hw,q⟩:=h;cases rx;obtain⟨its,r,ht,hz⟩:=I.tuple hx;have hlen:its.toArray.size=xs.length:=by rw[Xa];exact r.length.symm
 refine⟨"tuple",_,XM.lookup,ht.typeIs,?_⟩;refine HT.getItem_tuple_cut ht hs pl pu (by rw[hlen];exact hw) ?_ (by rw[hlen];exact hz);rw[hlen];refine⟨.ref s.1.1.size,_,I.laid (t':=s.toks) (o:=.tup (cH xs lo hi)) (λb ob q=>WU _ q) (W0 _) ?_,Dn,q _ (I.hok.fresh (W0 _))⟩;exact⟨X2 (dZ xs lo hi) hz,_,0,(r.drop (t! xs.length 0 lo)).take (t! xs.length xs.length hi - t! xs.length 0 lo),W3 _ rfl⟩
def yH(K:WW):R2:=λx y H Q=>∃a b xs ys,x=.ref a/\y=.ref b/\SqT K H a xs/\SqT K H b ys/\xs≠[]/\xs.length+ys.length<=Xi /\
 (ys=[]->Q (.ref a) H)/\(ys≠[]->∀p,H p=B?->Q (.ref p) (upd H p (.tup (xs++ys))))
theorem Vals.nil_iff(r:Vals xs us):us=[]↔xs=[]:=by
 cases r with
 |nil=>simp
 |cons _ _=>simp
theorem wg:OpR X (Z7 .Add) (yH X.K):=by
 intro Z s Y H x y v u Q I rx ry h;obtain⟨a,b,xs,ys,rfl,rfl,ha,hb,hx,hz,q1,q2⟩:=h;cases rx;cases ry;obtain⟨its,r1,p1,_⟩:=I.tuple ha;obtain⟨Aa,r2,p2,_⟩:=I.tuple hb;refine HT.cat_tup p1 p2 (λz=>hx (r1.nil_iff.mp z)) (λz=>⟨.ref a,H,I,rfl,q1 (r2.nil_iff.mp z)⟩) (λz=>?_) (by rw[<-r1.length,<-r2.length];exact hz);refine⟨.ref s.1.1.size,_,I.laid (t':=s.toks) (o:=.tup (xs++ys)) (λb ob q=>WU _ q) (W0 _) ?_,Dn,q2 (λw=>z (r2.nil_iff.mpr w)) _ (I.hok.fresh (W0 _))⟩;exact⟨by rw[W4];exact hz,_,0,r1.append r2,W3 _ rfl⟩
end
def ixN(n:Nat)(i:Int):Option Nat:=if 0<=i then(if i<n then A? i.toNat else B?)else if -(n:Int)<=i then A? (i+n).toNat else B?
def atI{α:Type}(xs:List α)(i:Int):Option α:=(ixN xs.length i).bind λj=>xs[j]?
theorem n5{i:Int}(h:ixN n i=A? j):seqIndex? i n=A? j/\j<n/\-(n:Int)<=i/\i<n:=by
 unfold ixN at h;by_cases h0:0<=i
 .rw[b! h0]at h;by_cases h1:i<n
  .rw[b! h1]at h;have e:i.toNat=j:=Xh h;exact⟨by rw[seqIndex_of h0 h1,e],by lia,by lia,h1⟩
  .rw[a! h1]at h;cases h
 .rw[a! h0]at h;by_cases h1:-(n:Int)<=i
  .rw[b! h1]at h;have e:(i+n).toNat=j:=Xh h;exact⟨by rw[seqIndex_neg (by lia) h1,e],by lia,h1,by lia⟩
  .rw[a! h1]at h;cases h
theorem nR{xs:List α}{i:Int}{v:α}(h:atI xs i=A? v):∃j,seqIndex? i xs.length=A? j/\xs[j]?=A? v/\j<xs.length/\-(xs.length:Int)<=i/\i<xs.length:=by
 unfold atI at h;cases e:ixN xs.length i with
 |none=>rw[e]at h;cases h
 | some j =>
   rw[e]at h;obtain⟨h1,h2,h3,h4⟩:=n5 e;exact⟨j,h1,h,h2,h3,h4⟩
theorem bL{xs:List α}{v:α}(h:xs[j]?=A? v):atI xs (j:Int)=A? v:=by
 have hj:j<xs.length:=(glE h)
 have e:ixN xs.length (j:Int)=A? j:=by
  unfold ixN;rw[b! (by lia),b! (by lia)];simp
 unfold atI;rw[e];exact h
theorem uD(xs:List α)(v:α):atI (xs++[v]) (-1)=A? v:=by
 have hl:(xs++[v]).length=xs.length+1:=by simp
 have e:ixN (xs++[v]).length (-1)=A? xs.length:=by
  unfold ixN;rw[hl,a! (by decide),b! (by lia)];congr 1;lia
 unfold atI;rw[e];show(xs++[v])[xs.length]?=A? v;simp
def vT(b:XZ):Prop:=∀o i,subscripted b D? o i=operate [o,i] (getItem o i)
def IxR(X:Cx)(r:R2):Prop :=
 ∀(value slice:XZ)(Z:List (WS×YF))(s:WZ)(Y:St)(H:Hp)(x y:V)(v u:WV)(Q:VK),Inv X Z Y H s->RelV x v->RelV y u->r x y H Q ->
   subscripted slice D? v u=operate [v,u] (getItem v u)->Xf (Xx X.prog X.w) X.A (subscriptTail value slice v u) (EP X Z Y Q) X.xe s
def MtR(X:Cx)(id:String)(r:V->List V->Hp->VK->Prop):Prop :=
 ∀(Z:List (WS×YF))(s:WZ)(Y:St)(H:Hp)(x:V)(xs:List V)(v:WV)(us:List WV)(Q:VK),Inv X Z Y H s->RelV x v->Vals xs us->r x xs H Q ->
   Xf (Xx X.prog X.w) X.A (call (.builtin id) (v::us)) (EP X Z Y Q) X.xe s
section
variable{X:Cx}{a b:XZ}{ta tb:TE}
theorem aD(hr:IxR X r)(ha:PE X a ta)(hb:PE X b tb)(hs:vT b):PE X (.Subscript a b pos) (tOp r ta tb):=by
 intro Z s Y H Q I h;exact Subscript_ (xI ha hb I h λv u s2 x y H2 I2 rx ry q=>hr a b Z s2 Y H2 x y v u Q I2 rx ry q (hs _ _))
inductive xc(K:WW)(x:V)(y:V)(H:Hp)(Q:VK):Prop
 |mk (p:_) (xs:_) (i:_) (v:_) (BR:x=.ref p) (BS:y=.int i) (CZ:SqL K H p xs) (EW:atI xs i=A? v) (GQ:Q v H):xc K x y H Q
def yK(K:WW):R2:=xc K
inductive wW(K:WW)(x:V)(y:V)(H:Hp)(Q:VK):Prop
 |mk (p:_) (xs:_) (i:_) (v:_) (BR:x=.ref p) (BS:y=.int i) (CZ:SqT K H p xs) (EW:atI xs i=A? v) (GQ:Q v H):wW K x y H Q
def nn(K:WW):R2:=wW K
inductive w6(x:V)(y:V)(H:Hp)(Q:VK):Prop
 |mk (z:_) (i:_) (c:_) (BR:x=.str z) (BS:y=.int i) (CZ:z.length<=Xi) (EW:atI z.cps.toList i=A? c) (GQ:Q (.str ⟨#[c]⟩) H):w6  x y H Q
def zp:R2:=w6
theorem bd:IxR X (yK X.K):=by
 intro value slice Z s Y H x y v u Q I rx ry h hs;obtain⟨p,xs,i,z,rfl,rfl,hq,he,q⟩:=h;cases rx;obtain⟨t,rfl⟩:=ry;obtain⟨its,r,pl,hz⟩:=I.list hq;obtain⟨j,h1,h2,h3,h4,h5⟩:=nR he;obtain⟨w,ew,Ef⟩:=r.get h2;have hl:=r.length;have hn:=dC;have fin:EP X Z Y Q w s:=⟨z,H,I,Ef,q⟩;by_cases h0:0<=i
 .have hj:i.toNat=j:=by
   rw[seqIndex_of h0 h5]at h1;exact Xh h1
  exact item_listR pl.isList h0 (by lia) (by rw[hj];simpa using ew) fin hs
 .have hj:(i+(its.toArray.size:Int)).toNat=j:=by
   rw[seqIndex_neg (by lia) h4]at h1;rw[Xa,<-hl];exact Xh h1
  exact subscriptTail_builtinR (x:=w) pl.isList.typeIs slot_list_getitem.lookup
   (wpAny_getItem_list_neg (Q:=λr s'=>r=w/\EP X Z Y Q r s') pl.isList (by lia) (by rw[Xa] <;> lia) (by lia) (by rw[hj];simpa using ew) ⟨rfl,fin⟩) hs
theorem aE:IxR X (nn X.K):=by
 intro value slice Z s Y H x y v u Q I rx ry h hs;obtain⟨p,xs,i,z,rfl,rfl,hq,he,q⟩:=h;cases rx;obtain⟨t,rfl⟩:=ry;obtain⟨its,r,pl,hz⟩:=I.tuple hq;obtain⟨j,h1,h2,h3,h4,h5⟩:=nR he;obtain⟨w,ew,Ef⟩:=r.get h2;have hl:=r.length;have hn:=dC;have fin:EP X Z Y Q w s:=⟨z,H,I,Ef,q⟩
 exact subscriptTail_builtinR (x:=w) pl.typeIs slot_tuple_getitem.lookup
  (getItem_tuple (j:=j) (Q:=λr s'=>r=w/\EP X Z Y Q r s') pl (by lia) (by lia) (by rw[Xa,<-hl];exact h1) (by simpa using ew) ⟨rfl,fin⟩) hs
theorem vh:IxR X zp:=by
 intro value slice Z s Y H x y v u Q I rx ry h hs;obtain⟨z,i,c,rfl,rfl,hz,he,q⟩:=h;obtain⟨t,rfl⟩:=rx;obtain⟨t',rfl⟩:=ry;obtain⟨j,h1,h2,h3,h4,h5⟩:=nR he;have hl:z.cps.toList.length=z.length:=by simp[Str.length]
 rw[hl]at h1 h4 h5;have hn:=dC
 exact tail_any (typeIs_str s z t) slot_str_getitem.lookup (getItem_str (c:=c) (by
  have e1:decide (i < -(2 ^ 63:Int))=false:=c! (by lia);have e2:decide (i >= 2 ^ 63)=false:=c! (by lia);rw[e1,e2,Bool.or_false]) (by rw[h1];simpa using h2) ⟨.str ⟨#[c]⟩,H,I.tok _,⟨_,rfl⟩,q⟩) hs
theorem qH(its:List WV)(n j:Nat)(u:WV):Zh (·.setIfInBounds j u) {cls:=.type "list",data:=.seq its.toArray n}={cls:=.type "list",data:=.seq (its.set j u).toArray n}:=by
 simp[Zh]
theorem Inv.lst{p:WS}(I:Inv X Z Y H s)(h:H p=A? (.lst xs)) :
 ∃(its:List WV)(n:Nat),Vals xs its/\s.1.get? p=A? {cls:=.type "list",data:=.seq its.toArray n}/\xs.length<=Xi:=by
 obtain⟨z,its,n,r,e⟩:=I.hok p _ h;exact⟨its,n,r,e,z⟩
theorem Inv.lstUpd{p:WS}{ys:List V}{its':List WV}{n':Nat}{f:YF->YF}(I:Inv X Z Y H s)(h:H p=A? (.lst xs))
 (ho:s.1.get? p=A? {cls:=.type "list",data:=.seq its.toArray n}) (hf:f {cls:=.type "list",data:=.seq its.toArray n}={cls:=.type "list",data:=.seq its'.toArray n'}) (r:Vals ys its') (hz:ys.length<=Xi) (t:Nat) :
 Inv X Z Y (upd H p (.lst ys)) {s with heap:=s.1.update p f,toks:=t}:=by
 have e:(s.1.update p f).get? p=A? {cls:=.type "list",data:=.seq its'.toArray n'}:=by
  rw[Yt f ho (by rw[hf] <;> rfl),hf]
 refine I.write (x:=p) (e:=p) (by rw[h];trivial) (.inl rfl) (λb u hb q=>(YG _ _ (Zr hb)).trans q) ⟨_,e⟩ ?_;exact⟨hz,its',n',r,e⟩
def yX:V->V->V->Hp->(Hp->Prop)->Prop:=λo i v H Q=>∃p xs k j,o=.ref p/\i=.int k/\H p=A? (.lst xs)/\ixN xs.length k=A? j/\Q (upd H p (.lst (xs.set j v)))
theorem set_list:yI X yX:=by
 intro Z s Y H o i v ov iv u Q I ro ri rv h;obtain⟨p,xs,k,j,rfl,rfl,hp,hj,q⟩:=h;cases ro;obtain⟨t,rfl⟩:=ri;obtain⟨its,n,r,ho,hz⟩:=I.lst hp;obtain⟨h1,h2,h3,h4⟩:=n5 hj;have hl:=r.length;have hn:=dC
 have I':Inv X Z Y (upd H p (.lst (xs.set j v))) {s with heap:=s.1.update p (Zh (·.setIfInBounds j u))} :=
  I.lstUpd hp ho (qH its n j u) (r.set rv j) (by rw[List.length_set];exact hz) s.toks
 by_cases h0:0<=k
 .have hk:k.toNat=j:=by
   rw[seqIndex_of h0 h4]at h1;exact Xh h1
  exact PySem.W.ki_setAt ho h0 (by lia) (by rw[Xa,<-hl];exact h4) (by rw[hk];exact⟨_,I',q⟩)
 .have hk:(k+(its.toArray.size:Int)).toNat=j:=by
   rw[seqIndex_neg (by lia) h3]at h1;rw[Xa,<-hl];exact Xh h1
  exact PySem.W.ki_setBack ho (by lia) (by rw[Xa,<-hl];exact h3) (by lia) (by rw[hk];exact⟨_,I',q⟩)
theorem nK(lo hi:Option Int)(n:Nat):(sliceBounds lo hi B? n).1=((t! n 0 lo:Nat):Int)/\(sliceBounds lo hi B? n).2.1=((t! n n hi:Nat):Int)/\(sliceBounds lo hi B? n).2.2=1:=by
 refine⟨?_,?_,Dn⟩
 .cases lo with
  |none=>simp[sliceBounds,t!]
  | some i =>
    simp only[sliceBounds,t!,Option.getD_none,show(1:Int) > 0 by decide,if_true];by_cases h:i<0
    .simp only[h,if_true] <;> lia
    .simp only[h,if_false] <;> lia
 .cases hi with
  |none=>simp[sliceBounds,t!]
  | some i =>
    simp only[sliceBounds,t!,Option.getD_none,show(1:Int) > 0 by decide,if_true];by_cases h:i<0
    .simp only[h,if_true] <;> lia
    .simp only[h,if_false] <;> lia
theorem lF(its:List WV)(lo hi:Option Int):slicePick its.toArray lo hi B?=((its.drop (t! its.length 0 lo)).take (t! its.length its.length hi - t! its.length 0 lo)).toArray:=by
 obtain⟨h1,h2,h3⟩:=nK lo hi its.toArray.size;unfold slicePick;rw[h1,h2,h3];simp only[sliceRange_one,pick_run,Xa] <;> rfl
inductive wO(K:WW)(x:V)(lo:Option Int)(hi:Option Int)(H:Hp)(Q:VK):Prop
 |mk (a:_) (xs:_) (BR:x=.ref a) (BS:SqL K H a xs) (CZ:∀p,H p=B?->Q (.ref p) (upd H p (.lst (cH xs lo hi)))):wO K x lo hi H Q
def zj(K:WW):V->Option Int->Option Int->Hp->VK->Prop:=wO K
theorem fU:SlR X (zj X.K):=by
 intro Z s Y H x v vl vu lo hi sl Q I rx hs pl pu h;obtain⟨a,xs,rfl,hx,q⟩:=h;cases rx;obtain⟨its,r,ht,hz⟩:=I.list hx;have hlen:=r.length;refine⟨"list",_,slot_list_getitem.lookup,ht.isList.typeIs,?_⟩;refine wpAny_getItem_list_slice ht.isList hs pl pu .none (by simp) ?_ (by rw[Xa] <;> lia);rw[lF,<-hlen];refine⟨.ref s.1.1.size,_,I.laid (t':=s.toks) (o:=.lst (cH xs lo hi)) (λb ob q=>WU _ q) (W0 _) ?_,Dn,q _ (I.hok.fresh (W0 _))⟩;exact⟨X2 (dZ xs lo hi) hz,_,0,(r.drop (t! xs.length 0 lo)).take (t! xs.length xs.length hi - t! xs.length 0 lo),W3 _ rfl⟩
inductive wY(K:WW)(xs:List V)(H:Hp)(Q:VK):Prop
 |mk (p:WS) (ys:List V) (BR:xs=[.ref p]) (BS:SqL K H p ys\/SqT K H p ys) (CZ:Q (.int ys.length) H):wY K xs H Q
theorem aw:dm X (.builtin "len") (wY X.K):=by
 intro Z s Y H xs us Q I r h;obtain⟨p,ys,rfl,hq,q⟩:=h;obtain⟨u,rfl,rx⟩:=vals1 r;cases rx;have hn:=dC;rcases hq with hq|hq
 .obtain⟨its,r',pl,hz⟩:=I.list hq;have hlen:=r'.length;exact Calls.call_len_list pl.isList (by simp only[Xa] <;> lia) ⟨.int ys.length,H,I.tok _,⟨s.toks+1,by rw[Xa,hlen]⟩,q⟩
 .obtain⟨its,r',pl,hz⟩:=I.tuple hq;have hlen:=r'.length;exact len_tuple pl (by simp only[Xa] <;> lia) ⟨.int ys.length,H,I.tok _,⟨s.toks+1,by rw[Xa,hlen]⟩,q⟩
theorem iw:dm X (.builtin "len") (λxs H Q=>∃z,xs=[.str z]/\z.length<=Xi/\Q (.int z.length) H):=by
 intro Z s Y H xs us Q I r h;obtain⟨z,rfl,hz,q⟩:=h;obtain⟨u,rfl,t,rfl⟩:=vals1 r;have hn:=dC;exact len_str (by lia) ⟨.int z.length,H,I.tok _,⟨_,rfl⟩,q⟩
theorem aR:dm X (.type "tuple") (λxs H Q=>∃p ys,xs=[.ref p]/\((SqL X.K H p ys/\∀l,H l=B?->Q (.ref l) (upd H l (.tup ys)))\/(SqT X.K H p ys/\Q (.ref p) H))):=by
 intro Z s Y H xs us Q I r h;obtain⟨p,ys,rfl,h⟩:=h;obtain⟨u,rfl,rx⟩:=vals1 r;cases rx;rcases h with⟨hq,q⟩|⟨hq,q⟩
 .obtain⟨its,r',pl,hz⟩:=I.list hq;have hlen:=r'.length;refine call_tuple_list pl.isList (λh' kp=>?_) (by simp only[Xa] <;> lia);have I1:Inv X Z Y H {s with heap:=h'}:=I.kept (t':=s.toks) kp
  have I2:Inv X Z Y (upd H h'.objs.size (.tup ys)) {s with heap:=h'.push {cls:=.type "tuple",data:=.seq its.toArray}} :=
   I1.laid (t':=s.toks) (λb o e=>WU _ e) (W0 _) (show ObjOk X.prog X.w _ _ _ (.tup ys)from⟨hz,its,0,r',W3 _ rfl⟩)
  exact⟨.ref h'.objs.size,_,I2,Dn,q _ (I1.hok.fresh (W0 _))⟩
 .obtain⟨its,r',pl,hz⟩:=I.tuple hq;exact call_tuple_same pl ⟨.ref p,H,I,rfl,q⟩
def tyV(K:WW)(T:String)(x:V)(H:Hp):Prop:=match x with
 |.str _=>T="str"
 |.int _=>T="int"
 |.ref p=>(T="list"/\∃xs,SqL K H p xs)\/(T="tuple"/\∃o,K.lookup p=A? o/\o.cls=.type "tuple"/\o.dict=B?) \/
  (T="dict"/\((∃kvs,H p=A? (.dK kvs))\/∃kvs,H p=A? (.dT kvs)))\/(T="set"/\∃S n,H p=A? (.set S n))
 |_=>False
theorem ui{T:String}{x:V}{v:WV}(I:Inv X Z Y H s)(r:RelV x v)(ty:tyV X.K T x H) :
 s.TypeIs v T/\∀a,v=.ref a->∃ob,s.1.get? a=A? ob/\ob.dict=none:=by
 cases x with
 | str z =>
   obtain⟨t,rfl⟩:=r;cases(show T="str" from ty);exact⟨typeIs_str s z t,λ_ e=>nomatch e⟩
 | int i =>
   obtain⟨t,rfl⟩:=r;cases(show T="int" from ty);exact⟨typeIs_int s i t,λ_ e=>nomatch e⟩
 | ref p =>
   cases r;rcases ty with⟨rfl,xs,hq⟩|⟨rfl,o,hk,hc,hd⟩|⟨rfl,hk⟩|⟨rfl,S,n,hk⟩
   .obtain⟨its,_,pl,_⟩:=I.list hq;refine⟨pl.isList.typeIs,λa e=>?_⟩;cases e;obtain⟨o,n,e,c,hd,_⟩:=pl;exact⟨o,e,hd⟩
   .refine⟨⟨o,I.kIn p o hk,hc⟩,λa e=>?_⟩;cases e;exact⟨o,I.kIn _ o hk,hd⟩
   .have z:∃o,s.1.get? p=A? o/\o.ExactDict:=by
     rcases hk with⟨kvs,hk⟩|⟨kvs,hk⟩
     .obtain⟨_,_,_,_,o,_,_,e,ex,_⟩:=I.hok p _ hk;exact⟨o,e,ex⟩
     .obtain⟨_,_,_,_,o,_,_,e,ex,_⟩:=I.hok p _ hk;exact⟨o,e,ex⟩
    obtain⟨o,e,ex⟩:=z;refine⟨⟨o,e,ex.1⟩,λa e2=>?_⟩;cases e2;exact⟨o,e,ex.2.1⟩
   .obtain⟨o,_,_,_,e,ex,_⟩:=I.hok p _ hk;refine⟨⟨o,e,ex.1⟩,λa e2=>?_⟩;cases e2;exact⟨o,e,ex.2.1⟩
 |_=>exact Yd ty
def xq(K:WW)(T:String)(r:V->List V->Hp->VK->Prop)(to:TE):TE:=λY H Q=>to Y H λx H1=>tyV K T x H1/\r x [] H1 Q
def tBM(K:WW)(T:String)(r:V->List V->Hp->VK->Prop)(to:TE)(t:TA):TE:=λY H Q=>to Y H λx H1=>tyV K T x H1/\t Y H1 λxs H2=>r x xs H2 Q
variable{o:XZ}{es:List XZ}{to:TE}{t:TA}{apos Aj:Z9}{T id:String}{r:V->List V->Hp->VK->Prop}
theorem i3(pa:PlainAttrs T)(slot:Slot T name id)(Ng:typeOf (.builtin id)=pure (.type "method_descriptor"))(hm:MtR X id r)(ho:PE X o to)
 (AM:Z8 o name X.env (YQ o X.env)=YQ o X.env:=by rfl) (Bf:(apos.endLine == Aj.line)=true:=by rfl):PE X (.Call (.Attribute o name apos) [] [] Aj) (xq X.K T r to):=by
 intro Z s Y H Q I h;refine wpAny_Call_method0_late AM Bf (thn (ho Z s Y H _ I h) λv s1⟨x,H1,I1,r1,ty,q1⟩=>?_);obtain⟨h1,h2⟩:=ui I1 r1 ty;exact⟨T,id,pa,slot,Ng,h1,h2,Calls.callWith_builtin rfl (PySem.evalArgs_none (hm Z s1 Y H1 x [] v [] Q I1 r1 .nil q1))⟩
theorem bD(pa:PlainAttrs T)(slot:Slot T name id)(Ng:typeOf (.builtin id)=pure (.type "method_descriptor"))(hm:MtR X id r)(ho:PE X o to)(ha:PA X (e::es) t)
 (AM:Z8 o name X.env (YQ o X.env)=YQ o X.env:=by rfl)
 (Nh:((ZC Aj (XE (e::es) X.env)).all (λx=>!x.1) && (backToKw Aj (keywordEach [] X.env)).all (λx=>x.1.isSome)
  && decide ((e::es).length+([]:List Keyword).length+(if([]:List Keyword).isEmpty then 0 else 1)<30))=true:=by rfl)
 (Bf:(apos.endLine == Aj.line)=true:=by rfl) (hs:XE (e::es) X.env=(D?,YQ e X.env)::XE es X.env:=by rfl) (C1:(ZC Aj (XE es X.env)).any (·.1)=false:=by rfl) :
 PE X (.Call (.Attribute o name apos) (e::es) [] Aj) (tBM X.K T r to t):=by
 intro Z s Y H Q I h;refine wpAny_Call_method_late AM Nh Bf rfl (thn (ho Z s Y H _ I h) λv s1⟨x,H1,I1,r1,ty,q1⟩=>?_);obtain⟨h1,h2⟩:=ui I1 r1 ty;refine⟨T,id,pa,slot,Ng,h1,h2,?_⟩;have hA:=ha Aj Z s1 Y H1 _ I1 q1;rw[hs]at hA |-;refine Calls.callWith_builtin (by show(D? ||(ZC Aj (XE es X.env)).any (·.1))=D?;rw[C1] <;> rfl) (Calls.evalArgs_plain ?_);exact thn hA λus s2⟨vs,H2,I2,r2,q2⟩=>hm Z s2 Y H2 x vs v us Q I2 r1 r2 q2
end
def MtM(X:Cx)(id:String)(r:V->List V->Hp->VK->Prop):Prop :=
 ∀(Z:List (WS×YF))(s:WZ)(Y:St)(H:Hp)(x:V)(xs:List V)(v:WV)(us:List WV)(Q:VK),Inv X Z Y H s->RelV x v->Vals xs us->r x xs H Q ->
   Xf (Xx X.prog X.w) X.A (call (.builtin id) (v::us)) (EP X Z Y Q) X.xe s
theorem Vals.one:∀{x:V}{us:List WV},Vals [x] us->∃u,us=[u]/\RelV x u
 |_,_,.cons r .nil=>⟨_,rfl,r⟩
theorem Vals.zero:∀{us:List WV},Vals [] us->us=[]
 |_,.nil=>rfl
theorem Vals.dropLast(h:Vals xs us):Vals xs.dropLast us.dropLast:=by
 induction h with
 |nil=>exact .nil
 | cons r t ih =>
   cases t with
   |nil=>exact .nil
   |cons q t'=>exact .cons r ih
theorem Vals.rep(h:Vals xs us):∀k:Nat,Vals (XU k xs).flatten (XU k us).flatten
 |0=>.nil
 | k+1=>by
   rw[Zc,Zc,List.flatten_cons,List.flatten_cons];exact Vals.append h (Vals.rep h k)
theorem qD(l:List α):l.eraseIdx (l.length - 1)=l.dropLast:=by
 induction l with
 |nil=>rfl
 | cons a r ih =>
   cases r with
   |nil=>rfl
   | cons b r =>
     have e:(a::b::r).length - 1=((b::r).length - 1)+1:=by
      have h1:(a::b::r).length=r.length+2:=rfl;have h2:(b::r).length=r.length+1:=rfl;lia
     rw[e,List.eraseIdx_cons_succ,ih]
     all_goals rfl
theorem foldl_rep(its:List WV):∀(k:Nat)(acc:List WV),
 List.foldl (λx1 x2=>x1++x2) acc.toArray (XU k its.toArray)=(acc++(XU k its).flatten).toArray
 |0,acc=>by simp
 | k+1,acc=>by
   have e:acc.toArray++its.toArray=(acc++its).toArray:=by simp
   have e2:(acc++its)++(XU k its).flatten=acc++(XU (k+1) its).flatten:=by
    rw[Zc,List.flatten_cons,X7]
   rw[<-e2,<-foldl_rep its k (acc++its),<-e,Zc,List.foldl_cons]
section
variable{X:Cx}{ys zs:List V}
theorem Inv.lset{its':List WV}{f:Array WV->Array WV}(I:Inv X Z Y H s)(hH:H l=A? (.lst xs))
 (e:s.1.get? l=A? {cls:=.type "list",data:=.seq its.toArray n}) (hf:f its.toArray=its'.toArray) (hv:Vals ys its') (hz:ys.length<=Xi) :
 Inv X Z Y (upd H l (.lst ys)) {s with heap:=s.1.update l (Zh f),toks:=t'}:=by
 have q:=PySem.IsL.update e f;rw[hf]at q;refine I.write (x:=l) (e:=l) (by rw[hH];exact trivial) (.inl rfl) (λb' u hb hu=>(YG s.1 (Zh f) (Zr hb)).trans hu) ⟨_,q⟩ ?_;exact⟨hz,its',_,hv,q⟩
theorem Inv.lnew(I:Inv X Z Y H s)(hv:Vals ys its)(hz:ys.length<=Xi) :
 Inv X Z Y (upd H s.1.1.size (.lst ys)) {s with heap:=s.1.push {cls:=.type "list",data:=.seq its.toArray},toks:=t'} :=
 I.laid (λ_ _ q=>WU _ q) (W0 _) ⟨hz,its,0,hv,W3 _ rfl⟩
theorem Inv.fresh(I:Inv X Z Y H s):H s.1.1.size=none:=I.hok.fresh (W0 _)
theorem Inv.lstM(I:Inv X Z Y H s)(hH:H l=A? (.lst xs)):xs.length<=Xi/\∃(its:List WV)(n:Nat),Vals xs its/\xs.length=its.length/\s.1.get? l=A? {cls:=.type "list",data:=.seq its.toArray n}:=by
 obtain⟨z,its,n,r,e⟩:=I.hok l _ hH;exact⟨z,its,n,r,r.length,e⟩
theorem kA(h:n<=Xi):Y9 n=false:=by
 unfold Y9;exact c! (by lia)
end
section
variable{X:Cx}
inductive oF(x:V)(vs:List V)(H:Hp)(Q:VK):Prop
 |mk (l:_) (xs:_) (y:_) (BR:x=.ref l) (BS:vs=[y]) (CZ:H l=A? (.lst xs)) (EW:xs.length<Xi) (GQ:Q .non (upd H l (.lst (xs++[y])))):oF  x vs H Q
def rK:V->List V->Hp->VK->Prop:=oF
theorem aH:MtM X "list.append" rK:=by
 intro Z s Y H x vs v us Q I rx rv h;obtain⟨l,xs,y,rfl,rfl,hH,hz,q⟩:=h;cases rx;obtain⟨u,rfl,ru⟩:=rv.one;obtain⟨z,its,n,r,hl,e⟩:=I.lstM hH;refine call_meets F.slot_list_append ⟨_,e,rfl⟩ F.entry_list_append (F.args_list_append_2 _ _) (PySem.list_append l its.toArray n u (by rw[Xa];lia)) ⟨e,?_⟩;refine⟨.non,_,I.lset (its':=its++[u]) hH e (by simp) (r.append (.cons ru .nil)) ?_,Dn,q⟩;rw[W4,YH];lia
inductive pH(x:V)(vs:List V)(H:Hp)(Q:VK):Prop
 |mk (l:_) (b:_) (xs:_) (zs:_) (BR:x=.ref l) (BS:vs=[.ref b]) (CZ:H l=A? (.lst xs)) (EW:H b=A? (.lst zs)) (GQ:xs.length+zs.length<=Xi) (RC:Q .non (upd H l (.lst (xs++zs)))):pH  x vs H Q
def wF:V->List V->Hp->VK->Prop:=pH
theorem lT:MtM X "list.extend" wF:=by
 intro Z s Y H x vs v us Q I rx rv h;obtain⟨l,b,xs,zs,rfl,rfl,hH,hB,hz,q⟩:=h;cases rx;obtain⟨u,rfl,ru⟩:=rv.one;cases ru;obtain⟨z,its,n,r,hl,e⟩:=I.lstM hH;obtain⟨z2,Aa,n2,r2,BC,e2⟩:=I.lstM hB;have hsz:its.toArray.size+Aa.toArray.size<=Xi:=by rw[Xa,Xa];lia
 have Cs:¬(!its.toArray.isEmpty && Y9 (its.toArray.size+Aa.toArray.size))=true:=by
  rw[kA hsz,Bool.and_false];exact Xq
 refine call_meets F.slot_list_extend ⟨_,e,rfl⟩ F.entry_list_extend (F.args_list_extend_2 _ _)
  (AutoSeq1.list_extend_list_list_0 l its.toArray n b Aa.toArray n2 Cs (by rw[Xa];lia) (by lia)) ⟨e,e2,?_⟩
 refine⟨.non,_,I.lset (its':=its++Aa) hH e (by simp) (r.append r2) ?_,Dn,q⟩;rw[W4];lia
inductive wQ(x:V)(vs:List V)(H:Hp)(Q:VK):Prop
 |mk (l:_) (xs:_) (y:_) (BR:x=.ref l) (BS:vs=[]) (CZ:H l=A? (.lst xs)) (EW:xs[xs.length - 1]?=A? y) (GQ:Q y (upd H l (.lst xs.dropLast))):wQ  x vs H Q
def xz:V->List V->Hp->VK->Prop:=wQ
theorem iS:MtM X "list.pop" xz:=by
 intro Z s Y H x vs v us Q I rx rv h;obtain⟨l,xs,y,rfl,rfl,hH,hy,q⟩:=h;cases rx;have C2:=rv.zero;subst C2;obtain⟨z,its,n,r,hl,e⟩:=I.lstM hH;obtain⟨u,hu,ru⟩:=r.get hy
 have C3:its.toArray[its.toArray.size - 1]?=A? u:=by
  show its.toArray[its.length - 1]?=A? u;rw[<-Z1,<-hl];exact hu
 refine call_meets F.slot_list_pop ⟨_,e,rfl⟩ F.entry_list_pop (F.args_list_pop_1 _) (MeetsSeq.list_pop_last l its.toArray n u C3 (by rw[Xa];lia)) ⟨e,?_⟩;refine⟨y,_,I.lset (its':=its.dropLast) hH e ?_ r.dropLast ?_,ru,q⟩
 .show its.toArray.eraseIdxIfInBounds (its.toArray.size - 1)=its.dropLast.toArray;rw[Xa,List.eraseIdxIfInBounds_toArray,qD]
 .rw[List.length_dropLast];lia
inductive wU(x:V)(y:V)(H:Hp)(Q:VK):Prop
 |mk (l:_) (b:_) (xs:_) (zs:_) (BR:x=.ref l) (BS:y=.ref b) (CZ:H l=A? (.lst xs)) (EW:H b=A? (.lst zs)) (GQ:xs.length+zs.length<=Xi) (RC:∀p,H p=B?->Q (.ref p) (upd H p (.lst (xs++zs)))):wU  x y H Q
def zy:R2:=wU
theorem gI:OpR X (Z7 .Add) zy:=by
 intro Z s Y H x y v u Q I rx ry h;obtain⟨l,b,xs,zs,rfl,rfl,hH,hB,hz,q⟩:=h;cases rx;cases ry;obtain⟨z,its,n,r,hl,e⟩:=I.lstM hH;obtain⟨z2,Aa,n2,r2,BC,e2⟩:=I.lstM hB;refine PySem.P.add_list e e2 ?_ (by rw[Xa,Xa];lia);have ea:its.toArray++Aa.toArray=(its++Aa).toArray:=by simp
 rw[ea];exact⟨.ref _,_,I.lnew (t':=s.toks) (r.append r2) (by rw[W4];lia),Dn,q _ I.fresh⟩
def zq:R2:=λx y H Q=>∃l k xs,x=.ref l/\y=.int k/\H l=A? (.lst xs)/\-(2 ^ 63)<=k/\k<2 ^ 63/\xs.length * k.toNat<=Xi /\
 ∀p,H p=B?->Q (.ref p) (upd H p (.lst (XU k.toNat xs).flatten))
theorem len_rep(xs:List α)(k:Nat):(XU k xs).flatten.length=k * xs.length:=by
 induction k with
 |zero=>simp
 |succ k ih=>rw[Zc,List.flatten_cons,W4,ih,Nat.succ_mul,Nat.add_comm]
theorem xx:OpR X (Z7 .Mult) zq:=by
 intro Z s Y H x y v u Q I rx ry h;obtain⟨l,k,xs,rfl,rfl,hH,h1,h2,hz,q⟩:=h;cases rx;obtain⟨t,rfl⟩:=ry;obtain⟨z,its,n,r,hl,e⟩:=I.lstM hH;have hlen:its.toArray.size * k.toNat<=Xi:=by rw[Xa,<-hl];exact hz
 have Ni:¬its.toArray.size * k.toNat > (2 ^ 63 - 1) / 8:=by
  have:(Xi:Nat)<=(2 ^ 63 - 1) / 8:=by decide
  lia
 have z8:¬(!Builtin.List.listFitsIndex k)=true:=by
  rw[fitsIndex_both h1 h2];exact Xq
 have Cs:¬Y9 (its.toArray.size * k.toNat)=true:=by
  rw[kA hlen];exact Xq
 have GR:List.foldl (λx1 x2=>x1++x2) #[] (XU (if its.toArray.isEmpty=C? then 0 else k.toNat) its.toArray)=(XU k.toNat its).flatten.toArray:=by
  have f0:∀m:Nat,List.foldl (λx1 x2=>x1++x2) #[] (XU m its.toArray)=(XU m its).flatten.toArray:=λm=>by
   have:=foldl_rep its m [];rw[ZV]at this;exact this
  rw[f0];cases its with
  |nil=>simp
  |cons a r'=>rw[a! (by simp)]
 refine wpAny_binaryOp_repeat_ref (T:="list") (U:="int") (by decide) ⟨_,e,rfl⟩ (λs'=>typeIs_int s' k t) noFill_list_mul F.fills_int_mul F.slot_int_rmul repeat_list F.slot_int_index.lookup
  (call_meets F.slot_int_rmul (typeIs_int s k t) F.entry_int_rmul (F.args_int_rmul_2 _ _) (int___rmul___int_list k t l its.toArray n)
   ⟨e,rfl,⟨_,e,rfl⟩,call_meets F.slot_list_mul ⟨_,e,rfl⟩ F.entry_list_mul (F.args_list_mul_2 _ _) (AutoListH.list___mul___list_int_3 l its.toArray n k t z8 Ni Cs) ⟨e,?_⟩⟩)
 rw[GR];exact⟨.ref _,_,I.lnew (t':=s.toks) (r.rep k.toNat) (by rw[len_rep,Nat.mul_comm];exact hz),Dn,q _ I.fresh⟩
end
section
variable{X:Cx}
end
end L2
namespace Att
open PySem PySem.W PySem.Calls PyProof.Rows
theorem ints_of_wellAll{P:Params}:∀(ns:List Int)(vs:List WV),WellAll P h vs (ns.map WData.int)->IntsAre vs ns:=by
 intro ns;induction ns with
 | nil =>
   intro vs w;rw[YS]at w;cases w;exact .nil
 | cons n ns ih =>
   intro vs w;rw[XG]at w;cases w with
   | cons a b =>
     cases a;exact .cons _ _ (ih _ b)
theorem script_of{l:OpenLaw}(hn:l.most=A? n){P:Params}{args:List WData}{vals:List WV}
 (AH:l.row.toRowW.claim.pre args=C?) (Ds:WellAll P h vals args) :
 ∃a vs ns,vals=[XI a]/\args=[WData.list (ns.map WData.int)]/\h.get? a=A? {cls:=.type "list",data:=.seq vs.toArray}/\IntsAre vs ns/\ns.length<=n:=by
 have Ue:WShape.hasAll [] args [.list .int]=true:=(pre_splitW AH).1;have hc:l.pre.holds [] {args:=args}=true:=(pre_splitW AH).2;obtain⟨d,r,rfl,h1,h2⟩:=hasAllW_cons Ue;obtain rfl:=hasAllW_nil h2;obtain⟨xs,rfl,h3⟩:=hasW_list h1;obtain⟨ns,rfl⟩:=items_int h3
 have hlen:ns.length<=n:=by
  unfold OpenLaw.pre at hc
  have h4:(WTm.not (.lt (.lit (.int (n:Int))) (.len (.arg 0)))).holds [] {args:=[.list (ns.map .int)]}=true:=by
   have h4:=(holds_andW hc).1;rw[hn]at h4;exact h4
  have h5:=condW_of h4 (w_not (w_lt w_lit (w_len_list (w_arg rfl))));rw[WO]at h5;refine Nat.le_of_not_lt λq=>?_;have q':(n:Int)<((ns.length:Nat):Int):=by lia
  first
   |(rw[d! q']at h5;exact g! h5 (by decide))
   |(simp at h5;lia)
 cases Ds with
 | cons w1 w2 =>
   cases w2;cases w1 with
   |list ho z9=>exact⟨_,_,ns,Dn,Dn,ho,ints_of_wellAll ns _ z9,hlen⟩
theorem post_true(l:OpenLaw)(args:List WData):l.row.toRowW.claim.post args (.bool C?) args=C? :=
 postW_of (r:=l.row.toRowW) (X:=(C? == C?))
  (show WShape.has [] (.bool C?) .bool=C? by first|rfl|decide|simp[WShape.has,WShape.arms,WShape.armsAll])
  (show(WTm.eq .res (.lit (.bool C?))).value [] {args:=args,res:=A? (.bool C?),after:=args}=A? (.bool (C? == C?))from w_eq_bool (w_res rfl) w_lit) rfl
theorem attach_call{l:OpenLaw}{q:Xm}{d:DefRec}
 (hn:l.most=A? n) (hdf:d.params.defaults=[])
 (call:∀(w:XD)(s₀ zX:WZ)(mg mb:Xj->Option WV)(fa:WS)(o:YF)(pm cd doc:WV)(a:WS)(vs:List WV)(ns:List Int),
  Ground q loose [] XP w s₀ mg mb zX.heap->YP w zX.heap ->
  zX.heap.get? fa=A? o->o.data=.func (docDef d.name d.params d.body d.scope pm cd doc)->zX.heap.CodeRec cd d.name->mg d.name=A? (.ref fa) ->
  zX.heap.get? a=A? {cls:=.type "list",data:=.seq vs.toArray}->IntsAre vs ns->ns.length<=n->zX.gens=#[] ->
  codeAny (Xx l.prog w) callerA (.call (.ref fa) ⟨[.ref a],[]⟩) (λr s'=>r=.ok (.ret (.bool C?))/\OldK zX.heap s'.1/\s'.os=zX.os/\AllBare s'.gens) zX) :
 WalkO q loose XP YP l.row.toRowW d [] (λf vs=>PySem.call f vs):=by
 intro w s₀ zX mg mb G Y fa o pm cd doc dV kV ho hd BU hD Nj hg args vals as AH Ug LX Ds RD;obtain rfl:dV=.none:=Dflts.none hD hdf;obtain rfl:kV=.none:=Dflts.noKw hD;obtain⟨a,vs,ns,rfl,rfl,GS,hints,hlen⟩:=script_of hn AH Ds;refine enter_call (codeAny_mono (call w s₀ zX mg mb fa o pm cd doc a vs ns G Y ho (fd_plain hd) BU Nj GS hints hlen hg) λr s' hq=>?_);obtain⟨rfl,h2,h3,h4⟩:=hq;exact⟨.inl ⟨.bool C?,.bool C?,[],Dn,λ_=>rfl,.bool C?,post_true l _,λ_=>⟨List.Pairwise.nil,λ_ hm=>(nomatch hm)⟩⟩,h2,h3,h4⟩
section
variable{K:Frag}
end
end Att
namespace L2
open PySem PySem.Spec PyProof.Rows
theorem l8:∀{vs:List WV}{ns:List Int},IntsAre vs ns->Vals (ns.map o!) vs
 |_,_,.nil=>.nil
 |_,_,.cons n t h=>.cons ⟨t,rfl⟩ (l8 h)
def inClass(s:Stmt)(j:Nat):Stmt:=match s with
 |.ClassDef _ _ _ body _ _ _ _ _ _ _=>body.getD j (.Pass ⟨0,0,0,0⟩)
 |_=>.Pass ⟨0,0,0,0⟩
def b7(s:Stmt):Arguments:=match s with
 |.FunctionDef _ a _ _ _ _ _ _ _ _=>a
 |_=>{posonlyargs:=[],args:=[],vararg:=B?,kwonlyargs:=[],kw_defaults:=[],kwarg:=B?,defaults:=[]}
def bF(s:Stmt):List Stmt:=match s with
 |.FunctionDef _ _ b _ _ _ _ _ _ _=>b
 |_=>[]
def aJ(s:Stmt):ZP:=match s with
 |.FunctionDef _ _ _ _ _ _ sc _ _ _=>sc
 |_=>{kind:=.function,names:=[],isGenerator:=D?,isCoroutine:=D?}
abbrev CX0:CXT:=λ_ _ _ _ _ _=>False
abbrev E0:XK:=λ_ _ _=>False
theorem dk{X:Cx}:Passes CX0 X E0:=λ_ _ _ _ _ _ _ h=>h.elim
structure Fun(K:WW)(x qual:Xj)(st:Stmt)(f:WS)(fd:YT):Prop where
 ex:∃(oc:WV)(od:Option WS)(kV doc pm:WV)(an:Option WS)(zZ ct:WV)(D1:Array (Option WV)),
  fd=PySem.W.fnOf x qual (b7 st) (bF st) (aJ st) .none kV doc pm an zZ ct/\K.lookup f=A? ⟨oc,od,.func fd,D1⟩/\PySem.W.codeIn K zZ qual=C?
 kp:ZJ K (.ref f)=C?
theorem Fun.ok{k:Nat}(F:Fun K x qual st f fd)(S:cQ N ps (aJ st))(len:∀vs H Q E,sp vs H Q E->vs.length=ps.length)
 (AG:∀(zZ:WV)(A:XH)(outer:List Env)(s:WZ)(H:Hp)(vs:List V)(Q:VK)(E:XK),Room k (A.deeper (ZN qual (aJ st) s.1.1.size f zZ))->sp vs H Q E ->
  ∃t,PSs (jH CX0 P w K mg base N qual (aJ st) f zZ A outer s H E).nox (bF st) t/\t {nx:=λ_ H'=>Q .non H',rt:=Q} (start N vs) H):FnOk P w K mg base CX0 (k+1) f fd ps sp:=by
 obtain⟨oc,od,kV,doc,pm,an,zZ,ct,D1,rfl,lk,BU⟩:=F.ex;refine va lk BU S len λA outer s H vs Q E hr Bu=>?_;obtain⟨t,h,q⟩:=AG zZ A outer s H vs Q E hr Bu;exact⟨t,h.nox,q⟩
theorem Fun.okA{k:Nat}(F:Fun K x qual st f fd)(S:cQ N ps (aJ st))
 (AG:∀(zZ:WV)(A:XH)(outer:List Env)(s:WZ)(H:Hp)(vs:List V)(Q:VK)(E:XK),Room k (A.deeper (ZN qual (aJ st) s.1.1.size f zZ))->sp vs H Q E ->
  ∃t,PSs (jH CX0 P w K mg base N qual (aJ st) f zZ A outer s H E).nox (bF st) t/\t {nx:=λ_ H'=>Q .non H',rt:=Q} (start N vs) H) (len:∀vs H Q E,sp vs H Q E->vs.length=ps.length:=by intro _ _ _ _ h;cases h;subst_vars;rfl):FnOk P w K mg base CX0 (k+1) f fd ps sp:=F.ok S len AG
theorem pgN{X:Cx}(i:Nat)(hN:X.N.Nodup)(hi:X.N[i]?=A? x:=by rfl)(hx:Loc X.env.scope x:=by first|exact .inl rfl|exact .inr rfl)(hf:X.fn x=C?\/X.env.scope.names.lookup x=A? .local:=by first|exact .inl rfl|exact .inr rfl|assumption):PG X (.Name x pos) (ay i):=vM hN hi hx hf
theorem ao{X:Cx}(i:Nat)(hN:X.N.Nodup)(he:PE X e te)(hi:X.N[i]?=A? x:=by rfl)(hx:Loc X.env.scope x:=by first|exact .inl rfl|exact .inr rfl)(hs:swapsWith e (A? (.Name x pos')) pos.line X.env=pure false:=by rfl)(hf:X.fn x=C?\/X.env.scope.names.lookup x=A? .local:=by first|exact .inl rfl|exact .inr rfl|assumption):PS X (.Assign [.Name x pos'] e pos) (sR te (ay i)):=xE hN hi hx he hs hf
theorem Fun.binds(F:Fun K x qual st f fd)
 (h:∀(kV doc pm:WV)(an:Option WS)(zZ ct:WV)(us:List WV),us.length=ps.length->bindArgs (PySem.W.fnOf x qual (b7 st) (bF st) (aJ st) .none kV doc pm an zZ ct) ⟨us,[]⟩=pure (ps.zip us)):Binds K fd ps []:=by
 obtain⟨oc,od,kV,doc,pm,an,zZ,ct,D1,rfl,lk,BU⟩:=F.ex;exact .all (h kV doc pm an zZ ct)
theorem lj{an:Option WS}{D1:Array (Option WV)}{kV doc pm zZ ct:WV}(l:K.lookup f=A? ⟨oc,od,.func (PySem.W.fnOf x qual (b7 st) (bF st) (aJ st) .none kV doc pm an zZ ct),D1⟩)
 (c:PySem.W.codeIn K zZ qual=C?) (k:ZJ K (.ref f)=C?):Fun K x qual st f (PySem.W.fnOf x qual (b7 st) (bF st) (aJ st) .none kV doc pm an zZ ct):=⟨⟨oc,od,kV,doc,pm,an,zZ,ct,D1,rfl,l,c⟩,k⟩
theorem cw{k:Nat}(hr:Room k A):A.units+1<Zb:=Nat.lt_of_le_of_lt (Nat.add_le_add_left (by decide:1<=64) _) hr.units
section
variable{X:Cx}
theorem pv(i:Nat)(hN:X.N[i]?=A? x:=by rfl)(hv:Vis X.env.scope x:=by first|exact Or.inl rfl|exact Or.inr (Or.inl rfl)|exact Or.inr (Or.inr rfl))(hd:(x == ("__debug__":Xj))=false:=by decide)
 (BU:(x == ("__classdict__":Xj))=false:=by decide):PE X (.Name x pos) (bt i):=t5 hN hv hd BU
end
theorem uy{A B:Prop}(h:B):if D?=C? then A else B:=by
 rw[a! Xq];exact h
theorem qg{A B:Prop}(h:A):if C?=C? then A else B:=by
 rw[b! rfl];exact h
theorem cq{c A B:Prop}[Decidable c](h1:c->A)(h2:¬c->B):if c then A else B:=by
 by_cases h:c
 .rw[b! h];exact h1 h
 .rw[a! h];exact h2 h
def Same(H H':Hp):Prop:=∀b o,H b=A? o->H' b=A? o
theorem Same.refl(H:Hp):Same H H:=λ_ _ h=>h
theorem Same.trans(a:Same H H1)(b:Same H1 H2):Same H H2:=λc o h=>b c o (a c o h)
theorem Same.free(e:Same H H')(h:H' l=Option.none):H l=Option.none:=by
 cases q:H l with
 |none=>rfl
 | some o =>
   rw[e l o q]at h;cases h
theorem Same.seq(e:Same H H')(h:SqL K H a xs):SqL K H' a xs:=by
 rcases h with(h|⟨o,h⟩)|h
 .exact .inl (.inl (e _ _ h))
 .exact .inl (.inr ⟨o,e _ _ h⟩)
 .exact .inr h
theorem gF(env:Env):∀(ns:List (Xj×Zl))(acc:List (Xj×WS)),(∀n,(n,Ye)∈ns->∃c,env.cells.lookup n=A? c) ->
 (∀x c,acc.lookup x=A? c->env.cells.lookup x=A? c) ->
 ∃cl,(forIn ns acc λ(x:Xj×Zl)(cs:List (Xj×WS))=>(if(x.2 == Ye)=C? then(do let a <-cellOf env x.1;pure (Zv ((x.1,a)::cs)))else pure (Zv cs):Sem _))=pure cl /\
   (∀x c,cl.lookup x=A? c->env.cells.lookup x=A? c)/\(∀n,(n,Ye)∈ns->∃c,cl.lookup n=A? c)/\∀n c,acc.lookup n=A? c->cl.lookup n=A? c
 | [],acc,_,ha=>⟨acc,rfl,ha,λ_ h=>by simp at h,λ_ _ h=>h⟩
 | (n,k)::r,acc,hf,ha=>by
   by_cases hk:k=Ye
   .subst hk;obtain⟨c,hc⟩:=hf n W2
    have Nk:∀x c',((n,c)::acc).lookup x=A? c'->env.cells.lookup x=A? c':=λx c' e=>by
     rw[YW]at e;cases hx:x == n with
     | true =>
       rw[hx]at e;have e1:x=n:=by simpa using hx
       cases e;rw[e1];exact hc
     |false=>rw[hx]at e;exact ha x c' e
    obtain⟨cl,h1,h2,h3,h4⟩:=gF env r ((n,c)::acc) (λm hm=>hf m (WR _ hm)) Nk;have up:∀m c',((n,c)::acc).lookup m=A? c'->cl.lookup m=A? c':=h4;refine⟨cl,?_,h2,?_,?_⟩
    .rw[List.forIn_cons];have e0:cellOf env n=pure c:=by unfold cellOf;rw[hc]
     simp only[beq_self_eq_true,if_true,e0,pure_bind];exact h1
    .intro m hm;rcases Xc.mp hm with e|e
     .have:m=n:=by simpa using(Prod.mk.inj e).1
      subst this;exact⟨c,up m c (by rw[YW];simp)⟩
     .exact h3 m e
    .intro m c' e;by_cases hm:m=n
     .subst hm;have:=ha m c' e;rw[hc]at this;cases this;exact up m c (by rw[YW];simp)
     .have Uh:(m == n)=false:=by simpa using hm
      exact up m c' (by rw[YW,Uh];exact e)
   .have hb:(k == Ye)=false:=by simpa using hk
    obtain⟨cl,h1,h2,h3,h4⟩:=gF env r acc (λm hm=>hf m (WR _ hm)) ha;refine⟨cl,?_,h2,?_,h4⟩
    .rw[List.forIn_cons];simp only[hb,YX,if_false,pure_bind];exact h1
    .intro m hm;rcases Xc.mp hm with e|e
     .exact g! (Prod.mk.inj e).2.symm hk
     .exact h3 m e
theorem kD(hf:∀n,(n,Ye)∈sc.names->∃c,env.cells.lookup n=A? c) :
 ∃cl,closureFor sc env=pure cl/\(∀x c,cl.lookup x=A? c->env.cells.lookup x=A? c)/\∀n,(n,Ye)∈sc.names->∃c,cl.lookup n=A? c:=by
 obtain⟨cl,h1,h2,h3,_⟩:=gF env sc.names [] hf (λx c e=>by simp at e);refine⟨cl,?_,h2,h3⟩;unfold closureFor;have e:(forIn sc.names ([]:List (Xj×WS)) λ(x:Xj×Zl)(cs:List (Xj×WS))=>(do if(x.2 == Ye)=C? then(do let a <-cellOf env x.1;pure (Zv ((x.1,a)::cs)))else pure (Zv cs):Sem _))=pure cl:=h1
 first
  |(rw[show(forIn sc.names ([]:List (Xj×WS)) _:Sem _)=pure cl from h1];rfl)
  |(simp only[h1,pure_bind])
theorem lu{f:Xj×Zl->Xj×Zl}(hf:∀p,(f p).1=p.1):∀{l:List (Xj×Zl)}{x:Xj}{k:Zl},l.lookup x=A? k->(l.map f).lookup x=A? (f (x,k)).2
 | [],_,_,h=>by simp at h
 | (n,k0)::r,x,k,h=>by
   have ih:=@lu f hf r x k;rw[XG];obtain⟨a,b,e⟩:∃a b,f (n,k0)=(a,b):=⟨_,_,rfl⟩;have ea:a=n:=by have:=hf (n,k0);rw[e]at this;exact this
   subst ea;rw[e,YW];cases hx:x == a with
   | true =>
     rw[YW,hx]at h;cases h;have:x=a:=by simpa using hx
     subst this;rw[e]
   |false=>rw[YW,hx]at h;exact ih h
theorem d4{f:Xj×Zl->Xj×Zl}(hf:∀p,(f p).1=p.1):∀{l:List (Xj×Zl)}{x:Xj}{k:Zl},(l.map f).lookup x=A? k->∃k0,(x,k0)∈l/\(f (x,k0)).2=k
 | [],_,_,h=>by simp at h
 | (n,k0)::r,x,k,h=>by
   have ih:=@d4 f hf r x k;rw[XG]at h;obtain⟨a,b,e⟩:∃a b,f (n,k0)=(a,b):=⟨_,_,rfl⟩;have ea:a=n:=by have:=hf (n,k0);rw[e]at this;exact this
   subst ea;rw[e,YW]at h;cases hx:x == a with
   | true =>
     rw[hx]at h;cases h;have:x=a:=by simpa using hx
     subst this;exact⟨k0,W2,by rw[e]⟩
   | false =>
     rw[hx]at h;obtain⟨k1,h1,h2⟩:=ih h;exact⟨k1,WR _ h1,h2⟩
def rlb(env:Env)(p:Xj×Zl):Xj×Zl:=if(p.2 == Ye && env.scope.kind == .function && env.kindOf p.1 == A? .cell)then(p.1,NameKind.cell)else(p.1,p.2)
theorem nB(env:Env)(p:Xj×Zl):(rlb env p).1=p.1:=by unfold rlb;split <;> rfl
theorem gv(sc:ZP)(env:Env):(relabel sc env).names=sc.names.map (rlb env):=rfl
theorem g7(h:sc.names.lookup x=A? .free):(relabel sc env).names.lookup x=A? .cell\/(relabel sc env).names.lookup x=A? .free:=by
 rw[gv,lu (nB env) h];unfold rlb;split
 .exact .inl rfl
 .exact .inr rfl
theorem jV(hn:∀y∈sc.names,y.2≠NameKind.cell)(h:(relabel sc env).names.lookup x=A? .cell\/(relabel sc env).names.lookup x=A? .free):(x,Ye)∈sc.names:=by
 rw[gv]at h
 have:∃k0,(x,k0)∈sc.names/\((rlb env (x,k0)).2=.cell\/(rlb env (x,k0)).2=.free):=by
  rcases h with h|h
  .obtain⟨k0,a,b⟩:=d4 (nB env) h;exact⟨k0,a,.inl b⟩
  .obtain⟨k0,a,b⟩:=d4 (nB env) h;exact⟨k0,a,.inr b⟩
 obtain⟨k0,hm,hk⟩:=this;have nc:=hn _ hm;cases k0 with
 |free=>exact hm
 |cell=>exact g! rfl nc
 |_=>simp[rlb]at hk
def bQ(X:Cx)(N:List Xj)(sc:ZP)(cl:List (Xj×WS))(C:WS)(s:WZ)(H:Hp)(fp:List WS)(Z:List (WS×YF)):Cx :=
 {X with N:=N,s₀:=s,H₀:=H,env:=compEnvC sc cl C X.env,outer:=X.stack,ex:=fp,fn:=λ_=>D?,pn:=X.pn++Z,xe:=λ_ _=>False}
def cσ(js:List (Option Nat))(Y:St):St:=js.map λo=>o.bind λj=>(Y[j]?).join
structure eg(X:Cx)(sc:ZP)(N:List Xj)(js:List (Option Nat)):Prop where
 kind:sc.kind=.function
 nocell:∀y∈sc.names,y.2≠NameKind.cell
 names:∀y∈sc.names,y.2=NameKind.local->sc.names.lookup y.1=A? .local
 frees:∀y∈sc.names,y.2=Ye->X.env.kindOf y.1=A? .cell\/X.env.kindOf y.1=A? .free
 len:js.length=N.length
 slots:∀(i j:Nat)(x:Xj),js[i]?=A? (A? j)->N[i]?=A? x->X.N[j]?=A? x/\sc.names.lookup x=A? .free/\(X.env.kindOf x=A? .cell\/X.env.kindOf x=A? .free)
theorem cy{X:Cx}(k:sc.kind=.function)(nc:∀y∈sc.names,y.2≠NameKind.cell)(nm:∀y∈sc.names,y.2=NameKind.local->sc.names.lookup y.1=A? .local)
 (fr:(sc.names.all λy=>y.2 != Ye ||X.env.kindOf y.1 == A? NameKind.cell ||X.env.kindOf y.1 == A? Ye)=C?) (ln:js.length=N.length)
 (sl:((js.zip N).all λp=>match p.1 with|none=>C?|some j=>X.N[j]? == A? p.2 && sc.names.lookup p.2 == A? Ye && (X.env.kindOf p.2 == A? NameKind.cell ||X.env.kindOf p.2 == A? Ye))=C?):eg X sc N js:=by
 refine⟨k,nc,nm,λy hy hf=>?_,ln,λi j x e1 e2=>?_⟩
 .have h:=List.all_eq_true.mp fr y hy;rw[hf]at h;simpa using h
 .have hm:(A? j,x)∈js.zip N:=by
   have:(js.zip N)[i]?=A? (A? j,x):=by rw[Yu];exact⟨e1,e2⟩
   exact WT this
  have h:=List.all_eq_true.mp sl _ hm;simp at h;exact⟨h.1.1,h.1.2,h.2⟩
def PTs(X:Cx)(ifs:List XZ)(t:TT):Prop :=
 ∀(Z:List (WS×YF))(s:WZ)(Y:St)(H:Hp)(Q:Bool->Hp->Prop),Inv X Z Y H s->t Y H Q ->
   Xf (Xx X.prog X.w) X.A (forIn ifs C? λc r=>if r=C? then do let ok <-isTrue c X.env (YQ c X.env);pure (Zv ok)else pure (Zv r)) (TP X Z Y Q) X.xe s
def bE:TT:=λ_ H Q=>Q C? H
theorem bT{X:Cx}:PTs X [] bE:=λ_ _ _ H _ I h=>wpAny_tests_nil ⟨H,I,h⟩
theorem fS{X:Cx}{c:XZ}{t:TT}(h:PT X c t):PTs X [c] t:=λZ s Y H Q I q=>wpAny_tests_one (h Z s Y H Q I q)
def Keep(Y l':St):Prop:=Y.length=l'.length/\∀(i:Nat)(v:V),Y[i]?=A? (A? v)->l'[i]?=A? (A? v)
def l9(js:List (Option Nat))(g:TG):Prop:=∀(Y AA:St)(x:V)(H:Hp)(Q:St->Hp->Prop),Keep (cσ js Y) AA->g x AA H Q->g x AA H λAg H2=>Keep (cσ js Y) Ag/\Q Ag H2
def nq(js:List (Option Nat))(g:TGs):Prop:=∀(Y AA:St)(x:List V)(H:Hp)(Q:St->Hp->Prop),Keep (cσ js Y) AA->g x AA H Q->g x AA H λAg H2=>Keep (cσ js Y) Ag/\Q Ag H2
theorem Keep.refl(Y:St):Keep Y Y:=⟨rfl,λ_ _ h=>h⟩
theorem vy(h:js[i]?=A? B?):(cσ js Y)[i]?=A? none:=by
 unfold cσ;rw[Xd,h];rfl
theorem aV(h:js[i]?=A? B?):l9 js (ay i):=λY AA x H Q k q=>by
 refine⟨⟨by rw[List.length_set];exact k.1,λj v e=>?_⟩,q⟩;by_cases hj:i=j
 .subst hj;rw[vy h]at e;cases e
 .rw[Y4 hj];exact k.2 j v e
theorem i8:nq js oy:=λY AA x H Q k⟨e,q⟩=>⟨e,k,q⟩
theorem cz{t:TG}{u:TGs}(mono:∀x Y H(Q Q':St->Hp->Prop),(∀a b,Q a b->Q' a b)->t x Y H Q->t x Y H Q')(h1:l9 js t)(h2:nq js u):nq js (dS t u):=λY AA x H Q k⟨v,r,e,q⟩ =>
 ⟨v,r,e,mono _ _ _ _ _ (λa b⟨k',q'⟩=>h2 Y a r b Q k' q') (h1 Y AA v H _ k q)⟩
theorem bv:∀x Y H(Q Q':St->Hp->Prop),(∀a b,Q a b->Q' a b)->ay i x Y H Q->ay i x Y H Q':=λ_ _ _ _ _ h q=>h _ _ q
theorem iW{t:TGs}(h:nq js t):l9 js (pL K n t):=λY AA x H Q k⟨a,xs,e,hs,hl,q⟩=>⟨a,xs,e,hs,hl,h Y AA xs H Q k q⟩
def fA(js:List (Option Nat))(g:TG)(tt:TT)(te:TE)(Y:St)(J:It)(D:WS)(n:Nat)(W:Nat->Hp->Prop)(fin:Hp->Prop):Prop :=
 ∀i H,W i H->(J.stop i H/\fin H)\/(i<n/\J.go i H/\∀x H1,J.yld i H x H1->g x (cσ js Y) H1 λAg H2=>tt Ag H2 λb H3 =>
   if b=C? then te Ag H3 λv H4=>∃ys,H4 D=A? (.lst ys)/\ys.length<Xi/\W (i+1) (upd H4 D (.lst (ys++[v])))else W (i+1) H3)
def rS(js:List (Option Nat))(wi:TI)(g:TG)(tt:TT)(te:TE):TE:=λY H Q=>wi Y H λJ H1=>∀D,H1 D=B? ->
 ∃(n:Nat)(W:Nat->Hp->Prop),W 0 (upd H1 D (.lst []))/\fA js g tt te Y J D n W λH'=>Q (.ref D) H'
section
variable{X:Cx}
theorem tW{h1:X3}(S:eg X sc N js)(I:Inv X Z Y H s)
 (Af:∀x c,cl.lookup x=A? c->X.env.cells.lookup x=A? c) (Cd:∀n,(n,Ye)∈sc.names->∃c,cl.lookup n=A? c)
 (hf:∀b∈fp,jd X Z H b) (Ad:∀b∈fp,b<s.1.1.size) (C4:h1.Ns s.1.1.size λx=>Zg x ([]:List (Xj×WV)))
 (EX:∀b o,s.1.get? b=A? o->h1.get? b=A? o) :
 Inv (bQ X N sc cl s.1.1.size s H fp Z) [] (cσ js Y) H {s with heap:=h1,toks:=t'}:=by
 have hok:(bQ X N sc cl s.1.1.size s H fp Z).Ok :=
  { mod:=I.ok.mod
    kind:=S.kind
    glob:=I.ok.glob
    blt:=I.ok.blt
    above:=W0 _
    inj:=λx y c a b=>I.ok.inj x y c (Af x c a) (Af y c b)
    has:=λx h=>Cd x (jV S.nocell h)
    cab:=λx c h=>by cases h
    hd:=I.ok.hd
    frames:=I.ok.frames
    stk:=.inl rfl
    exf:=λb hb=>⟨λe=>g! (Ad b hb) (by rw[e];exact Yk _),λx c e z=>(hf b hb).2.2.2.2.1 x c (Af x c e) z⟩
    bs:=I.bs
    bsz:=X2 I.ok.bsz I.sz
    noex:=λb o e hb=>by
     rcases(hf b hb).2.2.2.1 with h|h
     .exact I.ok.noex b o e h
     .exact g! (Xz (Xz (Xe e) I.ok.bsz) h) (Yk _)
    exfs:=λb hb hm=>by
     rcases Xc.mp (I.stkSub b hm)with e|e
     .exact(hf b hb).2.1 e
     .exact(hf b hb).2.2.1 e
    funs:=I.stack
    frf:=I.stkFree }
 have hC:H s.1.1.size=none:=I.hok.fresh (W0 _);obtain⟨m0,RE,Ui⟩:=I.loc
 exact
  { ok:=hok
    os:=rfl
    bare:=I.bare
    base:=Un.kept EX
    loc:=⟨_,C4,λi x v e1 e2 RA=>by
     have C5:∃j,js[i]?=A? (A? j)/\Y[j]?=A? (A? v):=by
      unfold cσ at e2;rw[Xd]at e2;cases q:js[i]? with
      |none=>rw[q]at e2;cases e2
      | some o =>
        rw[q]at e2;cases o with
        |none=>cases e2
        | some j =>
          refine⟨j,Dn,?_⟩;have e3:(Y[j]?).join=A? v:=Xh e2;cases r:Y[j]? with
          |none=>rw[r]at e3;cases e3
          |some z=>rw[r]at e3;exact h! A? e3
     obtain⟨j,q1,q2⟩:=C5;obtain⟨n1,n2,n3⟩:=S.slots i j x q1 e1;obtain⟨u,ru,look⟩:=Ui j x v n1 q2 (by rcases n3 with z|z;exact .inr (.inl z);exact .inr (.inr z));refine⟨u,ru,.inr ⟨g7 n2,?_⟩⟩;have hm:(x,Ye)∈sc.names:=jV (env:=X.env) S.nocell (g7 n2);obtain⟨c,hc⟩:=Cd x hm;refine⟨c,hc,?_⟩;rcases look with⟨k1,_⟩|⟨_,c',BA,ic⟩
     .rcases n3 with z|z <;> (rw[k1]at z;cases z)
     .have:=Af x c hc;rw[BA]at this;cases this;exact ic.keeps EX⟩
    cell:=λx c e=>by
     obtain⟨v,q⟩:=I.cell x c (Af x c e);exact⟨v,q.keeps EX⟩
    free:=hC
    freeC:=λx c e=>I.freeC x c (Af x c e)
    pin:=λp hp=>by
     have C6:p∈X.pn++Z:=by simpa[bQ]using hp
     obtain⟨a1,a2,a3,a4,a5⟩:=I.pin p C6;refine⟨EX _ _ a1,a2,λe=>?_,λhm=>?_,a5⟩
     .have e':p.1=s.1.1.size:=e;exact g! (Xe a1) (by rw[e'];exact Yk _)
     .rcases Xc.mp (I.stkSub p.1 hm)with e|e
      .exact a3 e
      .exact a4 e
    hok:=I.hok.kept EX
    len:=by
     show(cσ js Y).length=N.length;unfold cσ;rw[WO];exact S.len }
theorem tH{target:XZ}{it acc:WV}(J:Nat->WZ->Prop)
 (turn:∀n s,J n s->Xf (Xx prog w) A (Zw it) (λr zX=>(r=B?/\R (.ok .next) zX)\/∃v,r=A? v /\
  Xf (Xx prog w) A (letOwnedTupleGo target it v) (λ_ A8=>Xf (Xx prog w) A (assign target env v) (λ_ Cb =>
   Xf (Xx prog w) A (forIn ifs C? λc r=>if r=C? then do let ok <-isTrue c env (YQ c env);pure (Zv ok)else pure (Zv r)) (λok Eg =>
    (ok=D?/\∃m,m<n/\J m Eg)\/(ok=C?/\Xf (Xx prog w) A (YQ elt env) (λx Jw=>Xf (Xx prog w) A (call (.builtin "list.append") [acc,x]) (λ_ Jx=>∃m,m<n/\J m Jx) (λ_ _=>False) Jw) (λ_ _=>False) Eg))
    (λ_ _=>False) Cb) (λ_ _=>False) A8) (λ_ _=>False) zX) (λ_ _=>False) s)
 (n:Nat) (h:J n s):codeAny (Xx prog w) A (.compLoop (.ListComp elt [⟨target,iter,ifs,0⟩] scope pos) 0 it acc env) R s:=by
 refine codeAny_loop rfl J (λn s hJ=>?_) n h;show Xf _ A ((compTurn (.ListComp elt [⟨target,iter,ifs,0⟩] scope pos) 0 it acc env).onRaise _) _ _ s;refine wpAny_noted ?_;rw[compTurn_list];have up:∀{α:Type}{m:Sem α}{Q:α->WZ->Prop}{E:WV->WZ->Prop}{s:WZ},Xf (Xx prog w) A m Q (λ_ _=>False) s->Xf (Xx prog w) A m Q E s:=λq=>YI q (λ_ _ z=>z) λ_ _ z=>z.elim;refine WN (wpAny_standAt (WN (YI (up (turn n s hJ)) (λr zX Am=>?_) λ_ _ z=>z)));rcases Am with⟨rfl,Am⟩|⟨v,rfl,Am⟩
 .exact WX Am
 .refine WN (YI (up Am) (λ_ A8 Bg=>?_) λ_ _ z=>z);refine WN (YI (up Bg) (λ_ Cb Ct=>?_) λ_ _ z=>z);refine WN (YI (up Ct) (λok Eg BI=>?_) λ_ _ z=>z);rcases BI with⟨rfl,BI⟩|⟨rfl,BI⟩
  .exact WX ⟨rfl,BI⟩
  .exact WN (WN (YI (up BI) (λx Jw AK=>WN (YI (up AK) (λ_ Jx Nl=>WX (WX ⟨rfl,Nl⟩)) λ_ _ z=>z)) λ_ _ z=>z))
theorem lm{tn:Nat->X3->Prop}{W:Nat->Hp->Prop}{fin:Hp->Prop}
 {R:WV->WS->Result->WZ->Prop} (hc:X.calm=C?) (S:eg X sc N js) (I:Inv X Z Y H s) (T:Turn X.prog X.w X.K tg J fp it tn) (st:tn 0 s.1) (hf:∀b∈fp,jd X Z H b)
 (Af:∀x c,cl.lookup x=A? c->X.env.cells.lookup x=A? c) (Cd:∀n,(n,Ye)∈sc.names->∃c,cl.lookup n=A? c)
 (hg:∀cl C s H fp Z,PG (bQ X N sc cl C s H fp Z) tg g) (gk:l9 js g) (ht:∀cl C s H fp Z,PTs (bQ X N sc cl C s H fp Z) ifs tt) (he:∀cl C s H fp Z,PE (bQ X N sc cl C s H fp Z) elt te)
 (w0:W 0 (upd H s.1.1.size (.lst []))) (turn:fA js g tt te Y J s.1.1.size n W fin)
 (hR:∀C H' s',C≠X.env.locals->s.1.1.size<C->(∃m,s'.1.Ns C m)->H' C=B?->(∀h' t',X1 C s'.1 h'->Inv X Z Y H' {s' with heap:=h',toks:=t'})->fin H'->R (.ref s.1.1.size) C (.ok .next) s') :
 Xf (Xx X.prog X.w) X.A (newList []) (λacc Cb=>Xf (Xx X.prog X.w) X.A (newFunctionEnv sc X.env.globals cl [] X.env.qual B? .none (A? X.env)) (λJy Eg =>
  codeAny (Xx X.prog X.w) X.A (.compStart (.ListComp elt [⟨tg,iter,ifs,0⟩] sc pos) 0 (.ref it) acc {Jy with scope:=relabel sc X.env}) (R acc Jy.locals) Eg) E Cb) E s:=by
 refine XO (wpAny_newFunctionEnv S.nocell (by intro y hy;simp at hy) (λAm C7 C8=>?_) S.kind);dsimp only at C7 C8 |-;have I3:Inv X Z Y (upd H s.1.1.size (.lst [])) {s with heap:=s.1.push {cls:=.type "list",dict:=B?,data:=.seq ([]:List WV).toArray}}:=I.lnew (t':=s.toks) (its:=[]) .nil (by decide)
 have Ad:∀b∈fp,b<s.1.1.size:=λb hb=>by
  obtain⟨o,ho,_⟩:=T.obj _ _ st b hb;exact Xe ho
 have F8:∀b o,s.1.get? b=A? o->(s.1.push {cls:=.type "list",dict:=B?,data:=.seq ([]:List WV).toArray}).get? b=A? o:=λb o e=>WU _ e;have hsz:(s.1.push {cls:=.type "list",dict:=B?,data:=.seq ([]:List WV).toArray}).objs.size=s.1.1.size+1:=Ym ..;generalize RF:({s with heap:=s.1.push {cls:=.type "list",dict:=B?,data:=.seq ([]:List WV).toArray}}:WZ)=s3 at I3;have Jz:s.1.push {cls:=.type "list",dict:=B?,data:=.seq ([]:List WV).toArray}=s3.1:=by rw[<-RF]
 rw[Jz]at C7 C8 F8 hsz;rw[Jz];have Uj:∀t',({s with heap:=Am,toks:=t'}:WZ)={s3 with heap:=Am,toks:=t'}:=λt'=>by rw[<-RF]
 rw[Uj];have EX:∀b o,s3.1.get? b=A? o->Am.get? b=A? o:=λb o e=>C8.extBut b o (XF (Xe e)) (WU _ e);have Nm:∀b∈fp,jd X Z (upd H s.1.1.size (.lst [])) b:=λb hb=>⟨by rw[af (XF (Ad b hb))];exact(hf b hb).1,(hf b hb).2⟩;have I4:=tW (t':=s.toks+([]:List (Xj×WV)).length) S I3 Af Cd Nm (λb hb=>by rw[hsz];exact Nat.lt_succ_of_lt (Ad b hb)) C7 EX;generalize hH3:upd H s.1.1.size (.lst [])=H3 at I3 I4 Nm w0;have BV:tn 0 Am:=T.keep _ _ _ st λb hb o e=>EX _ _ (F8 _ _ e)
 have CY:∀{H':Hp},(∀b∈fp,H' b=B?)->∀b∈fp,jd (bQ X N sc cl s3.1.1.size s3 H3 fp Z) [] H' b:=λ{H'}hn b hb=>by
  obtain⟨f0,f1,f2,f3,f4,f5⟩:=hf b hb;refine⟨hn b hb,λe=>?_,λhm=>?_,.inl hb,λx c e=>f4 x c (Af x c e),λp hp=>f5 p (by simpa[bQ]using hp)⟩
  .have e':b=s3.1.1.size:=e;have h9:b<s.1.1.size:=Ad b hb;rw[e',hsz]at h9;exact g! h9 (Nat.not_lt.mpr (Nat.le_succ _))
  .rcases Xc.mp (I.stkSub b hm)with e|e
   .exact f1 e
   .exact f2 e
 have loop:codeAny (Xx X.prog X.w) X.A (.compLoop (.ListComp elt [⟨tg,iter,ifs,0⟩] sc pos) 0 (.ref it) (.ref s.1.1.size) (compEnvC sc cl s3.1.1.size X.env)) (R (.ref s.1.1.size) s3.1.1.size)
  {s3 with heap:=Am,toks:=s.toks+([]:List (Xj×WV)).length}:=by
  refine tH (λk s'=>∃i H',Inv (bQ X N sc cl s3.1.1.size s3 H3 fp Z) [] (cσ js Y) H' s'/\tn i s'.1/\(∀b∈fp,H' b=B?)/\W i H'/\k=n - i) ?_ n ⟨0,H3,I4,BV,λb hb=>(Nm b hb).1,w0,rfl⟩;rintro k s5 ⟨i,H5,I5,Ip,Fd,w5,rfl⟩;rcases turn i H5 w5 with⟨stop,qn⟩|⟨Cu,go,step⟩
  .refine thn (T.done (bQ X N sc cl s3.1.1.size s3 H3 fp Z) rfl rfl rfl hc i [] s5 (cσ js Y) H5 _ I5 (CY Fd) Ip stop) λr s6⟨hr,I6⟩=>.inl ⟨hr,?_⟩;have I7:Inv X Z Y H5 s6:=I3.call' (ch:=fp) (I6.os.trans rfl) I6.base I6.hok I6.bare λb hb=>⟨(hf b hb).2.2.2.1,(hf b hb).2.1,(hf b hb).2.2.2.2.1,(hf b hb).2.2.2.2.2⟩;have RG:H5 s3.1.1.size=none:=I6.free;have RH:s3.1.1.size≠X.env.locals:=Nat.ne_of_gt I3.lt;obtain⟨m6,Uk,_⟩:=I6.loc;refine hR s3.1.1.size H5 s6 RH (by lia) ⟨m6,Uk⟩ RG (λh' t' sb=>?_) qn;refine I7.turned (it:=s3.1.1.size) (λb o hb e=>sb.extBut b o hb e) RG RH (.inr I3.sz) (λx c e z=>?_) λp hp z=>?_
   .obtain⟨v,q⟩:=I3.cell x c e;exact g! q.lt (by rw[z];exact Yk _)
   .exact g! (Xe (I3.pin p hp).1) (by rw[z];exact Yk _)
  .refine thn (T.item (bQ X N sc cl s3.1.1.size s3 H3 fp Z) rfl rfl rfl hc i [] s5 (cσ js Y) H5 _ I5 (CY Fd) Ip go) λr s6⟨u,hr,h6⟩=>.inr ⟨u,hr,?_⟩;refine thn h6 λ_ s7⟨x,H7,I7,r7,y7,Nn,Ul⟩=>?_;have Um:=I7.pinned (CY Ul) (T.obj _ _ Nn);refine thn (hg cl s3.1.1.size s3 H3 fp Z _ s7 (cσ js Y) H7 x u _ Um r7 (gk Y (cσ js Y) x H7 _ (.refl _) (step x H7 y7))) λ_ s8⟨GU,H8,I8,k8,q8⟩=>?_;refine thn (ht cl s3.1.1.size s3 H3 fp Z _ s8 GU H8 _ I8 q8) λok s9⟨H9,I9,q9⟩=>?_
   have again:∀{s':WZ}{l':St}{H':Hp},Keep (cσ js Y) l'->Inv (bQ X N sc cl s3.1.1.size s3 H3 fp Z) ([]++kM fp s7.1) l' H' s'->W (i+1) H'->∃m,m<n - i/\∃i H',Inv (bQ X N sc cl s3.1.1.size s3 H3 fp Z) [] (cσ js Y) H' s'/\tn i s'.1/\(∀b∈fp,H' b=B?)/\W i H'/\m=n - i:=λ{s' l' H'}kp I' w'=>by
    refine⟨n - (i+1),by lia,i+1,H',(I'.unpinned).weak kp.1 kp.2,T.keep _ _ _ Nn λb hb o e=>(I'.pin (b,o) (Xl _ (Xl _ (eS hb e)))).1,λb hb=>?_,w',Dn⟩;obtain⟨o,e,d⟩:=T.obj _ _ Nn b hb;exact(I'.pin (b,o) (Xl _ (Xl _ (eS hb e)))).2.1
   cases ok with
   | false =>
     refine .inl ⟨rfl,again k8 I9 ?_⟩;have RI:if D?=C? then _ else W (i+1) H9:=q9
     rw[a! Xq]at RI;exact RI
   | true =>
     refine .inr ⟨rfl,?_⟩;rw[b! rfl]at q9;refine thn (he cl s3.1.1.size s3 H3 fp Z _ s9 GU H9 _ I9 q9) λvv BD⟨v,Cv,GV,rv,ys,hD,Np,Uo⟩=>?_;refine thn (aH _ BD GU Cv (.ref s.1.1.size) [v] (.ref s.1.1.size) [vv] (λ_ H'=>W (i+1) H') GV rfl (.cons rv .nil) ⟨_,ys,v,rfl,rfl,hD,Np,Uo⟩) λ_ C9⟨_,GW,Up,_,Uq⟩=>?_;exact again k8 Up Uq
 exact codeAny_compStart_list loop (T.self X.A 0 _ _ _ BV loop)
theorem bZ(hc:X.calm=C?)(S:eg X sc N js)(hi:PI X tg iter wi)
 (hg:∀cl C s H fp Z,PG (bQ X N sc cl C s H fp Z) tg g) (gk:l9 js g) (ht:∀cl C s H fp Z,PTs (bQ X N sc cl C s H fp Z) ifs tt) (he:∀cl C s H fp Z,PE (bQ X N sc cl C s H fp Z) elt te)
 (hs:∀x,foldedSetIterable iter X.env x=pure x:=by intro _;rfl):PE X (.ListComp elt [⟨tg,iter,ifs,0⟩] sc pos) (rS js wi g tt te):=by
 intro Z s Y H Q I h;obtain⟨cl,e1,e2,e3⟩:=kD (env:=X.env) (sc:=sc) λn hn=>I.ok.has n (S.frees _ hn rfl);rw[eval_ListComp];refine wpAny_comprehension_free (use:=B?) rfl hs e1 S.kind S.names (thn (hi Z s Y H _ I h) λv s1 h1=>thn h1 λLV s2 h2=>?_);obtain⟨it,fp,tn,J,H2,rfl,I2,T,Jq,f2,R2⟩:=h2;obtain⟨n,W,w0,turn⟩:=R2 s2.1.1.size I2.fresh;refine lm (R:=λacc C=>compPost (Xx X.prog X.w) X.A X.xe B? (EP X Z Y Q) acc C) hc S I2 T Jq f2 e2 e3 hg gk ht he w0 turn λC H' s' _ _ hn _ inv fi=>?_;obtain⟨m,hm⟩:=hn;exact⟨m,hm,λh' sb=>⟨.ref s2.1.1.size,H',inv h' s'.toks sb,Dn,fi⟩⟩
theorem eU{y:Xj}{JA py:Z9}(hN:X.N.Nodup)(hy:X.N[i]?=A? y)(Ur:Loc X.env.scope y)(hc:X.calm=C?)(S:eg X sc N js)(hi:PI X tg iter wi)
 (hg:∀cl C s H fp Z,PG (bQ X N sc cl C s H fp Z) tg g) (gk:l9 js g) (ht:∀cl C s H fp Z,PTs (bQ X N sc cl C s H fp Z) ifs tt) (he:∀cl C s H fp Z,PE (bQ X N sc cl C s H fp Z) elt te)
 (LY:swapsWith (.ListComp elt [⟨tg,iter,ifs,0⟩] sc pos) (A? (.Name y py)) JA.line X.env=pure true:=by rfl)
 (hs:∀x,foldedSetIterable iter X.env x=pure x:=by intro _;rfl) (hf:X.fn y=C?\/X.env.scope.names.lookup y=A? .local:=by first|exact .inl rfl|exact .inr rfl|assumption) :
 PS X (.Assign [.Name y py] (.ListComp elt [⟨tg,iter,ifs,0⟩] sc pos) JA) (sR (rS js wi g tt te) (ay i)):=by
 intro Z s Y H D I h;obtain⟨cl,e1,e2,e3⟩:=kD (env:=X.env) (sc:=sc) λn hn=>I.ok.has n (S.frees _ hn rfl);rw[exec_Assign_Name_used _ _ _ _ LY];refine WN (wpAny_standAt (WN ?_));show Xf _ X.A (do let _ <-comprehension (.ListComp elt [⟨tg,iter,ifs,0⟩] sc pos) sc X.env _ (newList []) D? (YQ iter X.env) (A? (assign (.Name y py) X.env))) _ _ s;refine WN (YI (wpAny_comprehension_free (use:=A? (assign (.Name y py) X.env)) (Q:=λ_ s'=>SP X Z D .next s') rfl hs e1 S.kind S.names (thn (hi Z s Y H _ I h) λv s1 h1=>thn h1 λLV s2 h2=>?_)) (λ_ s' hq=>WX (WX hq)) λ_ _ z=>z);obtain⟨it,fp,tn,J,H2,rfl,I2,T,Jq,f2,R2⟩:=h2;obtain⟨n,W,w0,turn⟩:=R2 s2.1.1.size I2.fresh;refine lm (R:=λacc C=>compPost (Xx X.prog X.w) X.A X.xe (A? (assign (.Name y py) X.env)) (λ_ s'=>SP X Z D .next s') acc C) hc S I2 T Jq f2 e2 e3 hg gk ht he w0 turn λC H' s' RJ hC hn Nq inv fi=>?_;obtain⟨m,hm⟩:=hn
 have I5:Inv X Z Y H' s':=by
  have q:=inv s'.1 s'.toks (.refl ..);exact q
 refine wpAny_assign_Name (mV (v:=.ref s2.1.1.size) I5 hN hy Ur rfl (λs6 I6⟨a,sb,ha⟩=>?_) hf)
 have Ut:C≠a:=by
  rcases ha with ha|ha
  .rw[ha];exact RJ
  .intro z;obtain⟨v,q⟩:=I2.cell y a ha;exact g! (Nat.lt_trans q.lt hC) (by rw[z];exact Yk _)
 refine⟨m,hm.sameBut sb Ut,λh' Uu=>⟨_,H',I6.turned (it:=C) (t':=s6.toks) (λb o hb e=>Uu.extBut b o hb e) Nq RJ (.inr (X2 I2.sz (ZQ hC))) (λx c e z=>?_) λp hp z=>?_,fi⟩⟩
 .obtain⟨v,q⟩:=I2.cell x c e;exact g! (Nat.lt_trans q.lt hC) (by rw[z];exact Yk _)
 .exact g! (Nat.lt_trans (Xe (I2.pin p hp).1) hC) (by rw[z];exact Yk _)
end
def jK{α:Type}(xs:List α)(lo hi:Option Int):List α:=(xs.drop (t! xs.length 0 lo)).take (t! xs.length xs.length hi - t! xs.length 0 lo)
def cA(z:Xj)(lo hi:Option Int):Xj:=⟨(jK z.cps.toList lo hi).toArray⟩
theorem uG(xs:List α)(a n:Nat):((Yr n).map λ(k:Nat)=>a+k).filterMap (xs[·]?)=(xs.drop a).take n:=by
 induction n with
 |zero=>simp
 | succ n ih =>
   rw[List.range_succ,W5,List.filterMap_append,ih,X5];congr 1;rw[List.getElem?_drop];cases h:xs[a+n]? <;> simp[h]
theorem tO(n d:Nat)(i:Int):max 0 (min (if i<0 then i+(n:Int)else i) (n:Int))=((t! n d (A? i):Nat):Int):=by
 show max 0 (min (if i<0 then i+(n:Int)else i) (n:Int))=(((if i<0 then(i+(n:Int)).toNat else min i.toNat n):Nat):Int);by_cases h:i<0
 .rw[b! h,b! h];lia
 .rw[a! h,a! h];lia
theorem uB(A B:Int)(a b:Nat)(hA:A=(a:Int))(hB:B=(b:Int)):sliceRange A B 1=(Yr (b - a)).map λ(k:Nat)=>a+k:=by
 subst hA;subst hB;unfold sliceRange;simp only[show(1:Int) > 0 by decide,if_true]
 have c:(if(a:Int)<(b:Int)then((b:Int) - a+1 - 1) / 1 else 0).toNat=b - a:=by
  split
  .rw[Int.ediv_one];lia
  .lia
 rw[c];refine List.map_congr_left λk _=>?_;lia
theorem sd(lo hi:Option Int)(n:Nat):Builtin.Str.strSliceIndices lo hi 1 n=(Yr (t! n n hi - t! n 0 lo)).map λ(k:Nat)=>t! n 0 lo+k:=by
 unfold Builtin.Str.strSliceIndices;simp only[show(1:Int) > 0 by decide,if_true];cases lo <;> cases hi <;> refine uB _ _ _ _ ?_ ?_ <;> first|rfl|exact tO _ _ _
theorem fK(z:Xj)(lo hi:Option Int):(cA z lo hi).length<=z.length:=by
 show(jK z.cps.toList lo hi).toArray.size<=z.cps.size;unfold jK;rw[Xa,XC,XJ,Xr];lia
theorem lI(x:Xj)(t:Tok)(l u:Option (Int×Tok))(hz:x.length<=Xi)(h:∀t' k,Q (.str (cA x (l.map (·.1)) (u.map (·.1))) t') {s with toks:=k}):(sliceMade x t l u B?).post Q s:=by
 have e:(slicePicked x l u B?).filterMap (x.cps[·]?)=jK x.cps.toList (l.map (·.1)) (u.map (·.1)):=by
  unfold slicePicked jK;show(Builtin.Str.strSliceIndices (l.map (·.1)) (u.map (·.1)) 1 x.length).filterMap (x.cps[·]?)=_;rw[sd,show(x.cps[·]?)=(x.cps.toList[·]?)from funext λi=>(Z1 ..).symm,uG,Xr];rfl
 unfold sliceMade;split
 .rename_i hc
  have hl:(slicePicked x l u B?).length=x.length:=by
   have:=(Bool.and_eq_true _ _ ▸ hc).2;simpa using this
  have hw:cA x (l.map (·.1)) (u.map (·.1))=x:=by
   have e2:(jK x.cps.toList (l.map (·.1)) (u.map (·.1)))=x.cps.toList:=by
    have hp:slicePicked x l u B?=(Yr (t! x.length x.length (u.map (·.1)) - t! x.length 0 (l.map (·.1)))).map λ(k:Nat)=>t! x.length 0 (l.map (·.1))+k:=sd _ _ _;rw[hp,WO,List.length_range]at hl;have b1:=HT.sIx_le x.length x.length (W0 _) (u.map (·.1));have hx:x.cps.toList.length=x.length:=Xr;unfold jK;rw[hx,hl];have Ff:t! x.length 0 (l.map (·.1))=0\/x.length=0:=by lia
    rcases Ff with h0|h0
    .rw[h0,Yw,Yi (by rw[hx];exact W0 _)]
    .have:x.cps.toList=[]:=Ys.mp (by rw[hx];exact h0);rw[this];simp
   unfold cA;rw[e2]
  have:=h t s.toks;rw[hw]at this;exact this
 .show(⟨((slicePicked x l u B?).filterMap (x.cps[·]?)).toArray⟩:Xj).length<=Xi/\Q _ _;rw[e];exact⟨X2 (fK x _ _) hz,h s.toks (s.toks+1)⟩
section
variable{X:Cx}
inductive w4(x:V)(lo:Option Int)(hi:Option Int)(H:Hp)(Q:VK):Prop
 |mk (z:_) (BR:x=.str z) (BS:z.length<=Xi) (CZ:Q (.str (cA z lo hi)) H):w4  x lo hi H Q
def zt:V->Option Int->Option Int->Hp->VK->Prop:=w4
theorem part_of{v:WV}{o:Option Int}(h:IsPart v o):∃l:Option (Int×Tok),v=partValue l/\l.map (·.1)=o:=by
 cases h with
 |none=>exact⟨B?,Dn,Dn⟩
 |int i t=>exact⟨A? (i,t),Dn,Dn⟩
theorem n8:SlR X zt:=by
 intro Z s Y H x v vl vu lo hi sl Q I rx hs pl pu h;obtain⟨z,rfl,hz,q⟩:=h;obtain⟨t,rfl⟩:=rx;obtain⟨l,rfl,rfl⟩:=part_of pl;obtain⟨u,rfl,rfl⟩:=part_of pu;refine⟨"str",_,F.slot_str_getitem.lookup,typeIs_str s z t,wpAny_getItem_str_slice (l:=l) (u:=u) (st:=B?) ?_ rfl (lI z t l u hz λt' k=>?_)⟩
 .obtain⟨o,ho,hc,hd⟩:=hs;exact⟨o,ho,hc,hd⟩
 .exact⟨.str (cA z (l.map (·.1)) (u.map (·.1))),H,I.tok k,⟨_,Dn⟩,q⟩
theorem uO(hc:X.calm=C?):dm X (.builtin "sum") (λxs H Q=>∃(p:WS)(ns:List Int),xs=[.ref p]/\SqL X.K H p (ns.map o!)/\Q (.int ns.sum) H):=by
 intro Z s Y H xs us Q I r h;obtain⟨p,ns,rfl,hl,q⟩:=h;obtain⟨u,rfl,rx⟩:=vals1 r;cases rx;obtain⟨its,rv,pl,_⟩:=I.list hl;have hi:=intsAre_of rv;obtain⟨ys,e⟩:=(hi.allInts).items;have Cn:s.1.IsList p (intItems ys):=by rw[<-e];exact pl.isList
 refine sum_intListG (I.ok.hd hc) Cn λh' tk t' hk=>?_
 have e3:preSum (numAt ys) ys.size=ns.sum:=by
  rw[preSum_eq,Yi (by simp),<-nums_intItems,<-e];show(numsOf its).sum=_;rw[hi.numsOf]
 rw[e3];exact⟨.int ns.sum,H,I.kept hk,⟨_,Dn⟩,q⟩
theorem iI(hc:X.calm=C?):dm X (.builtin "max") (λxs H Q=>∃(p:WS)(ns:List Int),xs=[.ref p]/\SqL X.K H p (ns.map o!)/\ns≠[]/\∀M,M∈ns->(∀a,a∈ns->a<=M)->Q (.int M) H):=by
 intro Z s Y H xs us Q I r h;obtain⟨p,ns,rfl,hl,Ar,q⟩:=h;obtain⟨u,rfl,rx⟩:=vals1 r;cases rx;obtain⟨its,rv,pl,_⟩:=I.list hl;have hi:=intsAre_of rv;have hlen:=hi.length;obtain⟨ys,e⟩:=(hi.allInts).items;have Cn:s.1.IsList p (intItems ys):=by rw[<-e];exact pl.isList
 have hn:ys.toList.map (·.1)=ns:=by rw[<-nums_intItems,<-e];exact hi.numsOf
 have hsz:0<ys.size:=by
  have:ns.length=ys.size:=by rw[<-hn];simp
  have:=List.length_pos_iff.mpr Ar;lia
 refine max_intList (I.ok.hd hc) Cn hsz λv h' tk hv hk=>?_;obtain⟨t,rfl⟩:=intItems_at hv;obtain⟨h1,h2⟩:=argBest_gt (numAt ys) (ys.size - 1);refine⟨.int _,H,I.kept hk,⟨_,Dn⟩,q _ ?_ λa ha=>?_⟩
 .rw[numAt_eq,<-hn];exact getD_mem (by rw[WO,Xr];lia)
 .rw[<-hn]at ha;obtain⟨j,hj,rfl⟩:=mem_getD ha;rw[WO,Xr]at hj;rw[<-numAt_eq];exact h2 j (by lia)
theorem u5{T:String}{b:Bool}{t:WV}:dm X (.builtin "isinstance") (λxs H Q=>∃x,xs=[x,.ty T]/\gR X.K H x t/\PySem.W.kitOne X.K t (.type T)=A? b/\Q (.bl b) H):=by
 intro Z s Y H xs us Q I r h;obtain⟨x,rfl,ty,k,q⟩:=h;obtain⟨u,w',rfl,r1,r2⟩:=vals2 r;cases r2;exact sO I r1 ty k λtk=>⟨.bl b,H,I.tok tk,rfl,q⟩
end
end L2
open L2 renaming Same->j!
namespace PySem
namespace F
theorem bb_owner_rev:Manifest.owners.lookup (String.ofList ['d','e','s','r','e','v','e','r'].reverse)=A? Manifest.sig_reversed:=by kernel_rfl
theorem bb_slot_rev_next:Slot "reversed" "__next__" "reversed.__next__" :=
 .of (owner:="reversed") (n:="__next__") (by rw[typeLookup_type,builtinLookup_eq_fast];kernel_rfl) (by decide +kernel) (by decide +kernel) (by decide +kernel)
  (by first|exact .inl (by decide +kernel)|exact .inr (by decide +kernel)) (by rw[isSubtype_type];kernel_rfl)
theorem bb_entry_rev_next:entryFor table "reversed.__next__"=A? YZ.«reversed.__next__»:=entryFor_of_tree (by kernel_rfl)
theorem bb_args_rev_next(a:WV):argsOk "reversed.__next__" ⟨[a],[]⟩:=by
 unfold argsOk;rw[signature?_of (id:="reversed.__next__") (n:=['_','_','t','x','e','n','_','_']) (o:=['d','e','s','r','e','v','e','r']) (by kernel_rfl) bb_owner_rev];kernel_rfl
theorem bb_slot_rev_iter:Slot "reversed" "__iter__" "reversed.__iter__" :=
 .of (owner:="reversed") (n:="__iter__") (by rw[typeLookup_type,builtinLookup_eq_fast];kernel_rfl) (by decide +kernel) (by decide +kernel) (by decide +kernel)
  (by first|exact .inl (by decide +kernel)|exact .inr (by decide +kernel)) (by rw[isSubtype_type];kernel_rfl)
theorem bb_args_rev_iter(a:WV):argsOk "reversed.__iter__" ⟨[a],[]⟩:=by
 unfold argsOk;rw[signature?_of (id:="reversed.__iter__") (n:=['_','_','r','e','t','i','_','_']) (o:=['d','e','s','r','e','v','e','r']) (by kernel_rfl) bb_owner_rev];kernel_rfl
theorem bb_entry_rev_iter:entryFor table "reversed.__iter__"=A? YZ.«dict_keyiterator.__iter__» :=
 entryFor_alias (id':="dict_keyiterator.__iter__") (by kernel_rfl) (by first|rfl|decide +kernel|(unfold String.splitOn;simp +decide [String.splitOnAux])) (by decide +kernel) (by kernel_rfl)
theorem bb_tuple_norev:typeLookup (.type "tuple") "__reversed__"=pure none:=by rw[typeLookup_type,builtinLookup_eq_fast];kernel_rfl
theorem bb_sub_rev_rev:isSubtype (.type "reversed") (.type "reversed")=pure true:=by rw[isSubtype_type];kernel_rfl
theorem bb_sub_tuple_dict:isSubtype (.type "tuple") (.type "dict")=pure false:=by rw[isSubtype_type];kernel_rfl
end F
open Sem (wp)
theorem bb_slot_rev_init:Slot "reversed" "__init__" "object.__init__" :=
 .of (owner:="object") (n:="__init__") (by rw[typeLookup_type,builtinLookup_eq_fast];kernel_rfl) (by decide +kernel) (by decide +kernel) (by decide +kernel)
  (by first|exact .inl (by decide +kernel)|exact .inr (by decide +kernel)) (by rw[isSubtype_type];kernel_rfl)
theorem bb_called_rev:TypeCalled "reversed" "reversed.__new__" "object.__init__" :=
 ⟨by decide +kernel,by decide +kernel,⟨_,_,F.mro_reversed⟩,F.made_reversed,by decide +kernel,F.bb_sub_rev_rev,bb_slot_rev_init⟩
def revTup(t:WS)(i:Int):YF:={cls:=.type "reversed",data:=.fields #[.ref t,YJ i]}
theorem bb_meets_rev_tuple(t:WS)(items:Array WV)(hz:(items.size:Int)<2 ^ 63) :
 Meets (YZ.«reversed.__new__» ⟨[.type "reversed",.ref t],[]⟩) (λ_ R s=>PyProof.Rows.IsTup s.1 t items/\∀tk,R (.ok (.ret (.ref s.1.1.size))) {s with heap:=s.1.push (revTup t ((items.size:Int) - 1)),toks:=tk}):=by
 refine .of_wp λprog w A R s h=>?_;obtain⟨ht,h⟩:=h;unfold YZ.«reversed.__new__»;refine WN (wpAny_of_eq (newClass_reversed _) ?_)
 try dsimp only
 refine WN (wpAny_of_eq (a:=()) (by first|rfl|kernel_rfl) ?_);refine WN (wpAny_of_eq (a:=()) (by first|rfl|kernel_rfl) ?_)
 try dsimp only
 refine WN (wpAny_specialOf ht.typeIs F.bb_tuple_norev ?_)
 try dsimp only
 have hsd:=F.bb_sub_tuple_dict;have hgi:=XM.lookup;have hT:s.TypeIs (.ref t) "tuple":=ht.typeIs
 wp_walk using PyProof.Rows.len_tuple ht hz,Zs hT
 exact⟨_,Dn,h _⟩
theorem bb_call_rev_tuple{t:WS}(ht:PyProof.Rows.IsTup s.1 t items)(hz:(items.size:Int)<2 ^ 63)
 (h:∀tk,Q (.ref s.1.1.size) {s with heap:=s.1.push (revTup t ((items.size:Int) - 1)),toks:=tk}):Xf (Xx prog w) A (call (.type "reversed") [.ref t]) Q E s :=
 callType_new bb_called_rev (by decide) (F.typeCall_reversed_1 _) (F.newCall_reversed_1 _) (λobj=>F.args_object_init_2 obj _) F.entry_reversed_new (bb_meets_rev_tuple t items hz)
  ⟨ht,λtk=>⟨⟨_,W3 _ rfl,rfl⟩,h tk⟩⟩
def IsRevT(h:X3)(a t:WS)(i:Int):Prop:=∃o,h.get? a=A? o/\o.cls=.type "reversed"/\o.data=.fields #[.ref t,YJ i]
theorem IsRevT.typeIs{t:WS}{i:Int}(x:IsRevT s.1 a t i):s.TypeIs (.ref a) "reversed":=let⟨o,ho,hc,_⟩:=x;⟨o,ho,hc⟩
theorem IsRevT.at{t:WS}{i:Int}(x:IsRevT h a t i)(e:∀o,h.get? a=A? o->h'.get? a=A? o):IsRevT h' a t i:=let⟨o,ho,r⟩:=x;⟨o,e _ ho,r⟩
theorem bb_rev_iter{t:WS}{i:Int}(hit:IsRevT s.1 it t i)(h:Q (.ref it) s):Xf (Xx prog w) A (pyIter (.ref it)) Q E s:=by
 refine wpAny_pyIter_slot hit.typeIs F.bb_slot_rev_iter (XY F.bb_slot_rev_iter hit.typeIs F.bb_entry_rev_iter ?_ (F.bb_args_rev_iter _));show Xf _ _ (ret (.ref it)) _ _ s;exact WX ⟨_,rfl,"reversed",_,hit.typeIs,F.bb_slot_rev_next.lookup,h⟩
theorem bb_rev_next{t:WS}{x:WV}{Q:Option WV->WZ->Prop}(hit:IsRevT s.1 it t (i:Int))(ht:PyProof.Rows.IsTup s.1 t items)(hx:items[i]?=A? x)(hz:(items.size:Int)<2 ^ 63)
 (hQ:∀h' tk,IsRevT h' it t ((i:Int) - 1)->X1 it s.1 h'->Q (A? x) {s with heap:=h',toks:=tk}):Xf (Xx prog w) A (Zw (.ref it)) Q E s:=by
 obtain⟨o,ho,hc,hd⟩:=id hit;have hi:i<items.size:=(Zn.mp hx).1;unfold Zw
 refine WN (ZO (XS (name:=W6 "__next__") hit.typeIs F.bb_slot_rev_next
  (XY F.bb_slot_rev_next hit.typeIs F.bb_entry_rev_next ?_ (F.bb_args_rev_next _))))
 unfold YZ.«reversed.__next__»;refine WN (wpAny_of_eq (a:=(XI it,[])) rfl ?_)
 try dsimp only
 refine WN (XT ho hd (x:=.ref t) rfl ?_);refine WN (XT ho hd (x:=YJ (i:Int)) rfl ?_);show Xf _ _ (if(i:Int)<0 then _ else _) _ _ s;rw[a! (by lia)];refine WN (wpAny_specialOf ht.typeIs XM.lookup ?_)
 try dsimp only
 rw[a! (by decide)];refine WN (m:=mkInt (i:Int)) (wpAny_mkInt ?_);refine WN (ZO (PyProof.Rows.getItem_tuple (j:=i) (x:=x) ht (by lia) (by lia) ?_ hx ?_))
 .refine(L2.n5 (n:=items.size) (i:=(i:Int)) (j:=i) ?_).1;unfold L2.ixN;rw[b! (by lia),b! (by lia)];simp
 .try dsimp only
  refine WN (XT ho hd (x:=YJ (i:Int)) rfl ?_)
  try dsimp only
  refine WN (ZT ho hd (by simp) ?_);refine WX ⟨x,rfl,WX (hQ _ _ ?_ (YM ..))⟩;exact⟨_,Yt _ ho (Obj.isFreed_of_fields (Y6 hd _)),(Obj.cls_mapFields ..).trans hc,by rw[Y6 hd];simp⟩
theorem bb_rev_end{t:WS}{Q:Option WV->WZ->Prop}(hh:A.handled=B?)(hit:IsRevT s.1 it t (-1))
 (hQ:∀h' tk,Heap.ExtBut it s.1 h'->Q B? {s with heap:=h',toks:=tk}):Xf (Xx prog w) A (Zw (.ref it)) Q E s:=by
 obtain⟨o,ho,hc,hd⟩:=id hit;unfold Zw
 refine WN (ZO (XS (name:=W6 "__next__") hit.typeIs F.bb_slot_rev_next
  (XY F.bb_slot_rev_next hit.typeIs F.bb_entry_rev_next ?_ (F.bb_args_rev_next _))))
 unfold YZ.«reversed.__next__»;refine WN (wpAny_of_eq (a:=(XI it,[])) rfl ?_)
 try dsimp only
 refine WN (XT ho hd (x:=.ref t) rfl ?_);refine WN (XT ho hd (x:=YJ (-1)) rfl ?_);show Xf _ _ (if(-1:Int)<0 then _ else _) _ _ s;rw[b! (by decide)];refine WN (wpAny_rule ?_);refine WN ?_
 wp_delta
 refine WN (ZT ho hd (by simp) ?_);have DI:=Yt (Obj.mapFields (·.setIfInBounds 1 (YJ (-1)))) ho (Obj.isFreed_of_fields (Y6 hd _));refine ZT DI (Y6 hd _) (by simp) ?_;refine WN ?_
 wp_delta
 refine WN ?_;simp only[newExc,newTuple];refine WN (XO ?_ (by size_fits));refine WN (m:=ZU _ _) (wpAny_of_eq (a:=Yp) (by first|rfl|(simp only[ZU];rfl)) ?_);refine XO ?_ (by size_fits);simp only[raiseNew];refine WN (wpAny_handled ?_)
 first|rw[show A.in1.handled=B? from hh]|rw[hh]
 refine WN (WX (wpAny_throw ?_));refine WN (wpAny_isInstance (T:="StopIteration") (b:=C?) ⟨_,W3 _ rfl,rfl⟩ isSubtype_stop ?_);refine WX (hQ _ _ ?_);refine Heap.ExtBut.push (Heap.ExtBut.push ?_ _) _;intro b o' hb e;rw[YG _ _ (Zr hb),YG _ _ (Zr hb)];exact e
end PySem
namespace L2
open PySem PySem.Spec PyProof.Rows
section
variable{X:Cx}{p p2 A9:Z9}
def Itv(K:WW)(a:WS)(n:Nat):It:=⟨λi H=>i<n/\∃xs,SqL K H a xs/\xs.length=n,λi H x H'=>H'=H/\∀xs,SqL K H a xs->xs[n - 1 - i]?=A? x,λi _=>i=n⟩
theorem tY(a it:WS)(n:Nat):Turn P w K tg (Itv K a n) [it] it (λi h=>h.IsRevIter it a ((n:Int) - 1 - (i:Nat))) where
 mem:=by simp
 obj:=λi h st b hb=>by
  have e:b=it:=by simpa using hb
  subst e;obtain⟨o,e,c,d⟩:=st;exact⟨o,e,λv z=>by rw[d]at z;cases z⟩
 keep:=λi h h' st k=>st.at λo e=>k it (by simp) o e
 item:=by
  walk_at"a";obtain⟨hi,xs,hq,hx⟩:=hg;obtain⟨its,rv,p,hz⟩:=I.list hq;have hl:=rv.length;obtain⟨x,Bc⟩:∃x,xs[n - 1 - i]?=A? x:=⟨_,WQ (by lia)⟩;obtain⟨u,hu,ru⟩:=rv.get Bc;obtain⟨f0,f1,f2,f3,f4,f5⟩:=hf it (by simp);have e1:(n:Int) - 1 - (i:Nat)=((n - 1 - i:Nat):Int):=by lia
  rw[e1]at st;refine wpAny_pyNext_rev_item st p.isList (x:=u) (by simpa using hu) λh' Bt sb=>?_;have I1:Inv X Z Y H {s with heap:=h'}:=I.turned (t':=s.toks) (λb o hb e=>(sb.2 b hb).trans e) f0 f1 f3 f4 f5;have e2:((n - 1 - i:Nat):Int) - 1=(n:Int) - 1 - ((i+1:Nat):Int):=by lia
  rw[e2]at Bt;obtain⟨o,e,c,d⟩:=id Bt;exact⟨u,Dn,j4 (s:={s with heap:=h'}) e c d (by decide) ⟨x,H,I1,ru,⟨Dn,λys hy=>by rw[I.list_inj hy hq];exact Bc⟩,Bt,λb hb=>(hf b hb).1⟩⟩
 done:=by
  walk_at"a";have Nr:i=n:=hg;subst Nr;obtain⟨f0,f1,f2,f3,f4,f5⟩:=hf it (by simp);rw[show(i:Int) - 1 - (i:Nat)=-1 by lia]at st;exact wpAny_pyNext_rev_end (I.ok.hd hc) st λh' eb=>⟨rfl,I.turned (t':=s.toks) (λb o hb e=>eb b o hb e) f0 f1 f3 f4 f5⟩
 self:=λ_ _ _ _ _ st h=>wpAny_pyIter_revIter st h
def zQ(K:WW)(tl:TE):TI:=λY H R=>tl Y H λx H1=>∃a xs,x=.ref a/\SqL K H1 a xs/\R (Itv K a xs.length) H1
theorem qz(g2:Gl X "reversed")(m2:X.mg "reversed"=B?)(he:PE X e te)(h2:XE [e] X.env=[(D?,YQ e X.env)]:=by rfl):PI X tg (.Call (.Name "reversed" p2) [e] [] A9) (zQ X.K te):=by
 intro Z s Y H R I h;refine Yo (d6 I g2 m2 boot_reversed (Yl ?_ h2 rfl));rw[h2];show Xf _ _ (spliced ((D?,YQ e X.env)::[])) _ _ s;refine ZA (thn (he Z s Y H _ I h) λu s1⟨x,H1,I1,r1,a,ys,ex,hq,q⟩=>Calls.spliced_nil ?_);subst ex;cases r1;obtain⟨its,rv,p,hz⟩:=I1.list hq;have hl:=rv.length;refine call_reversed_list p.isList ?_
 have hit:(s1.1.push (revObj a ((its.toArray.size:Int) - 1))).IsRevIter s1.1.1.size a ((ys.length:Int) - 1 - ((0:Nat):Int)):=by
  rw[hl,show(its.length:Int) - 1 - ((0:Nat):Int)=(its.toArray.size:Int) - 1 by rw[Xa];lia];exact⟨_,W3 _ rfl,Dn,Dn⟩
 refine wpAny_pyIter_revIter (s:={s1 with heap:=s1.1.push (revObj a ((its.toArray.size:Int) - 1))}) hit ?_;refine⟨s1.1.1.size,[s1.1.1.size],_,_,H1,Dn,I1.kept (t':=s1.toks) λb o e=>WU _ e,tY a _ ys.length,hit,λb hb=>?_,q⟩;have e:b=s1.1.1.size:=by simpa using hb
 subst e;exact I1.fpOk (W0 _) (I1.hok.fresh (W0 _))
theorem m9(Pv:Nat->St->Hp->Prop)(h0:Pv 0 Y H)(hl:∀i Y H,i<=xs.length->Pv i Y H->SqL K H a xs)
 (hs:∀i x Y H,i<xs.length->xs[xs.length - 1 - i]?=A? x->Pv i Y H->g x Y H λAg H2=>tb {D with nx:=Pv (i+1),ct:=Pv (i+1),bk:=D.nx} Ag H2) (hd:∀Y H,Pv xs.length Y H->D.nx Y H) :
 ∃W:Nat->Nat->St->Hp->Prop,(∃m,W 0 m Y H)/\∀i m Y H,W i m Y H ->
   ((Itv K a xs.length).stop i H/\D.nx Y H)\/((Itv K a xs.length).go i H/\∃N:St->Hp->Prop,(∀l' H',N l' H'->∃m',m'<m/\W (i+1) m' l' H')/\∀x H',(Itv K a xs.length).yld i H x H'->g x Y H' λAg H2=>tb {D with nx:=N,ct:=N,bk:=D.nx} Ag H2):=by
 refine⟨λi m Y H=>i<=xs.length/\m=xs.length - i/\Pv i Y H,⟨xs.length,XA _,Dn,h0⟩,?_⟩;rintro i m Y H ⟨hi,rfl,p⟩;by_cases h:i=xs.length
 .left;exact⟨h,hd Y H (by rw[<-h];exact p)⟩
 .right;have Ce:i<xs.length:=by lia
  refine⟨⟨Ce,xs,hl i Y H hi p,Dn⟩,Pv (i+1),λl' H' q=>⟨xs.length - (i+1),by lia,by lia,Dn,q⟩,?_⟩;rintro x H' ⟨rfl,hx⟩;exact hs i x Y H' Ce (hx xs (hl i Y H' hi p)) p
end
end L2
namespace BB
open PySem L2
inductive Th where
 |knot (n:Xj) (ks:List Th)
 |call (s k:Int)
def q:Xj:=W6 "?"
def Th.kids:Th->List Th
 |.knot _ ks=>ks
 |.call _ _=>[]
mutual
def Th.size:Th->Nat
 |.knot _ ks=>ar ks+1
 |.call _ _=>1
def ar:List Th->Nat
 | []=>0
 |t::ts=>t.size+ar ts
end
mutual
def Th.tall:Th->Nat
 |.knot _ ks=>aB ks+1
 |.call _ _=>1
def aB:List Th->Nat
 | []=>0
 |t::ts=>max t.tall (aB ts)
end
mutual
def Th.walk:Th->List Th
 |.knot n ks=>.knot n ks::walks ks
 |.call s k=>[.call s k]
def walks:List Th->List Th
 | []=>[]
 |t::ts=>t.walk++walks ts
end
theorem Th.walk_eq(t:Th):t.walk=t::walks t.kids:=by
 cases t with
 |knot n ks=>rw[Th.walk];rfl
 |call s k=>rw[Th.walk];simp[Th.kids,walks]
theorem Th.size_eq(t:Th):t.size=ar t.kids+1:=by
 cases t with
 |knot n ks=>rw[Th.size];rfl
 |call s k=>rw[Th.size];simp[Th.kids,ar]
theorem Th.tall_eq(t:Th):t.tall=aB t.kids+1:=by
 cases t with
 |knot n ks=>rw[Th.tall];rfl
 |call s k=>rw[Th.tall];simp[Th.kids,aB]
theorem eK:∀a b:List Th,walks (a++b)=walks a++walks b
 | [],b=>by simp[walks]
 |t::a,b=>by rw[YC,walks,walks,eK a b,X7]
theorem aO:∀a b:List Th,ar (a++b)=ar a+ar b
 | [],b=>by simp[ar]
 |t::a,b=>by rw[YC,ar,ar,aO a b,Nat.add_assoc]
mutual
theorem Th.walk_len:∀t:Th,t.walk.length=t.size
 |.knot n ks=>by rw[Th.walk,Th.size,W8,fW ks]
 |.call s k=>by rw[Th.walk,Th.size];rfl
theorem fW:∀ts:List Th,(walks ts).length=ar ts
 | []=>rfl
 |t::ts=>by rw[walks,ar,W4,t.walk_len,fW ts]
end
theorem Th.size_pos(t:Th):1<=t.size:=by rw[t.size_eq];lia
mutual
def At(H:Hp):Th->WS->Prop
 |.knot n ks,a=>n≠q/\∃as:List WS,H a=A? (.tup (.str n::as.map i!))/\Ats H ks as
 |.call s k,a=>H a=A? (.tup [.str q,.int s,.int k])
def Ats(H:Hp):List Th->List WS->Prop
 | [],as=>as=[]
 |t::ts,as=>∃a r,as=a::r/\At H t a/\Ats H ts r
end
def KT(H H':Hp):Prop:=∀b xs,H b=A? (.tup xs)->H' b=A? (.tup xs)
theorem KT.trans(a:KT H H1)(b:KT H1 H2):KT H H2:=λc o h=>b c o (a c o h)
theorem Same.kt(h:j! H H'):KT H H':=λb xs e=>h b _ e
theorem fH(h:H l=B?):KT H (upd H l o):=λb xs e=>by rw[af (aq e h)];exact e
theorem aY(h:H l=A? (.lst xs)):KT H (upd H l o):=λb ys e=>by rw[af (aA e h (by intro z;cases z))];exact e
mutual
theorem At.mono(k:KT H H'):∀{t:Th}{a:WS},At H t a->At H' t a
 | .knot n ks,a,h=>by
   rw[At]at h |-;obtain⟨h0,as,h1,h2⟩:=h;exact⟨h0,as,k _ _ h1,Ats.mono k h2⟩
 | .call s c,a,h=>by
   rw[At]at h |-;exact k _ _ h
theorem Ats.mono(k:KT H H'):∀{ts:List Th}{as:List WS},Ats H ts as->Ats H' ts as
 | [],as,h=>by rw[Ats]at h |-;exact h
 | t::ts,as,h=>by
   rw[Ats]at h |-;obtain⟨a,r,e,h1,h2⟩:=h;exact⟨a,r,e,At.mono k h1,Ats.mono k h2⟩
end
theorem Ats.nil:Ats H [] []:=by rw[Ats]
theorem Ats.cons{t:Th}{ts:List Th}(h1:At H t a)(h2:Ats H ts as):Ats H (t::ts) (a::as):=by rw[Ats];exact⟨a,as,Dn,h1,h2⟩
theorem Ats.append:∀{ts us:List Th}{as bs:List WS},Ats H ts as->Ats H us bs->Ats H (ts++us) (as++bs)
 | [],us,as,bs,h,g=>by rw[Ats]at h;subst h;exact g
 | t::ts,us,as,bs,h,g=>by
   rw[Ats]at h;obtain⟨a,r,rfl,h1,h2⟩:=h;exact .cons h1 (h2.append g)
theorem Ats.length:∀{ts:List Th}{as:List WS},Ats H ts as->as.length=ts.length
 | [],as,h=>by rw[Ats]at h;subst h;rfl
 | t::ts,as,h=>by
   rw[Ats]at h;obtain⟨a,r,rfl,h1,h2⟩:=h;rw[W8,W8,h2.length]
theorem Ats.reverse:∀{ts:List Th}{as:List WS},Ats H ts as->Ats H ts.reverse as.reverse
 | [],as,h=>by rw[Ats]at h;subst h;exact .nil
 | t::ts,as,h=>by
   rw[Ats]at h;obtain⟨a,r,rfl,h1,h2⟩:=h;rw[XW,XW];exact h2.reverse.append (.cons h1 .nil)
theorem Ats.get:∀{ts:List Th}{as:List WS}{i:Nat}{a:WS},Ats H ts as->as[i]?=A? a->∃t,ts[i]?=A? t/\At H t a
 | [],as,i,a,h,e=>by rw[Ats]at h;subst h;simp at e
 | t::ts,as,i,a,h,e=>by
   rw[Ats]at h;obtain⟨b,r,rfl,h1,h2⟩:=h;cases i with
   |zero=>simp at e;subst e;exact⟨t,Dn,h1⟩
   |succ i=>exact h2.get (i:=i) (by simpa using e)
theorem Ats.at:∀{ts:List Th}{as:List WS}{i:Nat}{t:Th},Ats H ts as->ts[i]?=A? t->∃a,as[i]?=A? a/\At H t a
 | [],as,i,a,h,e=>by simp at e
 | t::ts,as,i,a,h,e=>by
   rw[Ats]at h;obtain⟨b,r,rfl,h1,h2⟩:=h;cases i with
   |zero=>simp at e;subst e;exact⟨b,Dn,h1⟩
   |succ i=>exact h2.at (i:=i) (by simpa using e)
theorem Ats.snoc_inv{ts:List Th}(h:Ats H ts (as++[a])):∃us t,ts=us++[t]/\Ats H us as/\At H t a:=by
 have r:=h.reverse;rw[Yq,ZR,Z0]at r;cases e:ts.reverse with
 |nil=>rw[e,Ats]at r;cases r
 | cons t us =>
   rw[e,Ats]at r;obtain⟨b,z,e1,h1,h2⟩:=r;cases e1;refine⟨us.reverse,t,?_,?_,h1⟩
   .rw[<-XW,<-e,Y0]
   .have:=h2.reverse;rw[Y0]at this;exact this
theorem At.tup{t:Th}(h:At H t a):∃n r,H a=A? (.tup (.str n::r)):=by
 cases t with
 |knot n ks=>rw[At]at h;obtain⟨_,as,h1,_⟩:=h;exact⟨n,_,h1⟩
 |call s k=>rw[At]at h;exact⟨q,_,h⟩
end BB
open BB.Same renaming kt->k!
open BB.Th renaming tall->q!,knot->r!,size->v!,call->A!,walk_eq->B!,walk_len->H!
variable{p p':BB.Th}{W ts os Ts:List BB.Th}{rows:List (List BB.Th)}{SI:L2.Hp->List BB.Th->Prop}{VR:List BB.Th->Int->BB.Th->Int->Prop}
namespace BB
open PySem L2
theorem at_nonneg{xs:List α}{i:Int}{v:α}(h0:0<=i)(h:xs[i.toNat]?=A? v):atI xs i=A? v:=by
 have e:i=((i.toNat:Nat):Int):=by lia
 rw[e];exact bL h
def Low(x:Xj):Prop:=∀c∈x.cps.toList,97<=c/\c<=122
theorem nL(h:Low x)(lo hi:Option Int):Low (cA x lo hi):=by
 intro c hc;have BA:c∈jK x.cps.toList lo hi:=by simpa[cA]using hc
 exact h c (Zz (Y2 BA))
theorem rH{y:Xj}(hx:Low x)(hy:Low y):Low (x++y):=by
 intro c hc;have BA:c∈(x.cps++y.cps).toList:=hc;rw[ZG,W7]at BA;rcases BA with h|h
 .exact hx c h
 .exact hy c h
theorem wz{c:Nat}(h1:97<=c)(h2:c<=122):Low ⟨#[c]⟩:=by
 intro d hd;have:d=c:=by simpa using hd
 lia
theorem lB(h:Low x):x≠q:=by
 intro e;subst e;have:=h 63 (by decide +kernel);lia
end BB
namespace L2
open PySem PySem.Spec PyProof.Rows
theorem Same.seqT(e:Same H H')(h:SqT K H a xs):SqT K H' a xs:=by
 rcases h with(h|⟨o,h⟩)|h
 .exact .inl (.inl (e _ _ h))
 .exact .inl (.inr ⟨o,e _ _ h⟩)
 .exact .inr h
theorem am{p:WS}(h:H p=B?)(o:HO):Same H (upd H p o):=λb u q=>by rw[af (aq q h)];exact q
@[elab_as_elim] theorem gU{G:Hp->Prop}(h:H a=B?)(k:∀H',j! H H'->H' a=A? o->G H'):G (upd H a o):=k _ (am h _) ae
theorem aC(h:Same H H1)(n:H l=B?):Same H (upd H1 l o):=λb u e=>by rw[af (aq e n)];exact h b u e
theorem rm(zs:List α)(p:α->Bool)(f:α->V)(hz:zs.length=xs.length)(hn:xs.length<=1000000)
 (JB:∀i H2,Same H H2->i<xs.length->J.go i H2) (Cw:∀H2,Same H H2->J.stop xs.length H2) (Eh:∀(i:Nat)H2 x H3,Same H H2->i<xs.length->J.yld i H2 x H3->H3=H2/\xs[i]?=A? x)
 (Fg:∀(i:Nat)x z H2(R:Bool->Hp->Prop),xs[i]?=A? x->zs[i]?=A? z->Same H H2->R (p z) H2->tt ((cσ js Y).set 0 (A? x)) H2 R)
 (Fh:∀(i:Nat)x z H2(R:VK),xs[i]?=A? x->zs[i]?=A? z->p z=C?->Same H H2->R (f z) H2->te ((cσ js Y).set 0 (A? x)) H2 R)
 (q:∀D,H D=B?->fin D (upd H D (.lst ((zs.filter p).map f)))) :
 ∀D,H D=B?->∃(n:Nat)(W:Nat->Hp->Prop),W 0 (upd H D (.lst []))/\fA js (ay 0) tt te Y J D n W λH'=>fin D H':=by
 intro D hD;refine⟨xs.length,λi H2=>i<=xs.length/\H2=upd H D (.lst (((zs.take i).filter p).map f)),⟨XA _,by simp⟩,?_⟩;rintro i H2 ⟨hi,rfl⟩;have sm:∀o,Same H (upd H D o):=λo=>am hD o;by_cases h:i=xs.length
 .left;subst h;refine⟨Cw _ (sm _),?_⟩;rw[<-hz,Zi];exact q D hD
 .right;have Ce:i<xs.length:=by lia
  refine⟨Ce,JB i _ (sm _) Ce,λx H1 hy=>?_⟩;obtain⟨rfl,hx⟩:=Eh i _ x H1 (sm _) Ce hy;have Uv:i<zs.length:=by lia
  have e1:zs[i]?=A? zs[i]:=WQ Uv
  have e2:(zs.take (i+1)).filter p=(zs.take i).filter p++(if p zs[i]=C? then[zs[i]]else[]):=by
   rw[X5,e1,List.filter_append];show _++List.filter p [zs[i]]=_;rw[List.filter_cons,List.filter_nil]
  refine Fg i x zs[i] _ _ hx e1 (sm _) ?_
  have hlen:(((zs.take i).filter p).map f).length<=1000000:=by
   rw[WO];have:=List.length_filter_le p (zs.take i);rw[XC]at this;lia
  by_cases hp:p zs[i]=C?
  .rw[b! hp];refine Fh i x zs[i] _ _ hx e1 hp (sm _) ⟨_,ae,Nat.lt_of_le_of_lt hlen (by decide),Ce,?_⟩;rw[iA,e2,b! hp,W5];rfl
  .rw[a! hp];refine⟨Ce,?_⟩;rw[e2,a! hp,Yx]
theorem nb(zs:List α)(p:α->Bool)(f:α->V)(hS:SqL K H a xs)(hz:zs.length=xs.length)(hn:xs.length<=1000000)
 (Fg:∀(i:Nat)x z H2(R:Bool->Hp->Prop),xs[i]?=A? x->zs[i]?=A? z->Same H H2->R (p z) H2->tt ((cσ js Y).set 0 (A? x)) H2 R)
 (Fh:∀(i:Nat)x z H2(R:VK),xs[i]?=A? x->zs[i]?=A? z->p z=C?->Same H H2->R (f z) H2->te ((cσ js Y).set 0 (A? x)) H2 R)
 (q:∀D,H D=B?->fin D (upd H D (.lst ((zs.filter p).map f)))) :
 ∀D,H D=B?->∃(n:Nat)(W:Nat->Hp->Prop),W 0 (upd H D (.lst []))/\fA js (ay 0) tt te Y (Itl K a) D n W λH'=>fin D H' :=
 rm zs p f hz hn (λi H2 s hi=>⟨xs,xs[i],s.seq hS,WQ hi⟩) (λH2 s=>⟨xs,s.seq hS,W0 _⟩) (λi H2 x H3 s hi hy=>⟨hy.1,hy.2 xs (s.seq hS)⟩) Fg Fh q
theorem cV(zs:List α)(p:α->Bool)(f:α->V)(hS:SqT K H a xs)(hz:zs.length=xs.length)(hn:xs.length<=1000000)
 (Fg:∀(i:Nat)x z H2(R:Bool->Hp->Prop),xs[i]?=A? x->zs[i]?=A? z->Same H H2->R (p z) H2->tt ((cσ js Y).set 0 (A? x)) H2 R)
 (Fh:∀(i:Nat)x z H2(R:VK),xs[i]?=A? x->zs[i]?=A? z->p z=C?->Same H H2->R (f z) H2->te ((cσ js Y).set 0 (A? x)) H2 R)
 (q:∀D,H D=B?->fin D (upd H D (.lst ((zs.filter p).map f)))) :
 ∀D,H D=B?->∃(n:Nat)(W:Nat->Hp->Prop),W 0 (upd H D (.lst []))/\fA js (ay 0) tt te Y (Itt K a) D n W λH'=>fin D H' :=
 rm zs p f hz hn (λi H2 s hi=>⟨xs,xs[i],s.seqT hS,WQ hi⟩) (λH2 s=>⟨xs,s.seqT hS,W0 _⟩) (λi H2 x H3 s hi hy=>⟨hy.1,hy.2 xs (s.seqT hS)⟩) Fg Fh q
end L2
namespace BB
open PySem L2
theorem at0{x:α}{xs:List α}:atI (x::xs) 0=A? x:=bL (j:=0) rfl
theorem at1{x y:α}{xs:List α}:atI (x::y::xs) 1=A? y:=bL (j:=1) rfl
theorem at2{x y z:α}{xs:List α}:atI (x::y::z::xs) 2=A? z:=bL (j:=2) rfl
theorem dH(x:V)(xs:List V):cH (x::xs) (A? 1) B?=xs:=by
 unfold cH;simp[t!]
theorem bO:∀ts:List Th,ts.length<=ar ts
 | []=>XA _
 | t::ts=>by
   have:=t.size_pos;have:=bO ts;rw[W8,ar];lia
theorem l7(ts:List Th):ar ts.reverse=ar ts:=by
 induction ts with
 |nil=>rfl
 |cons x xs ih=>rw[XW,aO,ih,ar,ar,ar];lia
theorem bc(h:n<=1000000):n<Xi:=Nat.lt_of_le_of_lt h (by decide)
theorem ba(h:n<=1000000):n<=Xi:=ZQ (bc h)
theorem lnE(h:Nat.ble n 1000000=C?):n<=Xi:=ba (Nat.le_of_ble_eq_true h)
theorem uAE:(upd H a (.lst (as.map i!++[.ref b]))) a=A? (.lst ((as++[b]).map i!)):=by rw[ae,W5];rfl
theorem lbE{f:α->β}{l:List α}(h:l.length<=1000000):(l.map f).length<Xi:=bc (by rw[WO];exact h)
theorem int_at{ns:List Int}{k:Int}(h0:0<=k)(h:k<(ns.length:Int)):atI (ns.map o!) k=A? (.int (ns.getD k.toNat 0)):=by
 refine at_nonneg h0 ?_;have hk:k.toNat<ns.length:=by lia
 rw[Xd,WQ hk,List.getD_eq_getElem?_getD,WQ hk];rfl
section
variable{G:α->β->Prop}
theorem P2.append:∀{a c:List α}{b d:List β},Xv F a b->Xv F c d->Xv F (a++c) (b++d)
 |_,_,_,_,.nil,h=>h
 |_,_,_,_,.cons r t,h=>.cons r (P2.append t h)
theorem P2.get:∀{a:List α}{b:List β}{i:Nat}{x:α},Xv F a b->a[i]?=A? x->∃y,b[i]?=A? y/\F x y
 |_,_,_,_,.nil,e=>by simp at e
 |_,_,0,_,.cons r _,e=>by simp at e;subst e;exact⟨_,Dn,r⟩
 | _,_,i+1,x,.cons _ t,e=>by
   obtain⟨u,h1,h2⟩:=P2.get (i:=i) (x:=x) t (by simpa using e);exact⟨u,by simpa using h1,h2⟩
theorem P2.get':∀{a:List α}{b:List β}{i:Nat}{y:β},Xv F a b->b[i]?=A? y->∃x,a[i]?=A? x/\F x y
 |_,_,_,_,.nil,e=>by simp at e
 |_,_,0,_,.cons r _,e=>by simp at e;subst e;exact⟨_,Dn,r⟩
 | _,_,i+1,y,.cons _ t,e=>by
   obtain⟨u,h1,h2⟩:=P2.get' (i:=i) (y:=y) t (by simpa using e);exact⟨u,by simpa using h1,h2⟩
theorem P2.take:∀{a:List α}{b:List β}(n:Nat),Xv F a b->Xv F (a.take n) (b.take n)
 |_,_,0,_=>.nil
 |_,_,_+1,.nil=>.nil
 |_,_,n+1,.cons r t=>.cons r (P2.take n t)
theorem P2.drop:∀{a:List α}{b:List β}(n:Nat),Xv F a b->Xv F (a.drop n) (b.drop n)
 |_,_,0,r=>r
 |_,_,_+1,.nil=>.nil
 |_,_,n+1,.cons _ t=>P2.drop n t
theorem P2.mp(f:∀x y,F x y->G x y):∀{a:List α}{b:List β},Xv F a b->Xv G a b
 |_,_,.nil=>.nil
 |_,_,.cons r t=>.cons (f _ _ r) (P2.mp f t)
end
def KAt(H:Hp)(k:Xj×Int)(a:WS):Prop:=H a=A? (.tup [.str k.1,.int k.2])
def KsAt(H:Hp)(ks:List (Xj×Int))(as:List WS):Prop:=Xv (KAt H) ks as
theorem KsAt.mono(k:KT H H'){ks:List (Xj×Int)}(h:KsAt H ks as):KsAt H' ks as:=P2.mp (λx y e=>k _ _ e) h
end BB
open BB.P2 renaming append->p!,mp->w!,get->x!,get'->C!
namespace L2
open PySem
theorem ck{t u:TS}(R:St->Hp->Prop)(h1:∀k:St->Hp->Prop,(∀l' H',R l' H'->k l' H')->t {D with nx:=k} Y H)(h2:∀l' H',R l' H'->u D l' H'):lP t u D Y H:=h1 _ h2
theorem bN{c:TT}{t u:TS}(R:Bool->Hp->Prop)(h1:∀k:Bool->Hp->Prop,(∀b H',R b H'->k b H')->c Y H k)(h2:∀H',R C? H'->t D Y H')(h3:∀H',R D? H'->u D Y H'):yy c t u D Y H :=
 h1 _ λb H' r=>by
  cases b with
  |true=>rw[b! rfl];exact h2 H' r
  |false=>rw[a! Xq];exact h3 H' r
end L2
namespace BB
open PySem L2
mutual
def Th.Fit(ks:List (Xj×Int)):Th->Prop
 |.knot n ts=>(n,(ts.length:Int))∈ks/\Fits ks ts
 |.call _ _=>False
def Fits(ks:List (Xj×Int)):List Th->Prop
 | []=>True
 |t::ts=>t.Fit ks/\Fits ks ts
end
theorem Fits.of{ks:List (Xj×Int)}:∀{ts:List Th},(∀t∈ts,t.Fit ks)->Fits ks ts
 | [],_=>by rw[Fits];trivial
 | t::ts,h=>by
   rw[Fits];exact⟨h t (W2 ..),Fits.of λu hu=>h u (WR _ hu)⟩
theorem Fits.mem{ks:List (Xj×Int)}:∀{ts:List Th},Fits ks ts->∀t∈ts,t.Fit ks
 | [],_,t,h=>by cases h
 | u::ts,h,t,m=>by
   rw[Fits]at h;rcases Xc.mp m with rfl|m
   .exact h.1
   .exact Fits.mem h.2 t m
section
variable{ext:Th->List V}{t:Th}{es:List WS}
end
theorem filter_tt(xs:List α):xs.filter (λ_=>C?)=xs:=by
 induction xs with
 |nil=>rfl
 |cons x xs ih=>rw[List.filter_cons,b! rfl,ih]
theorem ce:∀{ts:List Th}{t:Th},t∈ts->t.tall<=aB ts
 | u::ts,t,h=>by
   rw[aB];rcases Xc.mp h with rfl|h
   .lia
   .have:=ce h;lia
theorem i6:∀{ts:List Th},ts≠[]->∃t∈ts,t.tall=aB ts
 | [],h=>g! rfl h
 | [u],_=>⟨u,W2 ..,by rw[aB,aB];lia⟩
 | u::v::ts,_=>by
   obtain⟨t,h1,h2⟩:=i6 (ts:=v::ts) (by simp);rw[aB];by_cases c:aB (v::ts)<=u.tall
   .exact⟨u,W2 ..,by lia⟩
   .exact⟨t,WR _ h1,by lia⟩
theorem iT(h:n<=xs.length):cH xs (A? (n:Int)) B?=xs.drop n:=by
 unfold cH;rw[y!,L!,Nat.min_eq_left h];exact Yi (by rw[XJ];exact W0 _)
theorem take_snoc{xs:List α}{x:α}(h:xs[n]?=A? x):xs.take (n+1)=xs.take n++[x]:=by rw[X5,h];rfl
theorem bq{xs:List WS}{x:V}(h:(xs.map i!)[i]?=A? x):∃a,x=.ref a/\xs[i]?=A? a:=by
 rw[Xd]at h;obtain⟨a,h1,h2⟩:=Yh.mp h;exact⟨a,h2.symm,h1⟩
end BB
open BB.Th renaming Fit->z!
namespace PySem
open Sem (wp)
theorem bb_tupNext{cur:WS}{x:WV}(g:s.1.IsTupleIter cur tp i)(gt:s.1.IsTuple tp items)(hx:items[i]?=A? x)
 (fin:∀h',h'.IsTupleIter cur tp (i+1)->X1 cur s.1 h'->Q x {s with heap:=h'}):Xf (Xx prog w) A (X4 (.ref cur)) Q E s:=by
 obtain⟨ob,e1,e2,e3⟩:=id g;obtain⟨ot,e4,_,nt,e5⟩:=gt;unfold X4;refine WN (XS (name:=W6 "__next__") g.typeIs F.slot_tuple_iterator_next (XY F.slot_tuple_iterator_next g.typeIs F.entry_tuple_iterator_next ?_ (F.args_tuple_iterator_next_1 _)));show Xf _ _ (field (.ref cur) 0 >>= _) _ _ s;refine WN (XT e1 e3 (x:=.ref tp) rfl ?_);show Xf _ _ (if(XI tp == Yp)=C? then _ else _) _ _ s;rw[a! (show¬((XI tp == Yp)=C?)from Xq)];show Xf _ _ (field (.ref cur) 1 >>= _) _ _ s;refine WN (XT e1 e3 (x:=.int i 0) rfl ?_);show Xf _ _ (seqItems? (.ref tp) >>= _) _ _ s;refine WN (YN e4 e5 ?_);simp only[Yj,hx];refine WN (ZT e1 e3 (by simp) (WX ⟨x,rfl,WX (fin _ ?_ (YM ..))⟩));exact⟨_,Yt _ e1 (Obj.isFreed_of_fields (Y6 e3 _)),(Obj.cls_mapFields ..).trans e2,by rw[Y6 e3];simp[YJ]⟩
theorem bb_tupEnd{cur:WS}(calm:A.handled=B?)(g:s.1.IsTupleIter cur tp i)(gt:s.1.IsTuple tp items)(hx:items[i]?=B?)
 (fin:∀h' e,Heap.ExtBut cur s.1 h'->(∃o,h'.get? e=A? o/\o.cls=.type "StopIteration")->E (.ref e) {s with heap:=h'}):Xf (Xx prog w) A (X4 (.ref cur)) Q E s:=by
 obtain⟨ob,e1,e2,e3⟩:=id g;obtain⟨ot,e4,_,nt,e5⟩:=gt;unfold X4;refine WN (XS (name:=W6 "__next__") g.typeIs F.slot_tuple_iterator_next (XY F.slot_tuple_iterator_next g.typeIs F.entry_tuple_iterator_next ?_ (F.args_tuple_iterator_next_1 _)));show Xf _ _ (field (.ref cur) 0 >>= _) _ _ s;refine WN (XT e1 e3 (x:=.ref tp) rfl ?_);show Xf _ _ (if(XI tp == Yp)=C? then _ else _) _ _ s;rw[a! (show¬((XI tp == Yp)=C?)from Xq)];show Xf _ _ (field (.ref cur) 1 >>= _) _ _ s;refine WN (XT e1 e3 (x:=.int i 0) rfl ?_);show Xf _ _ (seqItems? (.ref tp) >>= _) _ _ s;refine WN (YN e4 e5 ?_);simp only[Yj,hx];refine WN (wpAny_rule (WN (ZT e1 e3 (by simp) ?_)));show Xf _ _ (newExc (.type "StopIteration") [] >>= _) _ _ _;refine WN ?_;simp only[newExc,newTuple];refine WN (XO ?_ (by size_fits));refine WN (m:=ZU _ _) (wpAny_of_eq (a:=Yp) (by first|rfl|(simp only[ZU];rfl)) ?_);refine XO ?_ (by size_fits);simp only[raiseNew];refine WN (wpAny_handled ?_)
 first|rw[show A.in1.handled=B? from calm]|rw[calm]
 refine WN (WX (wpAny_throw ?_));exact fin _ _ (((YM ..).extBut.push _).push _) ⟨_,W3 _ rfl,rfl⟩
theorem bb_drawsT(calm:A.handled=B?)(cur tp:WS)(ne:tp≠cur)(items:Array WV) :
 Draws prog w A cur [cur,tp] items.size (λi v=>items[i]?=A? v) (λi h=>h.IsTupleIter cur tp i/\h.IsTuple tp items) where
 live:=λ_ _ st=>let⟨o,e,_⟩:=st.1;⟨o,e⟩
 frame:=λ_ _ _ st k=>⟨let⟨o,e,r⟩:=st.1;⟨o,k cur (by simp) o e,r⟩,let⟨o,e,r⟩:=st.2;⟨o,k tp (by simp) o e,r⟩⟩
 item:=λi s Q E hi st q=>by
  refine bb_tupNext st.1 st.2 (x:=items[i]) (by simp[hi]) λh' g' sb=>?_;exact q _ h' s.toks (by simp[hi]) ⟨g',st.2.extBut sb.extBut ne⟩ sb
 done:=λs Q E st e=>bb_tupEnd calm st.1 st.2 (by simp) e
theorem bb_meetsEnumT(tp:WS)(items:Array WV)(n:Nat)(dct:Option WS)(sl:Array (Option WV)) :
 Meets (YZ.«enumerate.__new__» ⟨[.type "enumerate",.ref tp],[]⟩) (λ_ R s=>s.1.get? tp=A? {cls:=.type "tuple",dict:=dct,data:=.seq items n,slots:=sl} /\
  R (.ok (.ret (.ref (s.1.push {cls:=.type "tuple_iterator",data:=.fields #[.ref tp,.int 0 0]}).objs.size)))
    {s with heap:=(s.1.push {cls:=.type "tuple_iterator",data:=.fields #[.ref tp,.int 0 0]}).push {cls:=.type "enumerate",data:=.fields #[.none,.bool D?,.ref s.1.1.size,YJ 0,.none,.none]}}) :=
 .of_wp λprog w A R s h=>by
  obtain⟨hp,g,d,tk,os⟩:=s;obtain⟨gt,fin⟩:=h;have su:=sub_enumerate;have gT:Heap.IsTuple (Shared.heap ⟨hp,g,d,tk,os⟩) tp items:=⟨_,gt,rfl,n,rfl⟩
  wp_walk using Za gt
  refine wpAny_stack_any λst=>WX ?_;split
  .rename_i c _ _ _ _ _
   cases(c == Value.type "enumerate")
   .wp_walk using Za gt,Z4 gT
    exact⟨_,Dn,fin⟩
   .wp_walk using Za gt,Z4 gT
    exact⟨_,Dn,fin⟩
  .wp_walk using Za gt,Z4 gT
   exact⟨_,Dn,fin⟩
theorem bb_callEnumT(gT:s.1.IsTuple tp items)
 (fin:∀h',IsEnum h' (s.1.1.size+1) s.1.1.size 0 .none->h'.IsTupleIter s.1.1.size tp 0->h'.objs.size=s.1.1.size+2 ->
  (∀b o,s.1.get? b=A? o->h'.get? b=A? o)->Q (.ref (s.1.1.size+1)) {s with heap:=h'}):Xf (Xx prog w) A (call (.type "enumerate") [.ref tp]) Q E s:=by
 obtain⟨⟨c,dct,dt,sl⟩,e1,e2,n,e3⟩:=gT;replace e2:c=.type "tuple":=e2;replace e3:dt=.seq items n:=e3;subst e2 e3;refine callType_new F.called_enumerate (by decide) (F.typeCall_enumerate_1 _) (F.newCall_enumerate_1 _) (λobj=>F.args_object_init_2 obj _) F.entry_enumerate_new (bb_meetsEnumT tp items n dct sl) ⟨e1,?_⟩;have z:(s.1.push {cls:=.type "tuple_iterator",data:=.fields #[.ref tp,.int 0 0]}).objs.size=s.1.1.size+1:=Ym ..;show _/\_;rw[z]
 have ge:IsEnum ((s.1.push {cls:=.type "tuple_iterator",data:=.fields #[.ref tp,.int 0 0]}).push {cls:=.type "enumerate",data:=.fields #[.none,.bool D?,.ref s.1.1.size,YJ 0,.none,.none]}) (s.1.1.size+1) s.1.1.size 0 .none:=by
  have t:=W3 (s.1.push {cls:=.type "tuple_iterator",data:=.fields #[.ref tp,.int 0 0]}) (o:={cls:=.type "enumerate",data:=.fields #[.none,.bool D?,.ref s.1.1.size,YJ 0,.none,.none]}) rfl;rw[z]at t;exact t
 exact⟨⟨_,ge,Dn⟩,fin _ ge ⟨_,WU _ (W3 _ rfl),Dn,Dn⟩ (by rw[Ym,z]) λb o x=>WU _ (WU _ x)⟩
end PySem
namespace L2
open PySem PySem.Spec PyProof.Rows
theorem Inv.turnedL{X:Cx}(I:Inv X Z Y H s)(k:∀b o,b∉fp->s.1.get? b=A? o->h'.get? b=A? o)(hf:∀b∈fp,jd X Z H b) :
 Inv X Z Y H {s with heap:=h',toks:=t'}:=by
 have Jn:∀b u,H b=A? u->b∉fp:=λb u e z=>by rw[(hf b z).1]at e;cases e
 refine I.step (g':=s.gens) (d':=s.drawn) (ch:=fp) (λb hb=>?_) (λb o _ _ hc e _=>k b o hc e) (λb o _ _ hc e _=>⟨o.slots,k b o hc e⟩) (λ_ _ _ _ n=>n)
  (λb o hc e=>⟨o,k b o hc e⟩) (λ_ _ e=>e) (λ_ _ _ e=>e) (λb ps e=>⟨#[],by rw[e];simp⟩) (λm hm=>?_) (λb u e=>?_) I.bare
 .obtain⟨f0,f1,f2,f3,f4,f5⟩:=hf b hb;exact⟨f3,f1,f4,f5⟩
 .obtain⟨o,es,ep,ho,r⟩:=hm;exact⟨o,es,ep,k _ o (λz=>(hf _ z).2.1 rfl) ho,r⟩
 .refine(I.hok b u e).stay (λc v hc q=>k c v ?_ q) (λ_ q=>q) λ_ _ q=>q;rcases hc with z|z
  .rw[z];exact Jn b u e
  .exact Jn c _ z
def Ite(K:WW)(a:WS):It:=⟨λi H=>∃xs x,SqT K H a xs/\xs[i]?=A? x,λi H x H'=>∃p y,H p=B?/\x=.ref p/\H'=upd H p (.tup [.int (i:Nat),y])/\∀xs,SqT K H a xs->xs[i]?=A? y,λi H=>∃xs,SqT K H a xs/\xs.length=i⟩
theorem sP{k1}(a e it:WS):Turn P w K (.Tuple elts k1 pos) (Ite K a) [e,it] e (λi h=>(∃old,IsEnum h e it ((i:Nat):Int) old)/\h.IsTupleIter it a i) where
 mem:=by simp
 obj:=λi h st b hb=>by
  obtain⟨⟨old,he⟩,o,e1,e2,e3⟩:=st;rcases Xc.mp hb with rfl|hb
  .exact⟨_,he,λv z=>by cases z⟩
  .have:b=it:=by simpa using hb
   subst this;exact⟨o,e1,λv z=>by rw[e3]at z;cases z⟩
 keep:=λi h h' st k=>by
  obtain⟨⟨old,he⟩,o,e1,e2⟩:=st;exact⟨⟨old,k e (by simp) _ he⟩,o,k it (by simp) _ e1,e2⟩
 item:=by
  walk_at"a";obtain⟨xs,x,hq,hx⟩:=hg;obtain⟨its,rv,p,hz⟩:=I.tuple hq;obtain⟨u,hu,ru⟩:=rv.get hx;obtain⟨⟨old,he⟩,hi⟩:=st
  have Nt:e≠it:=by
   rintro rfl;obtain⟨o,e1,e2,_⟩:=hi;rw[he]at e1;cases e1;exact g! (Value.type.inj e2) (by decide)
  have Nu:a≠it:=by
   rintro rfl;obtain⟨o,e1,e2,_⟩:=hi;obtain⟨o',F9,C5,_⟩:=p;rw[F9]at e1;cases e1;rw[C5]at e2;exact g! (Value.type.inj e2) (by decide)
  have Uw:a≠e:=by
   rintro rfl;obtain⟨o',F9,C5,_⟩:=p;rw[he]at F9;cases F9;exact g! (Value.type.inj C5) (by decide)
  have Ad:i<its.toArray.size:=by
   have:=(glE hu);simpa using this
  have EY:e<s.1.1.size:=Xe he;have BO:it<s.1.1.size:=by obtain⟨o,e1,_⟩:=hi;exact Xe e1
  refine wpAny_pyNext_enum_itemD (bb_drawsT (A:=X.A.in1) (show X.A.in1.handled=B? from I.ok.hd hc) it a Nu its.toArray) he ⟨hi,p⟩ Ad Nt (by simp[Nt,Uw.symm]) λy h1 tk hy ho Ux hT hsz hk=>?_
  have Uy:y=u:=by
   have:its[i]?=A? y:=by simpa using hy
   rw[hu]at this;exact(Xh this).symm
  subst Uy;refine⟨_,Dn,wpAny_letOwnedTupleGo_enum ho λh2 Nv F'=>?_⟩;replace F':X1 e h1 h2:=F'
  have Ar:∀b∈[e,it],b<s.1.1.size:=λb hb=>by
   rcases Xc.mp hb with rfl|hb
   .exact EY
   .have:b=it:=by simpa using hb
    subst this;exact BO
  have Fi:H s.1.1.size=none:=I.hok.fresh (W0 _)
  have IA:Inv X Z Y (upd H s.1.1.size (.tup [.int (i:Nat),x])) {s with heap:=s.1.push {cls:=.type "tuple",data:=.seq #[.int (i:Nat) tk,y]},toks:=tk} :=
   I.laid (o:=.tup [.int (i:Nat),x]) (λb ob q=>WU _ q) (W0 _) ⟨by show 2<=Xi;decide,[.int (i:Nat) tk,y],0,.cons ⟨tk,rfl⟩ (.cons ru .nil),W3 _ rfl⟩
  refine⟨.ref s.1.1.size,upd H s.1.1.size (.tup [.int (i:Nat),x]),?_,Dn,⟨_,x,Fi,Dn,Dn,λys Np=>by rw[I.tuple_inj Np hq];exact hx⟩,⟨⟨y,by simpa using Nv⟩,?_⟩,λb hb=>?_⟩
  .have IB:Inv X Z Y (upd H s.1.1.size (.tup [.int (i:Nat),x])) {s with heap:=h2,toks:=tk+1}:=by
    refine Inv.turnedL (s:={s with heap:=s.1.push {cls:=.type "tuple",data:=.seq #[.int (i:Nat) tk,y]},toks:=tk}) (h':=h2) (fp:=[e,it]) (t':=tk+1) IA (λb o hb q=>?_) λb hb=>?_
    .have ET:b≠e:=λz=>hb (by simp[z]);have Uz:b≠it:=λz=>hb (by simp[z]);rw[F'.2 b ET];by_cases hb2:b=s.1.1.size
     .subst hb2;rw[hT];have q':(s.1.push {cls:=.type "tuple",data:=.seq #[.int (i:Nat) tk,y]}).get? s.1.1.size=A? o:=q;rw[W3 _ rfl]at q';exact q'
     .have Bm:b<(s.1.push {cls:=.type "tuple",data:=.seq #[.int (i:Nat) tk,y]}).objs.size:=Xe q;rw[Ym]at Bm;refine hk b o ET Uz ?_;have q':(s.1.push {cls:=.type "tuple",data:=.seq #[.int (i:Nat) tk,y]}).get? b=A? o:=q;rw[Heap.get?_push_ne _ _ _ hb2]at q';exact q'
    .obtain⟨f0,f1⟩:=hf b hb;exact⟨by rw[af (XF (Ar b hb))];exact f0,f1⟩
   exact IB
  .obtain⟨o,e1,r⟩:=Ux.1;exact⟨o,(F'.2 it (Zr Nt)).trans e1,r⟩
  .rw[af (XF (Ar b hb))];exact(hf b hb).1
 done:=by
  walk_at"a";obtain⟨xs,hq,hx⟩:=hg;obtain⟨its,rv,p,hz⟩:=I.tuple hq;obtain⟨⟨old,he⟩,hi⟩:=st
  have Nu:a≠it:=by
   rintro rfl;obtain⟨o,e1,e2,_⟩:=hi;obtain⟨o',F9,C5,_⟩:=p;rw[F9]at e1;cases e1;rw[C5]at e2;exact g! (Value.type.inj e2) (by decide)
  have hn:its.toArray.size=i:=by
   have:=rv.length;rw[Xa];lia
  refine wpAny_pyNext_enum_endD (bb_drawsT (A:=X.A.in1) (show X.A.in1.handled=B? from I.ok.hd hc) it a Nu its.toArray) he (by rw[hn];exact⟨hi,p⟩) λh' eb=>⟨rfl,?_⟩;exact I.turnedL (fp:=[e,it]) (t':=s.toks) (λb o hb q=>eb b o (λz=>hb (by simp[z])) q) hf
 self:=λ_ _ _ _ _ st h=>by
  obtain⟨⟨old,he⟩,_⟩:=st;exact wpAny_pyIter_enum he h
section
variable{X:Cx}{p2 A9:Z9}
def yu(K:WW)(tl:TE):TI:=λY H R=>tl Y H λx H1=>∃a,x=.ref a/\(∃xs,SqT K H1 a xs)/\R (Ite K a) H1
theorem rG{k1}(g2:Gl X "enumerate")(m2:X.mg "enumerate"=B?)(he:PE X e te)(h2:XE [e] X.env=[(D?,YQ e X.env)]:=by rfl):PI X (.Tuple elts k1 pos) (.Call (.Name "enumerate" p2) [e] [] A9) (yu X.K te):=by
 intro Z s Y H R I h;refine Yo (d6 I g2 m2 boot_enumerate (Yl ?_ h2 rfl));rw[h2];show Xf _ _ (spliced ((D?,YQ e X.env)::[])) _ _ s;refine ZA (thn (he Z s Y H _ I h) λu s1⟨x,H1,I1,r1,a,ex,⟨xs,hq⟩,q⟩=>Calls.spliced_nil ?_);subst ex;cases r1;obtain⟨its,rv,p,hz⟩:=I1.tuple hq;refine bb_callEnumT (show s1.1.IsTuple a its.toArray from p) λh' g1 g2 g3 g4=>?_;refine wpAny_pyIter_enum (s:={s1 with heap:=h'}) g1 ?_;refine⟨s1.1.1.size+1,[s1.1.1.size+1,s1.1.1.size],_,_,H1,Dn,I1.kept (t':=s1.toks) g4,sP a _ _,⟨⟨_,g1⟩,g2⟩,λb hb=>?_,q⟩
 have AQ:s1.1.1.size<=b:=by
  rcases Xc.mp hb with rfl|hb
  .lia
  .have:b=s1.1.1.size:=by simpa using hb
   exact Nat.le_of_eq this.symm
 exact I1.fpOk AQ (I1.hok.fresh AQ)
inductive t8(K:WW)(x:V)(y:V)(H:Hp)(Q:VK):Prop
 |mk (a:_) (b:_) (xs:_) (ys:_) (BR:x=.ref a) (BS:y=.ref b) (CZ:SqT K H a xs) (EW:SqT K H b ys) (GQ:xs.length+ys.length<=Xi) (RC:(xs=[]->Q (.ref b) H)) (zz6:(xs≠[]->ys=[]->Q (.ref a) H)) (zz7:(xs≠[]->ys≠[]->∀p,H p=B?->Q (.ref p) (upd H p (.tup (xs++ys))))):t8 K x y H Q
def ut(K:WW):R2:=t8 K
theorem cP:OpR X (Z7 .Add) (ut X.K):=by
 intro Z s Y H x y v u Q I rx ry h;obtain⟨a,b,xs,ys,e1,e2,ha,hb,hz,q0,q1,q2⟩:=h;by_cases hx:xs=[]
 .subst e1 e2;cases rx;cases ry;obtain⟨its,r1,p1,_⟩:=I.tuple ha;obtain⟨Aa,r2,p2,_⟩:=I.tuple hb;have hi:its=[]:=r1.nil_iff.mpr hx;obtain⟨⟨cls,dd,data,sl⟩,ho,hc,n,hd⟩:=p1;obtain⟨⟨Ju,Iq,data2,Ir⟩,DI,Dr,n2,hd2⟩:=p2;simp only at hc hd Dr hd2;subst hc hd Dr hd2;exact concat_meets ⟨_,ho,rfl⟩ ⟨_,DI,rfl⟩ noFill_tuple_add seq_tuple_add PySem.F.slot_tuple_add PySem.F.entry_tuple_add (PySem.F.args_tuple_add_2 _ _) (tuple_addW0 a b its.toArray Aa.toArray n n2 dd Iq sl Ir (by simp[hi])) ⟨ho,DI,⟨.ref b,H,I,rfl,q0 hx⟩⟩
 .exact wg Z s Y H x y v u Q I rx ry ⟨a,b,xs,ys,e1,e2,ha,hb,hx,hz,q1 hx,q2 hx⟩
end
end L2
namespace PySem
open Sem (wp)
abbrev tzH1(h:X3)(l1:WS):X3:=h.push {cls:=.type "tuple_iterator",data:=.fields #[.ref l1,.int 0 0]}
abbrev tzH2(h:X3)(l1 l2:WS):X3:=(tzH1 h l1).push {cls:=.type "tuple_iterator",data:=.fields #[.ref l2,.int 0 0]}
abbrev tzH3(h:X3)(l1 l2:WS):X3:=(tzH2 h l1 l2).push {cls:=.type "tuple",data:=.seq #[.ref h.objs.size,.ref (tzH1 h l1).objs.size]}
abbrev tzH4(h:X3)(l1 l2:WS):X3:=(tzH3 h l1 l2).push {cls:=.type "tuple",data:=.seq #[.none,.none]}
abbrev tzH5(h:X3)(l1 l2:WS):X3:=(tzH4 h l1 l2).push {cls:=.type "zip",data:=.fields #[.none,.bool D?,.bool D?,.ref (tzH2 h l1 l2).objs.size,.ref (tzH3 h l1 l2).objs.size]}
theorem IsTuple.push'{xs:Array WV}(x:h.IsTuple l xs)(o:YF):(h.push o).IsTuple l xs:=let⟨ob,e,r⟩:=x;⟨ob,WU _ e,r⟩
theorem bb_meets_zip(l1 l2:WS)(xs ys:Array WV) :
 Meets (YZ.«zip.__new__» ⟨[.type "zip",.ref l1,.ref l2],[]⟩) (λ_ R s=>s.1.IsTuple l1 xs/\s.1.IsTuple l2 ys /\
  R (.ok (.ret (.ref (tzH4 s.1 l1 l2).objs.size))) {s with heap:=tzH5 s.1 l1 l2}) :=
 .of_wp λprog w A R s h=>by
  obtain⟨hp,g,d,tk,os⟩:=s;obtain⟨Dt,BC,h⟩:=h;have A':=sub_zip;have GX:Heap.IsTuple (Shared.heap ⟨hp,g,d,tk,os⟩) l1 xs:=Dt;have Nw:Heap.IsTuple (Shared.heap ⟨hp.push {cls:=.type "tuple_iterator",data:=.fields #[.ref l1,.int 0 0]},g,d,tk,os⟩) l2 ys:=IsTuple.push' BC _
  wp_walk using Z4 GX,Z4 Nw
  exact⟨_,Dn,h⟩
theorem bb_call_zip{xs:Array WV}(Dt:s.1.IsTuple l1 xs)(BC:s.1.IsTuple l2 ys)
 (h:∀h',IsZip h' (s.1.1.size+4) (s.1.1.size+2) (s.1.1.size+3) .none->ZD h' (s.1.1.size+2) (.ref s.1.1.size) (.ref (s.1.1.size+1)) ->
  ZD h' (s.1.1.size+3) .none .none->h'.IsTupleIter s.1.1.size l1 0->h'.IsTupleIter (s.1.1.size+1) l2 0->h'.objs.size=s.1.1.size+5 ->
  (∀c o,s.1.get? c=A? o->h'.get? c=A? o)->Q (.ref (s.1.1.size+4)) {s with heap:=h'}) :
 Xf (Xx prog w) A (call (.type "zip") [.ref l1,.ref l2]) Q E s:=by
 refine callType_new F.called_zip (by decide) (F.typeCall_zip_2 _ _) (F.newCall_zip_2 _ _) (λobj=>F.args_object_init_3 obj _ _) F.entry_zip_new
  (bb_meets_zip l1 l2 xs ys) ⟨Dt,BC,?_⟩
 have z1:(tzH1 s.1 l1).objs.size=s.1.1.size+1:=Ym ..;have z2:(tzH2 s.1 l1 l2).objs.size=s.1.1.size+2:=by rw[Ym,z1]
 have z3:(tzH3 s.1 l1 l2).objs.size=s.1.1.size+3:=by rw[Ym,z2]
 have z4:(tzH4 s.1 l1 l2).objs.size=s.1.1.size+4:=by rw[Ym,z3]
 have z5:(tzH5 s.1 l1 l2).objs.size=s.1.1.size+5:=by rw[Ym,z4]
 have g5:(tzH5 s.1 l1 l2).get? (tzH4 s.1 l1 l2).objs.size=A? _:=W3 _ rfl;have g4:(tzH5 s.1 l1 l2).get? (tzH3 s.1 l1 l2).objs.size=A? _:=WU _ (W3 _ rfl);have g3:(tzH5 s.1 l1 l2).get? (tzH2 s.1 l1 l2).objs.size=A? _:=WU _ (WU _ (W3 _ rfl));have g2:(tzH5 s.1 l1 l2).get? (tzH1 s.1 l1).objs.size=A? _:=WU _ (WU _ (WU _ (W3 _ rfl)));have g1:(tzH5 s.1 l1 l2).get? s.1.1.size=A? _:=WU _ (WU _ (WU _ (WU _ (W3 _ rfl))));show _/\_;rw[z2,z3,z4]at g5;rw[z1,z2]at g3;rw[z3]at g4;rw[z1]at g2;rw[z4]
 exact⟨⟨_,g5,Dn⟩,h _ g5 g3 g4 ⟨_,g1,Dn,Dn⟩ ⟨_,g2,Dn,Dn⟩ z5 λc o x =>
  WU _ (WU _ (WU _ (WU _ (WU _ x))))⟩
structure ZSt(xs ys:Array WV)(z TI TO i1 i2 l1 l2:WS)(k:Nat)(h:X3):Prop where
 ap:ZipApart z TI TO i1 i2 l1 l2
 zip:IsZip h z TI TO .none\/∃(T:WS)(b:Bool)(x y:WV),h.get? z=A? {cls:=.type "zip",data:=.fields #[YJ T,.bool b,.bool D?,.ref TI,.ref TO]}/\ZD h T x y/\T≠TO
 hTI:ZD h TI (.ref i1) (.ref i2)
 hTO:∃a b,ZD h TO a b
 h1:h.IsTupleIter i1 l1 k
 h2:h.IsTupleIter i2 l2 k
 t1:h.IsTuple l1 xs
 t2:h.IsTuple l2 ys
theorem ZSt.typeIs{xs:Array WV}{TI TO:WS}{k:Nat}(x:ZSt xs ys z TI TO i1 i2 l1 l2 k s.1):s.TypeIs (.ref z) "zip":=by
 rcases x.zip with e|⟨T,b,u,v,e,_⟩
 .exact⟨_,e,Dn⟩
 .exact⟨_,e,Dn⟩
theorem IsTuple.but{xs:Array WV}(x:h.IsTuple l xs)(e:Heap.ExtBut c h h')(n:l≠c):h'.IsTuple l xs:=let⟨ob,q,r⟩:=x;⟨ob,e _ _ n q,r⟩
theorem IsTupleIter.but{i:WS}{k:Nat}(x:h.IsTupleIter i l k)(e:Heap.ExtBut c h h')(n:i≠c):h'.IsTupleIter i l k:=let⟨ob,q,r⟩:=x;⟨ob,e _ _ n q,r⟩
open Sem (wp)
theorem bb_zip_itemA{TI TO:WS}{k:Nat}{xs:Array WV}{x y a b:WV}(D:ZipApart z TI TO i1 i2 l1 l2)
 (hz:IsZip s.1 z TI TO .none) (hTI:ZD s.1 TI (.ref i1) (.ref i2)) (hTO:ZD s.1 TO a b)
 (h1:s.1.IsTupleIter i1 l1 k) (h2:s.1.IsTupleIter i2 l2 k) (Dt:s.1.IsTuple l1 xs) (BC:s.1.IsTuple l2 ys) (hx:xs[k]?=A? x) (hy:ys[k]?=A? y)
 (hQ:∀h',IsZip h' z TI TO (YJ s.1.1.size)->ZD h' TO x y->h'.IsTupleIter i1 l1 (k+1)->h'.IsTupleIter i2 l2 (k+1)->ZD h' s.1.1.size x y->h'.objs.size=s.1.1.size+1 ->
  (∀c o,c≠z->c≠TO->c≠i1->c≠i2->s.1.get? c=A? o->h'.get? c=A? o)->Q (.ref s.1.1.size) {s with heap:=h'}) :
 Xf (Xx prog w) A (YZ.«zip.__next__» ⟨[.ref z],[]⟩) (λfin s'=>∃v,fin=.done (.ret v)/\Q v s') E s:=by
 show Xf _ _ (field (.ref z) 2 >>= _) _ _ _;refine WN (XT hz rfl (x:=.bool D?) rfl ?_);show Xf _ _ (field (.ref z) 3 >>= _) _ _ _;refine WN (XT hz rfl (x:=.ref TI) rfl ?_);refine WN (YN hTI rfl ?_);show Xf _ _ (X9 (.ref z) >>= _) _ _ _;refine WN ?_;unfold X9;refine WN (XT hz rfl (x:=.none) rfl (WX ?_));simp only[if_true];refine WN (wpAny_rule ?_);refine WN (XT hz rfl (x:=.ref TO) rfl ?_);refine WN (Y5 hz (by simp) λAm AN Ab=>?_);replace AN:IsZip Am z TI TO .ellipsis:=AN;refine WN ?_;simp only[List.zipIdx_cons,List.zipIdx_nil,List.forIn_cons,List.forIn_nil];refine WN (WN (wpAny_onRaise ?_));show Xf _ _ (X4 (.ref i1) >>= _) _ _ _;refine WN (bb_tupNext (IsTupleIter.but h1 Ab.extBut D.i1z) (IsTuple.but Dt Ab.extBut D.l1z) hx λBg Ei Ah=>WX ?_);have BJ:ZD Bg TO a b:=Ah.extBut _ _ D.TOi1 (Ab.extBut _ _ D.TOz hTO);refine WN (YN BJ rfl ?_);refine WN (wpAny_updateSeq_pair BJ λCt Cf AD=>?_);replace Cf:ZD Ct TO x b:=Cf;refine WN (wpAny_letGo (WX ?_));refine WN (WN (wpAny_onRaise ?_));show Xf _ _ (X4 (.ref i2) >>= _) _ _ _
 refine WN (bb_tupNext (IsTupleIter.but (IsTupleIter.but (IsTupleIter.but h2 Ab.extBut D.i2z) Ah.extBut D.i12.symm) AD.extBut D.TOi2.symm)
  (IsTuple.but (IsTuple.but (IsTuple.but BC Ab.extBut D.l2z) Ah.extBut D.l2i1) AD.extBut D.l2TO) hy λBI JC AW=>WX ?_)
 have Ej:ZD BI TO x b:=AW.extBut _ _ D.TOi2 Cf;refine WN (YN Ej rfl ?_);refine WN (wpAny_updateSeq_pair Ej λAK Cg Br=>?_);replace Cg:ZD AK TO x y:=Cg;refine WN (wpAny_letGo (WX (WX ?_)));refine WN (YN Cg rfl ?_);refine WN (wpAny_newTuple ?_);have hsz:AK.objs.size=s.1.1.size:=by rw[Br.1,AW.1,AD.1,Ah.1,Ab.1]
 have Ga:IsZip AK z TI TO .ellipsis:=Br.extBut _ _ D.TOz.symm (AW.extBut _ _ D.i2z.symm (AD.extBut _ _ D.TOz.symm (Ah.extBut _ _ D.i1z.symm AN)))
 have JD:∀c o,c≠z->c≠TO->c≠i1->c≠i2->s.1.get? c=A? o->AK.get? c=A? o:=λc o c1 c2 c3 c4 e =>
  Br.extBut _ _ c2 (AW.extBut _ _ c4 (AD.extBut _ _ c2 (Ah.extBut _ _ c3 (Ab.extBut _ _ c1 e))))
 have JE:AK.IsTupleIter i1 l1 (k+1):=IsTupleIter.but (IsTupleIter.but (IsTupleIter.but Ei AD.extBut D.TOi1.symm) AW.extBut D.i12) Br.extBut D.TOi1.symm;have JF:AK.IsTupleIter i2 l2 (k+1):=IsTupleIter.but JC Br.extBut D.TOi2.symm;have JG:z<AK.objs.size:=Xe Ga;show Xf _ _ (Builtin.SmallTypes.ownedTupleHandOut (.ref z) (.ref AK.objs.size) >>= _) _ _ _;refine WN ?_;unfold Builtin.SmallTypes.ownedTupleHandOut;have JH:IsZip (AK.push {cls:=.type "tuple",data:=.seq #[x,y]}) z TI TO .ellipsis:=WU _ Ga;refine WN (Y5 JH (by simp) λNx Ek El=>?_);replace Ek:IsZip Nx z TI TO (YJ AK.objs.size):=Ek;refine Y5 Ek (by simp) λEm Du En=>?_;replace Du:IsZip Em z TI TO (YJ AK.objs.size):=Du;have up:∀c o,c≠z->AK.get? c=A? o->Em.get? c=A? o:=λc o c1 e=>En.extBut _ _ c1 (El.extBut _ _ c1 (WU _ e));have Gb:ZD Em AK.objs.size x y:=En.extBut _ _ (Nat.ne_of_gt JG) (El.extBut _ _ (Nat.ne_of_gt JG) (W3 _ rfl));have RK:Em.objs.size=AK.objs.size+1:=by rw[En.1,El.1,Ym]
 rw[hsz]at Du Gb RK;refine WX ⟨_,rfl,?_⟩;show Q (.ref AK.objs.size) _;rw[hsz];refine hQ Em Du (up _ _ D.TOz Cg) ?_ ?_ Gb RK λc o c1 c2 c3 c4 e=>up c o c1 (JD c o c1 c2 c3 c4 e)
 .obtain⟨o,e,r⟩:=JE;exact⟨o,up _ o D.i1z e,r⟩
 .obtain⟨o,e,r⟩:=JF;exact⟨o,up _ o D.i2z e,r⟩
theorem bb_loadIfAlive{o:YF}{Q:Option YF->WZ->Prop}(hQ:∀u,A? o=A? u->Q (A? u) s)(h:s.1.get? a=A? o):Xf (Xx prog w) A (loadIfAlive a) Q E s:=by
 intro Γ p hΓ;show Sem.wp _ _ (.loadIfAlive a .pure) _ _ _ _;rw[Sem.wp_loadIfAlive,h];exact hQ o rfl
theorem bb_notfree{T:WS}{b:Bool}{f2 TI TO v:WV}(hz:s.1.get? z=A? {cls:=.type "zip",data:=.fields #[YJ T,.bool b,f2,TI,TO]})(hT:ZD s.1 T u v) :
 Xf (Xx prog w) A (X9 (.ref z)) (λa s1=>a=D?/\∃Am,s1={s with heap:=Am}/\Am.get? z=A? {cls:=.type "zip",data:=.fields #[YJ T,.bool C?,f2,TI,TO]}/\X1 z s.1 Am) E s:=by
 unfold X9;refine WN (XT hz rfl (x:=YJ T) rfl ?_);show Xf _ _ (loadIfAlive (T:Int).toNat >>= _) _ _ _;rw[Yj];refine WN (bb_loadIfAlive (λo(e:A? _=A? o)=>?_) hT);cases e;show Xf _ _ (if(A? _:Option YF).isNone=C? then _ else _) _ _ _;rw[a! (show¬((A? _:Option YF).isNone=C?)from Xq)];refine WN (XT hz rfl (x:=.bool b) rfl ?_);cases b with
 |true=>exact WX ⟨rfl,s.1,rfl,hz,rfl,λ_ _=>rfl⟩
 |false=>exact WN (Y5 hz (by simp) λAm AN Ab=>WX ⟨rfl,Am,rfl,AN,Ab⟩)
theorem bb_zip_end{TI TO:WS}{k:Nat}{xs:Array WV}{Q:Fin->WZ->Prop}(hh:A.handled=B?)
 (S:ZSt xs ys z TI TO i1 i2 l1 l2 k s.1) (Cy:xs[k]?=B?\/ys[k]?=B?)
 (hE:∀h' e,(∀c o,c≠z->c≠TO->c≠i1->c≠i2->s.1.get? c=A? o->h'.get? c=A? o)->(∃o,h'.get? e=A? o/\o.cls=.type "StopIteration")->E (.ref e) {s with heap:=h'}) :
 Xf (Xx prog w) A (YZ.«zip.__next__» ⟨[.ref z],[]⟩) Q E s:=by
 obtain⟨D,hz,hTI,⟨a,b,hTO⟩,h1,h2,Dt,BC⟩:=S;rcases hz with hz|⟨T,bb,u,v,hz,hT,hTT⟩
 .show Xf _ _ (field (.ref z) 2 >>= _) _ _ _;refine WN (XT hz rfl (x:=.bool D?) rfl ?_);show Xf _ _ (field (.ref z) 3 >>= _) _ _ _;refine WN (XT hz rfl (x:=.ref TI) rfl ?_);refine WN (YN hTI rfl ?_);show Xf _ _ (X9 (.ref z) >>= _) _ _ _;refine WN ?_;unfold X9;refine WN (XT hz rfl (x:=.none) rfl (WX ?_));simp only[if_true];refine WN (wpAny_rule ?_);refine WN (XT hz rfl (x:=.ref TO) rfl ?_);refine WN (Y5 hz (by simp) λAm AN Ab=>?_);replace AN:IsZip Am z TI TO .ellipsis:=AN;refine WN ?_;simp only[List.zipIdx_cons,List.zipIdx_nil,List.forIn_cons,List.forIn_nil];refine WN (WN (wpAny_onRaise ?_));show Xf _ _ (X4 (.ref i1) >>= _) _ _ _;cases hx:xs[k]? with
  | none =>
    refine WN (bb_tupEnd hh (IsTupleIter.but h1 Ab.extBut D.i1z) (IsTuple.but Dt Ab.extBut D.l1z) hx λBg e Ah he=>?_);obtain⟨oe,EZ,Fj⟩:=he;have Gd:IsZip Bg z TI TO .ellipsis:=Ah _ _ D.i1z.symm AN;have Ny:e≠z:=λx=>by subst x;rw[Gd]at EZ;cases EZ;simp at Fj
    refine Y5 Gd (by simp) λCt _ AD=>hE Ct e (λc o c1 _ c3 _ x=>AD.extBut _ _ c1 (Ah _ _ c3 (Ab.extBut _ _ c1 x))) ⟨oe,AD.extBut _ _ Ny EZ,Fj⟩
  | some x =>
    have hy:ys[k]?=none:=by rcases Cy with h|h;rw[hx]at h;cases h;exact h
    refine WN (bb_tupNext (IsTupleIter.but h1 Ab.extBut D.i1z) (IsTuple.but Dt Ab.extBut D.l1z) hx λBg Ei Ah=>WX ?_);have BJ:ZD Bg TO a b:=Ah.extBut _ _ D.TOi1 (Ab.extBut _ _ D.TOz hTO);refine WN (YN BJ rfl ?_);refine WN (wpAny_updateSeq_pair BJ λCt Cf AD=>?_);refine WN (wpAny_letGo (WX ?_));refine WN (WN (wpAny_onRaise ?_));show Xf _ _ (X4 (.ref i2) >>= _) _ _ _
    refine WN (bb_tupEnd hh (IsTupleIter.but (IsTupleIter.but (IsTupleIter.but h2 Ab.extBut D.i2z) Ah.extBut D.i12.symm) AD.extBut D.TOi2.symm)
     (IsTuple.but (IsTuple.but (IsTuple.but BC Ab.extBut D.l2z) Ah.extBut D.l2i1) AD.extBut D.l2TO) hy λBI e AW he=>?_)
    obtain⟨oe,EZ,Fj⟩:=he;have Ge:IsZip BI z TI TO .ellipsis:=AW _ _ D.i2z.symm (AD.extBut _ _ D.TOz.symm (Ah.extBut _ _ D.i1z.symm AN));have Ny:e≠z:=λx=>by subst x;rw[Ge]at EZ;cases EZ;simp at Fj
    refine Y5 Ge (by simp) λAK _ Br=>hE AK e (λc o c1 c2 c3 c4 x=>Br.extBut _ _ c1 (AW _ _ c4 (AD.extBut _ _ c2 (Ah.extBut _ _ c3 (Ab.extBut _ _ c1 x))))) ⟨oe,Br.extBut _ _ Ny EZ,Fj⟩
 .show Xf _ _ (field (.ref z) 2 >>= _) _ _ _;refine WN (XT hz rfl (x:=.bool D?) rfl ?_);show Xf _ _ (field (.ref z) 3 >>= _) _ _ _;refine WN (XT hz rfl (x:=.ref TI) rfl ?_);refine WN (YN hTI rfl ?_);show Xf _ _ (X9 (.ref z) >>= _) _ _ _;refine WN (YI (bb_notfree hz hT) (λa s1⟨e1,Am,e2,AN,Ab⟩=>?_) λ_ _ x=>x);subst e1 e2;simp only[YX,if_false];rw[<-Array.forIn_toList];refine WN ?_;simp only[List.forIn_cons,List.forIn_nil];refine WN (WN (Yn ?_));show Xf _ _ (X4 (.ref i1) >>= _) _ _ _;cases hx:xs[k]? with
  | none =>
    refine WN (bb_tupEnd hh (IsTupleIter.but h1 Ab.extBut D.i1z) (IsTuple.but Dt Ab.extBut D.l1z) hx λBg e Ah he=>?_);exact hE Bg e (λc o c1 _ c3 _ x=>Ah _ _ c3 (Ab.extBut _ _ c1 x)) he
  | some x =>
    have hy:ys[k]?=none:=by rcases Cy with h|h;rw[hx]at h;cases h;exact h
    refine WN (bb_tupNext (IsTupleIter.but h1 Ab.extBut D.i1z) (IsTuple.but Dt Ab.extBut D.l1z) hx λBg Ei Ah=>WX (WX ?_));refine WN (WN (Yn ?_));show Xf _ _ (X4 (.ref i2) >>= _) _ _ _;refine WN (bb_tupEnd hh (IsTupleIter.but (IsTupleIter.but h2 Ab.extBut D.i2z) Ah.extBut D.i12.symm) (IsTuple.but (IsTuple.but BC Ab.extBut D.l2z) Ah.extBut D.l2i1) hy λBI e AW he=>?_);exact hE BI e (λc o c1 _ c3 c4 x=>AW _ _ c4 (Ah.extBut _ _ c3 (Ab.extBut _ _ c1 x))) he
theorem bb_zip_done{TI TO:WS}{k:Nat}{xs:Array WV}{Q:Option WV->WZ->Prop}(hh:A.handled=B?)(S:ZSt xs ys z TI TO i1 i2 l1 l2 k s.1)(Cy:xs[k]?=B?\/ys[k]?=B?)
 (hQ:∀h',(∀c o,c∉[z,TO,i1,i2]->s.1.get? c=A? o->h'.get? c=A? o)->Q B? {s with heap:=h'}):Xf (Xx prog w) A (Zw (.ref z)) Q E s:=by
 have hT:=S.typeIs;unfold Zw
 refine WN (ZO (XS (name:=W6 "__next__") hT F.slot_zip_next
  (XY F.slot_zip_next hT F.entry_zip_next (bb_zip_end hh S Cy λh' e hk he=>?_) (F.args_zip_next_1 _))))
 obtain⟨o,ho,hc⟩:=he;refine WN (wpAny_isInstance (T:="StopIteration") (b:=C?) ⟨o,ho,hc⟩ isSubtype_stop ?_);exact WX (hQ _ λc o hc=>hk c o (λq=>hc (by simp[q])) (λq=>hc (by simp[q])) (λq=>hc (by simp[q])) (λq=>hc (by simp[q])))
open Sem (wp)
namespace F
end F
end PySem
namespace L2
open PySem PySem.Spec PyProof.Rows
theorem fX:∀{ps:List α}{ts:List β},ps.length=ts.length->(∀(j:Nat)p t,ps[j]?=A? p->ts[j]?=A? t->F p t)->Xv F ps ts
 | [],[],_,_=>.nil
 | [],_::_,h,_=>by simp at h
 |_::_,[],h,_=>by simp at h
 |p::ps,t::ts,h,f=>.cons (f 0 p t rfl rfl) (fX (by simpa using h) λj p' t' e1 e2=>f (j+1) p' t' (by simpa using e1) (by simpa using e2))
section
variable{X:Cx}{e1 e2:XZ}{t:TA}{p p2 A9:Z9}
end
section
variable[DecidableEq κ]
def aG(kvs:List (κ×V))(k:κ):Option V:=(kvs.find? λkv=>decide (kv.1=k)).map (·.2)
def putK(kvs:List (κ×V))(k:κ)(v:V):List (κ×V) :=
 if(kvs.any λkv=>decide (kv.1=k))=C? then kvs.map (λkv=>if kv.1=k then(kv.1,v)else kv)else kvs++[(k,v)]
theorem ve{k:κ}:aG ([]:List (κ×V)) k=none:=rfl
theorem bC{p:κ×V}{r:List (κ×V)}{k:κ}(e:p.1=k):aG (p::r) k=A? p.2:=by simp[aG,List.find?_cons,e]
theorem bJ{p:κ×V}{r:List (κ×V)}{k:κ}(e:¬p.1=k):aG (p::r) k=aG r k:=by simp[aG,List.find?_cons,e]
theorem fE(k:κ):∀kvs:List (κ×V),(kvs.any λkv=>decide (kv.1=k))=(aG kvs k).isSome
 | []=>rfl
 | p::r=>by
   rw[List.any_cons];by_cases e:p.1=k
   .simp only[bC e,d! e,Bool.true_or,Option.isSome_some]
   .rw[bJ e,c! e,Bool.false_or];exact fE k r
theorem pI(k j:κ)(y:V):∀kvs:List (κ×V),aG (kvs.map λkv=>if kv.1=k then(kv.1,y)else kv) j=(aG kvs j).map λx=>if j=k then y else x
 | []=>rfl
 | p::r=>by
   have ih:=pI k j y r;rw[XG];by_cases h:p.1=k
   .rw[b! h];by_cases e:p.1=j
    .rw[bC (p:=(p.1,y)) e,bC e,Option.map_some,b! (e.symm.trans h)]
    .rw[bJ (p:=(p.1,y)) e,bJ e,ih]
   .rw[a! h];by_cases e:p.1=j
    .rw[bC (p:=p) e,bC e,Option.map_some,a! (λz=>h (e.trans z))]
    .rw[bJ (p:=p) e,bJ e,ih]
theorem mF(k j:κ)(y:V):∀kvs:List (κ×V),aG kvs k=B?->aG (kvs++[(k,y)]) j=if j=k then A? y else aG kvs j
 | [],_=>by
   by_cases e:k=j
   .rw[b! e.symm];exact bC (p:=(k,y)) e
   .rw[a! (λz=>e z.symm)];exact bJ (p:=(k,y)) e
 | p::r,hn=>by
   rw[YC];have hk:¬p.1=k:=λz=>by rw[bC z]at hn;cases hn
   rw[bJ hk]at hn;have ih:=mF k j y r hn;by_cases e:p.1=j
   .rw[bC e,bC e,a! (λz=>hk (e.trans z))]
   .rw[bJ e,bJ e,ih]
theorem cu(kvs:List (κ×V))(k j:κ)(y:V):aG (putK kvs k y) j=if j=k then A? y else aG kvs j:=by
 unfold putK;by_cases a:(kvs.any λkv=>decide (kv.1=k))=C?
 .rw[b! a,pI];rw[fE]at a;by_cases e:j=k
  .obtain⟨x,hx⟩:=Option.isSome_iff_exists.mp a;rw[b! e,e,hx,Option.map_some,b! rfl]
  .rw[a! e];cases aG kvs j with
   |none=>rfl
   |some x=>rw[Option.map_some,a! e]
 .rw[a! a];refine mF k j y kvs ?_;rw[fE]at a;cases q:aG kvs k with
  |none=>rfl
  |some x=>rw[q]at a;exact(a rfl).elim
theorem bI(kvs:List (κ×V))(k:κ)(v:V):(putK kvs k v).length<=kvs.length+1:=by
 unfold putK;split
 .rw[WO];lia
 .rw[W4,W8,List.length_nil];lia
theorem um{kvs:List (κ×V)}{k:κ}(v:V)(h:aG kvs k=B?):putK kvs k v=kvs++[(k,v)]:=by
 unfold putK;rw[fE,h];exact a! (by decide)
theorem RelO.isSome_eq{o:Option V}{u:Option WV}(r:RelO o u):o.isSome=u.isSome:=by
 cases o with
 | none=>cases u with
   |none=>rfl
   |some _=>exact(show False from r).elim
 | some _=>cases u with
   |none=>exact(show False from r).elim
   |some _=>rfl
theorem RelO.getD{o:Option V}{u:Option WV}{d:V}{d':WV}(r:RelO o u)(rd:RelV d d'):RelV (o.getD d) (u.getD d'):=by
 cases o with
 | none=>cases u with
   |none=>exact rd
   |some _=>exact(show False from r).elim
 | some _=>cases u with
   |none=>exact(show False from r).elim
   |some _=>exact r
theorem KV.val{kvs:List (κ×V)}(r:KV kvs vs)(k:κ):RelO (aG kvs k) (valueAt vs k):=by
 unfold KV at r;induction r with
 |nil=>exact Y8
 | @cons p q ps qs h t ih =>
   obtain⟨h1,h2⟩:=h;by_cases e:p.1=k
   .have e':q.1=k:=h1.symm.trans e;have b:valueAt (q::qs) k=A? q.2:=by simp[valueAt,List.find?_cons,e']
    rw[bC e,b];exact h2
   .have e':¬q.1=k:=λz=>e (h1.trans z);have b:valueAt (q::qs) k=valueAt qs k:=by simp[valueAt,List.find?_cons,e']
    rw[bJ e,b];exact ih
theorem KV.any{kvs:List (κ×V)}(r:KV kvs vs)(k:κ):(kvs.any λkv=>decide (kv.1=k))=vs.any λkv=>decide (kv.1=k):=by
 unfold KV at r;induction r with
 |nil=>rfl
 |cons h t ih=>rw[List.any_cons,List.any_cons,ih,h.1]
theorem KV.repl{kvs:List (κ×V)}(r:KV kvs vs)(k:κ)(ry:RelV y u) :
 KV (kvs.map λkv=>if kv.1=k then(kv.1,y)else kv) (vs.map λkv=>if kv.1=k then(kv.1,u)else kv):=by
 unfold KV at r |-;induction r with
 |nil=>exact .nil
 | @cons p q ps qs h t ih =>
   rw[XG,XG];refine .cons ?_ ih;obtain⟨h1,h2⟩:=h;by_cases e:p.1=k
   .rw[b! e,b! (h1.symm.trans e)];exact⟨h1,ry⟩
   .rw[a! e,a! (λz=>e (h1.trans z))];exact⟨h1,h2⟩
theorem KV.put{kvs:List (κ×V)}(r:KV kvs vs)(k:κ)(ry:RelV y u):KV (putK kvs k y) (stored vs k u):=by
 unfold putK stored;rw[r.any k];by_cases e:(vs.any λkv=>decide (kv.1=k))=C?
 .rw[b! e,b! e];exact r.repl k ry
 .rw[a! e,a! e];exact Paired.snoc r ⟨rfl,ry⟩
theorem KV.length{kvs:List (κ×V)}(r:KV kvs vs):kvs.length=vs.length:=W9 r
end
theorem mL{k:Key}(r:RelV (kV k) u):(aU P w).is k u=true:=by
 cases k with
 |inl i=>obtain⟨t,e⟩:=(show∃t,u=Value.int i t from r);subst e;exact pN P w i t
 |inr x=>obtain⟨t,e⟩:=(show∃t,u=Value.str x t from r);subst e;exact pA P w x t
theorem mB:∀{ks:List Key}{us:List WV},Vals (ks.map kV) us->ItemsAre (aU P w) ks us
 | [],_,r=>by rw[YS]at r;cases r;exact .nil
 | k::ks,_,r=>by
   rw[XG]at r;cases r with
   |cons h t=>exact .cons (mL h) (mB t)
abbrev KTd(H:Hp):List (List Key×V)->List (List Key×WS×WV)->Prop:=Xv λp q=>p.1=q.1/\H q.2.1=A? (.tup (p.1.map kV))/\RelV p.2 q.2.2
theorem KTd.val{xs:List (List Key×WS×WV)}(r:KTd H kvs xs)(k:List Key):RelO (aG kvs k) ((atKey xs k).map (·.2)):=by
 induction r with
 |nil=>exact Y8
 | @cons p q ps qs h t ih =>
   obtain⟨h1,_,h2⟩:=h;by_cases e:p.1=k
   .have e':q.1=k:=h1.symm.trans e;have b:atKey (q::qs) k=A? q.2:=by simp[atKey,List.find?_cons,e']
    rw[bC e,b];exact h2
   .have e':¬q.1=k:=λz=>e (h1.trans z);have b:atKey (q::qs) k=atKey qs k:=by simp[atKey,List.find?_cons,e']
    rw[bJ e,b];exact ih
theorem KTd.repl{xs:List (List Key×WS×WV)}(r:KTd H kvs xs)(k:List Key)(ry:RelV y u) :
 KTd H (kvs.map λkv=>if kv.1=k then(kv.1,y)else kv) (xs.map (putAt k u)):=by
 induction r with
 |nil=>exact .nil
 | @cons p q ps qs h t ih =>
   rw[XG,XG];refine .cons ?_ ih;obtain⟨h1,h2,h3⟩:=h;unfold putAt;by_cases e:p.1=k
   .rw[b! e,b! (h1.symm.trans e)];exact⟨h1,h2,ry⟩
   .rw[a! e,a! (λz=>e (h1.trans z))];exact⟨h1,h2,h3⟩
theorem KTd.put{xs:List (List Key×WS×WV)}(r:KTd H kvs xs)(k:List Key)(hb:H b=A? (.tup (k.map kV)))(ry:RelV y u) :
 KTd H (putK kvs k y) (storedH xs k b u):=by
 have e:(kvs.any λkv=>decide (kv.1=k))=(atKey xs k).isSome:=by
  rw[fE,(r.val k).isSome_eq,Option.isSome_map]
 unfold putK storedH;rw[e];by_cases q:(atKey xs k).isSome=C?
 .rw[b! q,b! q];exact r.repl k ry
 .rw[a! q,a! q];exact Paired.snoc r ⟨rfl,hb,ry⟩
theorem KTd.keeps{xs:List (List Key×WS×WV)}(r:KTd H kvs xs)(ht:∀b ys,H b=A? (.tup ys)->H' b=A? (.tup ys)):KTd H' kvs xs :=
 Xv.mapP r λ_ _ z=>⟨z.1,ht _ _ z.2.1,z.2.2⟩
theorem xf{u:HO}(ok:HOk P w H h)(e:Rd H a u):ObjOk P w H h a u:=e.ok ok
theorem mx{kvs:List (Key×V)}(ok:HOk P w H h)(e:Rd H a (.dK kvs)):kvs.length<=Xi/\(a == YD)=D?/\∃vs,KV kvs vs/\h.DictOf (aU P w) a vs :=
 show ObjOk P w H h a (.dK kvs)from xf ok e
theorem xg{kvs:List (Key×V)}(ok:HOk P w H h)(e:H a=A? (.dK kvs)):kvs.length<=Xi/\(a == YD)=D?/\∃vs,KV kvs vs/\h.DictOf (aU P w) a vs:=mx ok (.inl e)
theorem gN{ks:List Key}(ok:HOk P w H h)(e:H a=A? (.tup (ks.map kV))):(tupleKind (aU P w)).is h ks a:=by
 obtain⟨_,its,n,r,h1⟩:=(show ObjOk P w H h a (.tup (ks.map kV))from ok a _ e);exact⟨_,its.toArray,n,h1,Dn,Dn,by simpa using mB r⟩
theorem lY(ok:HOk P w H h)(e:Rd H a (.dT kvs)):kvs.length<=Xi/\(a == YD)=D? /\
 ∃xs,KTd H kvs xs/\h.DictOfH (tupleKind (aU P w)) a xs:=by
 obtain⟨z,y,xs,r,o,es,ep,h1,h2,h3,h4,h5⟩:=(show ObjOk P w H h a (.dT kvs)from xf ok e);refine⟨z,y,xs,r,o,es,ep,h1,h2,h3,h4,λx hx=>?_,h5⟩
 have all:∀{l:List (List Key×V)}{m:List (List Key×WS×WV)},KTd H l m->∀x∈m,(tupleKind (aU P w)).is h x.1 x.2.1:=by
  intro l m q;induction q with
  |nil=>intro x hx;exact nomatch hx
  | @cons p q ps qs hq t ih =>
    intro x hx;rcases Xc.mp hx with e|hx
    .subst e;exact gN ok (by rw[<-hq.1];exact hq.2.1)
    .exact ih x hx
 exact all r x hx
theorem oU(ok:HOk P w H h)(e:H a=A? (.dT kvs)):kvs.length<=Xi/\(a == YD)=D? /\
 ∃xs,KTd H kvs xs/\h.DictOfH (tupleKind (aU P w)) a xs:=lY ok (.inl e)
def DGet(H:Hp)(a:WS)(y:V)(r:Option V):Prop :=
 (∃kvs k,Rd H a (.dK kvs)/\y=kV k/\r=aG kvs k)\/∃kvs k b,Rd H a (.dT kvs)/\y=.ref b/\H b=A? (.tup (k.map kV))/\r=aG kvs k
def DPut(H:Hp)(a:WS)(y v:V)(H':Hp):Prop :=
 (∃kvs k,H a=A? (.dK kvs)/\y=kV k/\kvs.length<Xi/\H'=upd H a (.dK (putK kvs k v))) \/
 ∃kvs k b,H a=A? (.dT kvs)/\y=.ref b/\H b=A? (.tup (k.map kV))/\kvs.length<Xi/\H'=upd H a (.dT (putK kvs k v))
theorem DGet.k{kvs:List (Key×V)}{k:Key}(e:H a=A? (.dK kvs)):DGet H a (kV k) (aG kvs k):=.inl ⟨kvs,k,.inl e,rfl,rfl⟩
theorem DGet.t{k:List Key}(e:H a=A? (.dT kvs))(eb:H b=A? (.tup (k.map kV))):DGet H a (.ref b) (aG kvs k):=.inr ⟨kvs,k,b,.inl e,rfl,eb,rfl⟩
theorem DPut.k{kvs:List (Key×V)}{k:Key}(e:H a=A? (.dK kvs))(hl:kvs.length<Xi):DPut H a (kV k) v (upd H a (.dK (putK kvs k v))):=.inl ⟨kvs,k,e,rfl,hl,rfl⟩
theorem DPut.t{k:List Key}(e:H a=A? (.dT kvs))(eb:H b=A? (.tup (k.map kV)))(hl:kvs.length<Xi) :
 DPut H a (.ref b) v (upd H a (.dT (putK kvs k v))):=.inr ⟨kvs,k,b,e,rfl,eb,hl,rfl⟩
section
variable{X:Cx}{r:WV}{o:Option V}
theorem Inv.big(I:Inv X Z Y H s):YD<s.1.1.size:=by
 have h:X8<s.1.1.size:=(I.mod.glob.keeps I.bk).lt;exact Nat.lt_trans (by decide) h
theorem sj(hu:A.units+1<Zb)(I:Inv X Z Y H s)(g:DGet H a y (A? v))(ry:RelV y u)(h:∀w' s',Inv X Z Y H s'->RelV v w'->Q w' s') :
 Xf (Xx X.prog X.w) A (getItem (.ref a) u) Q E s:=by
 rcases g with⟨kvs,k,e,ey,l⟩|⟨kvs,k,b,e,ey,eb,l⟩
 .subst ey;obtain⟨z,hd,vs,rel,dd⟩:=mx I.hok e;obtain⟨w',hw,Ef⟩:=RelO.some_of (v:=v) (o:=valueAt vs k) (by rw[l];exact rel.val k);exact wpAny_getItem_of (mL ry) dd.mapOf hw (h w' _ (I.tok _) Ef)
 .subst ey;cases(show u=XI b from ry);obtain⟨z,hd,xs,rel,dd⟩:=lY I.hok e;obtain⟨w',hw,Ef⟩:=RelO.some_of (v:=v) (o:=(atKey xs k).map (·.2)) (by rw[l];exact rel.val k);obtain⟨p,hp,Bj⟩:=Yh.mp hw;refine wpAny_getItem_heap (Z5 hu) (gN I.hok eb) dd hp ?_;rw[Bj];exact h w' _ (I.tok _) Ef
theorem vS(hu:A.units+1<Zb)(I:Inv X Z Y H s)(g:DGet H a y o)(ry:RelV y u)(h:∀s',Inv X Z Y H s'->Q (.bool (!o.isSome)) s') :
 Xf (Xx X.prog X.w) A (Zf .NotIn u (.ref a)) Q E s:=by
 rcases g with⟨kvs,k,e,ey,l⟩|⟨kvs,k,b,e,ey,eb,l⟩
 .subst ey;obtain⟨z,hd,vs,rel,dd⟩:=mx I.hok e;refine wpAny_notIn_of (mL ry) hd dd.mapOf ?_;rw[<-(rel.val k).isSome_eq,<-l];exact h _ (I.tok _)
 .subst ey;cases(show u=XI b from ry);obtain⟨z,hd,xs,rel,dd⟩:=lY I.hok e;refine wpAny_notIn_heap (Z5 hu) (gN I.hok eb) hd dd ?_;have q:=(rel.val k).isSome_eq;rw[Option.isSome_map]at q;rw[<-q,<-l];exact h _ (I.tok _)
theorem iH{ob:HO}(I:Inv X Z Y H s)(mu:Mut (H a))(hs:X1 a s.1 h')(he:∃q,h'.get? a=A? q)(new:ObjOk X.prog X.w (upd H a ob) h' a ob) :
 Inv X Z Y (upd H a ob) {s with heap:=h',toks:=t'} :=
 I.write (x:=a) (e:=a) mu (.inl rfl) (λb q hb z=>(hs.2 b hb).trans z) he new
theorem yr{kvs:List (Key×V)}{vs:List (Key×WV)}(z:kvs.length<=Xi)(hd:(a == YD)=D?)(rel:KV kvs vs)(dd:h'.DictOf (aU P w) a vs) :
 ObjOk P w H' h' a (.dK kvs):=⟨z,hd,vs,rel,dd⟩
theorem tF{Q:Unit->WZ->Prop}(hu:A.units+1<Zb)(I:Inv X Z Y H s)(g:DPut H a y v H')(ry:RelV y u)(rv:RelV v r)(h:∀s',Inv X Z Y H' s'->Q () s') :
 Xf (Xx X.prog X.w) A (setItem (.ref a) u r) Q E s:=by
 rcases g with⟨kvs,k,e,ey,l,eH⟩|⟨kvs,k,b,e,ey,eb,l,eH⟩
 .subst ey eH;obtain⟨z,hd,vs,rel,dd⟩:=xg I.hok e;have hz:vs.length<=Xi:=by rw[<-rel.length];exact z
  have hl:(putK kvs k v).length<=Xi:=by have:=bI kvs k v;lia
  refine wpAny_setItem_pairs (hsz:=hz) (mL ry) dd λh' Eo hs=>h _ ?_;have he:∃q,h'.get? a=A? q:=let⟨q,_,_,hq,_⟩:=Eo;⟨q,hq⟩
  exact iH I (by rw[e];exact Y8) hs he (yr hl hd (rel.put k rv) Eo)
 .subst ey eH;cases(show u=XI b from ry);obtain⟨z,hd,xs,rel,dd⟩:=oU I.hok e;have hz:xs.length<=Xi:=by rw[<-W9 rel];exact z
  have hl:(putK kvs k v).length<=Xi:=by have:=bI kvs k v;lia
  refine wpAny_setItem_heap (hsz:=hz) (Z5 hu) (gN I.hok eb) dd λh' Eo hs=>h _ ?_;obtain⟨q,es,ep,hq,h2,h3,h4,_,h5⟩:=Eo;refine iH I (by rw[e];exact Y8) hs ⟨q,hq⟩ ⟨hl,hd,_,(rel.put k eb rv).keeps λc ys ec=>?_,q,es,ep,hq,h2,h3,h4,h5⟩;rw[af (aA ec e (λz=>nomatch z))];exact ec
end
section
variable{X:Cx}{kvs:List (Key×V)}{k:Key}
end
def yS(i:XZ):Prop:=∀ov iv,subscripted i D? ov iv=operate [ov,iv] (getItem ov iv)
theorem vW{value slice:XZ}{T id:String}
 (hl:typeLookup (.type T) "__getitem__"=pure (A? (.builtin id))) (hs:yS slice)
 (h:Xf (Xx prog w) A (YQ value env) (λo zX=>Xf (Xx prog w) A (YQ slice env) (λi A8=>A8.TypeIs o T/\Xf (Xx prog w) A (getItem o i) Q E A8) E zX) E s) :
 Xf (Xx prog w) A (YQ (.Subscript value slice pos) env) Q E s:=by
 refine Subscript_ (YI h (λo zX Am=>YI Am (λi A8 Bg=>?_) λ_ _ x=>x) λ_ _ x=>x);obtain⟨hT,Bg⟩:=Bg;unfold subscriptTail;refine WN ?_;rw[getitemInPython_of_ne hT.not_modules];refine WN (wpAny_specialOf hT hl ?_)
 have fin:Xf (Xx prog w) A (subscripted slice D? o i) (λr Cb=>Xf (Xx prog w) A (letTemporaryGo value o r >>= λ_=>pure r) Q E Cb) E A8:=by
  rw[hs o i];exact wpAny_operating (YI Bg (λr Cb Ct=>WN (wpAny_letTemporaryGo (WX Ct))) λ_ _ x=>x)
 first
  |exact WX (WN fin)
  |exact WN (WX (WN fin))
  |exact WN fin
theorem pd{X:Cx}{o:Option V}(I:Inv X Z Y H s)(g:DGet H a y o):s.TypeIs (.ref a) "dict":=by
 rcases g with⟨kvs,k,e,_,_⟩|⟨kvs,k,b,e,_,_,_⟩
 .obtain⟨_,_,vs,_,dd⟩:=mx I.hok e;exact dd.typeIs
 .obtain⟨_,_,xs,_,dd⟩:=lY I.hok e;exact dd.typeIs
def r9(td ty:TE):TE:=λY H Q=>td Y H λx H1=>ty Y H1 λy H2=>∃a v,x=.ref a/\DGet H2 a y (A? v)/\Q v H2
def rq(ty td:TE):TE:=λY H Q=>ty Y H λy H1=>td Y H1 λx H2=>∃a o,x=.ref a/\DGet H2 a y o/\Q (.bl (!o.isSome)) H2
def zd(td ty tv:TE):TS:=λD Y H=>tv Y H λv H1=>td Y H1 λx H2=>ty Y H2 λy H3=>∃a H4,x=.ref a/\DPut H3 a y v H4/\D.nx Y H4
section
variable{X:Cx}{o i value:XZ}{Nc:Z9}{td ty tv:TE}
theorem dW(hu:X.A.units+1<Zb)(ho:PE X o td)(hi:PE X i ty)(hs:yS i):PE X (.Subscript o i pos) (r9 td ty):=by
 intro Z s Y H Q I h;refine vW PySem.F.slot_dict_getitem.lookup hs (thn (ho Z s Y H _ I h) λu s1⟨x,H1,I1,rx,q1⟩=>thn (hi Z s1 Y H1 _ I1 q1) λiv s2⟨y,H2,I2,ry,a,v,ex,g,q2⟩=>?_);subst ex;obtain rfl:u=XI a:=rx;exact⟨pd I2 g,sj hu I2 g ry λw' s3 I3 Ef=>⟨v,H2,I3,Ef,q2⟩⟩
theorem mn(hu:X.A.units+1<Zb)(hi:PE X i ty)(ho:PE X o td):PC X .NotIn i o (rq ty td):=by
 intro Z s Y H Q I h;refine thn (hi Z s Y H _ I h) λiv s1⟨y,H1,I1,ry,q1⟩=>thn (ho Z s1 Y H1 _ I1 q1) λu s2⟨x,H2,I2,rx,a,ov,ex,g,q2⟩=>?_;subst ex;obtain rfl:u=XI a:=rx;exact vS hu I2 g ry λs3 I3=>⟨.bl (!ov.isSome),H2,I3,rfl,q2⟩
theorem dU(hu:X.A.units+1<Zb)(ho:PE X o td)(hi:PE X i ty)(hv:PE X value tv)(hs:swapsWith value (A? (.Subscript o i pos')) pos.line X.env=pure D?) :
 PS X (.Assign [.Subscript o i pos'] value pos) (zd td ty tv):=by
 intro Z s Y H D I h;refine wpAny_Assign_Subscript (thn (hv Z s Y H _ I h) λr s1⟨v,H1,I1,rv,q1⟩=>thn (ho Z s1 Y H1 _ I1 q1) λu s2⟨x,H2,I2,rx,q2⟩=>thn (hi Z s2 Y H2 _ I2 q2) λiv s3⟨y,H3,I3,ry,a,H4,ex,g,q3⟩=>?_) hs;subst ex;obtain rfl:u=XI a:=rx;exact tF hu I3 g ry rv λs4 I4=>⟨Y,H4,I4,q3⟩
end
theorem oz(h:X3)(hb:YD<h.objs.size):ObjOk P w H (h.push {cls:=.type "dict",data:=.dict #[]}) h.objs.size (.dK []) :=
 ⟨XA _,beq_eq_false_iff_ne.mpr (Zr (XF hb)),[],.nil,Heap.DictOf.new h⟩
theorem ol(h:X3)(hb:YD<h.objs.size):ObjOk P w H (h.push {cls:=.type "dict",data:=.dict #[]}) h.objs.size (.dT []) :=
 ⟨XA _,beq_eq_false_iff_ne.mpr (Zr (XF hb)),[],.nil,_,#[],0,W3 _ rfl,⟨rfl,rfl,rfl⟩,rfl,rfl,Y1⟩
def yf:TE:=λ_ H Q=>∀p,H p=B?->Q (.ref p) (upd H p (.dK []))
def xr:TE:=λ_ H Q=>∀p,H p=B?->Q (.ref p) (upd H p (.dT []))
section
variable{X:Cx}
theorem jU:PE X (.Dict [] [] pos) yf:=λZ s Y H Q I h =>
 wpAny_Dict_empty ⟨.ref s.1.1.size,_,I.laid (a:=s.1.1.size) (o:=.dK []) (t':=s.toks) (λ_ _ q=>WU _ q) (W0 _) (oz s.1 I.big),rfl,h _ (I.hok.fresh (W0 _))⟩
theorem dM:PE X (.Dict [] [] pos) xr:=λZ s Y H Q I h =>
 wpAny_Dict_empty ⟨.ref s.1.1.size,_,I.laid (a:=s.1.1.size) (o:=.dT []) (t':=s.toks) (λ_ _ q=>WU _ q) (W0 _) (ol s.1 I.big),rfl,h _ (I.hok.fresh (W0 _))⟩
end
structure M2(X:Cx)(o:XZ)(m:Xj)(apos:Z9)(e f:XZ)(Aj:Z9):Prop where
 base:Z8 o m X.env (YQ o X.env)=YQ o X.env
 few:((ZC Aj (XE [e,f] X.env)).all (λx=>!x.1) && (backToKw Aj (keywordEach [] X.env)).all (λx=>x.1.isSome)
  && decide (([e,f]:List XZ).length+([]:List Keyword).length+(if([]:List Keyword).isEmpty then 0 else 1)<30))=C?
 line:(apos.endLine == Aj.line)=C?
 trees:ZC Aj (XE [e,f] X.env)=[(D?,YQ e X.env),(D?,YQ f X.env)]
def IsD(H:Hp)(a:WS):Prop:=(∃kvs,Rd H a (.dK kvs))\/∃kvs,Rd H a (.dT kvs)
theorem xK{X:Cx}(I:Inv X Z Y H s)(d:IsD H a) :
 s.TypeIs (.ref a) "dict"/\(∀b,XI a=.ref b->∃ob,s.1.get? b=A? ob/\ob.dict=B?)/\(a == YD)=false:=by
 rcases d with⟨kvs,e⟩|⟨kvs,e⟩
 .obtain⟨_,hd,vs,_,dd⟩:=mx I.hok e;refine⟨dd.typeIs,λb q=>?_,hd⟩;cases q;obtain⟨ob,_,_,h1,h2,_⟩:=dd;exact⟨ob,h1,h2.2.1⟩
 .obtain⟨_,hd,xs,_,dd⟩:=lY I.hok e;refine⟨dd.typeIs,λb q=>?_,hd⟩;cases q;obtain⟨ob,_,_,h1,h2,_⟩:=dd;exact⟨ob,h1,h2.2.1⟩
section
variable{X:Cx}{d:V}{r:WV}{o:Option V}
theorem yq(hu:A.units+1<Zb)(I:Inv X Z Y H s)(g:DGet H a y o)(ry:RelV y u)(rd:RelV d r)(h:∀w' s',Inv X Z Y H s'->RelV (o.getD d) w'->Q w' s') :
 Xf (Xx X.prog X.w) A (call (.builtin "dict.get") [.ref a,u,r]) Q E s:=by
 rcases g with⟨kvs,k,e,ey,l⟩|⟨kvs,k,b,e,ey,eb,l⟩
 .subst ey;obtain⟨z,hd,vs,rel,dd⟩:=mx I.hok e;refine call_meetsIn PySem.F.slot_dict_get dd.typeIs PySem.F.entry_dict_get (PySem.F.args_dict_get_3 _ _ _) (meets_dict_get_default (aU X.prog X.w) a (mL ry) hd r) ⟨_,dd.mapOf,h _ _ (I.tok _) ?_⟩;rw[l];exact(rel.val k).getD rd
 .subst ey;cases(show u=XI b from ry);obtain⟨z,hd,xs,rel,dd⟩:=lY I.hok e;refine call_meetsIn PySem.F.slot_dict_get dd.typeIs PySem.F.entry_dict_get (PySem.F.args_dict_get_3 _ _ _) (meetsH_dict_get_default (tupleKind (aU X.prog X.w)) a b hd r) ⟨Z5 hu,k,xs,gN I.hok eb,dd,h _ _ (I.tok _) ?_⟩;rw[l];exact(rel.val k).getD rd
end
def xH(td ty tx:TE):TE:=λY H Q=>td Y H λx H1=>∃a,x=.ref a/\IsD H1 a/\ty Y H1 λy H2=>tx Y H2 λz H3=>∃o,DGet H3 a y o/\Q (o.getD z) H3
section
variable{X:Cx}{o f:XZ}{apos Aj:Z9}{td ty tx:TE}
theorem o6(hu:X.A.units+1<Zb)(ho:PE X o td)(he:PE X e ty)(hf:PE X f tx)(m:M2 X o "get" apos e f Aj):PE X (.Call (.Attribute o "get" apos) [e,f] [] Aj) (xH td ty tx):=by
 intro Z s Y H Q I h;refine wpAny_Call_method m.base m.few m.line PySem.F.plainAttrs_dict PySem.F.slot_dict_get PySem.F.type_dict_get (thn (ho Z s Y H _ I h) λu s1⟨x,H1,I1,rx,a,ex,d,q1⟩=>?_);subst ex;obtain rfl:u=XI a:=rx;obtain⟨t1,t2,_⟩:=xK I1 d;refine⟨t1,t2,?_⟩;rw[m.trees]
 refine Calls.callWith_builtin rfl (Calls.evalArgs_plain (ZA (thn (he Z s1 Y H1 _ I1 q1) λiv s2⟨y,H2,I2,ry,q2⟩ =>
  ZA (thn (hf Z s2 Y H2 _ I2 q2) λfv s3⟨z,H3,I3,rz,ov,g,q3⟩=>Calls.spliced_nil ?_))))
 exact yq hu I3 g ry rz λw' s4 I4 Ef=>⟨_,H3,I4,Ef,q3⟩
end
section
variable{X:Cx}{kvs:List (Key×V)}
end
section
variable{X:Cx}
end
inductive wR(K:WW)(T:String)(xs:List V)(H:Hp)(Q:VK):Prop
 |mk (x:_) (b:_) (t:_) (BR:xs=[x,.ty T]) (BS:gR K H x t) (CZ:PySem.W.kitOne K t (.type T)=A? b) (EW:Q (.bl b) H):wR K T xs H Q
def zE(K:WW)(T:String):List V->Hp->VK->Prop:=wR K T
theorem mf{X:Cx}{T:String}:dm X (.builtin "isinstance") (zE X.K T):=by
 intro Z s Y H xs us Q I r h;obtain⟨x,b,t,e,ty,k,q⟩:=h;exact u5 (T:=T) (b:=b) (t:=t) Z s Y H xs us Q I r ⟨x,e,ty,k,q⟩
theorem xZ:PySem.W.kitOne K (.type "int") (.type "int")=A? true:=rfl
theorem ya:PySem.W.kitOne K (.type "int") (.type "bool")=A? false:=by with_unfolding_all rfl
end L2
namespace BB
open PySem L2
set_option genInjectivity true in
inductive Dv where
 |int (i:Int)
 |str (x:Xj)
 |tup (ds:List Dv)
mutual
def Dv.deep:Dv->Nat
 |.int _=>0
 |.str _=>0
 |.tup ds=>bw ds+1
def bw:List Dv->Nat
 | []=>0
 |d::ds=>max d.deep (bw ds)
end
mutual
def Dv.tot:Dv->Nat
 |.int _=>1
 |.str _=>1
 |.tup ds=>vN ds+1
def vN:List Dv->Nat
 | []=>0
 |d::ds=>d.tot+vN ds
end
mutual
def DAt(H:Hp):Dv->V->Prop
 |.int i,v=>v=.int i
 |.str x,v=>v=.str x
 |.tup ds,v=>∃a vs,v=.ref a/\H a=A? (.tup vs)/\DAts H ds vs
def DAts(H:Hp):List Dv->List V->Prop
 | [],vs=>vs=[]
 |d::ds,vs=>∃v r,vs=v::r/\DAt H d v/\DAts H ds r
end
theorem DAts.nil:DAts H [] []:=by rw[DAts]
theorem DAts.cons{d:Dv}{ds:List Dv}{vs:List V}(h1:DAt H d v)(h2:DAts H ds vs):DAts H (d::ds) (v::vs):=by rw[DAts];exact⟨v,vs,Dn,h1,h2⟩
theorem DAts.length:∀{ds:List Dv}{vs:List V},DAts H ds vs->vs.length=ds.length
 | [],vs,h=>by rw[DAts]at h;subst h;rfl
 | d::ds,vs,h=>by
   rw[DAts]at h;obtain⟨v,r,rfl,h1,h2⟩:=h;rw[W8,W8,h2.length]
theorem DAts.at:∀{ds:List Dv}{vs:List V}{i:Nat}{d:Dv},DAts H ds vs->ds[i]?=A? d->∃v,vs[i]?=A? v/\DAt H d v
 | [],vs,i,d,h,e=>by simp at e
 | d0::ds,vs,i,d,h,e=>by
   rw[DAts]at h;obtain⟨v,r,rfl,h1,h2⟩:=h;cases i with
   |zero=>simp at e;subst e;exact⟨v,Dn,h1⟩
   | succ i =>
     obtain⟨u,g1,g2⟩:=h2.at (i:=i) (by simpa using e);exact⟨u,by simpa using g1,g2⟩
theorem dD:∀{ds:List Dv}{i:Nat}{d:Dv},ds[i]?=A? d->d.deep<=bw ds
 | [],i,d,e=>by simp at e
 | d0::ds,i,d,e=>by
   rw[bw];cases i with
   |zero=>simp at e;subst e;lia
   | succ i =>
     have:=dD (ds:=ds) (i:=i) (by simpa using e);lia
theorem re:∀{ds:List Dv}{i:Nat}{d:Dv},ds[i]?=A? d->d.tot<=vN ds
 | [],i,d,e=>by simp at e
 | d0::ds,i,d,e=>by
   rw[vN];cases i with
   |zero=>simp at e;subst e;lia
   | succ i =>
     have:=re (ds:=ds) (i:=i) (by simpa using e);lia
theorem Dv.tot_pos(d:Dv):1<=d.tot:=by
 cases d with
 |int i=>rw[Dv.tot];lia
 |str x=>rw[Dv.tot];lia
 |tup ds=>rw[Dv.tot];lia
mutual
def Th.dv:Th->Dv
 |.knot n ks=>.tup (.str n::dvs ks)
 |.call s k=>.tup [.str q,.int s,.int k]
def dvs:List Th->List Dv
 | []=>[]
 |t::ts=>t.dv::dvs ts
end
mutual
theorem At.dv:∀{t:Th}{a:WS},At H t a->DAt H t.dv (.ref a)
 | .knot n ks,a,h=>by
   rw[At]at h;obtain⟨_,as,h1,h2⟩:=h;rw[Th.dv,DAt];exact⟨a,_,Dn,h1,.cons (by rw[DAt]) (Ats.dvs h2)⟩
 | .call s k,a,h=>by
   rw[At]at h;rw[Th.dv,DAt];exact⟨a,_,Dn,h,.cons (by rw[DAt]) (.cons (by rw[DAt]) (.cons (by rw[DAt]) .nil))⟩
theorem Ats.dvs:∀{ts:List Th}{as:List WS},Ats H ts as->DAts H (dvs ts) (as.map i!)
 | [],as,h=>by rw[Ats]at h;subst h;rw[BB.dvs];exact .nil
 | t::ts,as,h=>by
   rw[Ats]at h;obtain⟨a,r,rfl,h1,h2⟩:=h;rw[BB.dvs,XG];exact .cons (At.dv h1) (Ats.dvs h2)
end
mutual
theorem Th.dv_deep:∀t:Th,t.dv.deep<=t.tall
 | .knot n ks=>by
   have:=fz ks;rw[Th.dv,Dv.deep,bw,Dv.deep,q!];lia
 |.call s k=>by rw[Th.dv,q!];simp[Dv.deep,bw]
theorem fz:∀ts:List Th,bw (dvs ts)<=aB ts
 | []=>by rw[dvs,bw];exact XA _
 | t::ts=>by
   have:=t.dv_deep;have:=fz ts;rw[dvs,bw,aB];lia
end
theorem lO{ys:List V}{Q:VK}(ha:H a=A? (.tup xs))(hb:H b=A? (.tup ys))(hz:xs.length+ys.length<=1000000)(q:∀p H',j! H H'->H' p=A? (.tup (xs++ys))->Q (.ref p) H'):ut K (.ref a) (.ref b) H Q:=by
 refine⟨a,b,xs,ys,Dn,Dn,l! ha,l! hb,ba hz,λe=>?_,λ_ e=>?_,λ_ _ p hp=>?_⟩
 .exact q b H (.refl _) (by rw[e];exact hb)
 .exact q a H (.refl _) (by rw[e,Yx];exact ha)
 .exact q p _ (am hp _) ae
mutual
def Th.pl(pre:List Int):Th->List (List Int×Th)
 |.knot n ks=>(pre,.knot n ks)::pls pre 0 ks
 |.call s k=>[(pre,.call s k)]
def pls(pre:List Int)(i:Int):List Th->List (List Int×Th)
 | []=>[]
 |t::ts=>t.pl (pre++[i])++pls pre (i+1) ts
end
theorem Th.pl_eq(pre:List Int)(t:Th):t.pl pre=(pre,t)::pls pre 0 t.kids:=by
 cases t with
 |knot n ks=>rw[Th.pl];rfl
 |call s k=>rw[Th.pl];simp[Th.kids,pls]
mutual
theorem Th.pl_len(pre:List Int):∀t:Th,(t.pl pre).length=t.size
 |.knot n ks=>by rw[Th.pl,v!,W8,nM pre 0 ks]
 |.call s k=>by rw[Th.pl,v!];rfl
theorem nM(pre:List Int)(i:Int):∀ts:List Th,(pls pre i ts).length=ar ts
 | []=>by rw[pls,ar];rfl
 |t::ts=>by rw[pls,ar,W4,Th.pl_len _ t,nM pre (i+1) ts]
end
def szP:List (List Int×Th)->Nat
 | []=>0
 |p::ps=>p.2.size+szP ps
def plP:List (List Int×Th)->List (List Int×Th)
 | []=>[]
 |p::ps=>p.2.pl p.1++plP ps
theorem fh:∀a b,szP (a++b)=szP a+szP b
 | [],b=>by simp[szP]
 |p::a,b=>by rw[YC,szP,szP,fh a b,Nat.add_assoc]
theorem rn(a:List (List Int×Th)):szP a.reverse=szP a:=by
 induction a with
 |nil=>rfl
 |cons x xs ih=>rw[XW,fh,ih,szP,szP,szP];lia
theorem kJ:∀a b,plP (a++b)=plP a++plP b
 | [],b=>by simp[plP]
 |p::a,b=>by rw[YC,plP,plP,kJ a b,X7]
theorem rj:∀a,(plP a).length=szP a
 | []=>rfl
 |p::a=>by rw[plP,szP,W4,Th.pl_len,rj a]
theorem qZ:∀a,a.length<=szP a
 | []=>XA _
 | p::a=>by
   have:=p.2.size_pos;have:=qZ a;rw[W8,szP];lia
def d9(pre:List Int)(i:Int):List Th->List (List Int×Th)
 | []=>[]
 |t::ts=>(pre++[i],t)::d9 pre (i+1) ts
theorem kQ(pre:List Int)(i:Int):∀ts,(d9 pre i ts).length=ts.length
 | []=>rfl
 |t::ts=>by rw[d9,W8,W8,kQ pre (i+1) ts]
theorem pE(pre:List Int)(i:Int):∀ts,plP (d9 pre i ts)=pls pre i ts
 | []=>by rw[d9,plP,pls]
 |t::ts=>by rw[d9,plP,pls,pE pre (i+1) ts]
theorem oB(pre:List Int)(i:Int):∀ts,szP (d9 pre i ts)=ar ts
 | []=>by rw[d9,szP,ar]
 |t::ts=>by rw[d9,szP,ar,oB pre (i+1) ts]
theorem pD(pre:List Int):∀(i:Int)(ts:List Th)(j:Nat)(t:Th),ts[j]?=A? t->(d9 pre i ts)[j]?=A? (pre++[i+j],t)
 |i,[],j,t,e=>by simp at e
 |i,u::ts,0,t,e=>by simp at e;subst e;rw[d9];simp
 | i,u::ts,j+1,t,e=>by
   rw[d9,YO,pD pre (i+1) ts j t (by simpa using e)];have:i+1+(j:Int)=i+((j+1:Nat):Int):=by lia
   rw[this]
theorem om(pre:List Int):∀(i:Int)(ts:List Th)(p:List Int×Th),p∈d9 pre i ts->p.1.length=pre.length+1/\p.2∈ts
 |i,[],p,h=>by rw[d9]at h;cases h
 | i,u::ts,p,h=>by
   rw[d9]at h;rcases Xc.mp h with rfl|h
   .exact⟨by simp,W2 ..⟩
   .have:=om pre (i+1) ts p h;exact⟨this.1,WR _ this.2⟩
theorem pj(pre:List Int):∀(i:Int)(ts:List Th)(t:Th),pls pre i (ts++[t])=pls pre i ts++t.pl (pre++[i+ts.length])
 |i,[],t=>by simp[pls]
 | i,u::ts,t=>by
   rw[YC,pls,pls,pj pre (i+1) ts t,X7];have:i+1+(ts.length:Int)=i+((u::ts).length:Int):=by rw[W8];lia
   rw[this]
def PAt(H:Hp)(p:List Int×Th)(a:WS):Prop:=∃pa ta,H a=A? (.tup [.ref pa,.ref ta])/\H pa=A? (.tup (p.1.map o!))/\At H p.2 ta
def PsAt(H:Hp)(ps:List (List Int×Th))(as:List WS):Prop:=Xv (PAt H) ps as
theorem PAt.mono(k:KT H H'){p:List Int×Th}(h:PAt H p a):PAt H' p a:=by
 obtain⟨pa,ta,h1,h2,h3⟩:=h;exact⟨pa,ta,k _ _ h1,k _ _ h2,h3.mono k⟩
theorem PsAt.mono(k:KT H H'){ps:List (List Int×Th)}(h:PsAt H ps as):PsAt H' ps as:=w! (λ_ _ e=>PAt.mono k e) h
theorem P2.reverse:∀{a:List α}{b:List β},Xv F a b->Xv F a.reverse b.reverse
 |_,_,.nil=>.nil
 | _,_,.cons r t=>by
   rw[XW,XW];exact p! (P2.reverse t) (.cons r .nil)
theorem P2.snoc_inv{a:List α}{b:List β}{y:β}(h:Xv F a (b++[y])):∃us x,a=us++[x]/\Xv F us b/\F x y:=by
 have r:=P2.reverse h;rw[Yq,ZR,Z0]at r;cases e:a.reverse with
 |nil=>rw[e]at r;cases r
 | cons x us =>
   rw[e]at r;cases r with
   | cons h1 h2 =>
     refine⟨us.reverse,x,?_,?_,h1⟩
     .rw[<-XW,<-e,Y0]
     .have:=P2.reverse h2;rw[Y0]at this;exact this
theorem nX{t u:Th}(h:u∈t.kids):u.tall+1<=t.tall:=by
 have:=ce h;rw[t.tall_eq];lia
def Th.sub:Th->List Int->Option Th
 |t,[]=>A? t
 |t,i::r=>if 0<=i then(match t.kids[i.toNat]? with|some u=>u.sub r|none=>B?)else B?
termination_by _ p=>p.length
theorem nI(t:Th):t.sub []=A? t:=by rw[Th.sub]
theorem vg{t u:Th}{i:Int}{r:List Int}(h0:0<=i)(h:t.kids[i.toNat]?=A? u):t.sub (i::r)=u.sub r:=by rw[Th.sub,b! h0,h]
mutual
theorem uM:∀(t:Th)(pre p:List Int)(u:Th),(p,u)∈t.pl pre->∃r,p=pre++r/\t.sub r=A? u/\r.length+u.tall<=t.tall/\u.size<=t.size
 | .knot n ks,pre,p,u,h=>by
   rw[Th.pl]at h;rcases Xc.mp h with e|h
   .cases e;exact⟨[],by simp,nI _,by simp,W0 _⟩
   .obtain⟨j,v,r,h1,rfl,h3,h4,h5,h6,h7⟩:=rA ks pre 0 p u h;refine⟨(0+(j:Int))::r,by simp,?_,?_,?_⟩
    .rw[vg (u:=v) (by lia) (by rw[show(0+(j:Int)).toNat=j by lia];exact h1)];exact h3
    .rw[q!,W8];lia
    .rw[v!];lia
 | .call s k,pre,p,u,h=>by
   rw[Th.pl]at h;have e:(p,u)=(pre,A! s k):=by simpa using h
   cases e;exact⟨[],by simp,nI _,by simp,W0 _⟩
theorem rA:∀(ts:List Th)(pre:List Int)(i:Int)(p:List Int)(u:Th),(p,u)∈pls pre i ts->∃(j:Nat)(v:Th)(r:List Int),ts[j]?=A? v/\p=pre++(i+(j:Int))::r/\v.sub r=A? u/\r.length+u.tall<=v.tall/\v.tall<=aB ts/\u.size<=v.size/\v.size<=ar ts
 | [],pre,i,p,u,h=>by rw[pls]at h;cases h
 | t::ts,pre,i,p,u,h=>by
   rw[pls]at h;rcases W7.mp h with h|h
   .obtain⟨r,rfl,h1,h2,h3⟩:=uM t (pre++[i]) p u h;exact⟨0,t,r,Dn,by simp,h1,h2,by rw[aB];lia,h3,by rw[ar];lia⟩
   .obtain⟨j,v,r,h1,rfl,h3,h4,h5,h6,h7⟩:=rA ts pre (i+1) p u h;refine⟨j+1,v,r,by simpa using h1,?_,h3,h4,by rw[aB];lia,h6,by rw[ar];lia⟩;have:i+1+(j:Int)=i+((j+1:Nat):Int):=by lia
    rw[this]
end
theorem fY:∀{ts:List Th}{t:Th},t∈ts->t.size<=ar ts
 | u::ts,t,h=>by
   rw[ar];rcases Xc.mp h with rfl|h
   .lia
   .have:=fY h;lia
theorem gP(n:Nat)(ts:List Th):ar (ts.take n)<=ar ts:=by
 have h:=aO (ts.take n) (ts.drop n);rw[List.take_append_drop]at h;lia
end BB
open BB.Dv renaming deep->I!,tup->K!
open BB.Th renaming pl_len->J!,dv->M!
variable{ds:List BB.Dv}
namespace BB
open PySem L2
mutual
def Th.kn:Th->Nat
 |.knot _ ks=>kns ks+1
 |.call _ _=>0
def kns:List Th->Nat
 | []=>0
 |t::ts=>t.kn+kns ts
end
section
variable{ext:Th->List V}{t:Th}{es:List WS}
end
def Th.isCall:Th->Bool
 |.knot _ _=>D?
 |.call _ _=>C?
def xU:List Int×Th->Option (List Int×Int×Int)
 |(_,.knot _ _)=>B?
 |(p,.call s k)=>A? (p,s,k)
def callsOf(ps:List (List Int×Th)):List (List Int×Int×Int):=ps.filterMap xU
theorem dG(a b:List (List Int×Th)):callsOf (a++b)=callsOf a++callsOf b:=List.filterMap_append
theorem cW(a:List (List Int×Th)):(callsOf a).length<=a.length:=List.length_filterMap_le _ _
def CAt(H:Hp)(c:List Int×Int×Int)(a:WS):Prop:=∃pa ca,H a=A? (.tup [.ref pa,.ref ca])/\H pa=A? (.tup (c.1.map o!))/\H ca=A? (.tup [.int c.2.1,.int c.2.2])
def CsAt(H:Hp)(cs:List (List Int×Int×Int))(as:List WS):Prop:=Xv (CAt H) cs as
theorem CAt.mono(k:KT H H'){c:List Int×Int×Int}(h:CAt H c a):CAt H' c a:=by
 obtain⟨pa,ca,h1,h2,h3⟩:=h;exact⟨pa,ca,k _ _ h1,k _ _ h2,k _ _ h3⟩
theorem CsAt.mono(k:KT H H'){cs:List (List Int×Int×Int)}(h:CsAt H cs as):CsAt H' cs as:=w! (λ_ _ e=>CAt.mono k e) h
def TK(K:WW)(H:Hp)(a:WS)(xs:List V):Prop:=H a=A? (.tup xs)\/∃(o:YF)(its:Array WV)(n:Nat),K.lookup a=A? o/\o.cls=.type "tuple"/\o.data=.seq its n/\its.size<=Xi/\Vals xs its.toList
theorem TK.of(h:H a=A? (.tup xs)):TK K H a xs:=.inl h
theorem TK.sq(h:TK K H a xs):SqT K H a xs:=by
 rcases h with h|h
 .exact l! h
 .exact .inr h
mutual
def DAtK(K:WW)(H:Hp):Dv->V->Prop
 |.int i,v=>v=.int i
 |.str x,v=>v=.str x
 |.tup ds,v=>∃a vs,v=.ref a/\TK K H a vs/\DAtsK K H ds vs
def DAtsK(K:WW)(H:Hp):List Dv->List V->Prop
 | [],vs=>vs=[]
 |d::ds,vs=>∃v r,vs=v::r/\DAtK K H d v/\DAtsK K H ds r
end
theorem DAtsK.length:∀{ds:List Dv}{vs:List V},DAtsK K H ds vs->vs.length=ds.length
 | [],vs,h=>by rw[DAtsK]at h;subst h;rfl
 | d::ds,vs,h=>by
   rw[DAtsK]at h;obtain⟨v,r,rfl,h1,h2⟩:=h;rw[W8,W8,h2.length]
theorem DAtsK.at:∀{ds:List Dv}{vs:List V}{i:Nat}{d:Dv},DAtsK K H ds vs->ds[i]?=A? d->∃v,vs[i]?=A? v/\DAtK K H d v
 | [],vs,i,d,h,e=>by simp at e
 | d0::ds,vs,i,d,h,e=>by
   rw[DAtsK]at h;obtain⟨v,r,rfl,h1,h2⟩:=h;cases i with
   |zero=>simp at e;subst e;exact⟨v,Dn,h1⟩
   | succ i =>
     obtain⟨u,g1,g2⟩:=h2.at (i:=i) (by simpa using e);exact⟨u,by simpa using g1,g2⟩
mutual
theorem DAt.k:∀{d:Dv}{v:V},DAt H d v->DAtK K H d v
 |.int i,v,h=>by rw[DAt]at h;rw[DAtK];exact h
 |.str x,v,h=>by rw[DAt]at h;rw[DAtK];exact h
 | .tup ds,v,h=>by
   rw[DAt]at h;rw[DAtK];obtain⟨a,vs,e,h1,h2⟩:=h;exact⟨a,vs,e,.of h1,DAts.k h2⟩
theorem DAts.k:∀{ds:List Dv}{vs:List V},DAts H ds vs->DAtsK K H ds vs
 | [],vs,h=>by rw[DAts]at h;rw[DAtsK];exact h
 | d::ds,vs,h=>by
   rw[DAts]at h;rw[DAtsK];obtain⟨v,r,e,h1,h2⟩:=h;exact⟨v,r,e,DAt.k h1,DAts.k h2⟩
end
mutual
theorem DAtK.inj{X:Cx}(I:Inv X Z Y H s):∀{d e:Dv}{v:V},DAtK X.K H d v->DAtK X.K H e v->d=e
 |.int i,.int j,v,h,g=>by rw[DAtK]at h;rw[DAtK]at g;rw[h]at g;cases g;rfl
 |.int i,.str y,v,h,g=>by rw[DAtK]at h;rw[DAtK]at g;rw[h]at g;cases g
 |.int i,.tup es,v,h,g=>by rw[DAtK]at h;rw[DAtK]at g;obtain⟨a,vs,e,_⟩:=g;rw[h]at e;cases e
 |.str x,.int j,v,h,g=>by rw[DAtK]at h;rw[DAtK]at g;rw[h]at g;cases g
 |.str x,.str y,v,h,g=>by rw[DAtK]at h;rw[DAtK]at g;rw[h]at g;cases g;rfl
 |.str x,.tup es,v,h,g=>by rw[DAtK]at h;rw[DAtK]at g;obtain⟨a,vs,e,_⟩:=g;rw[h]at e;cases e
 |.tup ds,.int j,v,h,g=>by rw[DAtK]at h;rw[DAtK]at g;obtain⟨a,vs,e,_⟩:=h;rw[e]at g;cases g
 |.tup ds,.str y,v,h,g=>by rw[DAtK]at h;rw[DAtK]at g;obtain⟨a,vs,e,_⟩:=h;rw[e]at g;cases g
 | .tup ds,.tup es,v,h,g=>by
   rw[DAtK]at h;rw[DAtK]at g;obtain⟨a,vs,e1,h1,h2⟩:=h;obtain⟨b,ws,e2,g1,g2⟩:=g;rw[e1]at e2;cases e2;have e3:=I.tuple_inj h1.sq g1.sq;subst e3;rw[DAtsK.inj I h2 g2]
theorem DAtsK.inj{X:Cx}(I:Inv X Z Y H s):∀{ds es:List Dv}{vs:List V},DAtsK X.K H ds vs->DAtsK X.K H es vs->ds=es
 | [],[],vs,h,g=>rfl
 | [],e::es,vs,h,g=>by rw[DAtsK]at h;rw[DAtsK]at g;obtain⟨v,r,z,_⟩:=g;rw[h]at z;cases z
 |d::ds,[],vs,h,g=>by rw[DAtsK]at h;rw[DAtsK]at g;obtain⟨v,r,z,_⟩:=h;rw[g]at z;cases z
 | d::ds,e::es,vs,h,g=>by
   rw[DAtsK]at h;rw[DAtsK]at g;obtain⟨v,r,z,h1,h2⟩:=h;obtain⟨v',r',z',g1,g2⟩:=g;rw[z]at z';cases z';rw[DAtK.inj I h1 g1,DAtsK.inj I h2 g2]
end
end BB
namespace L2
open PySem PySem.Spec PySem.SeqAt PyProof.Rows BB
open Classical in
theorem pS[DecidableEq α]{Aa:List WV}{ds es:List α}(p1:s.1.IsTuple a its.toArray)(p2:s.1.IsTuple b Aa.toArray)(l1:its.length=ds.length)(l2:Aa.length=es.length)(hu:A.units<Zb)
 (ih:∀(j:Nat)(d e:α)(u v:WV),ds[j]?=A? d->es[j]?=A? e->its[j]?=A? u->Aa[j]?=A? v->EqAt A.in1 s u v (decide (d=e))):RcAt A s (.ref a) (.ref b) (decide (ds=es)):=by
 have Nz:RcAt A s (.ref a) (.ref b) ((Yr (min its.toArray.size Aa.toArray.size)).all (λj=>decide (ds[j]?=es[j]?)) && its.toArray.size == Aa.toArray.size):=by
  refine RcAt.tuples p1 p2 hu λj h1 h2=>?_;have CO:j<ds.length:=by rw[<-l1];simpa using h1
  have Dc:j<es.length:=by rw[<-l2];simpa using h2
  have e1:ds[j]?=A? ds[j]:=WQ CO;have e2:es[j]?=A? es[j]:=WQ Dc;have e3:decide (ds[j]?=es[j]?)=decide (ds[j]=es[j]):=by rw[e1,e2];simp
  have g1:its[j]?=A? its[j]:=WQ (by rw[l1];exact CO);have g2:Aa[j]?=A? Aa[j]:=WQ (by rw[l2];exact Dc);rw[e3];exact ih j ds[j] es[j] its[j] Aa[j] e1 e2 g1 g2
 have e:decide (ds=es)=((Yr (min its.toArray.size Aa.toArray.size)).all (λj=>decide (ds[j]?=es[j]?)) && its.toArray.size == Aa.toArray.size):=by
  rw[Xa,Xa,l1,l2];by_cases h:ds=es
  .subst h;rw[d! rfl];symm;simp
  .rw[c! h];symm;by_cases hl:ds.length=es.length
   .rw[hl,Nat.min_self]
    have:¬((Yr es.length).all (λj=>decide (ds[j]?=es[j]?)))=true:=by
     intro z;apply h;apply List.ext_getElem?;intro j;by_cases hj:j<es.length
     .exact e! (List.all_eq_true.mp z j (ZL.mpr hj))
     .rw[Yb (by lia),Yb (by lia)]
    rw[Bool.eq_false_iff.mpr this];rfl
   .have:(ds.length == es.length)=false:=by simpa using hl
    rw[this,Bool.and_false]
 rw[e];exact Nz
open Classical in
theorem iQ{X:Cx}(I:Inv X Z Y H s){es:List Dv}{vs ws:List V}(ha:SqT X.K H a vs)(hb:SqT X.K H b ws)(Cz:DAtsK X.K H ds vs)(Ax:DAtsK X.K H es ws)(hu:A.units<Zb)
 (ih:∀(j:Nat)(d e:Dv)(x y:V)(u v:WV),ds[j]?=A? d->DAtK X.K H d x->DAtK X.K H e y->RelV x u->RelV y v->EqAt A.in1 s u v (decide (d=e))):RcAt A s (.ref a) (.ref b) (decide (K! ds=K! es)):=by
 obtain⟨its,r1,p1,_⟩:=I.tuple ha;obtain⟨Aa,r2,p2,_⟩:=I.tuple hb;rw[show decide (K! ds=K! es)=decide (ds=es)from decide_eq_decide.mpr ⟨λz=>Dv.tup.inj z,λz=>h! _ z⟩];refine pS (show s.1.IsTuple a its.toArray from p1) (show s.1.IsTuple b Aa.toArray from p2) (by rw[<-r1.length,Cz.length]) (by rw[<-r2.length,Ax.length]) hu λj d e u v e1 e2 e3 e4=>?_;obtain⟨x',Bc,dx⟩:=Cz.at e1;obtain⟨y',C3,dy⟩:=Ax.at e2;obtain⟨u',BE,Fl⟩:=r1.get Bc;obtain⟨v',B4,DJ⟩:=r2.get C3;rw[BE]at e3;rw[B4]at e4;cases e3;cases e4;exact ih j d e x' y' _ _ e1 dx dy Fl DJ
open Classical in
theorem io{X:Cx}(I:Inv X Z Y H s):∀(n:Nat)(d e:Dv),d.tot<=n->∀(x y:V)(u v:WV)(A:XH),DAtK X.K H d x->DAtK X.K H e y->RelV x u->RelV y v->A.units+d.deep<Zb->EqAt A s u v (decide (d=e))
 |0,d,e,hn,x,y,u,v,A,hd,he,ru,rv,hu=>by have:=d.tot_pos;lia
 | n+1,.int i,.int j,hn,x,y,u,v,A,hd,he,ru,rv,hu=>by
   rw[DAtK]at hd;rw[DAtK]at he;subst hd he;obtain⟨t,rfl⟩:=ru;obtain⟨t',rfl⟩:=rv
   have e:decide (Dv.int i=Dv.int j)=(i == j):=by
    by_cases h:i=j
    .subst h;simp
    .rw[c! (λz=>h (Dv.int.inj z))];simp[h]
   rw[e];exact EqAt.int_int i t j t'
 | n+1,.int i,.str b,hn,x,y,u,v,A,hd,he,ru,rv,hu=>by
   rw[DAtK]at hd;rw[DAtK]at he;subst hd he;obtain⟨t,rfl⟩:=ru;obtain⟨t',rfl⟩:=rv;rw[c! (λz=>by cases z)];exact EqAt.int_str i t b t'
 | n+1,.int i,.tup es,hn,x,y,u,v,A,hd,he,ru,rv,hu=>by
   rw[DAtK]at hd;rw[DAtK]at he;obtain⟨a,vs,rfl,ha,_⟩:=he;subst hd;obtain⟨t,rfl⟩:=ru;cases rv;obtain⟨its,_,p,_⟩:=I.tuple (ha.sq);rw[c! (λz=>by cases z)];exact EqAt.int_tuple i t (show s.1.IsTuple a its.toArray from p) (by lia)
 | n+1,.str b,.int j,hn,x,y,u,v,A,hd,he,ru,rv,hu=>by
   rw[DAtK]at hd;rw[DAtK]at he;subst hd he;obtain⟨t,rfl⟩:=ru;obtain⟨t',rfl⟩:=rv;rw[c! (λz=>by cases z)];exact EqAt.str_int b t j t'
 | n+1,.str b,.str c,hn,x,y,u,v,A,hd,he,ru,rv,hu=>by
   rw[DAtK]at hd;rw[DAtK]at he;subst hd he;obtain⟨t,rfl⟩:=ru;obtain⟨t',rfl⟩:=rv
   have e:decide (Dv.str b=Dv.str c)=(b == c):=by
    by_cases h:b=c
    .subst h;simp
    .rw[c! (λz=>h (Dv.str.inj z))];simp[h]
   rw[e];exact EqAt.str_str b t c t'
 | n+1,.str b,.tup es,hn,x,y,u,v,A,hd,he,ru,rv,hu=>by
   rw[DAtK]at hd;rw[DAtK]at he;obtain⟨a,vs,rfl,ha,_⟩:=he;subst hd;obtain⟨t,rfl⟩:=ru;cases rv;obtain⟨its,_,p,_⟩:=I.tuple (ha.sq);rw[c! (λz=>by cases z)];exact EqAt.str_tuple b t (show s.1.IsTuple a its.toArray from p) (by lia)
 | n+1,.tup ds,.int j,hn,x,y,u,v,A,hd,he,ru,rv,hu=>by
   rw[DAtK]at hd;rw[DAtK]at he;obtain⟨a,vs,rfl,ha,_⟩:=hd;subst he;cases ru;obtain⟨t,rfl⟩:=rv;obtain⟨its,_,p,_⟩:=I.tuple (ha.sq);rw[c! (λz=>by cases z)];exact EqAt.tuple_int j t (show s.1.IsTuple a its.toArray from p) (by lia)
 | n+1,.tup ds,.str b,hn,x,y,u,v,A,hd,he,ru,rv,hu=>by
   rw[DAtK]at hd;rw[DAtK]at he;obtain⟨a,vs,rfl,ha,_⟩:=hd;subst he;cases ru;obtain⟨t,rfl⟩:=rv;obtain⟨its,_,p,_⟩:=I.tuple (ha.sq);rw[c! (λz=>by cases z)];exact EqAt.tuple_str b t (show s.1.IsTuple a its.toArray from p) (by lia)
 | n+1,.tup ds,.tup es,hn,x,y,u,v,A,hd,he,ru,rv,hu=>by
   have Ep:=hd;have Iv:=he;rw[DAtK]at hd;rw[DAtK]at he;obtain⟨a,vs,rfl,ha,Cz⟩:=hd;obtain⟨b,ws,rfl,hb,Ax⟩:=he;cases ru;cases rv;by_cases D3:a=b
   .subst D3;rw[d! (DAtK.inj I Ep Iv)];exact EqAt.same _
   rw[Dv.tot]at hn;rw[I!]at hu;refine EqAt.of_refs D3 (iQ I ha.sq hb.sq Cz Ax (by lia) λj d e x' y' u' v' e1 dx dy Fl DJ=>?_);have q1:=re e1;have q2:=dD e1;refine io I n d e (by lia) x' y' u' v' A.in1 dx dy Fl DJ ?_;show A.units+1+_<Zb;lia
end L2
namespace BB
open PySem PySem.Spec PyProof.Rows L2
mutual
theorem DAt.inj:∀{d e:Dv}{v:V},DAt H d v->DAt H e v->d=e
 |.int i,.int j,v,h,g=>by rw[DAt]at h;rw[DAt]at g;rw[h]at g;cases g;rfl
 |.int i,.str y,v,h,g=>by rw[DAt]at h;rw[DAt]at g;rw[h]at g;cases g
 |.int i,.tup es,v,h,g=>by rw[DAt]at h;rw[DAt]at g;obtain⟨a,vs,e,_⟩:=g;rw[h]at e;cases e
 |.str x,.int j,v,h,g=>by rw[DAt]at h;rw[DAt]at g;rw[h]at g;cases g
 |.str x,.str y,v,h,g=>by rw[DAt]at h;rw[DAt]at g;rw[h]at g;cases g;rfl
 |.str x,.tup es,v,h,g=>by rw[DAt]at h;rw[DAt]at g;obtain⟨a,vs,e,_⟩:=g;rw[h]at e;cases e
 |.tup ds,.int j,v,h,g=>by rw[DAt]at h;rw[DAt]at g;obtain⟨a,vs,e,_⟩:=h;rw[e]at g;cases g
 |.tup ds,.str y,v,h,g=>by rw[DAt]at h;rw[DAt]at g;obtain⟨a,vs,e,_⟩:=h;rw[e]at g;cases g
 | .tup ds,.tup es,v,h,g=>by
   rw[DAt]at h;rw[DAt]at g;obtain⟨a,vs,e1,h1,h2⟩:=h;obtain⟨b,ws,e2,g1,g2⟩:=g;rw[e1]at e2;cases e2;rw[h1]at g1;cases g1;rw[DAts.inj h2 g2]
theorem DAts.inj:∀{ds es:List Dv}{vs:List V},DAts H ds vs->DAts H es vs->ds=es
 | [],[],vs,h,g=>rfl
 | [],e::es,vs,h,g=>by rw[DAts]at h;rw[DAts]at g;obtain⟨v,r,z,_⟩:=g;rw[h]at z;cases z
 |d::ds,[],vs,h,g=>by rw[DAts]at h;rw[DAts]at g;obtain⟨v,r,z,_⟩:=h;rw[g]at z;cases z
 | d::ds,e::es,vs,h,g=>by
   rw[DAts]at h;rw[DAts]at g;obtain⟨v,r,z,h1,h2⟩:=h;obtain⟨v',r',z',g1,g2⟩:=g;rw[z]at z';cases z';rw[DAt.inj h1 g1,DAts.inj h2 g2]
end
end BB
namespace L2
open PySem PySem.Spec PySem.SeqAt PyProof.Rows BB
open Classical in
theorem nH{X:Cx}(I:Inv X Z Y H s):∀(n:Nat)(d e:Dv),d.tot<=n->∀(x y:V)(u v:WV)(A:XH),DAt H d x->DAt H e y->RelV x u->RelV y v->A.units+d.deep<Zb->EqAt A s u v (decide (d=e)):=λn d e hn x y u v A hd he=>io I n d e hn x y u v A hd.k he.k
def zh(B:Nat):R2:=λx y H Q=>∃ds es,DAt H (.tup ds) x/\DAt H (.tup es) y/\bw ds<=B/\∀b:Bool,(b=C?↔ds=es)->Q (.bl b) H
open Classical in
theorem x9{X:Cx}{B:Nat}(hu:X.A.units+B+2<Zb):OpR X (Zf .Eq) (zh B):=by
 intro Z s Y H x y v u Q I rx ry h;obtain⟨ds,es,hd,he,hB,q⟩:=h;rw[DAt]at hd;rw[DAt]at he;obtain⟨a,vs,rfl,ha,Cz⟩:=hd;obtain⟨b,ws,rfl,hb,Ax⟩:=he;cases rx;cases ry
 have r:RcAt X.A s (.ref a) (.ref b) (decide (K! ds=K! es)):=iQ I (l! ha) (l! hb) Cz.k Ax.k (by lia) λj d e x' y' u' v' e1 dx dy Fl DJ=>by
  have q2:=dD e1;refine io I _ d e (W0 _) x' y' u' v' X.A.in1 dx dy Fl DJ ?_;show X.A.units+1+_<Zb;lia
 refine r X.prog X.w X.xe _ ⟨.bl (decide (K! ds=K! es)),H,I,rfl,q _ ?_⟩;constructor
 .intro z;exact Dv.tup.inj (e! z)
 .intro z;rw[z];exact d! rfl
def zx(K:WW)(B:Nat):R2:=λx y H Q=>∃a b vs ws ds es,x=.ref a/\y=.ref b/\SqT K H a vs/\SqT K H b ws/\DAts H ds vs/\DAts H es ws/\bw ds<=B/\∀b:Bool,(b=C?↔ds=es)->Q (.bl b) H
open Classical in
theorem yo{X:Cx}{B:Nat}(hu:X.A.units+B+2<Zb):OpR X (Zf .Eq) (zx X.K B):=by
 intro Z s Y H x y v u Q I rx ry h;obtain⟨a,b,vs,ws,ds,es,rfl,rfl,ha,hb,Cz,Ax,hB,q⟩:=h;cases rx;cases ry
 have r:RcAt X.A s (.ref a) (.ref b) (decide (K! ds=K! es)):=iQ I ha hb Cz.k Ax.k (by lia) λj d e x' y' u' v' e1 dx dy Fl DJ=>by
  have q2:=dD e1;refine io I _ d e (W0 _) x' y' u' v' X.A.in1 dx dy Fl DJ ?_;show X.A.units+1+_<Zb;lia
 refine r X.prog X.w X.xe _ ⟨.bl (decide (K! ds=K! es)),H,I,rfl,q _ ?_⟩;constructor
 .intro z;exact Dv.tup.inj (e! z)
 .intro z;rw[z];exact d! rfl
end L2
namespace BB
open PySem L2
end BB
namespace PySem
theorem bb_extendT(l:WS)(items:Array WV)(n:Nat)(b:WS)(BK:Array WV)(n2:Nat)(dd:Option WS)(sl:Array (Option WV))(g0:¬(!items.isEmpty && Y9 (items.size+BK.size))=C?)(g1:items.size<=Xi)(g2:items.size+BK.size<=Xi+1) :
 Meets (YZ.«list.extend» ⟨[.ref l,.ref b],[]⟩) (λ_ R s=>s.1.get? l=A? {cls:=.type "list",dict:=B?,data:=.seq items n,slots:=#[]}/\s.1.get? b=A? {cls:=.type "tuple",dict:=dd,data:=.seq BK n2,slots:=sl}/\R (.ok (.ret Yp)) {s with heap:=s.1.update l (Zh λx=>x++BK),toks:=s.toks}) :=
 .of_wp λprog w A R s h=>by
  obtain⟨hp,g,d,tk,os⟩:=s;obtain⟨hl,hb,h⟩:=h;have f1:=AutoSeq1.idx_int;have f2:=AutoSeq1.sub_tuple_tuple;have f3:=AutoSeq1.sub_list_list;have f4:=AutoSeq1.sub_tuple_list;have f5:=AutoSeq1.sub_list_tuple;have z2:(items++BK).size<=Xi+1:=by rw[Array.size_append];exact g2
  wp_walk using(wpAny_updateSeq hl rfl (hz:=g1) (_hz':=z2)),Za hl,Za hb
  exact⟨_,Dn,h⟩
end PySem
namespace L2
open PySem PySem.Spec PyProof.Rows
section
variable{X:Cx}
def vp(K:WW):V->List V->Hp->VK->Prop:=λx vs H Q=>∃l b xs zs,x=.ref l/\vs=[.ref b]/\H l=A? (.lst xs)/\SqT K H b zs/\xs.length+zs.length<=Xi/\Q .non (upd H l (.lst (xs++zs)))
theorem kG:MtM X "list.extend" (vp X.K):=by
 intro Z s Y H x vs v us Q I rx rv h;obtain⟨l,b,xs,zs,rfl,rfl,hH,hB,hz,q⟩:=h;cases rx;obtain⟨u,rfl,ru⟩:=rv.one;cases ru;obtain⟨z,its,n,r,hl,e⟩:=I.lstM hH;obtain⟨Aa,r2,p2,_⟩:=I.tuple hB;have BC:=r2.length;obtain⟨⟨Ju,Iq,data2,Ir⟩,e2,Dr,n2,hd2⟩:=p2;simp only at Dr hd2;subst Dr hd2;have hsz:its.toArray.size+Aa.toArray.size<=Xi:=by rw[Xa,Xa];lia
 have Cs:¬(!its.toArray.isEmpty && Y9 (its.toArray.size+Aa.toArray.size))=true:=by
  rw[kA hsz,Bool.and_false];exact Xq
 refine call_meets F.slot_list_extend ⟨_,e,rfl⟩ F.entry_list_extend (F.args_list_extend_2 _ _)
  (bb_extendT l its.toArray n b Aa.toArray n2 Iq Ir Cs (by rw[Xa];lia) (by lia)) ⟨e,e2,?_⟩
 refine⟨.non,_,I.lset (its':=its++Aa) hH e (by simp) (r.append r2) ?_,Dn,q⟩;rw[W4];lia
theorem sL{bs:List Bool}(r:Vals (bs.map V.bl) its){v:WV}(h:its[i]?=A? v):∃b,bs[i]?=A? b/\v=.bool b:=by
 have hl:=r.length;have hi:i<its.length:=(glE h);rw[WO]at hl;obtain⟨u,hu,ru⟩:=r.get (i:=i) (x:=.bl bs[i]) (by rw[Xd,WQ (by lia)];rfl);rw[h]at hu;cases hu;cases ru;exact⟨_,WQ (by lia),Dn⟩
def zw(K:WW):List V->Hp->VK->Prop:=λxs H Q=>∃(p:WS)(bs:List Bool),xs=[.ref p]/\SqL K H p (bs.map V.bl)/\Q (.bl (bs.all id)) H
theorem vi(hc:X.calm=C?):dm X (.builtin "all") (zw X.K):=by
 intro Z s Y H xs us Q I r h;obtain⟨p,bs,rfl,hl,q⟩:=h;obtain⟨u,rfl,rx⟩:=vals1 r;cases rx;obtain⟨its,rv,pl,_⟩:=I.list hl;have hlen:=rv.length;rw[WO]at hlen;have Ad:p<s.1.1.size:=by obtain⟨_,_,e,_⟩:=pl;exact Xe e
 refine call_all_walk (wpAny_pyIter_list pl.isList ?_);refine⟨s.1.1.size,[s.1.1.size,p],[s.1.1.size],its.toArray.size,_,_,λi=>(bs[i]?).getD C?,Dn,Walks.list (A:=X.A.in1) (I.ok.hd hc) _ p (XF Ad) its.toArray,⟨⟨_,W3 _ rfl,Dn,Dn⟩,pl.isList.push _⟩,λi v s' Q' E' hP hQ=>?_,λh' tk hk=>?_⟩
 .obtain⟨b,e,rfl⟩:=sL rv (i:=i) (v:=v) (by simpa using hP);simp only[e,Option.getD_some]at hQ;exact ZH hQ
 .have e:((Yr its.toArray.size).all λi=>(bs[i]?).getD C?)=bs.all id:=by
   rw[Xa,<-hlen];exact LSm.range_all bs
  rw[e];exact⟨.bl (bs.all id),H,I.kept (LSm.kept_iter hk),Dn,q⟩
end
end L2
namespace BB
open PySem L2
theorem fk:∀a b:List Th,aB (a++b)=max (aB a) (aB b)
 | [],b=>by rw[ZV,aB];lia
 |t::a,b=>by rw[YC,aB,aB,fk a b];lia
def bi(ts:List Th):List Th:=(ts.map Th.kids).flatten
theorem cK(t:Th)(ts:List Th):bi (t::ts)=t.kids++bi ts:=by unfold bi;rw[XG,List.flatten_cons]
theorem fO(a b:List Th):bi (a++b)=bi a++bi b:=by unfold bi;rw[W5,List.flatten_append]
theorem eL:∀ts:List Th,ar (bi ts)+ts.length=ar ts
 | []=>by rfl
 | t::ts=>by
   have:=eL ts;have:=t.size_eq;rw[cK,aO,W8,ar];lia
theorem gY:∀{ts:List Th},ts≠[]->aB ts=aB (bi ts)+1
 | [],h=>g! rfl h
 | [t],_=>by
   have:=t.tall_eq;rw[cK,fk,aB,aB];have:aB (bi [])=0:=by unfold bi;rw[YS,List.flatten_nil,aB]
   lia
 | t::u::ts,_=>by
   have h:=gY (ts:=u::ts) (by simp);have:=t.tall_eq;rw[cK,fk,aB];lia
def star:Xj:=W6 "*"
theorem uC(h:Low x):x≠star:=by
 intro e;subst e;have:=h 42 (by decide +kernel);lia
open Classical in
def Th.isHole:Th->Bool
 |.knot n ks=>decide (n=star/\ks=[])
 |.call _ _=>D?
def Th.isKnot(t:Th):Bool:=!t.isCall && !t.isHole
theorem gL:∀(n:Nat)(ts:List Th),ar ts<=n->∀x∈walks ts,x.tall<=aB ts
 |_,[],_,x,h=>by simp[walks]at h
 | 0,t::ts,hn,x,h=>by
   have:=t.size_pos;rw[ar]at hn;lia
 | n+1,t::ts,hn,x,h=>by
   have hs:=t.size_eq;have ht:=t.tall_eq;rw[ar]at hn;rw[aB];rw[walks,t.walk_eq,YC,Xc,W7]at h;rcases h with rfl|h|h
   .lia
   .have:=gL n t.kids (by lia) x h;lia
   .have:=gL n ts (by lia) x h;lia
theorem tm(t x:Th)(h:x∈t.walk):x.tall<=t.tall:=by
 have:=gL _ [t] (W0 _) x (by simpa[walks]using h);simpa[aB]using this
end BB
open BB.Th renaming isKnot->D!
namespace PySem
open Sem (wp)
namespace F
theorem bb_entry_upd:entryFor table "dict.update.loop"=A? YZ.«dict.update.loop»:=entryFor_of_tree (by kernel_rfl)
theorem bb_plain_upd:plainId "dict.update.loop"=true:=by decide +kernel
end F
section
variable{xs:Array WV}{k:Nat}
end
end PySem
open PySem.F renaming bb_plain_upd->u!,bb_entry_upd->E!
namespace L2
open PySem PySem.Spec PyProof.Rows BB
section
variable{X:Cx}
end
end L2
namespace BB
open PySem L2
end BB
namespace HT
open PySem PySem.Spec PyProof.Rows
theorem getItem_tuple_whole{t:WS}(ht:IsTup s.1 t items)(hs:s.1.IsSliceOf sl vl vu .none)(pl:IsPart vl lo)(pu:IsPart vu hi)
 (hw:sIx items.size 0 lo=0/\sIx items.size items.size hi=items.size) (h:Q (.ref t) s):Xf (Xx prog w) A (getItem (.ref t) (.ref sl)) Q E s:=by
 obtain⟨os,Bi,BW,Bq⟩:=id hs;have Jv:s.TypeIs (.ref sl) "slice":=⟨os,Bi,BW⟩;have hT:s.TypeIs (.ref t) "tuple":=ht.typeIs;unfold getItem
 try with_reducible refine Yn ?_
 first|refine WN (WX ?_)|skip
 refine WN (wpAny_sequenceKey ht.typeIs (by decide) ?_)
 refine WN (XS (name:=W6 "__getitem__") ht.typeIs XM
  (XY XM ht.typeIs entry_tuple_getitem ?_ (args_tuple_getitem _ _)))
 show Xf _ _ (Builtin.Tuple.tupleItemsOf (.ref t) >>= _) _ _ s;refine WN (tupleItemsOf_ ht ?_);refine WN (Zs Jv ?_);rw[b! (by decide)];refine WN (sliceApplied_gen hs pl pu ?_)
 have NA:(((sIx items.size 0 lo:Nat):Int) == 0 && (1:Int) == 1 && (sIx items.size items.size hi - sIx items.size 0 lo) == items.size)=true:=by
  rw[hw.1,hw.2];simp
 show Xf _ _ (if(((sIx items.size 0 lo:Nat):Int) == 0 && (1:Int) == 1 && (sIx items.size items.size hi - sIx items.size 0 lo) == items.size)=C? then _ else _) _ _ s;rw[b! NA];refine WN (m:=Builtin.Tuple.tupleIsExact _) ?_;unfold Builtin.Tuple.tupleIsExact;refine WN (Zs hT (WX ?_));rw[b! (by decide)];exact WN (wpAny_rule (WX ⟨_,rfl,WX h⟩))
end HT
namespace L2
open PySem PySem.Spec PyProof.Rows
inductive xb(x:V)(lo:Option Int)(hi:Option Int)(H:Hp)(Q:VK):Prop
 |mk (a:_) (xs:_) (BR:x=.ref a) (BS:H a=A? (.tup xs)) (CZ:∀p H',Same H H'->H' p=A? (.tup (cH xs lo hi))->Q (.ref p) H'):xb  x lo hi H Q
def zN:V->Option Int->Option Int->Hp->VK->Prop:=xb
theorem jS{X:Cx}:SlR X zN:=by
 intro Z s Y H x v vl vu lo hi sl Q I rx hs pl pu h;obtain⟨a,xs,rfl,ha,q⟩:=h;by_cases hw:t! xs.length 0 lo=0/\t! xs.length xs.length hi=xs.length
 .obtain⟨its,r,p1,hz⟩:=I.tuple (l! (K:=X.K) ha);have hl:=r.length;cases rx
  have e:cH xs lo hi=xs:=by
   unfold cH;rw[hw.1,hw.2,Yw,Nat.sub_zero,Zi]
  refine⟨"tuple",_,XM.lookup,p1.typeIs,HT.getItem_tuple_whole p1 hs pl pu (by rw[Xa,<-hl];exact hw) ⟨.ref a,H,I,Dn,q a H (.refl _) (by rw[e];exact ha)⟩⟩
 .exact fJ Z s Y H _ v vl vu lo hi sl Q I rx hs pl pu ⟨a,xs,rfl,l! ha,hw,λp hp=>q p _ (am hp _) ae⟩
end L2
namespace PySem
open Sem (wp)
section
variable{od:YF}{es:Array DictEntry}
theorem bb_keyNext{en:DictEntry}{Q:Option WV->WZ->Prop}(g:s.1.IsKeyIter it d i es.size ep)(g1:s.1.get? d=A? od)(g2:od.data=.dict es ep)(hx:es[i]?=A? en)
 (fin:∀h',h'.IsKeyIter it d (i+1) es.size ep->X1 it s.1 h'->Q (A? en.key) {s with heap:=h'}):Xf (Xx prog w) A (Zw (.ref it)) Q E s:=by
 obtain⟨o,q1,q2,q3⟩:=id g;unfold Zw;refine WN (ZO (XS (name:=W6 "__next__") g.typeIs Zj (XY Zj g.typeIs F.entry_dict_keyiterator_next ?_ (F.args_dict_keyiterator_next_1 _))));refine WN (WX ?_);refine WN ?_;refine WN ?_
 first|refine WN (Z2 g.typeIs (WX ?_))|refine WN (wpAny_typeNameOf_keyiter g.typeIs (WX ?_))
 refine WN (wpAny_fieldsOf q1 q3 ?_);have own:Zk "dict_keyiterator"=false:=by decide
 simp only[own,YX,if_false];show Xf _ _ (if(XI d == Yp)=C? then _ else _) _ _ s;rw[a! (show¬((XI d == Yp)=C?)from Xq)];refine WN (WX ?_);refine WN (Ze g1 g2 ?_);rw[a! (by simp)];refine WN (WX ?_);refine WN (wpAny_dictEpoch g1 g2 ?_);rw[a! (by simp)];refine WX ?_;have lt:i<es.size:=(Zn.mp hx).1;have ee:es[i]=en:=(Zn.mp hx).2;simp only[show¬((i:Int)<0)from by lia,if_false,Yj,Array.getElem?_eq_getElem lt];refine WN ?_
 first|refine WN (Z2 g.typeIs (WX ?_))|refine WN (wpAny_typeNameOf_keyiter g.typeIs (WX ?_))
 refine WN (wpAny_isOneOf_keyiter g.typeIs ?_);show Xf _ _ (setField (.ref it) 1 (YJ ((i:Int)+1)) >>= _) _ _ s;refine WN (ZT q1 q3 (by simp) ?_);have g':(s.1.update it (Obj.mapFields (·.setIfInBounds 1 (YJ ((i:Int)+1))))).IsKeyIter it d (i+1) es.size ep:=⟨_,Yt _ q1 (Obj.isFreed_of_fields (Y6 q3 _)),(Obj.cls_mapFields ..).trans q2,by rw[Y6 q3];simp[YJ]⟩;refine WN (Yn ?_);refine WN (wpAny_isOneOf_keyiter (s:={s with heap:=s.1.update it (Obj.mapFields (·.setIfInBounds 1 (YJ ((i:Int)+1))))}) g'.typeIs ?_);show Xf _ _ (pure es[i].key) _ _ _;rw[ee];exact WX (WX ⟨_,rfl,WX (fin _ g' (YM ..))⟩)
theorem bb_keyEnd{Q:Option WV->WZ->Prop}(calm:A.handled=B?)(g:s.1.IsKeyIter it d i es.size ep)(g1:s.1.get? d=A? od)(g2:od.data=.dict es ep)(hx:es.size<=i)
 (fin:∀h',Heap.ExtBut it s.1 h'->Q B? {s with heap:=h'}):Xf (Xx prog w) A (Zw (.ref it)) Q E s:=by
 obtain⟨o,q1,q2,q3⟩:=id g;unfold Zw;refine WN (ZO (XS (name:=W6 "__next__") g.typeIs Zj (XY Zj g.typeIs F.entry_dict_keyiterator_next ?_ (F.args_dict_keyiterator_next_1 _))));refine WN (WX ?_);refine WN ?_;refine WN ?_
 first|refine WN (Z2 g.typeIs (WX ?_))|refine WN (wpAny_typeNameOf_keyiter g.typeIs (WX ?_))
 refine WN (wpAny_fieldsOf q1 q3 ?_);have own:Zk "dict_keyiterator"=false:=by decide
 simp only[own,YX,if_false];show Xf _ _ (if(XI d == Yp)=C? then _ else _) _ _ s;rw[a! (show¬((XI d == Yp)=C?)from Xq)];refine WN (WX ?_);refine WN (Ze g1 g2 ?_);rw[a! (by simp)];refine WN (WX ?_);refine WN (wpAny_dictEpoch g1 g2 ?_);rw[a! (by simp)];refine WX ?_;simp only[show¬((i:Int)<0)from by lia,if_false,Yj,Array.getElem?_eq_none hx];refine WN ?_
 first|refine WN (Z2 g.typeIs (WX ?_))|refine WN (wpAny_typeNameOf_keyiter g.typeIs (WX ?_))
 show Xf _ _ (setField (.ref it) 0 .none >>= _) _ _ s;refine WN (ZT q1 q3 (by simp) ?_);show Xf _ _ (newExc (.type "StopIteration") [] >>= _) _ _ _;refine WN ?_;simp only[newExc,newTuple];refine WN (XO ?_ (by size_fits));refine WN (m:=ZU _ _) (wpAny_of_eq (a:=Yp) (by first|rfl|(simp only[ZU];rfl)) ?_);refine XO ?_ (by size_fits);simp only[raiseNew];refine WN (wpAny_handled ?_)
 first|rw[show A.in1.handled=B? from calm]|rw[calm]
 refine WN (WX (wpAny_throw ?_));refine WN (wpAny_isInstance (T:="StopIteration") (b:=C?) ⟨_,W3 _ rfl,rfl⟩ isSubtype_stop ?_);exact WX (fin _ (((YM ..).extBut.push _).push _))
theorem bb_keyIter(ns:(d == YD)=D?)(g1:s.1.get? d=A? od)(gc:od.cls=.type "dict")(g2:od.data=.dict es ep)
 (fin:Q (.ref s.1.1.size) {s with heap:=s.1.push {cls:=.type "dict_keyiterator",data:=.fields #[.ref d,.int 0 0,.int es.size 0,.int ep 0]}}):Xf (Xx prog w) A (pyIter (.ref d)) Q E s:=by
 have gT:s.TypeIs (.ref d) "dict":=⟨_,g1,gc⟩;refine wpAny_pyIter_slot gT F.slot_dict_iter (XY F.slot_dict_iter gT F.entry_dict_iter ?_ (F.args_dict_iter_1 _));unfold YZ.«dict.__iter__»;refine WN ?_;unfold Builtin.Dict.dictSlotNone;refine WN (wpAny_notOrdered_dict gT ?_);show Xf _ _ (pure (XI d)) _ _ s;refine WX ?_;show Xf _ _ (Builtin.Dict.showsAll d >>= _) _ _ s;unfold Builtin.Dict.showsAll;rw[a! (by rw[ns];exact Xq)];refine WN (WX ?_);refine WN (Ze g1 g2 ?_);refine WN (wpAny_dictEpoch g1 g2 ?_);refine WN (XO (WX ⟨_,rfl,"dict_keyiterator",_,⟨_,W3 _ rfl,rfl⟩,Zj.lookup,?_⟩));simpa[YJ]using fin
end
end PySem
namespace L2
open PySem PySem.Spec PyProof.Rows
theorem Inv.freeze{X:Cx}{o:YF}(I:Inv X Z Y H s)(ha:H a=A? (.dT kvs))(ho:s.1.get? a=A? o):Inv X Z Y (upd H a (.frz o (.dT kvs))) s:=by
 have ne:∀b u,H b=A? u->u≠.dT kvs->b≠a:=λb u e d z=>by rw[z,ha]at e;exact d (Xh e).symm
 have ht:∀b xs,H b=A? (.tup xs)->upd H a (.frz o (.dT kvs)) b=A? (.tup xs):=λb xs e=>by rw[af (ne b _ e (by intro z;cases z))];exact e
 have hw:∀c b,H b=A? (.own c)->upd H a (.frz o (.dT kvs)) b=A? (.own c):=λc b e=>by rw[af (ne b _ e (by intro z;cases z))];exact e
 have st:∀b u,H b=A? u->ObjOk X.prog X.w (upd H a (.frz o (.dT kvs))) s.1 b u:=λb u e=>(I.hok b u e).stay (λ_ _ _ q=>q) (hw b) ht;refine I.step (g':=s.gens) (d':=s.drawn) (t':=s.toks) (ch:=[]) (λ_ z=>nomatch z) (λb ob _ _ _ e _=>e) (λb ob _ _ _ e _=>⟨ob.slots,e⟩) (λb ob _ e n=>?_) (λb ob _ e=>⟨ob,e⟩) ht (λb ob u e=>?_) (λb ps e=>⟨#[],?_⟩) (λm hm=>hm) (λb u e=>?_) I.bare
 .rw[af (λz=>by rw[z,ha]at n;cases n)];exact n
 .rw[af (ne b _ e (by intro z;cases z))];exact e
 .rw[af (ne b _ e (by intro z;cases z)),e];simp
 .by_cases hb:b=a
  .subst hb;rw[ae]at e;cases e;exact⟨ho,st _ _ ha⟩
  .rw[af hb]at e;exact st b u e
def ItD(a:WS)(o:YF):It:=⟨λi H=>∃kvs p,H a=A? (.frz o (.dT kvs))/\kvs[i]?=A? p,λi H x H'=>H'=H/\∀kvs,H a=A? (.frz o (.dT kvs))->∃p b,kvs[i]?=A? p/\x=.ref b/\H b=A? (.tup (p.1.map kV)),λi H=>∃kvs,H a=A? (.frz o (.dT kvs))/\kvs.length=i⟩
theorem sy(a it:WS)(o:YF)(es:Array DictEntry)(ep:Nat)(hd:o.data=.dict es ep):Turn P w K tg (ItD a o) [it] it (λi h=>h.IsKeyIter it a i es.size ep) where
 mem:=by simp
 obj:=λi h st b hb=>by
  have e:b=it:=by simpa using hb
  subst e;obtain⟨ob,e,c,d⟩:=st;exact⟨ob,e,λv z=>by rw[d]at z;cases z⟩
 keep:=λi h h' st k=>st.at λob e=>k it (by simp) ob e
 item:=by
  walk_at"a";obtain⟨kvs,p,hq,hx⟩:=hg;obtain⟨e0,z,y,xs,r,o',F5,F6,h1,h2,h3,h4,h5⟩:=(show ObjOk X.prog X.w H s.1 a (.frz o (.dT kvs))from I.hok a _ hq);rw[e0]at h1;cases h1;rw[hd]at h3;cases h3;obtain⟨q',Fe,hr⟩:=x! r hx;have Iw:es[i]?=A? (entryOfKey (tupleKind (aU X.prog X.w)) q'):=by rw[<-Z1,h4,Xd,Fe];rfl
  obtain⟨f0,f1,f2,f3,f4,f5⟩:=hf it (by simp);refine bb_keyNext st e0 hd Iw λh' Bt sb=>?_;have I1:Inv X Z Y H {s with heap:=h'}:=I.turned (t':=s.toks) (λb ob hb e=>(sb.2 b hb).trans e) f0 f1 f3 f4 f5;obtain⟨ob,e,c,d⟩:=id Bt;refine⟨_,Dn,j4 (s:={s with heap:=h'}) e c d (by decide) ⟨.ref q'.2.1,H,I1,Dn,⟨Dn,λUA Bw=>?_⟩,Bt,λb hb=>(hf b hb).1⟩⟩;rw[hq]at Bw;cases Bw;exact⟨p,q'.2.1,hx,Dn,hr.2.1⟩
 done:=by
  walk_at"a";obtain⟨kvs,hq,hx⟩:=hg;obtain⟨e0,z,y,xs,r,o',F5,F6,h1,h2,h3,h4,h5⟩:=(show ObjOk X.prog X.w H s.1 a (.frz o (.dT kvs))from I.hok a _ hq);rw[e0]at h1;cases h1;rw[hd]at h3;cases h3;have hl:=W9 r
  have BC:es.size=xs.length:=by
   have:=h! Y3 h4;rw[WO,Xr]at this;exact this
  obtain⟨f0,f1,f2,f3,f4,f5⟩:=hf it (by simp);exact bb_keyEnd (I.ok.hd hc) st e0 hd (by lia) λh' eb=>⟨rfl,I.turned (t':=s.toks) (λb ob hb e=>eb b ob hb e) f0 f1 f3 f4 f5⟩
 self:=λ_ _ _ _ _ st h=>wpAny_pyIter_keyiter st h
section
variable{X:Cx}
def yW(tl:TE):TI:=λY H R=>tl Y H λx H1=>∃a kvs,x=.ref a/\H1 a=A? (.dT kvs)/\∀o,R (ItD a o) (upd H1 a (.frz o (.dT kvs)))
theorem vG(he:PE X e te):PI X tg e (yW te):=by
 intro Z s Y H R I h;refine thn (he Z s Y H _ I h) λv s1⟨x,H1,I1,r1,a,kvs,ex,ha,q⟩=>?_;subst ex;cases r1;obtain⟨z,y,xs,r,o,es,ep,h1,h2,h3,h4,h5⟩:=(show ObjOk X.prog X.w H1 s1.1 a (.dT kvs)from I1.hok a _ ha);have I2:=I1.freeze ha h1;refine bb_keyIter y h1 h2.1 h3 ?_;refine⟨s1.1.1.size,[s1.1.1.size],_,_,upd H1 a (.frz o (.dT kvs)),Dn,I2.kept (t':=s1.toks) λb ob e=>WU _ e,sy a _ o es ep h3,⟨_,W3 _ rfl,Dn,Dn⟩,λb hb=>?_,q o⟩;have e:b=s1.1.1.size:=by simpa using hb
 subst e;exact I2.fpOk (W0 _) (I2.hok.fresh (W0 _))
theorem ux{o:YF}(Pv:Nat->St->Hp->Prop)(h0:Pv 0 Y H)(hl:∀i Y H,i<=kvs.length->Pv i Y H->H a=A? (.frz o (.dT kvs)))
 (hs:∀i p b Y H,kvs[i]?=A? p->H b=A? (.tup (p.1.map kV))->Pv i Y H->g (.ref b) Y H λAg H2=>tb {D with nx:=Pv (i+1),ct:=Pv (i+1),bk:=D.nx} Ag H2) (hd:∀Y H,Pv kvs.length Y H->D.nx Y H) :
 ∃W:Nat->Nat->St->Hp->Prop,(∃m,W 0 m Y H)/\∀i m Y H,W i m Y H ->
   ((ItD a o).stop i H/\D.nx Y H)\/((ItD a o).go i H/\∃N:St->Hp->Prop,(∀l' H',N l' H'->∃m',m'<m/\W (i+1) m' l' H')/\∀x H',(ItD a o).yld i H x H'->g x Y H' λAg H2=>tb {D with nx:=N,ct:=N,bk:=D.nx} Ag H2):=by
 refine⟨λi m Y H=>m=kvs.length - i/\i<=kvs.length/\Pv i Y H,⟨kvs.length,by simp,XA _,h0⟩,?_⟩;rintro i m Y H ⟨rfl,hi,p⟩;have q:=hl i Y H hi p;by_cases Ad:i<kvs.length
 .refine .inr ⟨⟨kvs,kvs[i],q,WQ Ad⟩,Pv (i+1),λl' H' p'=>⟨kvs.length - (i+1),by lia,rfl,Ad,p'⟩,λx H' y=>?_⟩;obtain⟨e,y⟩:=y;subst e;obtain⟨p1,b,e1,rfl,e2⟩:=y kvs q;exact hs i p1 b Y _ e1 e2 p
 .have e:i=kvs.length:=by lia
  subst e;exact .inl ⟨⟨kvs,q,rfl⟩,hd Y H p⟩
end
end L2
namespace BB
open PySem L2
inductive Top where
 |nm (n:Xj) (m:Nat)
 |th (t:Th)
def bl:List Top->List Th
 | []=>[]
 |.nm n m::S=>.knot n ((bl S).take m)::(bl S).drop m
 |.th t::S=>t::bl S
def TopsOk:List Top->Prop
 | []=>True
 |.nm _ m::S=>m<=(bl S).length/\TopsOk S
 |.th _::S=>TopsOk S
theorem TopsOk.drop:∀{l:List Top}(i:Nat),TopsOk l->TopsOk (l.drop i)
 |l,0,h=>by rw[Yw];exact h
 | [],i+1,h=>by rw[List.drop_nil];exact h
 | .nm n m::S,i+1,h=>by
   rw[TopsOk]at h;rw[List.drop_succ_cons];exact TopsOk.drop i h.2
 | .th t::S,i+1,h=>by
   rw[TopsOk]at h;rw[List.drop_succ_cons];exact TopsOk.drop i h
theorem nT:∀l:List Top,(bl l).length<=l.length
 | []=>W0 _
 | .nm n m::S=>by
   have:=nT S;rw[bl,W8,W8,XJ];lia
 | .th t::S=>by
   have:=nT S;rw[bl,W8,W8];lia
def TopAt(H:Hp):Top->WS->Prop
 |.nm n m,a=>∃ta,H a=A? (.tup [.ref ta,.int (m:Nat)])/\n≠q/\H ta=A? (.tup [.str n])
 |.th t,a=>∃ta,H a=A? (.tup [.ref ta,.int 0])/\At H t ta
theorem TopAt.mono(k:KT H H'):∀{x:Top}{a:WS},TopAt H x a->TopAt H' x a
 | .nm n m,a,h=>by
   obtain⟨ta,h1,h2,h3⟩:=h;exact⟨ta,k _ _ h1,h2,k _ _ h3⟩
 | .th t,a,h=>by
   obtain⟨ta,h1,h2⟩:=h;exact⟨ta,k _ _ h1,h2.mono k⟩
theorem mR(k:KT H H'){l:List Top}(h:Xv (TopAt H) l as):Xv (TopAt H') l as:=w! (λ_ _ e=>TopAt.mono k e) h
theorem At.same{t:Th}{p:WS}(h:At H t a)(ha:H a=A? (.tup xs))(hp:H p=A? (.tup xs)):At H t p:=by
 cases t with
 | knot n ks =>
   rw[At]at h |-;obtain⟨h0,as,h1,h2⟩:=h;rw[ha]at h1;exact⟨h0,as,by rw[hp,<-h1],h2⟩
 | call s k =>
   rw[At]at h |-;rw[hp,<-ha,h]
mutual
def Th.fill(f:Int->Int->Th):Th->Th
 |.knot n ks=>.knot n (fills f ks)
 |.call s k=>f s k
def fills(f:Int->Int->Th):List Th->List Th
 | []=>[]
 |t::ts=>t.fill f::fills f ts
end
theorem i7(f:Int->Int->Th):∀ts:List Th,(fills f ts).length=ts.length
 | []=>by rw[fills]
 |t::ts=>by rw[fills,W8,W8,i7 f ts]
mutual
theorem nF:∀t:Th,t.fill A!=t
 |.knot n ks=>by rw[Th.fill,n9 ks]
 |.call s k=>by rw[Th.fill]
theorem n9:∀ts:List Th,fills A! ts=ts
 | []=>by rw[fills]
 |t::ts=>by rw[fills,nF t,n9 ts]
end
def cB(f:Int->Int->Th):Th->Top
 |.knot n ks=>.nm n ks.length
 |.call s k=>.th (f s k)
theorem il(f:Int->Int->Th):∀(n:Nat)(ts:List Th),ar ts<=n->∀S,bl ((walks ts).map (cB f)++S)=fills f ts++bl S/\(TopsOk S->TopsOk ((walks ts).map (cB f)++S))
 |_,[],_,S=>by rw[walks,fills];exact⟨Dn,λh=>h⟩
 | 0,t::ts,hn,S=>by
   have:=t.size_pos;rw[ar]at hn;lia
 | n+1,t::ts,hn,S=>by
   have hs:=t.size_eq;rw[ar]at hn;have h2:=il f n ts (by lia) S;have e:(walks (t::ts)).map (cB f)++S=cB f t::((walks t.kids).map (cB f)++((walks ts).map (cB f)++S)):=by rw[walks,t.walk_eq];simp
   have h1:=il f n t.kids (by lia) ((walks ts).map (cB f)++S);rw[e];cases t with
   | knot nm ks =>
     simp only[Th.kids]at h1 |-;refine⟨?_,λhS=>?_⟩
     .show bl (.nm nm ks.length::_)=_;rw[bl,h1.1,h2.1,<-i7 f ks,List.take_left,List.drop_left,fills,Th.fill];rfl
     .show TopsOk (.nm nm ks.length::_);rw[TopsOk];refine⟨?_,h1.2 (h2.2 hS)⟩;rw[h1.1,W4,i7];exact YV _ _
   | call s k =>
     simp only[Th.kids,walks,YS,ZV]at h1 |-;refine⟨?_,λhS=>?_⟩
     .show bl (.th (f s k)::_)=_;rw[bl,h2.1,fills,Th.fill];rfl
     .show TopsOk (.th (f s k)::_);rw[TopsOk];exact h2.2 hS
theorem r6(f:Int->Int->Th)(t:Th):bl (t.walk.map (cB f))=[t.fill f]/\TopsOk (t.walk.map (cB f)):=by
 have h:=il f _ [t] (W0 _) [];have e:walks [t]=t.walk:=by simp[walks]
 rw[e,Yx]at h;refine⟨?_,h.2 (by rw[TopsOk];trivial)⟩;rw[h.1,fills,fills,bl];rfl
theorem jP(x:V)(xs:List V):cH (x::xs) B? (A? 1)=[x]:=by
 unfold cH;rw[show(A? (1:Int))=A? ((1:Nat):Int)from rfl,y!,L!,W8,Nat.min_eq_left (by lia)];rfl
theorem At.width{t:Th}(h:At H t a)(ha:H a=A? (.tup xs)):xs.length<=t.size+2:=by
 cases t with
 | knot n ks =>
   rw[At]at h;obtain⟨_,as,h1,h2⟩:=h;rw[ha]at h1;cases h1;have:=h2.length;have:=bO ks;rw[W8,WO,v!];lia
 | call s k =>
   rw[At]at h;rw[ha]at h;cases h;rw[v!];exact W0 _
end BB
namespace PySem
open Sem (wp)
end PySem
namespace L2
open PySem PySem.Spec PyProof.Rows BB
end L2
namespace BB
open PySem L2
theorem eh{k:Nat}(hr:L2.Room k A):A.units+150+2<Zb:=by
 have:=hr.un;lia
end BB
namespace L2
open PySem PySem.Spec PySem.SeqAt PyProof.Rows BB
open Classical in
theorem tX{X:Cx}(I:Inv X Z Y H s){es:List Dv}{vs ws:List V}{Aa:List WV}(r1:Vals vs its)(r2:Vals ws Aa)(Cz:DAts H ds vs)(Ax:DAts H es ws)(hu:A.units+bw ds+2<Zb) :
 ∀j(h1:j<its.toArray.size)(h2:j<Aa.toArray.size),EqAt A.in1 s its.toArray[j] Aa.toArray[j] (decide (ds[j]?=es[j]?)):=by
 intro j h1 h2;have l1:its.length=ds.length:=by rw[<-r1.length,Cz.length]
 have l2:Aa.length=es.length:=by rw[<-r2.length,Ax.length]
 have CO:j<ds.length:=by rw[<-l1];simpa using h1
 have Dc:j<es.length:=by rw[<-l2];simpa using h2
 have e1:ds[j]?=A? ds[j]:=WQ CO;have e2:es[j]?=A? es[j]:=WQ Dc;obtain⟨x',Bc,dx⟩:=Cz.at e1;obtain⟨y',C3,dy⟩:=Ax.at e2;obtain⟨u',BE,Fl⟩:=r1.get Bc;obtain⟨v',B4,DJ⟩:=r2.get C3;have e3:decide (ds[j]?=es[j]?)=decide (ds[j]=es[j]):=by rw[e1,e2];simp
 have e4:its.toArray[j]=u':=by
  rw[WQ (by rw[l1];exact CO)]at BE;simpa using BE
 have e5:Aa.toArray[j]=v':=by
  rw[WQ (by rw[l2];exact Dc)]at B4;simpa using B4
 rw[e3,e4,e5];have q2:=dD e1;refine nH I _ ds[j] es[j] (W0 _) x' y' u' v' A.in1 dx dy Fl DJ ?_;show A.units+1+_<Zb;lia
open Classical in
theorem qI{es:List Dv}(hl:ds.length=es.length):(Yr ds.length).all (λj=>decide (ds[j]?=es[j]?))=decide (ds=es):=by
 by_cases h:ds=es
 .subst h;rw[d! rfl];simp
 .rw[c! h];refine Bool.eq_false_iff.mpr λz=>h (List.ext_getElem? λj=>?_);by_cases hj:j<ds.length
  .exact e! (List.all_eq_true.mp z j (ZL.mpr hj))
  .rw[Yb (by lia),Yb (by lia)]
def zH(K:WW)(B:Nat):R2:=λx y H Q=>∃a b vs ws ds es,x=.ref a/\y=.ref b/\SqT K H a vs/\SqT K H b ws/\DAts H ds vs/\DAts H es ws/\bw ds<=B/\∀b:Bool,(b=C?↔ds≠es)->Q (.bl b) H
open Classical in
theorem tV{X:Cx}{B:Nat}(hu:X.A.units+B+2<Zb):OpR X (Zf .NotEq) (zH X.K B):=by
 intro Z s Y H x y v u Q I rx ry h;obtain⟨a,b,vs,ws,ds,es,rfl,rfl,ha,hb,Cz,Ax,hB,q⟩:=h;cases rx;cases ry;obtain⟨its,r1,p1,_⟩:=I.tuple ha;obtain⟨Aa,r2,p2,_⟩:=I.tuple hb;have l1:its.length=ds.length:=by rw[<-r1.length,Cz.length]
 have l2:Aa.length=es.length:=by rw[<-r2.length,Ax.length]
 refine RcNeAt.tuples (show s.1.IsTuple a its.toArray from p1) (show s.1.IsTuple b Aa.toArray from p2) (by lia) (tX I r1 r2 Cz Ax (by lia)) X.prog X.w X.xe _ ?_
 have e:((Yr (min its.toArray.size Aa.toArray.size)).all (λj=>decide (ds[j]?=es[j]?)) && its.toArray.size == Aa.toArray.size)=decide (ds=es):=by
  rw[Xa,Xa,l1,l2];by_cases hl:ds.length=es.length
  .rw[<-hl,Nat.min_self,qI hl];simp
  .rw[c! (λz=>hl (by rw[z]))];simp[hl]
 refine⟨.bl (!decide (ds=es)),H,I,by rw[e];rfl,q _ ?_⟩;simp
end L2
namespace BB
open PySem L2
end BB
namespace L2
open PySem PySem.Spec PySem.SeqAt PyProof.Rows BB
end L2
namespace BB
open PySem L2
end BB
namespace L2
open PySem PySem.Spec PyProof.Rows BB
end L2
namespace BB
open PySem L2
end BB
namespace L2
open PySem PySem.Spec PySem.Calls PyProof.Rows PySem.W
structure tT(K:Frag)(C:WS):Prop where
 exc:excIn K C [.type "ValueError",.type "Exception",.type "BaseException",.type "object"] "ValueError.__new__"=C?
 ga:findIn K (.ref C) "__getattribute__"=A? (A? (.builtin "BaseException.__getattribute__"))
 gt:findIn K (.ref C) "__getattr__"=A? B?
 cl:findIn K (.ref C) "__class__"=A? (A? (.builtin "object.__class__"))
 mo:mroIn K C (.type "object")=A? C?
 mb:mroIn K C (.type "BaseException")=A? C?
section
variable{g:Array GenState}{d:Drawn}{t:Nat}{os:OsState}{o:YF}{K:Frag}
end
theorem ObjOk.there(x:ObjOk P w H h a o):∃ob,h.get? a=A? ob:=by
 cases o with
 |lst xs=>obtain⟨_,_,_,_,e⟩:=x;exact⟨_,e⟩
 |tup xs=>obtain⟨_,_,_,_,e⟩:=x;exact⟨_,e⟩
 |dK kvs=>obtain⟨_,_,_,_,o,_,_,e,_⟩:=x;exact⟨_,e⟩
 |dT kvs=>obtain⟨_,_,_,_,o,_,_,e,_⟩:=x;exact⟨_,e⟩
 |set S n=>obtain⟨o,_,_,_,e,_⟩:=x;exact⟨_,e⟩
 |ins C dx fs=>obtain⟨_,_,_,e,_⟩:=x;exact⟨_,e⟩
 |own y=>obtain⟨_,e⟩:=x;exact⟨_,e⟩
 |xd fs=>obtain⟨_,⟨_,_,_,e,_⟩,_⟩:=x;exact⟨_,e⟩
 |rng lo hi=>obtain⟨_,_,_,e⟩:=x;exact⟨_,e⟩
 |frz ob u=>obtain⟨e,_⟩:=x;exact⟨_,e⟩
 |tbl ps=>exact⟨_,(show h.get? a=A? _ from x)⟩
 |met f y=>exact⟨_,(show h.get? a=A? _ from x)⟩
 |ext φ=>obtain⟨_,⟨_,e⟩,_⟩:=x;exact⟨_,e⟩
def CX1(P:Xm)(w:XD):CXT:=λouter H s E e s'=>∃(ea C:WS)(a0:WV)(B:X3)(H':Hp),
 e=.ref ea/\s'.os=s.os/\AllBare s'.gens/\Un (frs outer) [] H H' s.1 s'.1/\HOk P w H' s'.1/\Heap.FlyingW B outer ea (.ref C) a0 s'.1 /\
 (∀b o,s.1.get? b=A? o->b∉frs outer->∃o',B.get? b=A? o'/\(H b=B?->o'=o))/\(∀b u,H' b=A? u->∃o',B.get? b=A? o')/\E (.ref C) B? H'
theorem mZ{B:X3}(hok:HOk P w H' h)(k1:B.StaysIn h)(k2:B.StaysIn h')(b2:∀b u,H' b=A? u->∃o',B.get? b=A? o'):HOk P w H' h':=λa o e =>
 (hok a o e).stay (λb u hb q=>by
  have ht:∃v,H' b=A? v:=by
   rcases hb with rfl|hb
   .exact⟨_,e⟩
   .exact⟨_,hb⟩
  obtain⟨v,hv⟩:=ht;obtain⟨o',B0⟩:=b2 b v hv;have:=k1 b o' B0;rw[q]at this;cases this;exact k2 b _ B0) (λ_ q=>q) λ_ _ q=>q
theorem qS{fs:List WS}{h1 h2:X3}{l:List WS}{B:X3}(u1:Un fs [] H H1 h h1)(u2:Un l [] H1 H' h1 h2)(hl:∀b o,h.get? b=A? o->b∈l->b∈fs)
 (b1:∀b o,h1.get? b=A? o->b∉l->∃o',B.get? b=A? o'/\(H1 b=B?->o'=o)) (st:B.StaysIn h') (up:h2.UpToSlots h')
 (hf:∀b∈fs,H b=B?/\∃o,h.get? b=A? o/\∀vs,o.data≠.fields vs) :
 Un fs [] H H' h h'/\∀b o,h.get? b=A? o->b∉fs->∃o',B.get? b=A? o'/\(H b=B?->o'=o):=by
 have nx:∀b:WS,b∉([]:List WS):=λb=>by simp
 have bb:∀b o,h.get? b=A? o->b∉fs->∃o',B.get? b=A? o'/\(H b=B?->o'=o):=λb o q nf=>by
  obtain⟨o1,e1⟩:=u1.there b o q (nx b);obtain⟨o',e',g⟩:=b1 b o1 e1 λz=>nf (hl b o q z);refine⟨o',e',λn=>?_⟩;have:=u1.keep b o q n nf (nx b);rw[e1]at this;cases this;exact g (u1.free b _ q n (nx b))
 have sl:∀b o,h.get? b=A? o->H b=B?->b∈fs->∃sl,h'.get? b=A? {o with slots:=sl}:=λb o q n m=>by
  obtain⟨s1,e1⟩:=u1.slot b o q n m (nx b);obtain⟨s2,e2⟩:=u2.any e1 (u1.free b o q n (nx b)) (nx b);obtain⟨_,o0,q0,nf⟩:=hf b m;rw[q]at q0;cases q0;obtain⟨s3,e3⟩:=up b _ e2 nf;exact⟨s3,e3⟩
 refine⟨⟨λb o q n nf _=>?_,λb o q n m _=>sl b o q n m,λb o q n _=>?_,λb o q _=>?_,λb xs q=>u2.tups b xs (u1.tups b xs q),λb o u q=>u2.frzs b o u (u1.frzs b o u q),λb ps q=>?_⟩,bb⟩
 .obtain⟨o',e',g⟩:=bb b o q nf;rw[<-g n];exact st b o' e'
 .obtain⟨o1,e1⟩:=u1.there b o q (nx b);exact u2.free b o1 e1 (u1.free b o q n (nx b)) (nx b)
 .by_cases m:b∈fs
  .obtain⟨n,_⟩:=hf b m;obtain⟨s3,e3⟩:=sl b o q n m;exact⟨_,e3⟩
  .obtain⟨o',e',_⟩:=bb b o q m;exact⟨o',st b o' e'⟩
 .obtain⟨m1,e1⟩:=u1.tbls b ps q;obtain⟨m2,e2⟩:=u2.tbls b _ e1;exact⟨m1++m2,by rw[e2,Array.append_assoc]⟩
section
variable{cd:WV}{outer:List Env}{E:XK}
theorem qd{l:List Env}{L:WS}(hf:env.frame=A? L):frs (env::l)=L::frs l:=by unfold frs;rw[ZF,hf]
theorem rM:Passes (CX1 P w) (jH (CX1 P w) P w K mg base N qual scope f cd A outer s H E) E:=by
 intro Z Y H1 s1 e s2 I h;obtain⟨ea,C,a0,B,H',rfl,Bi,Er,un,hok,E2,b1,b2,q⟩:=h;show Xf _ _ (leaving _ _) _ _ s2;refine wpAny_leaves_onW (E:=λe' Js=>CX1 P w outer H s E e' Js) I.ok.frames rfl E2 λh' GY up=>?_
 obtain⟨U,NB⟩:=qS (fs:=frs outer) (H:=H) (h:=s.1) (l:=frs (ZN qual scope s.1.1.size f cd::outer)) (B:=B) (h':=h') I.base un (λb o hb z=>by
  rw[qd (L:=s.1.1.size) rfl]at z;rcases Xc.mp z with rfl|z
  .exact g! (Xe hb) (Yk _)
  .exact z) b1 GY.1 up (λb hb=>⟨I.ok.frf b hb,(I.ok.funs.mem hb).2⟩)
 exact⟨ea,C,a0,B,H',Dn,Bi.trans I.os,Er,U,mZ hok E2.1 GY.1 b2,GY,NB,b2,q⟩
def ym(te:TE)(C:WS)(E:XK):TS:=λ_ Y H=>te Y H λ_ H1=>E (.ref C) B? H1
theorem wy(X:K.In h)(F:tT K C)(hm:mg x=A? (.ref C)):OwnCls x C [.type "ValueError",.type "Exception",.type "BaseException",.type "object"] "ValueError.__new__" mg h:=by
 have q:=F.exc;refine⟨hm,?_⟩;unfold excIn at q;split at q
 .rename_i dd cd sl ho
  split at q
  .rename_i C' bm k0 k1 k2 k3 n k5 hm hs
   simp only[Bool.and_eq_true,beq_iff_eq,Bool.not_eq_true']at q;obtain⟨⟨⟨⟨⟨rfl,rfl⟩,JI⟩,ht⟩,hok⟩,Gf⟩:=q;obtain⟨nm,bs,mro,ns,qn,hd,sn,sub,ab,col,del⟩:=cd;dsimp only at hm JI hok Gf;subst hm JI
   have JJ:sl=#[k0,k1,k2,k3,A? (.builtin "ValueError.__new__"),k5]:=by
    obtain⟨l⟩:=sl;simp only at hs;rw[hs]
   subst JJ;exact⟨bm,ns,nm,qn,bs,hd,sn,sub,ab,col,dd,k0,k1,k2,k3,k5,_,X _ _ ho,.of_isNs (isNs_of_in X hok),nsMap_none_of_in X hok Gf,tail_of_in X ht⟩
  .cases q
 .cases q
theorem kL{e0:XZ}{np Aj:Z9}(F:tT K C)(hm:mg x=A? (.ref C))(he:PE (jH (CX1 P w) P w K mg base N qual scope f cd A outer s H E) e0 te)
 (hx:(ZN qual scope s.1.1.size f cd).kindOf x=A? .globalImplicit:=by rfl)
 (BV:XE [e0] (ZN qual scope s.1.1.size f cd)=[(D?,YQ e0 (ZN qual scope s.1.1.size f cd))]:=by rfl) (hd:(x == ("__debug__":Xj))=false:=by decide) :
 PS (jH (CX1 P w) P w K mg base N qual scope f cd A outer s H E) (.Raise (A? (.Call (.Name x np) [e0] [] Aj)) B? pos) (ym te C E):=by
 intro Z s1 Y H1 D I h;obtain⟨tl,N',nm,q,bs,hdct,sn,sub,ab,col,dd,k0,k1,k2,k3,k5,mN,hC,hN,Gf,T⟩:=(wy I.mod.kin F hm).obj
 refine wpAny_Raise_call_subT (C:=C) (nm:=nm) (q:=q) (N:=N') (bs:=bs) (bm:=tl) (hdct:=hdct) (sn:=sn) (sub:=sub) (ab:=ab) (col:=col) (dd:=dd) (k0:=k0) (k1:=k1) (k2:=k2) (k3:=k3) (k5:=k5)
  PySem.F.excBase_ValueError (mN:=mN) (T.hasType PySem.F.excBase_ValueError.hasBase) (I.ok.hd rfl) (by show(ZC Aj (XE [e0] (ZN qual scope s.1.1.size f cd))).any (·.1)=D?;rw[BV];rfl) Gf (fR I hx hm ⟨rfl,?_⟩ hd)
 show Xf _ _ (evalArgs _ C? (ZC Aj (XE [e0] (ZN qual scope s.1.1.size f cd))) []) _ _ _;rw[BV];refine Calls.evalArgs_plain (ZA (thn (he Z s1 Y H1 _ I h) λv s2⟨y,H2,I2,r2,q2⟩=>Calls.spliced_nil ⟨rfl,by show 1<=Xi;decide,I2.bk _ _ hC,hN.keeps I2.bk,T.keeps I2.bk,λh' e hx=>?_⟩));show Xf _ _ (leaving _ _) _ _ _;have FF:=I2.stack;have hl:∀env∈ZN qual scope s.1.1.size f cd::outer,∀a,env.frame=A? a->a∈frs (ZN qual scope s.1.1.size f cd::outer):=λenv he a ha=>List.mem_filterMap.mpr ⟨env,he,ha⟩;refine wpAny_leaves_madeW (base:=hideAll s2.1 (frs (ZN qual scope s.1.1.size f cd::outer))) (h:=s2.1) I.ok.frames rfl (λb o z=>of_hideAll _ z) (funFrames_hide FF hl) hx λh2 t E2 tup tn up=>?_;have nf:∀b u,H2 b=A? u->b∉frs (ZN qual scope s.1.1.size f cd::outer):=λb u e z=>by rw[I2.stkFree b z]at e;cases e
 obtain⟨U,NB⟩:=qS (fs:=frs outer) (H:=H) (H1:=H2) (H':=H2) (h:=s.1) (h1:=s2.1) (h2:=h') (l:=frs (ZN qual scope s.1.1.size f cd::outer)) (B:=hideAll s2.1 (frs (ZN qual scope s.1.1.size f cd::outer))) (h':=h2) I2.base (Un.kept hx.keeps) (λb o hb z=>by
  rw[qd (L:=s.1.1.size) rfl]at z;rcases Xc.mp z with rfl|z
  .exact g! (Xe hb) (Yk _)
  .exact z) (λb o hb z=>⟨o,hideAll_get _ hb z,λ_=>rfl⟩) E2.1 up (λb hb=>⟨I.ok.frf b hb,(I.ok.funs.mem hb).2⟩)
 have b2:∀b u,H2 b=A? u->∃o',(hideAll s2.1 (frs (ZN qual scope s.1.1.size f cd::outer))).get? b=A? o':=λb u e=>by
  obtain⟨o,ho⟩:=(I2.hok b u e).there;exact⟨o,hideAll_get _ ho (nf b u e)⟩
 exact⟨e,C,.ref t,_,H2,Dn,I2.os,I2.bare,U,mZ I2.hok (λb o z=>of_hideAll _ z) E2.1 b2,E2,NB,b2,q2⟩
end
section
variable{X:Cx}
def Cx.tryB(X:Cx)(Z:List (WS×YF))(R:St->WV->Hp->Prop):Cx:={ X with
 pn:=X.pn++Z
 xe:=λe s'=>∃AA H1 s1,Inv X Z AA H1 s1/\CX1 X.prog X.w X.stack H1 s1 (λc _ H'=>R AA c H') e s' }
def Cx.suite(X:Cx)(ea:WS)(oe:YF):Cx:={ X with
 A:=X.A.mark (A? (.ref ea))
 calm:=D?
 pn:=X.pn++[(ea,oe)]
 xe:=λ_ _=>False }
theorem Inv.tryB(I:Inv X Z Y H s)(R:St->WV->Hp->Prop):Inv (X.tryB Z R) [] Y H s :=
 ⟨⟨I.ok.mod,I.ok.kind,I.ok.glob,I.ok.blt,I.ok.above,I.ok.inj,I.ok.has,I.ok.cab,I.ok.hd,I.ok.frames,I.ok.stk,I.ok.exf,I.ok.bs,I.ok.bsz,I.ok.noex,I.ok.exfs,I.ok.funs,I.ok.frf⟩,
   I.os,I.bare,I.base,I.loc,I.cell,I.free,I.freeC,λp hp=>I.pin p (by simpa[Cx.tryB]using hp),I.hok,I.len⟩
theorem Inv.untryB{R:St->WV->Hp->Prop}{B3:List (WS×YF)}(I:Inv (X.tryB Z R) B3 Y H s):Inv X Z Y H s :=
 ⟨⟨I.ok.mod,I.ok.kind,I.ok.glob,I.ok.blt,I.ok.above,I.ok.inj,I.ok.has,I.ok.cab,I.ok.hd,I.ok.frames,I.ok.stk,I.ok.exf,I.ok.bs,I.ok.bsz,I.ok.noex,I.ok.exfs,I.ok.funs,I.ok.frf⟩,
   I.os,I.bare,I.base,I.loc,I.cell,I.free,I.freeC,λp hp=>I.pin p (Xg _ hp),I.hok,I.len⟩
theorem Inv.suite{oe:YF}(I:Inv X Z Y H s)(h:s.1.get? ea=A? oe/\H ea=B?/\ea≠X.env.locals/\ea∉X.fs/\∀v,oe.data≠.cell v):Inv (X.suite ea oe) Z Y H s :=
 ⟨⟨I.ok.mod,I.ok.kind,I.ok.glob,I.ok.blt,I.ok.above,I.ok.inj,I.ok.has,I.ok.cab,(λz=>nomatch z),I.ok.frames,I.ok.stk,I.ok.exf,I.ok.bs,I.ok.bsz,I.ok.noex,I.ok.exfs,I.ok.funs,I.ok.frf⟩,
   I.os,I.bare,I.base,I.loc,I.cell,I.free,I.freeC,λp hp=>by
    have hp:p∈(X.pn++[(ea,oe)])++Z:=hp;rcases W7.mp hp with hp|hp
    .rcases W7.mp hp with hp|hp
     .exact I.pin p (Xg _ hp)
     .obtain rfl:=WY.mp hp;exact h
    .exact I.pin p (Xl _ hp),I.hok,I.len⟩
theorem Inv.unsuite{oe:YF}(I:Inv (X.suite ea oe) Z Y H s)(hd:X.calm=C?->X.A.handled=B?):Inv X Z Y H s :=
 ⟨⟨I.ok.mod,I.ok.kind,I.ok.glob,I.ok.blt,I.ok.above,I.ok.inj,I.ok.has,I.ok.cab,hd,I.ok.frames,I.ok.stk,I.ok.exf,I.ok.bs,I.ok.bsz,I.ok.noex,I.ok.exfs,I.ok.funs,I.ok.frf⟩,
   I.os,I.bare,I.base,I.loc,I.cell,I.free,I.freeC,λp hp=>I.pin p (by
    show p∈(X.pn++[(ea,oe)])++Z;rcases W7.mp hp with hp|hp
    .exact Xg _ (Xg _ hp)
    .exact Xl _ hp),I.hok,I.len⟩
end
structure Hit(K:Frag)(C Ch:WS):Prop where
 exc:tT K C
 hit:exmOne K (.ref C) (.ref Ch)=A? C?
theorem SP.untryB{X:Cx}{R:St->WV->Hp->Prop}{f:Flow}(h:SP (X.tryB Z R) [] D f s'):SP X Z D f s':=by
 cases f with
 |next=>obtain⟨l',H',I,q⟩:=h;exact⟨l',H',I.untryB,q⟩
 |brk=>obtain⟨l',H',I,q⟩:=h;exact⟨l',H',I.untryB,q⟩
 |cont=>obtain⟨l',H',I,q⟩:=h;exact⟨l',H',I.untryB,q⟩
 |ret u=>obtain⟨v,l',H',I,r,q⟩:=h;exact⟨v,l',H',I.untryB,r,q⟩
theorem Fun.ok1{k:Nat}(F:Fun K x qual st f fd)(S:cQ N ps (aJ st))(len:∀vs H Q E,sp vs H Q E->vs.length=ps.length)
 (AG:∀(zZ:WV)(A:XH)(outer:List Env)(s:WZ)(H:Hp)(vs:List V)(Q:VK)(E:XK),Room k (A.deeper (ZN qual (aJ st) s.1.1.size f zZ))->sp vs H Q E ->
  ∃t,PSs (jH (CX1 P w) P w K mg base N qual (aJ st) f zZ A outer s H E) (bF st) t/\t {nx:=λ_ H'=>Q .non H',rt:=Q} (start N vs) H):FnOk P w K mg base (CX1 P w) (k+1) f fd ps sp:=by
 obtain⟨oc,od,kV,doc,pm,an,zZ,ct,D1,rfl,lk,BU⟩:=F.ex;exact va lk BU S len λA outer s H vs Q E hr Bu=>AG zZ A outer s H vs Q E hr Bu
def uK(sp:Sp)(dvs:List V)(R:St->WV->Hp->Prop)(t:TA):TE:=λY H Q=>t Y H λvs H1=>sp (vs++dvs) H1 Q λc _ H'=>R Y c H'
theorem vc{X:Cx}{R:St->WV->Hp->Prop}{k:Nat}{dvs:List V}{ds:List WV}{p:Z9}{es:List XZ}{t:TA}
 (F:FnOk X.prog X.w X.K X.mg X.base (CX1 X.prog X.w) k f fd ps sp) (hr:Room k X.A) (hg:Gl X x) (hm:X.mg x=A? (.ref f)) (hk:ZJ X.K (.ref f)=C?) (hb:Binds X.K fd ps ds) (hd:Vals dvs ds)
 (ha:PA (X.tryB Z R) (e::es) t) (C0:(x == ("__debug__":Xj))=false:=by decide) (he:XE (e::es) X.env=(D?,YQ e X.env)::XE es X.env:=by rfl) (AF:(ZC pos (XE es X.env)).any (·.1)=false:=by rfl) :
 PE (X.tryB Z R) (.Call (.Name x p) (e::es) [] pos) (uK sp dvs R t):=by
 intro B3 s Y H Q I h;refine Yo (fR I hg hm ?_ C0);refine PySem.W.callWith_K (h₀:=X.base) I.ok.mod.kin hk (thn (ha pos B3 s Y H _ I h) λus s1⟨vs,H1,I1,r,q⟩=>⟨I1.kIn,?_⟩) he AF;have r2:Vals (vs++dvs) (us++ds):=r.append hd;have hl:(us++ds).length=ps.length:=by rw[<-r2.length];exact F.len _ _ _ _ q
 refine wpAny_call (codeAny_mono (F.run X.A X.stack s1 H1 ⟨us,[]⟩ (us++ds) (vs++dvs) Q _ hr I1.env0 (hb s1 us I1.kIn hl) r2 q) λr s' hq=>?_);cases r with
 |error e=>exact⟨Y,H1,s1,I1.untryB,hq⟩
 | ok fl =>
   cases fl with
   |ret u=>exact I1.after hq
   |next=>exact Yd hq
   |brk=>exact Yd hq
   |cont=>exact Yd hq
open PySem.SeqAt
end L2
namespace BB
open PySem
end BB
namespace L2
open PySem PySem.Spec PySem.Calls PyProof.Rows BB
end L2
namespace PySem
end PySem
namespace L2
open PySem PySem.Spec PySem.Calls PyProof.Rows BB
section
variable{X:Cx}
end
end L2
namespace BB
open PySem L2
theorem qW(zs:List α)(f:α->V)(hz:zs.length=xs.length)(hn:xs.length<=1000000)
 (JB:∀i H2,j! H H2->i<xs.length->J.go i H2) (Cw:∀H2,j! H H2->J.stop xs.length H2) (Eh:∀(i:Nat)H2 x H3,j! H H2->i<xs.length->J.yld i H2 x H3->H3=H2/\xs[i]?=A? x)
 (hb:∀(i:Nat)x z H2(R:VK)(W':Hp->Prop),xs[i]?=A? x->zs[i]?=A? z->j! H H2->(∀H3,j! H2 H3->R (f z) H3)->g x (cσ js Y) H2 λAg H3=>tt Ag H3 λb H4=>if b=C? then te Ag H4 R else W' H4)
 (AS:∀D H',H D=B?->j! H H'->H' D=A? (.lst (zs.map f))->fin D H') :
 ∀D,H D=B?->∃(n:Nat)(W:Nat->Hp->Prop),W 0 (upd H D (.lst []))/\fA js g tt te Y J D n W λH'=>fin D H':=by
 intro D hD;refine⟨xs.length,λi H'=>i<=xs.length/\j! H H'/\H' D=A? (.lst ((zs.take i).map f)),⟨XA _,am hD _,by rw[ae];rfl⟩,?_⟩;rintro i H' ⟨hi,s1,e1⟩;by_cases Ad:i<xs.length
 .refine .inr ⟨Ad,JB i H' s1 Ad,λv H1 hy=>?_⟩;obtain⟨e,hx⟩:=Eh i H' v H1 s1 Ad hy;subst e;obtain⟨z,Gg⟩:∃z,zs[i]?=A? z:=⟨_,WQ (by lia)⟩;refine hb i v z _ _ _ hx Gg s1 λH3 s3=>⟨_,s3 _ _ e1,?_,Ad,aC (s1.trans s3) hD,?_⟩
  .rw[WO,XC];have:Xi=16777216:=ZI;lia
  .rw[ae,take_snoc Gg,W5];rfl
 .have Ce:i=xs.length:=by lia
  subst Ce;refine .inl ⟨Cw _ s1,AS D H' hD s1 ?_⟩;rw[e1,Yi (by lia)]
theorem jm(zs:List α)(f:α->V)(hS:SqT K H a xs)(hz:zs.length=xs.length)(hn:xs.length<=1000000)
 (hb:∀(i:Nat)x z H2(R:VK)(W':Hp->Prop),xs[i]?=A? x->zs[i]?=A? z->j! H H2->(∀H3,j! H2 H3->R (f z) H3)->g x (cσ js Y) H2 λAg H3=>tt Ag H3 λb H4=>if b=C? then te Ag H4 R else W' H4)
 (AS:∀D H',H D=B?->j! H H'->H' D=A? (.lst (zs.map f))->fin D H') :
 ∀D,H D=B?->∃(n:Nat)(W:Nat->Hp->Prop),W 0 (upd H D (.lst []))/\fA js g tt te Y (Itt K a) D n W λH'=>fin D H' :=
 qW zs f hz hn (λi H2 s hi=>⟨xs,xs[i],s.seqT hS,WQ hi⟩) (λH2 s=>⟨xs,s.seqT hS,W0 _⟩) (λi H2 x H3 s hi hy=>⟨hy.1,hy.2 xs (s.seqT hS)⟩) hb AS
theorem ip(zs:List α)(f:α->V)(hS:SqL K H a xs)(hz:zs.length=xs.length)(hn:xs.length<=1000000)
 (hb:∀(i:Nat)x z H2(R:VK)(W':Hp->Prop),xs[i]?=A? x->zs[i]?=A? z->j! H H2->(∀H3,j! H2 H3->R (f z) H3)->g x (cσ js Y) H2 λAg H3=>tt Ag H3 λb H4=>if b=C? then te Ag H4 R else W' H4)
 (AS:∀D H',H D=B?->j! H H'->H' D=A? (.lst (zs.map f))->fin D H') :
 ∀D,H D=B?->∃(n:Nat)(W:Nat->Hp->Prop),W 0 (upd H D (.lst []))/\fA js g tt te Y (Itl K a) D n W λH'=>fin D H' :=
 qW zs f hz hn (λi H2 s hi=>⟨xs,xs[i],s.seq hS,WQ hi⟩) (λH2 s=>⟨xs,s.seq hS,W0 _⟩) (λi H2 x H3 s hi hy=>⟨hy.1,hy.2 xs (s.seq hS)⟩) hb AS
end BB
namespace HT
open PySem PySem.Spec PyProof.Rows
theorem adjust_back(n:Nat):ZE B? B? (-1) (n:Int)=((n:Int) - 1,-1):=rfl
theorem places_back(n:Nat):Yz ((n:Int) - 1) (-1) (-1)=n:=by
 unfold Yz;have h1:¬((-1:Int) > 0):=by lia
 simp only[h1,if_false];by_cases h:n=0
 .subst h;decide
 .have h2:((n:Int) - 1) > -1:=by lia
  simp only[h2,if_true];rw[show(- -1:Int)=1 by decide,Int.ediv_one];lia
theorem pick_back(xs:Array WV):((Yr xs.size).filterMap λ(m:Nat)=>xs[(((xs.size:Nat):Int) - 1+(m:Int) * (-1)).toNat]?).toArray=xs.toList.reverse.toArray:=by
 congr 1
 have e:∀m∈Yr xs.size,xs[(((xs.size:Nat):Int) - 1+(m:Int) * (-1)).toNat]?=xs.toList.reverse[m]?:=by
  intro m hm;have CP:=ZL.mp hm;rw[List.getElem?_reverse (by rw[Xr];exact CP),Z1,Xr];congr 1;lia
 have f:∀(l:List Nat)(f g:Nat->Option WV),(∀m∈l,f m=g m)->l.filterMap f=l.filterMap g:=by
  intro l f g;induction l with
  |nil=>intro _;rfl
  | cons y ys ih =>
    intro h;rw[ZF,ZF,h y (by simp),ih (λm hm=>h m (by simp[hm]))]
 rw[f _ _ _ e]
 have gl:∀(ys:List WV),(Yr ys.length).filterMap (λm=>ys[m]?)=ys:=by
  intro ys;have:=pick_run ys.toArray 0 ys.length;simp only[List.filterMap_map]at this
  have e3:((λx=>ys.toArray[x]?) ∘ λx=>0+x)=λm=>ys[m]?:=by
   funext m;simp
  rw[e3]at this;rw[this];simp
 have:=gl xs.toList.reverse;rw[XR,Xr]at this;exact this
theorem sliceApplied_back{t:Tok}{Q:Int×Int×Nat->WZ->Prop}(hs:s.1.IsSliceOf sl .none .none (.int (-1) t))
 (h:Q ((n:Int) - 1,-1,n) s):Xf (Xx prog w) A (Builtin.Slice.sliceApplied (.ref sl) (pure (n:Int))) Q E s:=by
 obtain⟨os,Bi,BW,Bq⟩:=id hs;unfold Builtin.Slice.sliceApplied Builtin.Slice.sliceFields;refine WN (WN (XT Bi Bq (x:=.none) rfl (WN (XT Bi Bq (x:=.none) rfl (WN (XT Bi Bq (x:=.int (-1) t) rfl (WX ?_)))))));refine WN (slicePart_int ?_);show Xf _ _ (if((-1:Int) == 0)=C? then _ else _) _ _ s;rw[a! (by decide)];refine WN (slicePart_none (WN (slicePart_none (WN (WX ?_)))));show Xf _ _ (match ZE B? B? (-1) (n:Int)with|(lo,hi)=>pure (lo,(-1:Int),Yz lo hi (-1))) _ _ s;rw[adjust_back n];show Xf _ _ (pure ((n:Int) - 1,(-1:Int),Yz ((n:Int) - 1) (-1) (-1))) _ _ s;rw[places_back];exact WX h
theorem getItem_tuple_back{t:WS}{tk:Tok}(ht:IsTup s.1 t items)(hs:s.1.IsSliceOf sl .none .none (.int (-1) tk))
 (h:Q (.ref s.1.1.size) {s with heap:=s.1.push {cls:=.type "tuple",data:=.seq items.toList.reverse.toArray}})
 (hsz:items.size<=Xi):Xf (Xx prog w) A (getItem (.ref t) (.ref sl)) Q E s:=by
 have Be:sizeOk (.seq items.toList.reverse.toArray):=by
  show items.toList.reverse.toArray.size<=Xi;rw[Xa,XR,Xr];exact hsz
 obtain⟨os,Bi,BW,Bq⟩:=id hs;have Jv:s.TypeIs (.ref sl) "slice":=⟨os,Bi,BW⟩;unfold getItem
 try with_reducible refine Yn ?_
 first|refine WN (WX ?_)|skip
 refine WN (wpAny_sequenceKey ht.typeIs (by decide) ?_)
 refine WN (XS (name:=W6 "__getitem__") ht.typeIs XM
  (XY XM ht.typeIs entry_tuple_getitem ?_ (args_tuple_getitem _ _)))
 show Xf _ _ (Builtin.Tuple.tupleItemsOf (.ref t) >>= _) _ _ s;refine WN (tupleItemsOf_ ht ?_);refine WN (Zs Jv ?_);rw[b! (by decide)];refine WN (sliceApplied_back hs ?_)
 have Bv:¬((((items.size:Nat):Int) - 1 == 0 && (-1:Int) == 1 && items.size == items.size)=C?):=by
  simp
 show Xf _ _ (if(((items.size:Nat):Int) - 1 == 0 && (-1:Int) == 1 && items.size == items.size)=C? then _ else _) _ _ s;rw[a! Bv,pick_back]
 first
  |exact WN (m:=YB _) (XO (WX ⟨_,rfl,WX h⟩) Be)
  |exact WN (m:=YB _) (XO (WN (WX (WX ⟨_,rfl,WX h⟩))) Be)
  |exact WN (WN (m:=YB _) (XO (WX (WX ⟨_,rfl,WX h⟩)) Be))
  |exact WN (WN (m:=YB _) (XO (WX ⟨_,rfl,WX h⟩) Be))
end HT
namespace L2
open PySem PySem.Spec PyProof.Rows
section
variable{X:Cx}{p2 p3 p4:Z9}
def BkR(X:Cx)(r:V->Hp->VK->Prop):Prop :=
 ∀(Z:List (WS×YF))(s:WZ)(Y:St)(H:Hp)(x:V)(v:WV)(t:Tok)(sl:WS)(Q:VK),Inv X Z Y H s->RelV x v->s.1.IsSliceOf sl .none .none (.int (-1) t)->r x H Q ->
   ∃T id,typeLookup (.type T) "__getitem__"=pure (A? (.builtin id))/\s.TypeIs v T/\Xf (Xx X.prog X.w) X.A (getItem v (.ref sl)) (EP X Z Y Q) X.xe s
def tBk(r:V->Hp->VK->Prop)(te:TE):TE:=λY H Q=>te Y H λx H1=>r x H1 Q
theorem rO{r:V->Hp->VK->Prop}(hr:BkR X r)(he:PE X e te):PE X (.Subscript e (.Slice B? B? (A? (.UnaryOp .USub (.Constant (.int 1) 0 p3) p4)) p2) pos) (tBk r te):=by
 intro Z s Y H Q I h;refine Subscript_ (thn (he Z s Y H _ I h) λv s1⟨x,H1,I1,r1,q1⟩=>?_);refine wpAny_Slice ?_;rw[evalPart_none];refine WX ?_;refine WX ?_;have NC:PO X (A? (.UnaryOp .USub (.Constant (.int 1) 0 p3) p4)) (wN (tUn (rU λi=>.int (-i)) (tC (.int 1)))):=bj (xi uU ai);refine thn (NC Z s1 Y H1 (λo H'=>o=A? (-1)/\r x H' Q) I1 ⟨1,rfl,_,rfl,rfl,q1⟩) λvs s2⟨o,H2,I2,ps,ho,q2⟩=>?_;subst ho;cases ps with
 | int i t =>
   have I4:Inv X Z Y H2 {s2 with heap:=s2.1.push {cls:=.type "slice",data:=.fields #[.none,.none,.int (-1) t]}}:=I2.kept (t':=s2.toks) λb ob q=>WU _ q;obtain⟨T,id,hT,ht,hg⟩:=hr Z {s2 with heap:=s2.1.push {cls:=.type "slice",data:=.fields #[.none,.none,.int (-1) t]}} Y H2 x v t s2.1.1.size Q I4 r1 (Heap.IsSliceOf.new ..) q2;show Xf (Xx X.prog X.w) X.A (subscriptTail e (.Slice B? B? (A? (.UnaryOp .USub (.Constant (.int 1) 0 p3) p4)) p2) v (.ref s2.1.1.size)) (EP X Z Y Q) X.xe {s2 with heap:=s2.1.push {cls:=.type "slice",data:=.fields #[.none,.none,.int (-1) t]}};exact tail_any (ops:=[v,.ref s2.1.1.size]) ht hT hg (by with_unfolding_all rfl)
def zS(K:WW):V->Hp->VK->Prop:=λx H Q=>∃a xs,x=.ref a/\SqT K H a xs/\∀p,H p=B?->Q (.ref p) (upd H p (.tup xs.reverse))
def zA(K:WW):V->Hp->VK->Prop:=λx H Q=>∃a xs,x=.ref a/\SqL K H a xs/\∀p,H p=B?->Q (.ref p) (upd H p (.lst xs.reverse))
theorem Vals.rev(r:Vals xs us):Vals xs.reverse us.reverse:=by
 induction r with
 |nil=>exact .nil
 |cons r1 r2 ih=>rw[XW,XW];exact ih.append (.cons r1 .nil)
theorem yi:BkR X (zS X.K):=by
 intro Z s Y H x v t sl Q I rx hs h;obtain⟨a,xs,rfl,hx,q⟩:=h;cases rx;obtain⟨its,r,ht,hz⟩:=I.tuple hx;have hlen:its.toArray.size=xs.length:=by rw[Xa];exact r.length.symm
 refine⟨"tuple",_,XM.lookup,ht.typeIs,?_⟩;refine HT.getItem_tuple_back ht hs ?_ (by rw[hlen];exact hz);refine⟨.ref s.1.1.size,_,I.laid (t':=s.toks) (o:=.tup xs.reverse) (λb ob q=>WU _ q) (W0 _) ?_,Dn,q _ (I.hok.fresh (W0 _))⟩;exact⟨by rw[XR];exact hz,_,0,r.rev,W3 _ rfl⟩
theorem lp(its:List WV):slicePick its.toArray B? B? (A? (-1))=its.reverse.toArray:=by
 unfold slicePick;have e:sliceBounds B? B? (A? (-1)) its.toArray.size=((its.toArray.size:Int) - 1,-1,-1):=rfl;rw[e];unfold sliceRange;have h1:¬((-1:Int) > 0):=by lia
 simp only[h1,if_false]
 have hc:(if((its.toArray.size:Nat):Int) - 1 > -1 then(((its.toArray.size:Nat):Int) - 1 - -1 - -1 - 1) / (- -1)else 0).toNat=its.toArray.size:=by
  by_cases h:its.toArray.size=0
  .rw[h];decide
  .rw[b! (by lia),show(- -1:Int)=1 by decide,Int.ediv_one];lia
 rw[hc,List.filterMap_map];have:=HT.pick_back its.toArray;rw[<-this];congr 1;congr 1;funext m;show its.toArray[(((its.toArray.size:Nat):Int) - 1+-1 * (m:Int)).toNat]?=_;rw[Int.mul_comm]
theorem vD:BkR X (zA X.K):=by
 intro Z s Y H x v t sl Q I rx hs h;obtain⟨a,xs,rfl,hx,q⟩:=h;cases rx;obtain⟨its,r,ht,hz⟩:=I.list hx;have hlen:=r.length;refine⟨"list",_,slot_list_getitem.lookup,ht.isList.typeIs,?_⟩;refine wpAny_getItem_list_slice ht.isList hs .none .none (.int _ _) (by simp) ?_ (by rw[Xa] <;> lia);rw[lp];refine⟨.ref s.1.1.size,_,I.laid (t':=s.toks) (o:=.lst xs.reverse) (λb ob q=>WU _ q) (W0 _) ?_,Dn,q _ (I.hok.fresh (W0 _))⟩;exact⟨by rw[XR];exact hz,_,0,r.rev,W3 _ rfl⟩
end
open PySem.Calls
section
variable{X:Cx}
end
def oC(z:Xj)(n:Nat):Xj:=⟨(XU n z.cps).foldl (·++·) #[]⟩
theorem oj(c:Nat):∀(n:Nat)(a:Array Nat),(XU n #[c]).foldl (·++·) a=a++(XU n c).toArray
 |0,a=>by simp
 | n+1,a=>by
   rw[Zc,List.foldl_cons,oj c n,Zc,Array.append_assoc];congr 1;simp
theorem kU(c n:Nat):oC ⟨#[c]⟩ n=⟨(XU n c).toArray⟩:=by
 unfold oC;rw[oj];simp
theorem ij(c n:Nat):(oC ⟨#[c]⟩ n).length=n:=by
 rw[kU];show(XU n c).toArray.size=n;simp
section
variable{X:Cx}
def y3:R2:=λx y H Q=>∃(c:Nat)(n:Int),x=.str ⟨#[c]⟩/\y=.int n/\1<=n/\n<=1000/\Q (.str (oC ⟨#[c]⟩ n.toNat)) H
theorem v5:OpR X (Z7 .Mult) y3:=by
 intro Z s Y H x y v u Q I rx ry h;obtain⟨c,n,rfl,rfl,h1,h2,q⟩:=h;obtain⟨t,rfl⟩:=rx;obtain⟨t',rfl⟩:=ry;have hlen:(⟨#[c]⟩:Xj).length=1:=rfl;refine PySem.P.mul_str ?_ ?_ ?_ ?_
 .rw[c! (by lia),c! (by lia)];rfl
 .intro _ _;rw[hlen]
  have:(1:Int)<=(2 ^ 63 - 1) / n:=by
   rw[Int.le_ediv_iff_mul_le (by lia)];lia
  show¬((1:Nat):Int) > (2 ^ 63 - 1) / n;lia
 .intro _ _;rw[hlen,Nat.one_mul];have:Xi=16777216:=ZI;exact c! (by lia)
 .rw[a! (by lia)];by_cases hn:n=1
  .subst hn;rw[b! (by rfl)];exact⟨.str ⟨#[c]⟩,H,I,⟨_,Dn⟩,by rw[show oC ⟨#[c]⟩ (1:Int).toNat=⟨#[c]⟩from kU c 1]at q;exact q⟩
  .rw[a! (by rw[hlen];simp;lia)];refine⟨?_,⟨.str (oC ⟨#[c]⟩ n.toNat),H,I.tok _,⟨_,Dn⟩,q⟩⟩;show(oC ⟨#[c]⟩ n.toNat).length<=Xi;have:Xi=16777216:=ZI;rw[ij];lia
def yL(i j:Int):Prop:=0<j/\j<2 ^ 62
theorem uo:OpR X (Z7 .FloorDiv) (rI yL λi j=>.int (i / j)):=opI λi j _ _ _ _ _ hc q=>by
 have h1:(0:Int)<j:=hc.1;have h2:j<2 ^ 62:=hc.2;refine floordiv_int (by lia) (by rw[Int.fdiv_eq_ediv_of_nonneg i (by lia)];exact q) (.inl (PyProof.noPylong_of_log2 ?_));have:j.natAbs.log2<62:=(Nat.log2_lt (by lia)).mpr (by lia);lia
def isStr(z:Xj):WV->Bool
 |.str y _=>y == z
 |_=>D?
def vB(K:WW):V->List V->Hp->VK->Prop:=λx vs H Q=>∃(l:WS)(zs:List Xj)(z:Xj)(j:Nat),x=.ref l/\vs=[.str z]/\SqL K H l (zs.map F!)/\zs[j]?=A? z/\(∀i,i<j->zs[i]?≠A? z)/\zs.length<=100000/\Q (.int (j:Nat)) H
theorem sk:MtM X "list.index" (vB X.K):=by
 intro Z s Y H x vs v us Q I rx rv h;obtain⟨l,zs,z,j,rfl,rfl,hS,hj,Bv,hz,q⟩:=h;cases rx;obtain⟨u,rfl,t,rfl⟩:=rv.one;obtain⟨its,r,pl,_⟩:=I.list hS;have hlen:=r.length;rw[WO]at hlen;obtain⟨⟨cls,dd,data,sl⟩,ho,hc,n,hd⟩:=pl.isList;simp only at hc hd;subst hc hd;have DK:j<zs.length:=(glE hj)
 have get:∀m,m<zs.length->∃y t',its[m]?=A? (.str y t')/\zs[m]?=A? y:=λm hm=>by
  obtain⟨v,hv,rv⟩:=r.get (i:=m) (x:=.str zs[m]) (by rw[Xd,WQ hm];rfl);obtain⟨t',rfl⟩:=rv;exact⟨_,t',hv,WQ hm⟩
 refine call_meets PySem.F.slot_list_index ⟨_,ho,rfl⟩ PySem.F.entry_list_index (PySem.F.args_list_index_2 _ _)
  (SeqAt.list_indexAt l its.toArray n dd sl (.str z t) (isStr z) j (by rw[Xa];lia) (by lia) ?_ ?_) ⟨ho,λy hy=>?_,⟨.int (j:Nat),H,I.tok _,⟨_,rfl⟩,q⟩⟩
 .obtain⟨y,t',h1,h2⟩:=get j DK;rw[hj]at h2;cases h2
  have h3:its.toArray[j]'(by rw[Xa];lia)=.str z t':=by
   rw[WQ (by lia)]at h1;simpa using h1
  rw[h3];show(z == z)=C?;simp
 .intro m hm Ad;obtain⟨y,t',h1,h2⟩:=get m (by lia)
  have h3:its.toArray[m]'hm=.str y t':=by
   rw[WQ (by lia)]at h1;simpa using h1
  rw[h3];show(y == z)=D?;refine Bool.eq_false_iff.mpr λe=>Bv m Ad ?_;rw[h2,beq_iff_eq.mp e]
 .have C3:y∈its:=by simpa using hy
  obtain⟨m,hm,rfl⟩:=List.getElem_of_mem C3;obtain⟨y,t',h1,h2⟩:=get m (by lia);rw[WQ hm]at h1;have h3:=Xh h1;rw[h3];exact SeqAt.EqAt.str_str _ _ _ _
end
end L2
namespace BB
open PySem L2
structure aL(ks:List (Xj×Int)):Prop where
 ne:1<=ks.length
 le:ks.length<=8
 low:∀k∈ks,Low k.1/\k.1.length<=8
 num:∀k∈ks,0<=k.2/\k.2<=3
 zero:∃k∈ks,k.2=0
 nd:∀(i j:Nat)(k l:Xj×Int),ks[i]?=A? k->ks[j]?=A? l->k.1=l.1->i=j
mutual
def Th.FitS(ks:List (Xj×Int))(S C:Int):Th->Prop
 |.knot n ts=>(n,(ts.length:Int))∈ks/\FitSs ks S C ts
 |.call s k=>0<=s/\s<S/\0<=k/\k<C
def FitSs(ks:List (Xj×Int))(S C:Int):List Th->Prop
 | []=>True
 |t::ts=>t.FitS ks S C/\FitSs ks S C ts
end
theorem FitSs.of{ks:List (Xj×Int)}{C:Int}:∀{ts:List Th},(∀t∈ts,t.FitS ks S C)->FitSs ks S C ts
 | [],_=>by rw[FitSs];trivial
 | t::ts,h=>by
   rw[FitSs];exact⟨h t (W2 ..),FitSs.of λu hu=>h u (WR _ hu)⟩
theorem iL(h:∀t∈ts,t.tall<=n):aB ts<=n:=by
 induction ts with
 |nil=>rw[aB];exact XA _
 | cons t ts ih =>
   rw[aB];have h1:=h t (W2 ..);have h2:=ih λu hu=>h u (WR _ hu);lia
def SameB(l:WS)(H H':Hp):Prop:=∀b o,b≠l->H b=A? o->H' b=A? o
theorem SameB.refl:SameB l H H:=λ_ _ _ e=>e
theorem SameB.trans{A B C:Hp}(h:SameB l A B)(k:SameB l B C):SameB l A C:=λb o hb e=>k b o hb (h b o hb e)
theorem SameB.of(h:j! H H'):SameB l H H':=λb o _ e=>h b o e
theorem SameB.set:SameB l H (upd H l o):=λb o hb e=>by rw[af hb];exact e
theorem SameB.kt(h:SameB l H H')(e:H l=A? (.lst xs)):KT H H':=λb ys eb=>h b _ (aA eb e (by intro z;cases z)) eb
theorem SameB.free{p:WS}(h:SameB l H H')(e:H' l=A? o)(hp:H' p=B?):H p=none:=by
 cases hh:H p with
 |none=>rfl
 | some o' =>
   by_cases z:p=l
   .rw[z,e]at hp;cases hp
   .rw[h p o' z hh]at hp;cases hp
def RowAt(H:Hp)(row:List Th)(a:WS):Prop:=∃as:List WS,H a=A? (.tup (as.map i!))/\Ats H row as
theorem RowAt.mono(k:KT H H'){row:List Th}(h:RowAt H row a):RowAt H' row a:=by
 obtain⟨as,h1,h2⟩:=h;exact⟨as,k _ _ h1,h2.mono k⟩
structure tZ(ins outs:List (Xj×Int))(S:Int)(deep:Nat)(row:List Th):Prop where
 len:row.length=ins.length
 fit:∀(j:Nat)(t:Th)(k:Xj×Int),row[j]?=A? t->ins[j]?=A? k->t.FitS outs S k.2/\t.tall<=deep+1
structure BookAt(H:Hp)(ins outs:List (Xj×Int))(head:Th)(rows:List (List Th))(r ia oa ha ra:WS)(Al Ap Aq:List WS):Prop where
 bk:H r=A? (.tup [.ref ia,.ref oa,.ref ha,.ref ra])
 inE:H ia=A? (.tup (Al.map i!))
 inK:KsAt H ins Al
 outE:H oa=A? (.tup (Ap.map i!))
 outK:KsAt H outs Ap
 hd:At H head ha
 rl:H ra=A? (.tup (Aq.map i!))
 rw:Xv (RowAt H) rows Aq
theorem BookAt.mono(k:KT H H'){head:Th}{r ia oa ha ra:WS}{Al Ap Aq:List WS}(b:BookAt H ins outs head rows r ia oa ha ra Al Ap Aq):BookAt H' ins outs head rows r ia oa ha ra Al Ap Aq :=
 ⟨k _ _ b.bk,k _ _ b.inE,b.inK.mono k,k _ _ b.outE,b.outK.mono k,b.hd.mono k,k _ _ b.rl,w! (λ_ _ e=>e.mono k) b.rw⟩
structure fw(ins outs:List (Xj×Int))(S:Int)(deep:Nat)(head:Th)(rows:List (List Th)):Prop where
 len:(rows.length:Int)=S
 row:∀row∈rows,tZ ins outs S deep row
 hdf:head.FitS outs S 1
 hdt:head.tall<=2
def dA:Xj:=W6 "aeio"
def gum:Xj:=W6 "gumleafs"
theorem wv:Low gum:=by unfold Low;decide +kernel
theorem iO{z:Xj}(h:n<=z.length):(cA z B? (A? (n:Int))).cps.toList=z.cps.toList.take n/\(cA z B? (A? (n:Int))).length=n:=by
 have hz:z.cps.toList.length=z.length:=Xr
 have e:(cA z B? (A? (n:Int))).cps.toList=z.cps.toList.take n:=by
  show(jK z.cps.toList B? (A? (n:Int))).toArray.toList=_;rw[List.toList_toArray];unfold jK;rw[y!,L!,hz,Nat.min_eq_left h];simp
 refine⟨e,?_⟩;show(cA z B? (A? (n:Int))).cps.size=n;rw[<-Xr,e,XC,hz];lia
def kC(begun:Bool)(c0:Nat)(stem:Xj)(at':Int)(L:List Nat)(p:Nat):Xj :=
 if begun then oC ⟨#[c0]⟩ (1+p)else cA stem B? (A? at')++⟨#[L.getD p 0]⟩++cA stem (A? at') B?
theorem xO{at':Int}{L:List Nat}(hL:∀(p r:Nat)(c:Nat),L[p]?=A? c->L[r]?=A? c->p=r){p r:Nat}(hp:p<L.length)(hr:r<L.length)(h:kC begun c0 stem at' L p=kC begun c0 stem at' L r):p=r:=by
 unfold kC at h;cases begun with
 | true =>
   simp only[if_true]at h;have:=h! Str.length h;rw[ij,ij]at this;lia
 | false =>
   simp only[YX,if_false]at h;have h2:=h! (λz:Xj=>z.cps.toList) h;have h3:((cA stem B? (A? at')).cps++#[L.getD p 0]++(cA stem (A? at') B?).cps).toList=((cA stem B? (A? at')).cps++#[L.getD r 0]++(cA stem (A? at') B?).cps).toList:=h2;rw[ZG,ZG,ZG,ZG]at h3;have h4:=List.append_cancel_right h3;have h5:=List.append_cancel_left h4;have h6:L.getD p 0=L.getD r 0:=by simpa using h5
   refine hL p r (L.getD r 0) ?_ ?_
   .rw[<-h6,List.getD,WQ hp];rfl
   .rw[List.getD,WQ hr];rfl
theorem xm{at':Int}{L:List Nat}(hc:97<=c0/\c0<=122)(hs:Low stem)(hL:∀c∈L,97<=c/\c<=122){p:Nat}(hp:p<L.length):Low (kC begun c0 stem at' L p):=by
 unfold kC;cases begun with
 | true =>
   simp only[if_true];rw[kU];intro c BA;have NF:c∈XU (1+p) c0:=by simpa using BA
   rw[List.eq_of_mem_replicate NF];exact hc
 | false =>
   simp only[YX,if_false];have h1:L.getD p 0∈L:=by rw[List.getD,WQ hp];exact List.getElem_mem hp
   have h2:=hL _ h1;exact rH (rH (nL hs _ _) (wz h2.1 h2.2)) (nL hs _ _)
structure pO(letters:Xj):Prop where
 len:letters.length=4
 low:Low (letters++dA)
 inj:∀(p r c:Nat),(letters++dA).cps.toList[p]?=A? c->(letters++dA).cps.toList[r]?=A? c->p=r
theorem oq{letters:Xj}(h1:letters.length=4)(h2:((letters++dA).cps.toList.all λc=>decide (97<=c/\c<=122))=C?)(h3:(letters++dA).cps.toList.Nodup):pO letters:=by
 refine⟨h1,λc hc=>e! (List.all_eq_true.mp h2 c hc),λp r c hp hr=>?_⟩;obtain⟨p1,p2⟩:=Xu.mp hp;obtain⟨r1,r2⟩:=Xu.mp hr;exact(List.getElem_inj h3).mp (p2.trans r2.symm)
theorem rF:pO (W6 "bdhk"):=oq (by decide +kernel) (by decide +kernel) (by decide +kernel)
theorem wc:pO (W6 "npwz"):=oq (by decide +kernel) (by decide +kernel) (by decide +kernel)
def Step(ins:List (Xj×Int))(rows:List (List Th))(s k:Int)(ks:List Th)(p h:Th):Prop :=
 0<=s/\0<=k/\ks[k.toNat]?=A? h/\∃(m:Xj)(hs:List Th)(c:Int)(j:Nat)(row:List Th),h=.knot m hs/\ins[j]?=A? (m,c)/\rows[s.toNat]?=A? row/\row[j]?=A? p
inductive Res(ins:List (Xj×Int))(rows:List (List Th)):Th->Th->Th->Th->Prop
 |stop (n:Xj) (ts:List Th) (k:Th):Res ins rows (.knot n ts) k (.knot n ts) k
 |step {s c:Int} {n:Xj} {ks:List Th} {p h p' k':Th}:Step ins rows s c ks p h->Res ins rows p h p' k'->Res ins rows (.call s c) (.knot n ks) p' k'
inductive Pk(ins:List (Xj×Int))(rows:List (List Th)):Th->Th->List Int->Option Xj->Prop
 |nil (n:Xj) (ts:List Th) (k:Th):Pk ins rows (.knot n ts) k [] (A? n)
 |bad {n:Xj} {ts:List Th} {k:Th} {x:Int} {r:List Int}:¬(0<=x/\x<(ts.length:Int))->Pk ins rows (.knot n ts) k (x::r) B?
 |step {n:Xj} {ts:List Th} {k:Th} {x:Int} {r:List Int} {u p1 k1:Th} {o:Option Xj}:0<=x->ts[x.toNat]?=A? u->Res ins rows u k p1 k1->Pk ins rows p1 k1 r o->Pk ins rows (.knot n ts) k (x::r) o
theorem km{ks:List (Xj×Int)}:∀{ts:List Th},Fits ks ts->∀t∈ts,t.Fit ks
 | [],_,t,ht=>by cases ht
 | a::ts,h,t,ht=>by
   rw[Fits]at h;rcases Xc.mp ht with rfl|ht
   .exact h.1
   .exact km h.2 t ht
theorem mW{ks:List (Xj×Int)}{C:Int}:∀{ts:List Th},FitSs ks S C ts->∀t∈ts,t.FitS ks S C
 | [],_,t,ht=>by cases ht
 | a::ts,h,t,ht=>by
   rw[FitSs]at h;rcases Xc.mp ht with rfl|ht
   .exact h.1
   .exact mW h.2 t ht
theorem vU{d:Nat}{head:Th}(ok:fw ins outs S d head rows){s c:Int}{ks:List Th}(hf:(A! s c).FitS outs S (ks.length:Int))(hk:∀h∈ks,h.Fit ins) :
 ∃p m hs,Step ins rows s c ks p (.knot m hs)/\p.FitS outs S (hs.length:Int)/\(∀h∈hs,h.Fit ins)/\(r! m hs)∈ks:=by
 rw[Th.FitS]at hf;obtain⟨s0,s1,c0,c1⟩:=hf;have hlen:=ok.len;obtain⟨h,hh⟩:∃h,ks[c.toNat]?=A? h:=⟨_,WQ (by lia)⟩;have hm:=WT hh;have z8:=hk h hm;cases h with
 |call a b=>rw[z!]at z8;exact z8.elim
 | knot m hs =>
   rw[z!]at z8;obtain⟨j,hj⟩:=Xk.mp z8.1;obtain⟨row,An⟩:∃row,rows[s.toNat]?=A? row:=⟨_,WQ (by lia)⟩;have Gh:=ok.row row (WT An);have DK:=(glE hj);obtain⟨p,hp⟩:∃p,row[j]?=A? p:=⟨_,WQ (by rw[Gh.len];exact DK)⟩;exact⟨p,m,hs,⟨s0,c0,hh,m,hs,_,j,row,Dn,hj,An,hp⟩,(Gh.fit j p _ hp hj).1,km z8.2,hm⟩
def Bk(H:Hp)(ins outs:List (Xj×Int))(head:Th)(rows:List (List Th))(r:WS):Prop:=∃ia oa ha ra Al Ap Aq,BookAt H ins outs head rows r ia oa ha ra Al Ap Aq
theorem Bk.mono(k:KT H H'){head:Th}{r:WS}(b:Bk H ins outs head rows r):Bk H' ins outs head rows r:=by
 obtain⟨ia,oa,ha,ra,Al,Ap,Aq,b⟩:=b;exact⟨ia,oa,ha,ra,Al,Ap,Aq,b.mono k⟩
end BB
open BB.Th renaming FitS->G!
namespace L2
open PySem PySem.Spec PySem.Calls PyProof.Rows PySem.SeqAt
end L2
namespace BB
open PySem L2
mutual
inductive Out(ins:List (Xj×Int))(rows:List (List Th)):Th->Th->Th->Prop
 |mk {p k:Th} {n:Xj} {ts:List Th} {k':Th} {os:List Th}:Res ins rows p k (.knot n ts) k'->Outs ins rows ts k' os->Out ins rows p k (.knot n os)
inductive Outs(ins:List (Xj×Int))(rows:List (List Th)):List Th->Th->List Th->Prop
 |nil (k:Th):Outs ins rows [] k []
 |cons {t k o:Th} {ts os:List Th}:Out ins rows t k o->Outs ins rows ts k os->Outs ins rows (t::ts) k (o::os)
end
theorem Out.step{s c:Int}{n:Xj}{ks:List Th}{h o:Th}(st:Step ins rows s c ks p h)(g:Out ins rows p h o):Out ins rows (.call s c) (.knot n ks) o:=by
 cases g with
 |mk r os=>exact .mk (.step st r) os
theorem Out.unstep{s c:Int}{n:Xj}{ks:List Th}{o:Th}(g:Out ins rows (.call s c) (.knot n ks) o):∃p h,Step ins rows s c ks p h/\Out ins rows p h o:=by
 cases g with
 | mk r os =>
   cases r with
   |step st r=>exact⟨_,_,st,.mk r os⟩
theorem Out.unknot{n:Xj}{k o:Th}(g:Out ins rows (.knot n ts) k o):∃os,o=.knot n os/\Outs ins rows ts k os:=by
 cases g with
 | mk r os =>
   cases r with
   |stop=>exact⟨_,Dn,os⟩
theorem Outs.length:∀{ts:List Th}{k:Th}{os:List Th},Outs ins rows ts k os->os.length=ts.length
 |_,_,_,.nil _=>rfl
 |_,_,_,.cons _ h=>by rw[W8,W8,Outs.length h]
theorem Outs.get:∀{ts:List Th}{k:Th}{os:List Th}(i:Nat){t o:Th},Outs ins rows ts k os->ts[i]?=A? t->os[i]?=A? o->Out ins rows t k o
 |_,_,_,i,t,o,.nil _,h1,h2=>by simp at h1
 | _,_,_,0,t,o,.cons g _,h1,h2=>by
   simp at h1 h2;subst h1;subst h2;exact g
 |_,_,_,i+1,t,o,.cons _ g,h1,h2=>Outs.get i g (by simpa using h1) (by simpa using h2)
theorem uH(g:aL ins){s c:Int}{ks:List Th}{h h':Th}(a:Step ins rows s c ks p h)(b:Step ins rows s c ks p' h'):p=p'/\h=h':=by
 obtain⟨_,_,a1,m,hs,c1,j,row,a2,a3,a4,a5⟩:=a;obtain⟨_,_,b1,m',Iy,LZ,j',Es,b2,b3,b4,b5⟩:=b;rw[a1]at b1;cases b1;rw[a2]at b2;cases b2;rw[a4]at b4;cases b4;have:=g.nd j j' _ _ a3 b3 rfl;subst this;rw[a5]at b5;cases b5;exact⟨Dn,Dn⟩
theorem vP(g:aL ins){k p1 k1:Th}(a:Res ins rows p k p1 k1):∀{p2 k2:Th},Res ins rows p k p2 k2->p1=p2/\k1=k2:=by
 induction a with
 |stop n ts k=>intro p2 k2 b;cases b;exact⟨Dn,Dn⟩
 | step st r ih =>
   intro p2 k2 b;cases b with
   | step Bt r' =>
     obtain⟨rfl,rfl⟩:=uH g st Bt;exact ih r'
theorem sU(g:aL ins):∀(N:Nat),(∀(p k o o':Th),o.size<=N->Out ins rows p k o->Out ins rows p k o'->o=o')/\(∀(ts:List Th)(k:Th)(os Dq:List Th),ar os<=N->Outs ins rows ts k os->Outs ins rows ts k Dq->os=Dq):=by
 intro N;induction N with
 | zero =>
   refine⟨λp k o o' h=>?_,λts k os Dq h a b=>?_⟩
   .have:=o.size_pos;lia
   .cases a with
    |nil=>cases b;rfl
    | cons x y =>
      rename_i o _ _
      have:=o.size_pos;rw[ar]at h;lia
 | succ N ih =>
   have h1:∀(p k o o':Th),o.size<=N+1->Out ins rows p k o->Out ins rows p k o'->o=o':=by
    intro p k o o' h a b;cases a with
    | mk r os =>
      cases b with
      | mk r' Dq =>
        obtain⟨e1,e2⟩:=vP g r r';cases e1;subst e2;rw[v!]at h;rw[ih.2 _ _ _ _ (by lia) os Dq]
   refine⟨h1,λts=>?_⟩;induction ts with
   |nil=>intro k os Dq h a b;cases a;cases b;rfl
   | cons t ts NG =>
     intro k os Dq h a b;cases a with
     | cons x y =>
       cases b with
       | cons x' y' =>
         rw[ar]at h;rw[h1 _ _ _ _ (by lia) x x',NG _ _ _ (by lia) y y']
theorem rL(g:aL ins){k o o':Th}(a:Out ins rows p k o)(b:Out ins rows p k o'):o=o':=(sU g o.size).1 p k o o' (W0 _) a b
theorem xu{d:Nat}{head:Th}(ok:fw ins outs S d head rows):∀(N:Nat)(n:Xj)(ks:List Th),(r! n ks).tall<=N->(∀h∈ks,h.Fit ins) ->
 ∀(M:Nat)(p:Th),p.size<=M->p.FitS outs S (ks.length:Int)->∃o,Out ins rows p (.knot n ks) o/\o.Fit outs:=by
 intro N;induction N with
 |zero=>intro n ks h;rw[q!]at h;lia
 | succ N ih =>
   intro n ks hN hk M;induction M with
   |zero=>intro p h;have:=p.size_pos;lia
   | succ M UB =>
     intro p hM hf;cases p with
     | call s c =>
       obtain⟨p',m,hs,st,B5,hh,hm⟩:=vU ok hf hk;have:=ce hm;rw[q!]at hN;obtain⟨o,h1,h2⟩:=ih m hs (by lia) hh _ p' (W0 _) B5;exact⟨o,.step st h1,h2⟩
     | knot m ts =>
       rw[G!]at hf;rw[v!]at hM
       have all:∀us:List Th,ar us<=M->FitSs outs S (ks.length:Int) us->∃os,Outs ins rows us (.knot n ks) os/\Fits outs os:=by
        intro us;induction us with
        |nil=>intro _ _;exact⟨[],.nil _,by rw[Fits];trivial⟩
        | cons u us UC =>
          intro h1 h2;rw[ar]at h1;rw[FitSs]at h2;obtain⟨o,g1,g2⟩:=UB u (by lia) h2.1;obtain⟨os,g3,g4⟩:=UC (by lia) h2.2;exact⟨o::os,.cons g1 g3,by rw[Fits];exact⟨g2,g4⟩⟩
       obtain⟨os,g1,g2⟩:=all ts (by lia) hf.2;refine⟨.knot m os,.mk (.stop m ts _) g1,?_⟩;rw[z!,g1.length];exact⟨hf.1,g2⟩
structure Job where
 p:Th
 k:Th
 r:Nat
 o:Th
def JAt(H:Hp)(ins:List (Xj×Int))(rows:List (List Th))(j:Job)(a:WS):Prop:=∃pa ka,H a=A? (.tup [.ref pa,.ref ka,.int (j.r:Nat)])/\At H j.p pa/\At H j.k ka/\Out ins rows j.p j.k j.o
theorem JAt.mono(kt:KT H H'){j:Job}(h:JAt H ins rows j a):JAt H' ins rows j a:=by
 obtain⟨pa,ka,h1,h2,h3,h4⟩:=h;exact⟨pa,ka,kt _ _ h1,h2.mono kt,h3.mono kt,h4⟩
def jos(js:List Job):List Th:=js.map (·.o)
structure JInv(outs:List (Xj×Int))(o:Th)(done:List Th)(js:List Job):Prop where
 wk:done++walks (jos js).reverse=o.walk
 fit:∀j∈js,j.o.Fit outs
 low:∀j∈js,1<=j.r/\j.r - 1+j.o.tall<=o.tall
 top:o.tall<=150\/∃j∈js,o.tall=j.r - 1+j.o.tall
 dn:done.length<=2000
 len:js.length<=1+3 * done.length
theorem li(l:List Th):ar l.reverse=ar l:=by
 induction l with
 |nil=>rfl
 |cons t l ih=>rw[XW,aO,ih,ar,ar,ar];lia
theorem JInv.size{o:Th}{done:List Th}{js:List Job}(h:JInv outs o done js):done.length+ar (jos js)=o.size:=by
 have:=h! Y3 h.wk;rw[W4,fW,li,H!]at this;exact this
theorem JInv.start{k o:Th}(h:o.Fit outs):JInv outs o [] [⟨p,k,1,o⟩]:=by
 have ht:=o.tall_eq;refine⟨by simp[jos,walks],λj hj=>?_,λj hj=>?_,.inr ⟨_,List.mem_singleton_self _,by show o.tall=1 - 1+o.tall;lia⟩,by simp,by simp⟩
 .rw[WY.mp hj];exact h
 .rw[WY.mp hj];exact⟨W0 _,by show 1 - 1+o.tall<=o.tall;lia⟩
def cm(k:Th)(r:Nat)(ts os:List Th):List Job:=(ts.zip os).map λz=>⟨z.1,k,r,z.2⟩
theorem ja(k:Th)(r:Nat):∀(ts os:List Th),ts.length=os.length->jos (cm k r ts os)=os
 | [],[],_=>rfl
 | t::ts,o::os,h=>by
   show o::jos (cm k r ts os)=o::os;rw[ja k r ts os (by simpa using h)]
theorem jz{k:Th}{r:Nat}{j:Job}(h:j∈cm k r ts os):j.r=r/\j.o∈os:=by
 obtain⟨z,hz,rfl⟩:=Xn.mp h;exact⟨Dn,(List.of_mem_zip hz).2⟩
theorem lA{k:Th}{r:Nat}:∀{ts os:List Th},ts.length=os.length->∀{u:Th},u∈os->∃j∈cm k r ts os,j.r=r/\j.o=u
 | [],[],_,u,h=>by cases h
 | t::ts,o::os,hl,u,h=>by
   rcases Xc.mp h with rfl|h
   .exact⟨_,W2 ..,Dn,Dn⟩
   .obtain⟨j,h1,h2⟩:=lA (k:=k) (r:=r) (ts:=ts) (os:=os) (by simpa using hl) h;exact⟨j,WR _ h1,h2⟩
theorem cE{k:Th}{r:Nat}(h:ts.length=os.length):(cm k r ts os).length=os.length:=by
 unfold cm;rw[WO,List.length_zip];lia
theorem mO(g:aL outs){n:Xj}(h:(r! n os).Fit outs):os.length<=3:=by
 rw[z!]at h;have:=(g.num _ h.1).2;have h2:((os.length:Nat):Int)<=3:=this;lia
theorem JInv.turn(g:aL outs){o:Th}{done:List Th}{js:List Job}{k k':Th}{r:Nat}{n:Xj}(h:JInv outs o done (js++[⟨p,k,r,.knot n os⟩]))(hr:r<=150)(hd:done.length<2000)(hl:ts.length=os.length) :
 JInv outs o (done++[.knot n os]) (js++(cm k' (r+1) ts os).reverse):=by
 have z8:=h.fit ⟨p,k,r,.knot n os⟩ (by simp);have CA:=h.low ⟨p,k,r,.knot n os⟩ (by simp);dsimp only at z8 CA;have hw:=mO g z8;have Au:=cE (k:=k') (r:=r+1) hl;refine⟨?_,λj hj=>?_,λj hj=>?_,?_,?_,?_⟩
 .have:=h.wk;rw[<-this]
  have e1:(jos (js++[⟨p,k,r,.knot n os⟩])).reverse=.knot n os::(jos js).reverse:=by
   unfold jos;rw[W5,Yq];rfl
  have e2:(jos (js++(cm k' (r+1) ts os).reverse)).reverse=os++(jos js).reverse:=by
   have:=ja k' (r+1) ts os hl;unfold jos at this |-;rw[W5,List.map_reverse,this,Yq,Y0]
  rw[e1,e2,eK,X7];show done++([r! n os]++_)=done++walks (r! n os::(jos js).reverse);rw[walks,B!];rfl
 .rcases W7.mp hj with hj|hj
  .exact h.fit j (Xg _ hj)
  .rw[z!]at z8;exact z8.2.mem _ (jz (List.mem_reverse.mp hj)).2
 .rcases W7.mp hj with hj|hj
  .exact h.low j (Xg _ hj)
  .obtain⟨h1,h2⟩:=jz (List.mem_reverse.mp hj);have:=ce h2;rw[q!]at CA;rw[h1];lia
 .rcases h.top with ht|⟨j,hj,ht⟩
  .exact .inl ht
  .rcases W7.mp hj with hj|hj
   .exact .inr ⟨j,Xg _ hj,ht⟩
   .rw[WY.mp hj]at ht;dsimp only at ht;rw[q!]at ht;by_cases hz:os=[]
    .subst hz;rw[aB]at ht;left;lia
    .obtain⟨u,hu,hue⟩:=i6 hz;obtain⟨j',h1,h2,h3⟩:=lA (k:=k') (r:=r+1) hl hu;right;refine⟨j',Xl _ (List.mem_reverse.mpr h1),?_⟩;rw[h2,h3];lia
 .rw[W4];show done.length+1<=2000;lia
 .have:=h.len;rw[W4]at this;rw[W4,W4,XR,Au];have h1:([⟨p,k,r,.knot n os⟩]:List Job).length=1:=rfl;have h2:([r! n os]:List Th).length=1:=rfl;lia
theorem JInv.great{o:Th}{done:List Th}{js:List Job}{j:Job}(h:JInv outs o done (js++[j]))(hb:done.length=2000\/150<j.r):¬(o.size<=2000/\o.tall<=150):=by
 rintro⟨h1,h2⟩;rcases hb with hb|hb
 .have:=h.size;unfold jos at this;rw[W5,aO]at this;have h3:=j.o.size_pos
  have:ar ([j].map (·.o))=j.o.size:=by
   show ar [j.o]=_;rw[ar,ar];rfl
  lia
 .have:=(h.low j (by simp)).2;have h3:=j.o.tall_eq;lia
theorem JInv.done{o:Th}{done:List Th}(h:JInv outs o done []):(o.size<=2000/\o.tall<=150)/\done=o.walk:=by
 have h1:=h.size;have h2:=h.dn;have h3:=h.wk;refine⟨⟨?_,?_⟩,?_⟩
 .have:ar (jos [])=0:=rfl;lia
 .rcases h.top with h|⟨j,hj,_⟩
  .exact h
  .cases hj
 .simpa[jos,walks]using h3
end BB
namespace L2
open PySem PySem.Spec PyProof.Rows
section
variable{X:Cx}{p p2 A9:Z9}
def zb(K:WW)(a:WS)(n:Nat):It:=⟨λi H=>i<n/\∃xs,SqT K H a xs/\xs.length=n,λi H x H'=>H'=H/\∀xs,SqT K H a xs->xs[n - 1 - i]?=A? x,λi _=>i=n⟩
theorem sV(a it:WS)(n:Nat):Turn P w K tg (zb K a n) [it] it (λi h=>IsRevT h it a ((n:Int) - 1 - (i:Nat))) where
 mem:=by simp
 obj:=λi h st b hb=>by
  have e:b=it:=by simpa using hb
  subst e;obtain⟨o,e,c,d⟩:=st;exact⟨o,e,λv z=>by rw[d]at z;cases z⟩
 keep:=λi h h' st k=>st.at λo e=>k it (by simp) o e
 item:=by
  walk_at"a";obtain⟨hi,xs,hq,hx⟩:=hg;obtain⟨its,rv,p,hz⟩:=I.tuple hq;have hl:=rv.length;have hn:=dC;obtain⟨x,Bc⟩:∃x,xs[n - 1 - i]?=A? x:=⟨_,WQ (by lia)⟩;obtain⟨u,hu,ru⟩:=rv.get Bc;obtain⟨f0,f1,f2,f3,f4,f5⟩:=hf it (by simp);have e1:(n:Int) - 1 - (i:Nat)=((n - 1 - i:Nat):Int):=by lia
  rw[e1]at st;refine bb_rev_next st p (x:=u) (by simpa using hu) (by rw[Xa];lia) λh' tk Bt sb=>?_;have I1:Inv X Z Y H {s with heap:=h',toks:=tk}:=I.turned (t':=tk) (λb o hb e=>(sb.2 b hb).trans e) f0 f1 f3 f4 f5;have e2:((n - 1 - i:Nat):Int) - 1=(n:Int) - 1 - ((i+1:Nat):Int):=by lia
  rw[e2]at Bt;obtain⟨o,e,c,d⟩:=id Bt;exact⟨u,Dn,j4 (s:={s with heap:=h',toks:=tk}) e c d (by decide) ⟨x,H,I1,ru,⟨Dn,λys hy=>by rw[I.tuple_inj hy hq];exact Bc⟩,Bt,λb hb=>(hf b hb).1⟩⟩
 done:=by
  walk_at"a";have Nr:i=n:=hg;subst Nr;obtain⟨f0,f1,f2,f3,f4,f5⟩:=hf it (by simp);rw[show(i:Int) - 1 - (i:Nat)=-1 by lia]at st;exact bb_rev_end (I.ok.hd hc) st λh' tk eb=>⟨rfl,I.turned (t':=tk) (λb o hb e=>eb b o hb e) f0 f1 f3 f4 f5⟩
 self:=λ_ _ _ _ _ st h=>bb_rev_iter st h
def yR(K:WW)(tl:TE):TI:=λY H R=>tl Y H λx H1=>∃a xs,x=.ref a/\SqT K H1 a xs/\R (zb K a xs.length) H1
theorem vV(g2:Gl X "reversed")(m2:X.mg "reversed"=B?)(he:PE X e te)(h2:XE [e] X.env=[(D?,YQ e X.env)]:=by rfl):PI X tg (.Call (.Name "reversed" p2) [e] [] A9) (yR X.K te):=by
 intro Z s Y H R I h;refine Yo (d6 I g2 m2 boot_reversed (Yl ?_ h2 rfl));rw[h2];show Xf _ _ (spliced ((D?,YQ e X.env)::[])) _ _ s;refine ZA (thn (he Z s Y H _ I h) λu s1⟨x,H1,I1,r1,a,ys,ex,hq,q⟩=>Calls.spliced_nil ?_);subst ex;cases r1;obtain⟨its,rv,p,hz⟩:=I1.tuple hq;have hl:=rv.length;have hn:=dC;refine bb_call_rev_tuple p (by rw[Xa];lia) λtk=>?_
 have hit:IsRevT (s1.1.push (revTup a ((its.toArray.size:Int) - 1))) s1.1.1.size a ((ys.length:Int) - 1 - ((0:Nat):Int)):=by
  rw[hl,show(its.length:Int) - 1 - ((0:Nat):Int)=(its.toArray.size:Int) - 1 by rw[Xa];lia];exact⟨_,W3 _ rfl,Dn,Dn⟩
 refine bb_rev_iter (s:={s1 with heap:=s1.1.push (revTup a ((its.toArray.size:Int) - 1)),toks:=tk}) hit ?_;refine⟨s1.1.1.size,[s1.1.1.size],_,_,H1,Dn,I1.kept (t':=tk) λb o e=>WU _ e,sV a _ ys.length,hit,λb hb=>?_,q⟩;have e:b=s1.1.1.size:=by simpa using hb
 subst e;exact I1.fpOk (W0 _) (I1.hok.fresh (W0 _))
end
end L2
namespace BB
open PySem L2
theorem rQ{F:Hp->α->WS->Prop}(zs:List α)(hF:∀H1 H2 z p,KT H1 H2->F H1 z p->F H2 z p)(hz:zs.length=xs.length)(hn:xs.length<=1000000)
 (JB:∀i H2,j! H H2->i<xs.length->J.go i H2) (Cw:∀H2,j! H H2->J.stop xs.length H2) (Eh:∀(i:Nat)H2 x H3,j! H H2->i<xs.length->J.yld i H2 x H3->H3=H2/\xs[i]?=A? x)
 (hb:∀(i:Nat)x z H2(R:VK)(W':Hp->Prop),xs[i]?=A? x->zs[i]?=A? z->j! H H2->(∀H3 p,j! H2 H3->F H3 z p->R (.ref p) H3)->g x (cσ js Y) H2 λAg H3=>tt Ag H3 λb H4=>if b=C? then te Ag H4 R else W' H4)
 (AS:∀D H' as,H D=B?->j! H H'->H' D=A? (.lst (as.map i!))->Xv (F H') zs as->fin D H') :
 ∀D,H D=B?->∃(n:Nat)(W:Nat->Hp->Prop),W 0 (upd H D (.lst []))/\fA js g tt te Y J D n W λH'=>fin D H':=by
 intro D hD;refine⟨xs.length,λi H'=>i<=xs.length/\j! H H'/\∃as:List WS,H' D=A? (.lst (as.map i!))/\Xv (F H') (zs.take i) as,⟨XA _,am hD _,[],by rw[ae];rfl,.nil⟩,?_⟩;rintro i H' ⟨hi,s1,as,e1,hp⟩;by_cases Ad:i<xs.length
 .refine .inr ⟨Ad,JB i H' s1 Ad,λv H1 hy=>?_⟩;obtain⟨e,hx⟩:=Eh i H' v H1 s1 Ad hy;subst e;obtain⟨z,Gg⟩:∃z,zs[i]?=A? z:=⟨_,WQ (by lia)⟩;have hl:(zs.take i).length=as.length:=W9 hp;rw[XC]at hl;refine hb i v z _ _ _ hx Gg s1 λH3 p s3 UD=>⟨_,s3 _ _ e1,?_,Ad,aC (s1.trans s3) hD,as++[p],?_,?_⟩
  .rw[WO];have:Xi=16777216:=ZI;lia
  .rw[ae,W5];rfl
  .have kt:KT H3 (upd H3 D (.lst (as.map i!++[.ref p]))):=aY (s3 _ _ e1);rw[take_snoc Gg];exact p! (w! (λx y e=>hF _ _ _ _ ((k! s3).trans kt) e) hp) (.cons (hF _ _ _ _ kt UD) .nil)
 .have Ce:i=xs.length:=by lia
  subst Ce;refine .inl ⟨Cw _ s1,AS D H' as hD s1 e1 ?_⟩;rw[Yi (by lia)]at hp;exact hp
end BB
namespace L2
open PySem PySem.Spec PyProof.Rows
theorem FnOk.x0{k:Nat}{RN:Sp}(F:FnOk P w K mg base (CX1 P w) k f fd ps RN)
 (h:∀vs H Q E,sp vs H Q E->RN vs H Q λ_ _ _=>False):FnOk P w K mg base CX0 k f fd ps sp :=
 ⟨λvs H Q E q=>F.len vs H Q _ (h _ _ _ _ q),λA outer s H args us vs Q E hr he hb hv hs=>codeAny_mono (F.run A outer s H args us vs Q _ hr he hb hv (h _ _ _ _ hs)) λr s' hc=>by
  cases r with
  | error e =>
    obtain⟨_,_,_,_,_,_,_,_,_,_,_,_,_,hE⟩:=(show CX1 P w outer H s (λ_ _ _=>False) e s' from hc);exact hE.elim
  |ok v=>cases v <;> exact hc⟩
theorem us1:∀{us:List α},us.length=1->∃a,us=[a]
 | [a],_=>⟨a,rfl⟩
theorem us2:∀{us:List α},us.length=2->∃a b,us=[a,b]
 | [a,b],_=>⟨a,b,rfl⟩
theorem us3:∀{us:List α},us.length=3->∃a b c,us=[a,b,c]
 | [a,b,c],_=>⟨a,b,c,rfl⟩
theorem us4:∀{us:List α},us.length=4->∃a b c d,us=[a,b,c,d]
 | [a,b,c,d],_=>⟨a,b,c,d,rfl⟩
theorem us5:∀{us:List α},us.length=5->∃a b c d e,us=[a,b,c,d,e]
 | [a,b,c,d,e],_=>⟨a,b,c,d,e,rfl⟩
end L2
namespace PySem
open Sem (wp)
section
variable{K:Type}[DecidableEq K]{knd:HeapKind prog w K}
end
end PySem
namespace L2
open PySem PySem.Spec PyProof.Rows BB
end L2
namespace BB
open PySem L2
end BB
namespace PySem
open Sem (wp)
section
variable{I:WS}{wr:List WS}{G:Array GenState->Array GenState->Prop}{P:Nat->WV->Prop}{St:Nat->WZ->Prop}
end
end PySem
namespace L2
open PySem PySem.Spec PyProof.Rows
section
variable{X:Cx}{o:XZ}{to:TE}{p2 A9 apos Aj:Z9}
end
end L2
namespace PySem
open Sem (wp)
namespace F
theorem bb_list_nokeys:typeLookup (.type "list") "keys"=pure none:=by rw[typeLookup_type,builtinLookup_eq_fast];kernel_rfl
end F
section
variable{xs:Array WV}{k:Nat}
theorem bb_nokeysL{Q:Option WV->WZ->Prop}(hA:A.handled=B?)(hx:s.1.get? a=A? {cls:=.type "list",data:=.seq xs k})
 (q:∀h' tk,(∀b o,s.1.get? b=A? o->h'.get? b=A? o)->Q B? {s with heap:=h',toks:=tk}):Xf (Xx prog w) A (getAttr? (.ref a) "keys") Q E s:=by
 obtain⟨hp,g,d,tk,os⟩:=s;have gT:∀z,(⟨hp,g,d,z,os⟩:WZ).TypeIs (.ref a) "list":=λ_=>⟨_,hx,rfl⟩;have g1:=sub_AttributeError;have g3:=F.slot_list_getattribute.lookup;have g4:=F.slot_list_getattribute.bind (.ref a);have g5:=am_list_getattr_none;unfold getAttr? getAttrBy? getAttrBy
 repeat (any_goals (first|assumption|exact gT _|((with_reducible show Xf _ _ (call (Value.builtin "list.__getattribute__") _ _) _ _ _);refine call_meets F.slot_list_getattribute (gT _) am_entry_list_getattribute (F.args_list_getattribute_2 _ _) (meets_getattribute_miss_list a xs k #[] "keys" _ F.bb_list_nokeys (by decide +kernel) (by decide)) ⟨hx,hA,λh' UE e Bc=>?_⟩)|wp_step))
 obtain⟨t',u',he⟩:=Bc.there;show Xf _ _ (getattributeRaised _ _ _ _ _ _ _) _ _ _;unfold getattributeRaised
 repeat (any_goals (first|assumption|wp_step))
 exact q h' UE Bc.keeps
end
end PySem
namespace L2
open PySem PySem.Spec PyProof.Rows
def dz:List (List Key×V)->List (List Key×V)->List (List Key×V)
 |kvs,[]=>kvs
 |kvs,p::ps=>dz (putK kvs p.1 p.2) ps
def PrA(H:Hp)(pr:List Key×V)(pa:WS):Prop:=∃ka,H pa=A? (.tup [.ref ka,pr.2])/\H ka=A? (.tup (pr.1.map kV))
section
variable{X:Cx}
theorem tI{r:WV}{k:List Key}{Q:Unit->WZ->Prop}(hu:(tupleKind (aU X.prog X.w)).room A)(I:Inv X Z Y H s)(e:H a=A? (.dT kvs))(eb:H b=A? (.tup (k.map kV)))(l:kvs.length<Xi)(rv:RelV v r)(h:∀h' tk,X1 a s.1 h'->Inv X Z Y (upd H a (.dT (putK kvs k v))) {s with heap:=h',toks:=tk}->Q () {s with heap:=h',toks:=tk}) :
 Xf (Xx X.prog X.w) A (dictSet a (.ref b) r) Q E s:=by
 obtain⟨z,hd,xs,rel,dd⟩:=oU I.hok e;have hz:xs.length<=Xi:=by rw[<-W9 rel];exact z
 have hl:(putK kvs k v).length<=Xi:=by have:=bI kvs k v;lia
 refine wpAny_dictSet_heap (hsz:=hz) hu (gN I.hok eb) dd λh' Eo hs=>h _ _ hs ?_;obtain⟨q,es,ep,hq,h2,h3,h4,_,h5⟩:=Eo;refine iH I (by rw[e];exact Y8) hs ⟨q,hq⟩ ⟨hl,hd,_,(rel.put k eb rv).keeps λc ys ec=>?_,q,es,ep,hq,h2,h3,h4,h5⟩;rw[af (aA ec e (λz=>nomatch z))];exact ec
theorem qN{prs:List (List Key×V)}{ps:List WS}(hh:A.handled=B?)(hu:A.units+8<Zb)(hn:prs.length<=10000) :
 ∀(m i:Nat)(s:WZ)(tk:Tok)(H:Hp)(kvs:List (List Key×V)),prs.length - i=m->i<=prs.length->Inv X Z Y H s->H d=A? (.dT kvs)->kvs.length<=i->jd X Z H it->s.1.IsListIter it l i->H l=A? (.lst (ps.map i!))->Xv (PrA H) prs ps ->
   (∀s',Inv X Z Y (upd H d (.dT (dz kvs (prs.drop i)))) s'->R (.ok (.ret .none)) s') ->
   codeAny (Xx X.prog X.w) A (.builtin "dict.update.loop" ⟨[.ref d,.ref it,.int i tk,.none],[]⟩) R s:=by
 intro m;induction m with
 | zero =>
   intro i s tk H kvs hk hi I ed Au hf hit el BX hR;have Cu:i=prs.length:=by lia
   subst Cu;obtain⟨its,rv,p,hz⟩:=I.list (n! (K:=X.K) el);have AF:prs.length=ps.length:=W9 BX;have hl:=rv.length;rw[WO]at hl;obtain⟨f0,f1,f2,f3,f4,f5⟩:=hf;refine codeAny_builtin E! ?_;rw[ZM u! _];show Xf _ A.in1 (Zw (.ref it) >>= _) _ _ s;refine WN (wpAny_pyNext_list_end hh hit p.isList (by simp;lia) λh' eb=>?_);refine WN (WX (WX ?_));refine hR _ ?_;rw[List.drop_length]
   have e0:upd H d (.dT (dz kvs []))=H:=by
    funext b;by_cases hb:b=d
    .rw[hb,ae,ed];rfl
    .rw[af hb]
   rw[e0];exact I.turned (t':=s.toks) (λb o hb e=>eb b o hb e) f0 f1 f3 f4 f5
 | succ m ih =>
   intro i s tk H kvs hk hi I ed Au hf hit el BX hR;have Ad:i<prs.length:=by lia
   have AF:prs.length=ps.length:=W9 BX;obtain⟨its,rv,p,hz⟩:=I.list (n! (K:=X.K) el);have hl:=rv.length;rw[WO]at hl;obtain⟨pa,CB,ka,Bd,AJ⟩:=x! BX (WQ Ad);have hx:(ps.map i!)[i]?=A? (.ref pa):=by rw[Xd,CB];rfl
   obtain⟨u,JK,ru⟩:=rv.get hx;cases ru;obtain⟨f0,f1,f2,f3,f4,f5⟩:=id hf;refine codeAny_builtin E! ?_;rw[ZM u! _];show Xf _ A.in1 (Zw (.ref it) >>= _) _ _ s;refine WN (wpAny_pyNext_list_item hit p.isList (x:=.ref pa) (by simpa using JK) λh1 GZ Gi=>?_);have I1:Inv X Z Y H {s with heap:=h1}:=I.turned (t':=s.toks) (λb o hb e=>(Gi.2 b hb).trans e) f0 f1 f3 f4 f5;obtain⟨_,Aa,n2,NH,e2⟩:=(show ObjOk X.prog X.w H h1 pa (.tup [.ref ka,(prs[i]).2])from I1.hok pa _ Bd)
   obtain⟨vv,rfl,NI⟩:∃vv,Aa=[.ref ka,vv]/\RelV (prs[i]).2 vv:=by
    cases NH with
    | cons a b =>
      cases b with
      | cons c d =>
        cases d;cases a;exact⟨_,Dn,c⟩
   have NJ:(⟨h1,s.gens,s.drawn,s.toks,s.os⟩:WZ).TypeIs (.ref pa) "tuple":=⟨_,e2,rfl⟩;refine WN (Yn ?_);refine WN (wpAny_tryCatch ?_);unfold Builtin.Dict.pairItems;refine WN (Zs NJ ?_);rw[b! (by decide)];refine WN (YN e2 rfl (WX ?_));show Xf _ _ (holding [.ref ka,vv] (dictSet d (.ref ka) vv)) _ _ _;refine Yn (tI (k:=(prs[i]).1) ?_ I1 ed AJ (by have:=dC;rw[ZI];lia) NI λh2 UG F' I2=>?_)
   .exact Z5 (by lia)
   refine WX ⟨plainId_quiet u! _,?_⟩
   have Et:YJ ((i:Int)+1)=.int ((i+1:Nat):Int) 0:=by
    show Value.int ((i:Int)+1) 0=_;rw[show((i+1:Nat):Int)=(i:Int)+1 by lia]
   rw[Et];have G0:it≠d:=λz=>by rw[z,ed]at f0;cases f0
   refine ih (i+1) _ 0 _ (putK kvs (prs[i]).1 (prs[i]).2) (by lia) Ad I2 ae (by have:=bI kvs (prs[i]).1 (prs[i]).2;lia) ⟨by rw[af G0];exact f0,f1,f2,f3,f4,f5⟩ ?_ ?_ ?_ λs' I'=>hR s' ?_
   .obtain⟨o,g1,r⟩:=GZ;exact⟨o,(F'.2 it G0).trans g1,r⟩
   .rw[af (aA el ed (λz=>nomatch z))];exact el
   .refine w! (λx y e=>?_) BX;obtain⟨UH,g1,g2⟩:=e;exact⟨UH,by rw[af (aA g1 ed (λz=>nomatch z))];exact g1,by rw[af (aA g2 ed (λz=>nomatch z))];exact g2⟩
   .rw[iA]at I';rw[YE Ad];exact I'
def xN:List V->Hp->VK->Prop:=λxs H Q=>∃(l:WS)(ps:List WS)(prs:List (List Key×V)),xs=[.ref l]/\H l=A? (.lst (ps.map i!))/\Xv (PrA H) prs ps/\prs.length<=10000/\∀d,H d=B?->Q (.ref d) (upd H d (.dT (dz [] prs)))
theorem j6(hu:X.A.units+12<Zb)(hc:X.calm=C?):dm X (.type "dict") xN:=by
 intro Z s Y H xs us Q I r h;obtain⟨l,ps,prs,rfl,el,BX,hn,q⟩:=h;obtain⟨u,rfl,rx⟩:=vals1 r;cases rx;obtain⟨z,its,n,rv,e⟩:=(show ObjOk X.prog X.w H s.1 l (.lst (ps.map i!))from I.hok l _ el);refine callType_codes (Q₁:=λobj zX=>obj=.ref s.1.1.size/\zX={s with heap:=s.1.push {cls:=.type "dict",data:=.dict #[]}}) PySem.F.kt_called_dict (PySem.F.kt_typeCall_dict_1 _) PySem.F.entry_dict_init (kt_code_dict_new _ ⟨rfl,rfl⟩) ?_;rintro obj zX ⟨rfl,rfl⟩;have gn:(s.1.push {cls:=.type "dict",data:=.dict #[]}).DictOf (aU X.prog X.w) s.1.1.size []:=Heap.DictOf.new s.1;have gt:(s.1.push {cls:=.type "dict",data:=.dict #[]}).get? l=A? {cls:=.type "list",data:=.seq its.toArray n}:=WU _ e;refine⟨gn.typeIs,PySem.F.args_dict_init_2 _ _,?_⟩;have Ep:=I.hok.fresh (W0 s.1.1.size);have I1:Inv X Z Y (upd H s.1.1.size (.dT [])) {s with heap:=s.1.push {cls:=.type "dict",data:=.dict #[]}}:=I.laid (a:=s.1.1.size) (o:=.dT []) (t':=s.toks) (λ_ _ q=>WU _ q) (W0 _) (ol s.1 I.big);unfold YZ.«dict.__init__»;refine WN ?_;unfold Builtin.Dict.selfAndRest;refine WN (wpAny_notOrdered_dict gn.typeIs ?_);show Xf _ _ (pure (s.1.1.size,[XI l])) _ _ _;refine WX ?_;show Xf _ _ (Builtin.Dict.updateFrom "dict.__init__" s.1.1.size (.ref l) [] .none) _ _ _;unfold Builtin.Dict.updateFrom;refine WN (Zs (T:="list") ⟨_,gt,rfl⟩ ?_);rw[b! (by decide)];refine WN (bb_nokeysL (A:=X.A.in1.in1) (I.ok.hd hc) gt λh1 G1 k1=>?_);have I2:Inv X Z Y (upd H s.1.1.size (.dT [])) {s with heap:=h1,toks:=G1}:=I1.kept (t':=G1) λb o e=>k1 b o e;simp only[Option.isNone_none,if_true];refine WN (wpAny_rule ?_);obtain⟨od,es,ep,NK,UI⟩:=id gn;have Ad:s.1.1.size<h1.objs.size:=Xe (k1 _ _ NK);refine WN (wpAny_pyIter_list (l:=l) (items:=its.toArray) ⟨_,k1 _ _ gt,rfl,n,rfl⟩ ?_);refine WX ⟨plainId_quiet u! _,?_⟩;have DL:l≠s.1.1.size:=aq el Ep
 have G2:Xv (PrA (upd H s.1.1.size (.dT []))) prs ps:=w! (λx y e=>by
  obtain⟨ka,g1,g2⟩:=e;exact⟨ka,by rw[af (aq g1 Ep)];exact g1,by rw[af (aq g2 Ep)];exact g2⟩) BX
 have Gf:(upd H s.1.1.size (.dT [])) h1.objs.size=none:=I2.hok.fresh (W0 _);refine qN (A:=X.A.in1) (d:=s.1.1.size) (it:=h1.objs.size) (l:=l) (prs:=prs) (ps:=ps) (I.ok.hd hc) (by show X.A.units+1+8<Zb;lia) hn prs.length 0 _ 0 (upd H s.1.1.size (.dT [])) [] (Nat.sub_zero _) (XA _) (I2.kept (t':=G1) λb o e=>WU _ e) ae (W0 _) (I2.fpOk (W0 _) Gf) ⟨_,W3 _ rfl,rfl,rfl⟩ (by rw[af DL];exact el) G2 λs' I'=>?_;rw[iA,Yw]at I';exact⟨Dn,.ref s.1.1.size,_,I',Dn,q _ Ep⟩
end
end L2
namespace BB
open PySem L2
theorem rV{k:Nat}(hr:L2.Room k A):A.units+12<Zb:=by
 have:=hr.units;lia
mutual
theorem se(pre:List Int):∀t:Th,(t.pl pre).map (·.2)=t.walk
 | .knot n ks=>by
   rw[Th.pl_eq,B!,XG];show r! n ks::(pls pre 0 ks).map (·.2)=r! n ks::walks ks;rw[l4 pre 0 ks]
 |.call s k=>by rw[Th.pl_eq,B!,XG];rfl
theorem l4(pre:List Int)(i:Int):∀ts:List Th,(pls pre i ts).map (·.2)=walks ts
 | []=>by rw[pls,walks];rfl
 |t::ts=>by rw[pls,walks,W5,se _ t,l4 pre (i+1) ts]
end
theorem rN{t:Th}{s k:Int}(h:A! s k∈t.walk):∃c∈callsOf (t.pl []),c.2=(s,k):=by
 rw[<-se [] t]at h;obtain⟨p,hp,e⟩:=Xn.mp h;refine⟨(p.1,s,k),?_,Dn⟩;unfold callsOf;refine List.mem_filterMap.mpr ⟨p,hp,?_⟩;obtain⟨a,b⟩:=p;dsimp only at e;rw[e];rfl
theorem jf{R:List Key->V->Prop}:∀(prs kvs:List (List Key×V)),(∀k v,aG kvs k=A? v->R k v)->(∀p∈prs,R p.1 p.2) ->
 (∀k v,aG (dz kvs prs) k=A? v->R k v)/\(∀k,((∃v,aG kvs k=A? v)\/∃p∈prs,p.1=k)->∃v,aG (dz kvs prs) k=A? v)
 | [],kvs,h1,_=>⟨h1,λk h=>by
   rcases h with h|⟨p,hp,_⟩
   .exact h
   .cases hp⟩
 | p::prs,kvs,h1,h2=>by
   have ih:=jf (R:=R) prs (putK kvs p.1 p.2) (λk v hv=>by
    rw[cu]at hv;by_cases e:k=p.1
    .rw[b! e]at hv;cases hv;rw[e];exact h2 p (W2 ..)
    .rw[a! e]at hv;exact h1 k v hv) (λx hx=>h2 x (WR _ hx))
   refine⟨ih.1,λk h=>ih.2 k ?_⟩;by_cases e:k=p.1
   .left;exact⟨p.2,by rw[cu,b! e]⟩
   .rcases h with⟨v,hv⟩|⟨x,hx,RO⟩
    .left;exact⟨v,by rw[cu,a! e];exact hv⟩
    .rcases Xc.mp hx with rfl|hx
     .exact g! RO.symm e
     .exact .inr ⟨x,hx,RO⟩
end BB
namespace PySem
theorem bb_zip_next0{TI TO:WS}{k:Nat}{xs:Array WV}{x y a b:WV}{Q:Option WV->WZ->Prop}(D:ZipApart z TI TO i1 i2 l1 l2)
 (hz:IsZip s.1 z TI TO .none) (hTI:ZD s.1 TI (.ref i1) (.ref i2)) (hTO:ZD s.1 TO a b)
 (h1:s.1.IsTupleIter i1 l1 k) (h2:s.1.IsTupleIter i2 l2 k) (Dt:s.1.IsTuple l1 xs) (BC:s.1.IsTuple l2 ys) (hx:xs[k]?=A? x) (hy:ys[k]?=A? y)
 (hQ:∀h',IsZip h' z TI TO (YJ s.1.1.size)->ZD h' TO x y->h'.IsTupleIter i1 l1 (k+1)->h'.IsTupleIter i2 l2 (k+1)->ZD h' s.1.1.size x y->h'.objs.size=s.1.1.size+1 ->
  (∀c o,c≠z->c≠TO->c≠i1->c≠i2->s.1.get? c=A? o->h'.get? c=A? o)->Q (A? (.ref s.1.1.size)) {s with heap:=h'}) :
 Xf (Xx prog w) A (Zw (.ref z)) Q E s:=by
 have hT:s.TypeIs (.ref z) "zip":=⟨_,hz,rfl⟩;unfold Zw;refine WN (ZO (XS (name:=W6 "__next__") hT F.slot_zip_next (XY F.slot_zip_next hT F.entry_zip_next ?_ (F.args_zip_next_1 _))));exact bb_zip_itemA D hz hTI hTO h1 h2 Dt BC hx hy λh' a1 a2 a3 a4 a5 a6 a7=>WX (hQ h' a1 a2 a3 a4 a5 a6 a7)
end PySem
namespace L2
open PySem PySem.Spec PyProof.Rows
def Itz(K:WW)(a b:WS):It:=⟨λi H=>∃xs ys x y,SqT K H a xs/\SqT K H b ys/\xs[i]?=A? x/\ys[i]?=A? y,λi H v H'=>∃p x y,H p=B?/\v=.ref p/\H'=upd H p (.tup [x,y])/\(∀xs,SqT K H a xs->xs[i]?=A? x)/\(∀ys,SqT K H b ys->ys[i]?=A? y),λi H=>∃xs ys,SqT K H a xs/\SqT K H b ys/\(xs.length<=i\/ys.length<=i)⟩
structure ZTn(z TI TO i1 i2 a b:WS)(i:Nat)(h:X3):Prop where
 ap:ZipApart z TI TO i1 i2 a b
 zip:IsZip h z TI TO .none
 hTI:ZD h TI (.ref i1) (.ref i2)
 hTO:∃u v,ZD h TO u v
 h1:h.IsTupleIter i1 a i
 h2:h.IsTupleIter i2 b i
theorem vd{k1}(a b z TI TO i1 i2:WS):Turn P w K (.Tuple elts k1 pos) (Itz K a b) [z,TI,TO,i1,i2] z (ZTn z TI TO i1 i2 a b) where
 mem:=by simp
 obj:=λi h st c hc=>by
  obtain⟨D,hz,hTI,⟨u,v,hTO⟩,⟨o1,a1,a2,a3⟩,⟨o2,b1,b2,b3⟩⟩:=st;simp only[Xc,ZK,or_false]at hc;rcases hc with rfl|rfl|rfl|rfl|rfl
  .exact⟨_,hz,λv z=>by cases z⟩
  .exact⟨_,hTI,λv z=>by cases z⟩
  .exact⟨_,hTO,λv z=>by cases z⟩
  .exact⟨o1,a1,λv z=>by rw[a3]at z;cases z⟩
  .exact⟨o2,b1,λv z=>by rw[b3]at z;cases z⟩
 keep:=λi h h' st k=>by
  obtain⟨D,hz,hTI,⟨u,v,hTO⟩,⟨o1,a1,a2⟩,⟨o2,b1,b2⟩⟩:=st;exact⟨D,k _ (by simp) _ hz,k _ (by simp) _ hTI,⟨u,v,k _ (by simp) _ hTO⟩,⟨o1,k _ (by simp) _ a1,a2⟩,⟨o2,k _ (by simp) _ b1,b2⟩⟩
 item:=by
  walk_at"a";obtain⟨xs,ys,x,y,DM,DN,hx,hy⟩:=hg;obtain⟨ia,Fm,pa,Eu⟩:=I.tuple DM;obtain⟨ib,Fn,pb,JL⟩:=I.tuple DN;obtain⟨u,hu,ru⟩:=Fm.get hx;obtain⟨v,hv,rv⟩:=Fn.get hy;obtain⟨D,hz,hTI,⟨ta,tb,hTO⟩,h1,h2⟩:=st
  have lt:∀c∈[z,TI,TO,i1,i2],c<s.1.1.size:=λc hc=>by
   simp only[Xc,ZK,or_false]at hc;rcases hc with rfl|rfl|rfl|rfl|rfl
   .exact Xe hz
   .exact Xe hTI
   .exact Xe hTO
   .obtain⟨o,e,_⟩:=h1;exact Xe e
   .obtain⟨o,e,_⟩:=h2;exact Xe e
  refine bb_zip_next0 D hz hTI hTO h1 h2 (show s.1.IsTuple a ia.toArray from pa) (show s.1.IsTuple b ib.toArray from pb) (by simpa using hu) (by simpa using hv) λCO a1 a2 a3 a4 a5 a6 a7=>?_;refine⟨_,Dn,wpAny_letOwnedTupleGo_zip a1 λDc g1 sb=>?_⟩;replace sb:X1 z CO Dc:=sb;have Fi:H s.1.1.size=none:=I.hok.fresh (W0 _)
  have IA:Inv X Z Y (upd H s.1.1.size (.tup [x,y])) {s with heap:=s.1.push {cls:=.type "tuple",data:=.seq #[u,v]},toks:=s.toks} :=
   I.laid (o:=.tup [x,y]) (λb ob q=>WU _ q) (W0 _) ⟨by show 2<=Xi;decide,[u,v],0,.cons ru (.cons rv .nil),W3 _ rfl⟩
  have UJ:s.1.1.size≠z:=Nat.ne_of_gt (lt z (by simp));refine⟨.ref s.1.1.size,upd H s.1.1.size (.tup [x,y]),?_,Dn,⟨_,x,y,Fi,Dn,Dn,λzs Gj=>by rw[I.tuple_inj Gj DM];exact hx,λzs Gj=>by rw[I.tuple_inj Gj DN];exact hy⟩,?_,λc hc=>?_⟩
  .have IB:Inv X Z Y (upd H s.1.1.size (.tup [x,y])) {s with heap:=Dc,toks:=s.toks}:=by
    refine Inv.turnedL (s:={s with heap:=s.1.push {cls:=.type "tuple",data:=.seq #[u,v]},toks:=s.toks}) (h':=Dc) (fp:=[z,TI,TO,i1,i2]) (t':=s.toks) IA (λc o hc q=>?_) λc hc=>?_
    .have n1:c≠z:=λe=>hc (by simp[e]);have n2:c≠TO:=λe=>hc (by simp[e]);have n3:c≠i1:=λe=>hc (by simp[e]);have n4:c≠i2:=λe=>hc (by simp[e]);rw[sb.2 c n1];by_cases hb2:c=s.1.1.size
     .subst hb2;have q':(s.1.push {cls:=.type "tuple",data:=.seq #[u,v]}).get? s.1.1.size=A? o:=q;rw[W3 _ rfl]at q';rw[<-q'];exact a5
     .have q':(s.1.push {cls:=.type "tuple",data:=.seq #[u,v]}).get? c=A? o:=q;rw[Heap.get?_push_ne _ _ _ hb2]at q';exact a7 c o n1 n2 n3 n4 q'
    .obtain⟨f0,f1⟩:=hf c hc;exact⟨by rw[af (XF (lt c hc))];exact f0,f1⟩
   exact IB
  .have sT:∀c o,c≠z->CO.get? c=A? o->Dc.get? c=A? o:=λc o hc e=>(sb.2 c hc).trans e;refine⟨D,g1,sT _ _ D.TIz (a7 _ _ D.TIz D.TITO D.TIi1 D.TIi2 hTI),⟨_,_,sT _ _ D.TOz a2⟩,?_,?_⟩
   .obtain⟨o,e,r⟩:=a3;exact⟨o,sT _ _ D.i1z e,r⟩
   .obtain⟨o,e,r⟩:=a4;exact⟨o,sT _ _ D.i2z e,r⟩
  .rw[af (XF (lt c hc))];exact(hf c hc).1
 done:=by
  walk_at"a";obtain⟨xs,ys,DM,DN,Cy⟩:=hg;obtain⟨ia,Fm,pa,Eu⟩:=I.tuple DM;obtain⟨ib,Fn,pb,JL⟩:=I.tuple DN;have JM:=Fm.length;have UK:=Fn.length;obtain⟨D,hz,hTI,hTO,h1,h2⟩:=st;refine bb_zip_done (show X.A.handled=B? from I.ok.hd hc) ⟨D,.inl hz,hTI,hTO,h1,h2,pa,pb⟩ ?_ λh' kp=>⟨rfl,?_⟩
  .rcases Cy with h|h
   .exact .inl (by simp;lia)
   .exact .inr (by simp;lia)
  exact I.turnedL (fp:=[z,TI,TO,i1,i2]) (t':=s.toks) (λc o hc q=>kp c o (λhm=>hc (by simp only[Xc,ZK,or_false]at hm |-;rcases hm with h|h|h|h <;> simp[h])) q) hf
 self:=λ_ _ _ _ _ st h=>wpAny_pyIter_zip st.zip h
section
variable{X:Cx}{e1 e2:XZ}{t:TA}{p2 A9:Z9}
def zz(K:WW)(t:TA):TI:=λY H R=>t Y H λvs H1=>∃a b,vs=[.ref a,.ref b]/\(∃xs,SqT K H1 a xs)/\(∃ys,SqT K H1 b ys)/\R (Itz K a b) H1
theorem xC{k1}(g2:Gl X "zip")(m2:X.mg "zip"=B?)(ha:PA X [e1,e2] t)
 (h2:XE [e1,e2] X.env=(D?,YQ e1 X.env)::XE [e2] X.env:=by rfl) (h3:(ZC A9 (XE [e2] X.env)).any (·.1)=false:=by rfl):PI X (.Tuple elts k1 pos) (.Call (.Name "zip" p2) [e1,e2] [] A9) (zz X.K t):=by
 intro Z s Y H R I h;refine Yo (d6 I g2 m2 boot_zip ?_);refine Yl (thn (ha A9 Z s Y H _ I h) λus s2⟨vs,H2,I2,r,a,b,ev,⟨xs,DM⟩,⟨ys,DN⟩,q⟩=>?_) h2 h3;subst ev;obtain⟨u1,u2,rfl,r1,r2⟩:=vals2 r;cases r1;cases r2;obtain⟨ia,Fm,pa,Eu⟩:=I2.tuple DM;obtain⟨ib,Fn,pb,JL⟩:=I2.tuple DN;have AL:a<s2.1.1.size:=by obtain⟨o,e,_⟩:=pa;exact Xe e
 have Bm:b<s2.1.1.size:=by obtain⟨o,e,_⟩:=pb;exact Xe e
 refine bb_call_zip (show s2.1.IsTuple a ia.toArray from pa) (show s2.1.IsTuple b ib.toArray from pb) λh' z1 z2 z3 z4 z5 z6 z7=>?_;have D:ZipApart (s2.1.1.size+4) (s2.1.1.size+2) (s2.1.1.size+3) s2.1.1.size (s2.1.1.size+1) a b:=zipApart_new AL Bm;refine wpAny_pyIter_zip (s:={s2 with heap:=h'}) z1 ?_;refine⟨s2.1.1.size+4,[s2.1.1.size+4,s2.1.1.size+2,s2.1.1.size+3,s2.1.1.size,s2.1.1.size+1],_,_,H2,Dn,I2.kept (t':=s2.toks) z7,vd a b _ _ _ _ _,⟨D,z1,z2,⟨_,_,z3⟩,z4,z5⟩,λc hc=>?_,q⟩
 have BA:s2.1.1.size<=c:=by
  simp only[Xc,ZK,or_false]at hc;rcases hc with h|h|h|h|h <;> rw[h]
  .exact YV _ _
  .exact YV _ _
  .exact YV _ _
  .exact W0 _
  .exact YV _ _
 exact I2.fpOk BA (I2.hok.fresh BA)
end
end L2
namespace BB
open PySem L2
noncomputable section
local instance:DecidableEq Th:=λ_ _=>Classical.propDecidable _
mutual
def post:Th->List Th->List Th
 |.knot n ks,L=>if r! n ks∈bf ks L then bf ks L else bf ks L++[.knot n ks]
 |.call s k,L=>if A! s k∈L then L else L++[.call s k]
def bf:List Th->List Th->List Th
 | [],L=>L
 |t::ts,L=>bf ts (post t L)
end
theorem post_eq(t:Th)(L:List Th):post t L=if t∈bf t.kids L then bf t.kids L else bf t.kids L++[t]:=by
 cases t with
 |knot n ks=>rw[post];rfl
 |call s k=>rw[post,Th.kids,bf]
theorem eM:∀(a b:List Th)(L:List Th),bf (a++b) L=bf b (bf a L)
 | [],b,L=>by rw[ZV,bf]
 |t::a,b,L=>by rw[YC,bf,bf,eM a b]
def b8(L:List Th):Prop:=∀t∈L,∀u∈t.kids,u∈L
theorem ub:∀(n:Nat),(∀(t:Th)(L:List Th),t.size<=n->b8 L->L.Nodup->(∃M,post t L=L++M/\∀u∈M,u.size<=t.size)/\b8 (post t L)/\(post t L).Nodup/\t∈post t L) /\
 (∀(ts:List Th)(L:List Th),ar ts<=n->b8 L->L.Nodup->(∃M,bf ts L=L++M/\∀u∈M,u.size<=ar ts)/\b8 (bf ts L)/\(bf ts L).Nodup/\∀t∈ts,t∈bf ts L):=by
 intro n;induction n with
 | zero =>
   refine⟨λt L h=>?_,λts L h hc hn=>?_⟩
   .have:=t.size_eq;lia
   .cases ts with
    |nil=>rw[bf];exact⟨⟨[],by simp,λu hu=>by cases hu⟩,hc,hn,λt ht=>by cases ht⟩
    | cons t ts =>
      rw[ar]at h;have:=t.size_eq;lia
 | succ n ih =>
   have hT:∀(t:Th)(L:List Th),t.size<=n+1->b8 L->L.Nodup->(∃M,post t L=L++M/\∀u∈M,u.size<=t.size)/\b8 (post t L)/\(post t L).Nodup/\t∈post t L:=by
    intro t L h hc hn;have hs:=t.size_eq;obtain⟨⟨M,hM,L3⟩,h2,h3,h4⟩:=ih.2 t.kids L (by lia) hc hn;rw[post_eq];by_cases hm:t∈bf t.kids L
    .rw[b! hm];exact⟨⟨M,hM,λu hu=>by have:=L3 u hu;lia⟩,h2,h3,hm⟩
    .rw[a! hm];refine⟨⟨M++[t],by rw[hM,X7],λu hu=>?_⟩,λx hx u hu=>?_,?_,Xl _ (W2 ..)⟩
     .rcases W7.mp hu with hu|hu
      .have:=L3 u hu;lia
      .rw[WY.mp hu];exact W0 _
     .rcases W7.mp hx with hx|hx
      .exact Xg _ (h2 x hx u hu)
      .rw[WY.mp hx]at hu;exact Xg _ (h4 u hu)
     .rw[Y7];refine⟨h3,by simp,λa ha b hb=>?_⟩;rw[WY.mp hb];exactλz=>hm (z ▸ ha)
   refine⟨hT,λts=>?_⟩;induction ts with
   |nil=>intro L _ hc hn;rw[bf];exact⟨⟨[],by simp,λu hu=>by cases hu⟩,hc,hn,λt ht=>by cases ht⟩
   | cons t ts NL =>
     intro L h hc hn;rw[ar]at h;obtain⟨⟨M,hM,L3⟩,h2,h3,h4⟩:=hT t L (by lia) hc hn;obtain⟨⟨N,hN,UL⟩,g2,g3,g4⟩:=NL (post t L) (by lia) h2 h3;rw[bf];refine⟨⟨M++N,by rw[hN,hM,X7],λu hu=>?_⟩,g2,g3,λx hx=>?_⟩
     .rw[ar];rcases W7.mp hu with hu|hu
      .have:=L3 u hu;lia
      .have:=UL u hu;lia
     .rcases Xc.mp hx with rfl|hx
      .rw[hN];exact Xg _ h4
      .exact g4 x hx
theorem m8(t:Th){L:List Th}(hc:b8 L)(hn:L.Nodup):(∃M,post t L=L++M/\∀u∈M,u.size<=t.size)/\b8 (post t L)/\(post t L).Nodup/\t∈post t L:=(ub t.size).1 t L (W0 _) hc hn
theorem jx:∀(n:Nat),(∀(t:Th)(L:List Th),t.size<=n->b8 L->t∈L->post t L=L)/\(∀(ts:List Th)(L:List Th),ar ts<=n->b8 L->(∀t∈ts,t∈L)->bf ts L=L):=by
 intro n;induction n with
 | zero =>
   refine⟨λt L h=>?_,λts L h hc hm=>?_⟩
   .have:=t.size_eq;lia
   .cases ts with
    |nil=>rw[bf]
    | cons t ts =>
      rw[ar]at h;have:=t.size_eq;lia
 | succ n ih =>
   have hT:∀(t:Th)(L:List Th),t.size<=n+1->b8 L->t∈L->post t L=L:=by
    intro t L h hc hm;have hs:=t.size_eq;rw[post_eq,ih.2 t.kids L (by lia) hc (hc t hm),b! hm]
   refine⟨hT,λts=>?_⟩;induction ts with
   |nil=>intro L _ _ _;rw[bf]
   | cons t ts NL =>
     intro L h hc hm;rw[ar]at h;rw[bf,hT t L (by lia) hc (hm t (W2 ..))];exact NL L (by lia) hc λx hx=>hm x (WR _ hx)
theorem wb{t:Th}{L:List Th}(hc:b8 L)(h:t∈L):post t L=L:=(jx t.size).1 t L (W0 _) hc h
theorem j3{L:List Th}(hc:b8 L)(h:∀t∈ts,t∈L):bf ts L=L:=(jx (ar ts)).2 ts L (W0 _) hc h
theorem t9{t c:Th}{pre rest L:List Th}(hc:b8 L)(hn:L.Nodup)(hk:t.kids=pre++c::rest)(hp:∀u∈pre,u∈L):post t L=post t (post c L):=by
 obtain⟨⟨M,hM,_⟩,h2,h3,h4⟩:=m8 c hc hn;have e1:bf t.kids L=bf rest (post c L):=by rw[hk,eM,j3 hc hp,bf]
 have e2:bf t.kids (post c L)=bf rest (post c L):=by
  rw[hk,eM,j3 h2 (λu hu=>by rw[hM];exact Xg _ (hp u hu)),bf,wb h2 h4]
 rw[post_eq,post_eq t (post c L),e1,e2]
theorem ss{t:Th}{L:List Th}(hc:b8 L)(hk:∀u∈t.kids,u∈L)(h:t∉L):post t L=L++[t]:=by
 rw[post_eq,j3 hc hk,a! h]
def finish:List Th->List Th->List Th
 | [],L=>L
 |t::ts,L=>finish ts (post t L)
end
end BB
namespace PySem
open Sem (wp)
section
variable{K:Type}[DecidableEq K]{knd:HeapKind prog w K}
theorem bb_setDefault_heap{xs:List (K×WS×WV)}{k:K}{v:WV}(hu:knd.room A)(Cc:knd.is s.1 k a)(hm:s.1.DictOfH knd d xs)
 (G3:∀p,atKey xs k=A? p->Q p.2 {s with toks:=s.toks+knd.draws k})
 (GR:atKey xs k=B?->∀h',h'.DictOfH knd d (storedH xs k a v)->X1 d s.1 h'->Q v {s with heap:=h',toks:=s.toks+knd.draws k})
 (hsz:xs.length<=Xi):Xf (Xx prog w) A (dictSetDefault d (.ref a) v) Q E s:=by
 obtain⟨o,es,ep,ho,hc,hd,he,L4,hn⟩:=hm;unfold dictSetDefault
 try with_reducible refine Yn ?_
 refine WN (knd.pyHash hu Cc ?_);refine WN (wpAny_dictFind_heap (s:={s with toks:=s.toks+knd.draws k}) hu Cc ho hd he L4 hn ?_ ?_)
 .intro Bv;have NM:k∉xs.map (·.1):=not_mem_keys_of_get Bv
  refine WN (wpAny_rule (WN (wpAny_updateDictKeys (hz:=by have e:=size_of_entries he;lia) (s:={s with toks:=s.toks+knd.draws k}) ho hd (WX (GR (atKey_none_of_get Bv) _ ⟨_,_,ep+1,Yt _ ho (Obj.isFreed_of_dict (Obj.data_mapDictKeys hd _)),
   hc.mapDictKeys _,Obj.data_mapDictKeys hd _,?_,?_,?_⟩ (YM ..))))))
  .rw[storedH_new (atKey_none_of_get Bv)];simp[he,entryOfKey]
  .rw[storedH_new (atKey_none_of_get Bv)];intro x hx;rcases W7.mp hx with hx|hx
   .exact knd.keeps (L4 x hx) ho hd (YM ..)
   .simp only[WY]at hx;subst hx;exact knd.keeps Cc ho hd (YM ..)
  .rw[storedH_new (atKey_none_of_get Bv)];rw[W5,Y7];refine⟨hn,by simp,?_⟩;intro x hx y hy;simp only[XG,YS,WY]at hy;subst hy;exactλe=>NM (e ▸ hx)
 .intro j p hj;have h1:=G3 _ (atKey_of_get hn hj);refine WN (Ze (s:={s with toks:=s.toks+knd.draws k}) ho hd ?_);rw[entry_at he j,hj];exact WN (wpAny_rule (WX h1))
theorem bb_meets_setdefault(knd:HeapKind prog w K)(d a:WS)(dflt:WV)(hd:(d == YD)=D?) :
 MeetsIn prog w (YZ.«dict.setdefault» ⟨[.ref d,.ref a,dflt],[]⟩) (λA R s=>knd.room A.in1/\∃k xs,knd.is s.1 k a/\s.1.DictOfH knd d xs/\xs.length<=Xi /\
  (∀p,atKey xs k=A? p->R (.ok (.ret p.2)) {s with toks:=s.toks+knd.draws k}) /\
  (atKey xs k=B?->∀h',h'.DictOfH knd d (storedH xs k a dflt)->X1 d s.1 h'->R (.ok (.ret dflt)) {s with heap:=h',toks:=s.toks+knd.draws k})) :=
 .of_wp λA R s⟨hu,k,xs,Cc,hm,hz,h1,h2⟩=>by
  unfold YZ.«dict.setdefault»;refine WN ?_;unfold Builtin.Dict.keyAndDefault;have hT:s.TypeIs (.ref d) "dict":=hm.typeIs;refine WN (wpAny_notOrdered_dict hT ?_);show Xf _ _ (pure (d,XI a,A? dflt)) _ _ s;refine WX ?_;show Xf _ _ (if(d == YD)=C? then _ else(dictSetDefault d (.ref a) dflt >>= _)) _ _ s;rw[a! (by rw[hd];exact Xq)];exact WN (bb_setDefault_heap hu Cc hm (λp hp=>WX ⟨_,rfl,h1 p hp⟩) (λhn h' CP Iy=>WX ⟨_,rfl,h2 hn h' CP Iy⟩) hz)
end
end PySem
namespace L2
open PySem PySem.Spec PyProof.Rows
def vZ:V->List V->Hp->VK->Prop:=λx vs H Q=>∃(a b:WS)(v:V)(k:List Key)(kvs:List (List Key×V)),x=.ref a/\vs=[.ref b,v]/\H a=A? (.dT kvs)/\H b=A? (.tup (k.map kV))/\kvs.length<Xi /\
 (∀u,aG kvs k=A? u->Q u H)/\(aG kvs k=B?->Q v (upd H a (.dT (putK kvs k v))))
theorem lM{X:Cx}(hu:X.A.units+1<Zb):MtM X "dict.setdefault" vZ:=by
 intro Z s Y H x vs v us Q I rx rv h;obtain⟨a,b,y,k,kvs,rfl,rfl,e,eb,l,q1,q2⟩:=h;cases rx;cases rv with
 |cons r1 rv =>
 cases rv with
 |cons r2 rv =>
 cases rv;cases r1;obtain⟨z,hd,xs,rel,dd⟩:=oU I.hok e;have hz:xs.length<=Xi:=by rw[<-W9 rel];exact z
 have hl:(putK kvs k y).length<=Xi:=by have:=bI kvs k y;lia
 have hT:s.TypeIs (.ref a) "dict":=dd.typeIs;refine call_meetsIn PySem.F.slot_dict_setdefault hT PySem.F.entry_dict_setdefault (PySem.F.args_dict_setdefault_3 _ _ _) (bb_meets_setdefault (tupleKind (aU X.prog X.w)) a b _ hd) ⟨Z5 hu,k,xs,gN I.hok eb,dd,hz,λp hp=>?_,λhn h' Eo hs=>?_⟩
 .have hr:=rel.val k;rw[hp]at hr;cases hv:aG kvs k with
  |none=>rw[hv]at hr;exact hr.elim
  | some u =>
    rw[hv]at hr;exact⟨u,H,I.tok _,hr,q1 u hv⟩
 .have hr:=rel.val k;rw[hn]at hr;cases hv:aG kvs k with
  |some u=>rw[hv]at hr;exact hr.elim
  | none =>
    refine⟨y,_,?_,r2,q2 hv⟩;obtain⟨q,es,ep,hq,h2,h3,h4,_,h5⟩:=Eo;refine iH I (by rw[e];exact Y8) hs ⟨q,hq⟩ ⟨hl,hd,_,(rel.put k eb r2).keeps λc ys ec=>?_,q,es,ep,hq,h2,h3,h4,h5⟩;rw[af (aA ec e (λz=>nomatch z))];exact ec
end L2
namespace PySem
open Sem (wp)
theorem bb_key_loop{S:WS}{es:Array DictEntry}{od:YF}(hh:A.in1.handled=B?)(hz:es.size<=Xi)(G4:S≠it)(JN:S≠d)(G0:d≠it)(g2:od.data=.dict es ep)(res:WV) :
 ∀(k i:Nat)(s:WZ)(acc:Array WV)(c:Nat),es.size - i=k->i<=es.size->s.1.IsKeyIter it d i es.size ep->s.1.get? d=A? od->s.1.get? S=A? {cls:=.type "list",dict:=B?,data:=.seq acc c,slots:=#[]}->acc.toList=(es.toList.take i).map (·.key) ->
 (∀h' DO c',(∀b o,b≠S->b≠it->s.1.get? b=A? o->h'.get? b=A? o)->h'.get? S=A? {cls:=.type "list",dict:=B?,data:=.seq DO c',slots:=#[]}->DO.toList=es.toList.map (·.key)->R (.ok (.ret res)) {s with heap:=h'}) ->
 codeAny (Xx prog w) A (.builtin "list.extend.loop" ⟨[.ref S,.ref it,res],[]⟩) R s:=by
 intro k;induction k with
 | zero =>
   intro i s acc c hk hi hit hd hS Ci hR;have Cu:i=es.size:=by lia
   subst Cu;refine codeAny_builtin F.entry_extend_loop ?_;rw[ZM F.plain_extend_loop _];show Xf _ A.in1 (Zw (.ref it) >>= _) _ _ s;refine WN (bb_keyEnd hh hit hd g2 (W0 _) λh' Bw=>WX ?_);refine hR h' acc c (λb o _ hb e=>Bw b o hb e) (Bw _ _ G4 hS) ?_;rw[Ci,Yi (by rw[Xr];lia)]
 | succ k ih =>
   intro i s acc c hk hi hit hd hS Ci hR;have Ad:i<es.size:=by lia
   refine codeAny_builtin F.entry_extend_loop ?_;rw[ZM F.plain_extend_loop _];show Xf _ A.in1 (Zw (.ref it) >>= _) _ _ s;have hx:es[i]?=A? es[i]:=Array.getElem?_eq_getElem Ad
   have AL:acc.size=i:=by
    have:=h! Y3 Ci;rw[Xr,WO,XC,Xr]at this;lia
   refine WN (bb_keyNext hit hd g2 hx λh' NN Bw=>?_);have L5:=(Bw.2 S G4).trans hS;have Jl:=(Bw.2 d G0).trans hd;show Xf _ A.in1 (updateSeq S (·.push es[i].key) >>= _) _ _ _;refine WN ?_;have Iz:∀b o,b≠S->h'.get? b=A? o->(h'.update S (Zh (·.push es[i].key))).get? b=A? o:=λb o hb e=>(YG _ _ (Zr hb)).trans e
   refine wpAny_updateSeq L5 rfl (WX ⟨plainId_quiet F.plain_extend_loop _,ih (i+1) _ (acc.push es[i].key) _ (by lia) Ad (NN.at λo e=>Iz _ _ (Zr G4) e) (Iz _ _ (Zr JN) Jl) (Yt _ L5 rfl) ?_ λL6 DO c' NO NP JO=>?_⟩)
    (by rw[AL];lia) (by show(acc.push _).size<=Xi+1;rw[Array.size_push,AL];lia)
   .rw[Array.toList_push,Ci,X5,WQ (by rw[Xr];exact Ad),W5];simp
   .exact hR L6 DO c' (λb o hb hb2 e=>NO b o hb hb2 (Iz b o hb ((Bw.2 b hb2).trans e))) NP JO
theorem bb_list_keys{es:Array DictEntry}{od:YF}(hh:A.in1.in1.handled=B?)(ns:(d == YD)=D?)(hd:s.1.get? d=A? od)(gc:od.cls=.type "dict")(g2:od.data=.dict es ep)(hz:es.size<=Xi)
 (hQ:∀h' acc c,(∀b o,s.1.get? b=A? o->h'.get? b=A? o)->h'.get? s.1.1.size=A? {cls:=.type "list",dict:=B?,data:=.seq acc c,slots:=#[]}->acc.toList=es.toList.map (·.key)->Q (.ref s.1.1.size) {s with heap:=h'}) :
 Xf (Xx prog w) A (call (.type "list") [.ref d]) Q E s:=by
 have E3:=Xe hd;have JN:s.1.1.size≠d:=Nat.ne_of_gt E3
 refine callType_codes (Q₁:=λobj zX=>obj=.ref s.1.1.size/\zX={s with heap:=s.1.push {cls:=.type "list",data:=.seq #[]}}) F.called_list (F.typeCall_list_1 _) F.entry_list_init
  (code_list_new _ ⟨rfl,rfl⟩) λobj zX Am=>?_
 obtain⟨rfl,rfl⟩:=Am;have hS:(s.1.push {cls:=.type "list",data:=.seq #[]}).get? s.1.1.size=A? {cls:=.type "list",data:=.seq #[]}:=W3 _ rfl;refine⟨⟨_,hS,Dn⟩,F.args_list_init_2 _ _,?_⟩;show Xf _ A.in1.in1 (do let old <-Builtin.List.listItems (.ref s.1.1.size);Builtin.List.listUpdate (.ref s.1.1.size) (λ_=>#[]);letGo old.toList.reverse;Builtin.List.listExtendWith (.ref s.1.1.size) (.ref d) .none) _ _ _;refine WN ?_;unfold Builtin.List.listItems;refine WN (YN hS rfl (WX ?_));refine WN (wpAny_updateSeq hS rfl ?_);have Gk:=Yt (Zh (λ_=>(#[]:Array WV))) hS rfl;refine WN (wpAny_letGo ?_);have CC:((s.1.push {cls:=.type "list",data:=.seq #[]}).update s.1.1.size (Zh (λ_=>(#[]:Array WV)))).objs.size=s.1.1.size+1:=by rw[Heap.size_update,Ym]
 generalize hH:(s.1.push {cls:=.type "list",data:=.seq #[]}).update s.1.1.size (Zh (λ_=>(#[]:Array WV)))=H2 at Gk CC |-
 have old:∀b o,s.1.get? b=A? o->H2.get? b=A? o:=λb o e=>by
  rw[<-hH,YG _ _ (Zr (XF (Xe e)))];exact WU _ e
 obtain⟨c2,UM⟩:∃c,H2.get? s.1.1.size=A? {cls:=.type "list",data:=.seq #[] c}:=⟨_,Gk⟩;have hd2:=old _ _ hd;have UN:({s with heap:=H2}:WZ).TypeIs (.ref d) "dict":=⟨_,hd2,gc⟩;unfold Builtin.List.listExtendWith;refine WN (Zs UN ?_);have h1:Builtin.List.listSameRef (.ref s.1.1.size) (.ref d)=false:=by simp[Builtin.List.listSameRef,JN]
 have h2:(Value.type "dict" == Value.type "list")=false:=by decide
 have h3:(Value.type "dict" == Value.type "tuple")=false:=by decide
 simp only[h1,h2,h3,Bool.or_false,YX,if_false];refine WN (bb_keyIter (s:={s with heap:=H2}) ns hd2 gc g2 ?_);refine WN (Yn ?_);have G5:(H2.push {cls:=.type "dict_keyiterator",data:=.fields #[.ref d,.int 0 0,.int es.size 0,.int ep 0]}).IsKeyIter H2.objs.size d 0 es.size ep:=⟨_,W3 _ rfl,rfl,rfl⟩;have Ew:∀b o,H2.get? b=A? o->(H2.push {cls:=.type "dict_keyiterator",data:=.fields #[.ref d,.int 0 0,.int es.size 0,.int ep 0]}).get? b=A? o:=λb o e=>WU _ e;have Fo:s.1.1.size≠H2.objs.size:=by rw[CC];lia
 have G6:d≠H2.objs.size:=by rw[CC];exact XF (Nat.lt_succ_of_lt E3)
 show Xf _ _ _ _ _ ({s with heap:=H2.push {cls:=.type "dict_keyiterator",data:=.fields #[.ref d,.int 0 0,.int es.size 0,.int ep 0]}}:WZ);generalize H2.push {cls:=.type "dict_keyiterator",data:=.fields #[.ref d,.int 0 0,.int es.size 0,.int ep 0]}=H3 at G5 Ew |-;have RQ:=Ew _ _ hd2;have NQ:=Ew _ _ UM;have NR:({s with heap:=H3}:WZ).TypeIs (.ref d) "dict":=⟨_,RQ,gc⟩
 have key:∀(h:X3)(c₁:Nat),h.IsKeyIter H2.objs.size d 0 es.size ep->(∀b o,b≠s.1.1.size->H3.get? b=A? o->h.get? b=A? o)->h.get? s.1.1.size=A? {cls:=.type "list",data:=.seq #[] c₁} ->
  codeAny (Xx prog w) A.in1 (.builtin "list.extend.loop" ⟨[.ref s.1.1.size,.ref H2.objs.size,.none],[]⟩) (wants (λr A8=>r=.none/\Q (.ref s.1.1.size) A8) E) {s with heap:=h}:=by
  intro h c₁ hit hk JP;refine bb_key_loop hh hz Fo JN G6 g2 .none es.size 0 _ #[] c₁ rfl (XA _) hit (hk _ _ (Zr JN) RQ) JP rfl λh' DO c' hm L5 Ci=>?_;refine⟨Dn,hQ h' DO c' (λb o e=>?_) L5 Ci⟩;have hb:=XF (Xe e);exact hm b o hb (by rw[CC];exact XF (Nat.lt_succ_of_lt (Xe e))) (hk b o hb (Ew b o (old b o e)))
 unfold Builtin.List.listLengthHint;refine WN (wpAny_specialOf NR F.slot_dict_len.lookup ?_);generalize hid:("dict.__len__":String)=UO
 wp_delta
 rw[show splitId UO=A? ("dict","__len__")from by subst hid;decide +kernel];subst hid;refine WN (wpAny_isInstance (T:="dict") (b:=C?) NR (by rw[isSubtype_type];kernel_rfl) ?_);refine wpAny_ite_split (λD3=>g! D3 (by decide)) (λ_=>?_);refine wpAny_ite_split (λ_=>?_) (λD3=>g! (by decide +kernel) D3);refine WN (Zs NR ?_);refine WX ?_;refine wpAny_ite_split (λ_=>?_) (λ_=>WX ⟨plainId_quiet F.plain_extend_loop _,key _ c2 G5 (λb o _ e=>e) NQ⟩);refine WN (wpAny_rule ?_);refine WN ?_;show Xf _ _ (updateSeq s.1.1.size (·.push .none) >>= λ_=>updateSeq s.1.1.size (·.pop)) _ _ _;refine WN (wpAny_updateSeq NQ rfl ?_);have Gm:=Yt (Zh (·.push Yp)) NQ rfl;refine wpAny_updateSeq (hz:=by seq_fits) Gm rfl ?_;have JQ:=Yt (Zh (·.pop)) Gm rfl
 have Iz:∀b o,b≠s.1.1.size->H3.get? b=A? o->((H3.update s.1.1.size (Zh (·.push Yp))).update s.1.1.size (Zh (·.pop))).get? b=A? o :=
  λb o hb e=>(YG _ _ (Zr hb)).trans ((YG _ _ (Zr hb)).trans e)
 exact WX ⟨plainId_quiet F.plain_extend_loop _,key _ _ (G5.at λo e=>Iz _ _ (Zr Fo) e) Iz JQ⟩
end PySem
namespace L2
open PySem PySem.Spec PyProof.Rows
def xW:List V->Hp->VK->Prop:=λxs H Q=>∃(a:WS)(kvs:List (List Key×V)),xs=[.ref a]/\H a=A? (.dT kvs)/\∀(l:WS)(bs:List WS),H l=B?->Xv (λkv b=>H b=A? (.tup (kv.1.map kV))) kvs bs->Q (.ref l) (upd H l (.lst (bs.map i!)))
theorem uF{ys:List (List Key×WS×WV)}(rel:KTd H kvs ys):Xv (λkv b=>H b=A? (.tup (kv.1.map kV))) kvs (ys.map λy=>y.2.1):=by
 induction rel with
 |nil=>exact .nil
 |cons h t ih=>exact .cons h.2.1 ih
theorem fC{X:Cx}(hc:X.calm=C?):dm X (.type "list") xW:=by
 intro Z s Y H xs us Q I r h;obtain⟨a,kvs,rfl,e,q⟩:=h;obtain⟨u,rfl,rx⟩:=vals1 r;cases rx;obtain⟨z,hd,ys,rel,dd⟩:=oU I.hok e;have hT:=dd.typeIs;obtain⟨o,es,ep,ho,hcx,hdt,he,L4,hn⟩:=dd;obtain⟨o',B0,Af⟩:=hT;have eo:o'=o:=Xh (B0.symm.trans ho);subst eo;have hl:kvs.length=ys.length:=W9 rel
 have AR:es.toList.map (·.key)=ys.map λy=>XI y.2.1:=by
  rw[he,Zd];rfl
 have hsz:es.size<=Xi:=by
  have:=h! Y3 AR;rw[WO,WO,Xr]at this;lia
 have hh:X.A.in1.in1.handled=none:=I.ok.hd hc;refine bb_list_keys hh hd B0 Af hdt hsz λh' acc c hk hS Ci=>?_;have hp:Xv (λkv b=>H b=A? (.tup (kv.1.map kV))) kvs (ys.map λy=>y.2.1):=uF rel;refine⟨.ref s.1.1.size,upd H s.1.1.size (.lst ((ys.map λy=>y.2.1).map i!)),?_,Dn,q _ _ I.fresh hp⟩;refine I.laid (t':=s.toks) hk (W0 _) ⟨by rw[WO,WO];lia,acc.toList,c,?_,hS⟩;rw[Ci,AR];clear hn L4 he AR Ci hS hl z rel hp q;induction ys with
 |nil=>exact .nil
 |cons y ys ih=>exact .cons rfl ih
open BB
theorem xk{es:List Dv}{ws:List V}(r1:Vals ws its)(Ax:DAts H es ws)(j:Nat)(z:WV)(hz:its[j]?=A? z):∃e y',es[j]?=A? e/\DAt H e y'/\RelV y' z:=by
 have hj:j<its.length:=(glE hz);have l1:=r1.length;have l2:=Ax.length;have G7:j<es.length:=by lia
 obtain⟨y',C3,dy⟩:=Ax.at (WQ G7);obtain⟨v',B4,DJ⟩:=r1.get C3;rw[hz]at B4;cases B4;exact⟨_,y',WQ G7,dy,DJ⟩
theorem u6{z:WV}{e e':Dv}{y' JR:V}(h1:DAt H e y')(h2:RelV y' z)(h3:DAt H e' JR)(h4:RelV JR z):e=e':=by
 have:=h2.inj h4;subst this;exact h1.inj h3
def vJ(K:WW)(B:Nat):R2:=λx y H Q=>∃b ws d es,y=.ref b/\SqL K H b ws/\DAt H d x/\DAts H es ws/\bw es<=B/\∀r:Bool,(r=C?↔d∉es)->Q (.bl r) H
open Classical in
theorem si{X:Cx}{B:Nat}(hu:X.A.units+B+2<Zb):OpR X (Zf .NotIn) (vJ X.K B):=by
 intro Z s Y H x y v u Q I rx ry h;obtain⟨b,ws,d,es,rfl,hb,hd,Ax,hB,q⟩:=h;cases ry;obtain⟨its,r1,p1,_⟩:=I.list hb;have l1:=r1.length;have l2:=Ax.length;refine SeqAt.notIn_listAt (λz=>decide (∃y',DAt H d y'/\RelV y' z)) p1.isList (λz hz=>?_) ⟨.bl _,H,I,rfl,q _ ?_⟩
 .obtain⟨j,hj⟩:=Xk.mp (show z∈its by simpa using hz);obtain⟨e,y',he,dy,ry⟩:=xk r1 Ax j z hj;have hq:=dD he
  have e3:decide (∃y',DAt H d y'/\RelV y' z)=decide (e=d):=by
   by_cases h:e=d
   .rw[d! h,d! ⟨y',h ▸ dy,ry⟩]
   .rw[c! h,c!];rintro⟨JR,h1,h2⟩;exact h (u6 dy ry h1 h2)
  rw[e3];refine nH I _ e d (W0 _) y' x z v X.A.in1 dy hd ry rx ?_;show X.A.units+1+_<Zb;lia
 .rw[Bool.not_eq_true',<-Bool.not_eq_true];refine not_congr ?_;constructor
  .intro z;obtain⟨v',h1,h2⟩:=Array.any_eq_true'.mp z;obtain⟨j,hj⟩:=Xk.mp (show v'∈its by simpa using h1);obtain⟨e,y',he,dy,ry⟩:=xk r1 Ax j v' hj;obtain⟨JR,h3,h4⟩:=e! h2;rw[<-u6 dy ry h3 h4];exact WT he
  .intro z;obtain⟨j,hj⟩:=Xk.mp z;obtain⟨y',C3,dy⟩:=Ax.at hj;obtain⟨v',B4,DJ⟩:=r1.get C3;refine Array.any_eq_true'.mpr ⟨v',?_,d! ⟨y',dy,DJ⟩⟩;have:=WT B4;simpa using this
def wG(K:WW)(B:Nat):V->List V->Hp->VK->Prop:=λx vs H Q=>∃(l:WS)(y:V)(ws:List V)(d:Dv)(es:List Dv)(j:Nat),x=.ref l/\vs=[y]/\SqL K H l ws/\DAt H d y/\DAts H es ws/\bw es<=B/\es[j]?=A? d/\(∀i,i<j->es[i]?≠A? d)/\es.length<=100000/\Q (.int (j:Nat)) H
open Classical in
theorem sW{X:Cx}{B:Nat}(hu:X.A.units+B+4<Zb):MtM X "list.index" (wG X.K B):=by
 intro Z s Y H x vs v us Q I rx rv h;obtain⟨l,y,ws,d,es,j,rfl,rfl,hS,hd,Ax,hB,hj,Bv,hz,q⟩:=h;cases rx;obtain⟨u,rfl,ru⟩:=rv.one;obtain⟨its,r,pl,_⟩:=I.list hS;have hlen:=r.length;have BC:=Ax.length;obtain⟨⟨cls,dd,data,sl⟩,ho,hc,n,hdt⟩:=pl.isList;simp only at hc hdt;subst hc hdt;have DK:j<es.length:=(glE hj)
 have NS:∀(m:Nat)(z:WV),its[m]?=A? z->∃e y',es[m]?=A? e/\DAt H e y'/\RelV y' z/\decide (∃y',DAt H d y'/\RelV y' z)=decide (e=d):=λm z hz=>by
  obtain⟨e,y',he,dy,ry⟩:=xk r Ax m z hz;refine⟨e,y',he,dy,ry,?_⟩;by_cases h:e=d
  .rw[d! h,d! ⟨y',h ▸ dy,ry⟩]
  .rw[c! h,c!];rintro⟨JR,h1,h2⟩;exact h (u6 dy ry h1 h2)
 refine call_meets PySem.F.slot_list_index ⟨_,ho,rfl⟩ PySem.F.entry_list_index (PySem.F.args_list_index_2 _ _)
  (SeqAt.list_indexAt l its.toArray n dd sl u (λz=>decide (∃y',DAt H d y'/\RelV y' z)) j (by rw[Xa];lia) (by lia) ?_ ?_) ⟨ho,λy hy=>?_,⟨.int (j:Nat),H,I.tok _,⟨_,rfl⟩,q⟩⟩
 .obtain⟨e,y',he,dy,ry,e3⟩:=NS j (its.toArray[j]'(by rw[Xa];lia)) (by simp);rw[hj]at he;cases he;rw[e3];exact d! rfl
 .intro m hm Ad;obtain⟨e,y',he,dy,ry,e3⟩:=NS m (its.toArray[m]'hm) (by simp);rw[e3];exact c! λz=>Bv m Ad (by rw[he,z])
 .have C3:y∈its:=by simpa using hy
  obtain⟨m,hm⟩:=Xk.mp C3;obtain⟨e,y',he,dy,ry,e3⟩:=NS m y hm;rw[e3];have hq:=dD he;refine nH I _ e d (W0 _) y' _ y u _ dy hd ry ru ?_;show X.A.units+1+_<Zb;lia
end L2
namespace PySem
open Sem (wp)
section
variable{K:Type}[DecidableEq K](knd:HeapKind prog w K)(d:WS)
theorem bb_meets_len(hd:(d == YD)=D?) :
 MeetsIn prog w (YZ.«dict.__len__» ⟨[.ref d],[]⟩) (λ_ R s=>∃xs,s.1.DictOfH knd d xs/\R (.ok (.ret (.int xs.length s.toks))) {s with toks:=s.toks+1}) :=
 .of_wp λA R s⟨xs,hm,h⟩=>by
  obtain⟨o,es,ep,ho,hc,NT,he,hp,hn⟩:=hm;show Xf _ _ (dictSize d >>= _) _ _ s;unfold dictSize;refine WN (WN (Ze ho NT (WX ?_)));show Xf _ _ (Builtin.Dict.pendingCount d >>= _) _ _ s;refine WN (wpAny_pendingCount_other hd ?_);refine wpAny_ret_mkInt ?_
  have:es.size=xs.length:=by
   have:=h! Y3 he;rw[WO,Xr]at this;exact this
  rw[Nat.add_zero,this];exact h
end
section
variable{K:Type}[DecidableEq K]{knd:HeapKind prog w K}
theorem bb_call_len{xs:List (K×WS×WV)}(hd:(d == YD)=D?)(hm:s.1.DictOfH knd d xs)(z8:(xs.length:Int)<2 ^ 63)
 (h:Q (.int xs.length (s.toks+1)) {s with toks:=s.toks+1+1}):Xf (Xx prog w) A (call (.builtin "len") [.ref d]) Q E s:=by
 refine Calls.call_function_entry kind_len plain_len entry_len (args_len1 _) ?_;unfold YZ.«len»;refine WN (m:=oneArg "len" _) (WX ?_)
 refine WN (m:=callSpecial? (.ref d) (W6 "__len__")) (XS (name:=W6 "__len__") hm.typeIs F.slot_dict_len
  (call_meetsIn F.slot_dict_len hm.typeIs F.entry_dict_len (F.args_dict_len_1 _) (bb_meets_len knd d hd) ⟨xs,hm,?_⟩))
 show Xf _ _ _ _ _ {s with toks:=s.toks+1};refine WN (Yn (WX ?_));refine WN (wpAny_letGo ?_);show Xf _ _ (if((xs.length:Nat):Int)<0 then _ else _) _ _ _;rw[a! (by lia)];show Xf _ _ (if((xs.length:Nat):Int) >= 2 ^ 63 then _ else _) _ _ _;rw[a! (by lia)];exact WN (wpAny_mkInt (WX ⟨_,rfl,h⟩))
end
end PySem
namespace L2
open PySem PySem.Spec PyProof.Rows
def yV:List V->Hp->VK->Prop:=λxs H Q=>∃(a:WS)(kvs:List (List Key×V)),xs=[.ref a]/\H a=A? (.dT kvs)/\Q (.int kvs.length) H
theorem tE{X:Cx}:dm X (.builtin "len") yV:=by
 intro Z s Y H xs us Q I r h;obtain⟨a,kvs,rfl,e,q⟩:=h;obtain⟨u,rfl,rx⟩:=vals1 r;cases rx;obtain⟨z,hd,ys,rel,dd⟩:=oU I.hok e;have hl:kvs.length=ys.length:=W9 rel;refine bb_call_len hd dd (by rw[ZI]at z;lia) ?_;rw[<-hl];exact⟨.int kvs.length,H,I.tok _,⟨_,Dn⟩,q⟩
end L2
namespace BB
open PySem L2
def gf(e:Xj×List Nat):List Key:=.inr e.1::e.2.map λ(i:Nat)=>(Xs ((i:Nat):Int):Key)
theorem ud{e f:Xj×List Nat}(h:gf e=gf f):e=f:=by
 obtain⟨n,is⟩:=e;obtain⟨m,js⟩:=f;unfold gf at h;obtain⟨h1,h2⟩:=List.cons.inj h
 have h3:is=js:=by
  clear h h1;induction is generalizing js with
  | nil=>cases js with
    |nil=>rfl
    |cons j js=>cases h2
  | cons i is ih=>cases js with
    |nil=>cases h2
    | cons j js =>
      rw[XG,XG]at h2;obtain⟨g1,g2⟩:=List.cons.inj h2;have g3:=Sum.inl.inj g1;rw[ih js g2,show i=j by lia]
 rw[h3];cases Sum.inr.inj h1;rfl
def kvsOf(E:List (Xj×List Nat)):List (List Key×V):=E.zipIdx.map λz=>(gf z.1,o! (z.2:Nat))
theorem iX(E:List (Xj×List Nat)):(kvsOf E).length=E.length:=by unfold kvsOf;rw[WO,List.length_zipIdx]
theorem qc(E:List (Xj×List Nat))(e:Xj×List Nat):kvsOf (E++[e])=kvsOf E++[(gf e,o! (E.length:Nat))]:=by
 unfold kvsOf;rw[List.zipIdx_append,W5];simp
theorem tD{E:List (Xj×List Nat)}{p:List Key×V}(h:p∈kvsOf E):∃i e,p=(gf e,o! (i:Nat))/\E[i]?=A? e:=by
 unfold kvsOf at h;obtain⟨z,hz,rfl⟩:=Xn.mp h;exact⟨z.2,z.1,Dn,ZW.mp hz⟩
theorem qT{E:List (Xj×List Nat)}{e:Xj×List Nat}{u:V}(h:aG (kvsOf E) (gf e)=A? u):∃i:Nat,u=.int (i:Nat)/\E[i]?=A? e:=by
 unfold aG at h;obtain⟨p,hp,rfl⟩:=Yh.mp h;obtain⟨i,f,rfl,hf⟩:=tD (List.mem_of_find?_eq_some hp);have hq:=List.find?_some hp;have:=e! (show decide (gf f=gf e)=C? from hq);rw[ud this]at hf;exact⟨i,Dn,hf⟩
theorem qa{E:List (Xj×List Nat)}{e:Xj×List Nat}(h:aG (kvsOf E) (gf e)=B?):e∉E/\putK (kvsOf E) (gf e) (.int (E.length:Nat))=kvsOf (E++[e]):=by
 unfold aG at h;have h1:=Option.map_eq_none_iff.mp h;rw[List.find?_eq_none]at h1;refine⟨λhm=>?_,?_⟩
 .obtain⟨i,hi⟩:=Xk.mp hm;refine h1 (gf e,o! (i:Nat)) ?_ (d! rfl);unfold kvsOf;exact Xn.mpr ⟨(e,i),ZW.mpr hi,rfl⟩
 .rw[qc];unfold putK;rw[a!];intro z;obtain⟨p,hp,Bj⟩:=List.any_eq_true.mp z;exact h1 p hp Bj
structure Cl(E:List (Xj×List Nat))(Ts:List Th):Prop where
 len:E.length=Ts.length
 nd:Ts.Nodup
 ent:∀(i:Nat)(e:Xj×List Nat),E[i]?=A? e->∃kids,Ts[i]?=A? (.knot e.1 kids)/\Xv (λid u=>id<i/\Ts[id]?=A? u) e.2 kids
theorem gE{l:List α}(h:l.Nodup){x:α}(hi:l[i]?=A? x)(hj:l[j]?=A? x):i=j:=by
 obtain⟨h1,e1⟩:=Xu.mp hi;obtain⟨h2,e2⟩:=Xu.mp hj;rcases Nat.lt_trichotomy i j with z|z|z
 .exact g! (e1.trans e2.symm) (List.pairwise_iff_getElem.mp h i j h1 h2 z)
 .exact z
 .exact g! (e2.trans e1.symm) (List.pairwise_iff_getElem.mp h j i h2 h1 z)
theorem ny(h:Ts.Nodup):∀{ids js:List Nat}{kids:List Th},Xv (λid u=>Ts[id]?=A? u) ids kids->Xv (λid u=>Ts[id]?=A? u) js kids->ids=js
 |_,_,_,.nil,.nil=>rfl
 |_,_,_,.cons a b,.cons c d=>by rw[gE h a c,ny h b d]
theorem oQ:∀{ids:List Nat}{ks js:List Th},Xv (λid u=>Ts[id]?=A? u) ids ks->Xv (λid u=>Ts[id]?=A? u) ids js->ks=js
 |_,_,_,.nil,.nil=>rfl
 | _,_,_,.cons a b,.cons c d=>by
   rw[a]at c;cases c;rw[oQ b d]
theorem Cl.found{E:List (Xj×List Nat)}(c:Cl E Ts){n:Xj}{ids:List Nat}{kids:List Th}(h:E[i]?=A? (n,ids))(hp:Xv (λid u=>Ts[id]?=A? u) ids kids):Ts[i]?=A? (.knot n kids):=by
 obtain⟨ks,h1,h2⟩:=c.ent i _ h;rw[oQ hp (w! (λ_ _ z=>z.2) h2)];exact h1
theorem Cl.snoc{E:List (Xj×List Nat)}(c:Cl E Ts){n:Xj}{ids:List Nat}{kids:List Th}(hn:(n,ids)∉E)(hp:Xv (λid u=>Ts[id]?=A? u) ids kids):Cl (E++[(n,ids)]) (Ts++[.knot n kids]):=by
 have up:∀{id:Nat}{u:Th},Ts[id]?=A? u->(Ts++[r! n kids])[id]?=A? u:=λ{id u}h=>by
  rw[XB (glE h)];exact h
 refine⟨by rw[W4,W4,c.len];rfl,?_,λi e he=>?_⟩
 .rw[Y7];refine⟨c.nd,by simp,λa ha b hb z=>?_⟩;rw[WY.mp hb]at z;subst z;obtain⟨i,hi⟩:=Xk.mp ha;have BO:i<E.length:=by rw[c.len];exact(glE hi)
  obtain⟨ks,h1,h2⟩:=c.ent i _ (WQ BO);rw[hi]at h1;have h3:=Xh h1;injection h3 with h4 h5;subst h5;have h6:=ny c.nd hp (w! (λ_ _ z=>z.2) h2);refine hn ?_;have:(n,ids)=E[i]:=Prod.ext h4 h6;rw[this];exact List.getElem_mem BO
 .by_cases hi:i<E.length
  .rw[XB hi]at he;obtain⟨ks,h1,h2⟩:=c.ent i e he;exact⟨ks,up h1,w! (λ_ _ z=>⟨z.1,up z.2⟩) h2⟩
  .rw[X0 (by lia)]at he
   have h0:i - E.length=0:=by
    have:=(glE he);simp at this;lia
   rw[h0]at he;cases he;have RR:i=Ts.length:=by have:=c.len;lia
   subst RR;refine⟨kids,by simp,w! (λid u z=>⟨(glE z),up z⟩) hp⟩
def fkv(F:List Nat):List (Key×V):=F.zipIdx.map λz=>((Xs ((z.1:Nat):Int):Key),o! (z.2:Nat))
theorem vI(F:List Nat):(fkv F).length=F.length:=by unfold fkv;rw[WO,List.length_zipIdx]
theorem ug(F:List Nat)(i:Nat):fkv (F++[i])=fkv F++[((Xs ((i:Nat):Int):Key),o! (F.length:Nat))]:=by
 unfold fkv;rw[List.zipIdx_append,W5];simp
theorem vA{F:List Nat}{p:Key×V}(h:p∈fkv F):∃i id,p=((Xs ((id:Nat):Int):Key),o! (i:Nat))/\F[i]?=A? id:=by
 unfold fkv at h;obtain⟨z,hz,rfl⟩:=Xn.mp h;exact⟨z.2,z.1,Dn,ZW.mp hz⟩
theorem wf{a b:Nat}(h:(Xs ((a:Nat):Int):Key)=Xs ((b:Nat):Int)):a=b:=by
 have:=Sum.inl.inj h;lia
theorem ie{F:List Nat}{id:Nat}{u:V}(h:aG (fkv F) (Xs ((id:Nat):Int):Key)=A? u):∃i:Nat,u=.int (i:Nat)/\F[i]?=A? id:=by
 unfold aG at h;obtain⟨p,hp,rfl⟩:=Yh.mp h;obtain⟨i,f,rfl,hf⟩:=vA (List.mem_of_find?_eq_some hp);have hq:=List.find?_some hp;have:=e! (show decide ((Xs ((f:Nat):Int):Key)=Xs ((id:Nat):Int))=C? from hq);rw[wf this]at hf;exact⟨i,Dn,hf⟩
theorem hG{F:List Nat}{id:Nat}(h:aG (fkv F) (Xs ((id:Nat):Int):Key)=B?):id∉F/\∀v,putK (fkv F) (Xs ((id:Nat):Int):Key) v=fkv F++[(Xs ((id:Nat):Int),v)]:=by
 unfold aG at h;have h1:=Option.map_eq_none_iff.mp h;rw[List.find?_eq_none]at h1;refine⟨λhm=>?_,λv=>?_⟩
 .obtain⟨i,hi⟩:=Xk.mp hm;refine h1 (Xs ((id:Nat):Int),o! (i:Nat)) ?_ (d! rfl);unfold fkv;exact Xn.mpr ⟨(id,i),ZW.mpr hi,rfl⟩
 .unfold putK;rw[a!];intro z;obtain⟨p,hp,Bj⟩:=List.any_eq_true.mp z;exact h1 p hp Bj
theorem vH{F:List Nat}{id:Nat}(h:id∉F):aG (fkv F) (Xs ((id:Nat):Int):Key)=none:=by
 cases hv:aG (fkv F) (Xs ((id:Nat):Int):Key)with
 |none=>rfl
 | some u =>
   obtain⟨i,_,hi⟩:=ie hv;exact g! (WT hi) h
theorem qm(F:List Nat)(id:Nat):(aG (fkv F) (Xs ((id:Nat):Int):Key)).isSome=decide (id∈F):=by
 cases hv:aG (fkv F) (Xs ((id:Nat):Int):Key)with
 |none=>rw[c! (hG hv).1];rfl
 | some u =>
   obtain⟨i,_,hi⟩:=ie hv;rw[d! (WT hi)];rfl
def unt(N:Nat)(F:List Nat):Nat:=((Yr N).filter λi=>decide (i∉F)).length
theorem xM{N:Nat}{F:List Nat}{a:Nat}(h1:a<N)(h2:a∉F):unt N (F++[a])<unt N F:=by
 unfold unt
 have e:((Yr N).filter λi=>decide (i∉F++[a]))=(((Yr N).filter λi=>decide (i∉F)).filter λi=>decide (i≠a)):=by
  rw[List.filter_filter];congr 1;funext i;simp only[W7,WY,not_or];by_cases h3:i∈F <;> by_cases h4:i=a <;> simp[h3,h4]
 rw[e];refine List.length_filter_lt_length_iff_exists.mpr ⟨a,?_,by simp⟩;exact ZX.mpr ⟨ZL.mpr h1,d! h2⟩
theorem size_pos(t:Th):0<t.size:=by cases t <;> (rw[v!];lia)
open PySem.Builtin PySem.Builtin.Str
end BB
namespace L2
open PySem PySem.Spec PySem.Calls PyProof.Rows BB
section
variable{X:Cx}{Y:List (Option V)}
end
open PySem.Builtin PySem.Builtin.Str
variable{X:Cx}
end L2
namespace BB
open PySem L2
section
variable{t:Th}{es:List WS}
end
end BB
namespace L2
open PySem PySem.Spec PyProof.Rows BB
variable{X:Cx}
end L2
namespace L2
open PySem PySem.Spec PyProof.Rows PySem.W
def uj(K:Frag)(Ch:WS)(ts:TS)(D:Ends):St->WV->Hp->Prop:=λAA c H'=>∃C,c=.ref C/\Hit K C Ch/\ts D AA H'
def xj(K:Frag)(Ch:WS)(tb:(St->WV->Hp->Prop)->TS)(ts:TS):TS:=λD Y H=>tb (uj K Ch ts D) D Y H
theorem pY{K:Frag}{Ch:WS}{tb:(St->WV->Hp->Prop)->TS}{ts:TS}(R:St->WV->Hp->Prop)(h1:∀R':St->WV->Hp->Prop,(∀AA c H',R AA c H'->R' AA c H')->tb R' D Y H)
 (h2:∀AA c H',R AA c H'->uj K Ch ts D AA c H'):xj K Ch tb ts D Y H:=h1 _ h2
theorem wj{X:Cx}{Ch:WS}{cx:Xj}{np NU:Z9}{suite:List Stmt}{b0:Stmt}{tb:(St->WV->Hp->Prop)->TS}{ts:TS}
 (hb:∀Z R,PSs (X.tryB Z R) body (tb R)) (hs:∀ea oe,PSs (X.suite ea oe) (b0::suite) ts)
 (BV:X.stack=X.env::X.outer) (JS:X.env.frame=A? X.env.locals) (hg:Gl X cx) (hm:X.mg cx=A? (.ref Ch))
 (hd:(cx == ("__debug__":Xj))=false:=by decide) :
 PS X (.Try body [.ExceptHandler (A? (.Name cx np)) B? (b0::suite) NU] [] [] pos) (xj X.K Ch tb ts):=by
 intro Z s Y H D I h;refine wpAny_Try_except ?_;have AG:=hb Z (uj X.K Ch ts D) [] s Y H D (I.tryB _) h;refine YI AG (λf s1 q=>?_) λe s1 q=>?_
 .have q':=SP.untryB q;cases f with
  |next=>exact wpAny_execs_nil q'
  |brk=>exact q'
  |cont=>exact q'
  |ret u=>exact q'
 .obtain⟨AA,H1,s0,I1,ea,C,a0,B,H',rfl,Bi,Er,un,hok,E2,b1,b2,C',Nq,hit,q⟩:=q;cases Nq;rw[BV]at E2;have NV:X.A.frames=A? (X.env::X.outer):=by rw[<-BV];exact I1.ok.frames
  have inv:∀(h6:X3)(tk:Nat),Heap.FlyingW B (X.env::X.outer) ea (.ref C) a0 h6->s1.1.UpToSlots h6->Inv X Z AA H' {s1 with heap:=h6}:=λh6 tk Dd up=>by
   obtain⟨U,_⟩:=qS (fs:=frs X.stack) (H:=H1) (H1:=H1) (h:=s0.1) (h1:=s0.1) (h':=h6) (l:=frs X.stack) (B:=B) Un.refl un (λb o _ z=>z) b1 Dd.1 up (λb hb=>⟨I1.stkFree b hb,(I1.stack.mem hb).2⟩);exact I1.call' (s':={s1 with heap:=h6}) (ch:=[]) Bi U (mZ hok E2.1 Dd.1 b2) Er λ_ z=>nomatch z
  refine wpAny_looks_onW NV JS E2 λh4 JT UP=>?_;refine wpAny_landsW JT λh5 G8 UQ=>?_;have JU:=UP.trans UQ;have I5:=inv h5 0 G8 JU;obtain⟨o5,UR,US⟩:=G8.there;refine wpAny_handleBy_cons (codeAny_handlers_test ?_) (by intro q;cases q);have I5m:Inv (X.wish X.xe) Z AA H' {s1 with heap:=h5}:=I5;refine Calls.Name_function_global I5.ok.kind hg (Calls.loadGlobal_global (by rw[I5.ok.glob];exact I5.mod.glob.keeps I5.bk) hm ?_) hd;refine(exm_one (M:=Xx X.prog X.w) (h:=h5) I5.kIn (US ▸ (Looks.ld UR).andThen .now) hit.hit).here ?_;refine codeAny_handlers_suite ?_;refine lands_againW (s:={s1 with heap:=h5}) G8 λh6 Dd UT=>?_;have I6:=inv h6 0 Dd (JU.trans UT);obtain⟨oe,vs,EZ,GO,RS,_⟩:=Dd.first
  have Ex:H' ea=none:=by
   cases z:H' ea with
   |none=>rfl
   | some u =>
     obtain⟨o',B0⟩:=b2 ea u z;rw[Dd.2.1]at B0;cases B0
  have NW:ea∉frs (X.env::X.outer):=λz=>by
   obtain⟨_,o,ho,nf⟩:=Dd.2.2.1.mem z;rw[EZ]at ho;cases ho;exact nf vs RS
  rw[qd JS]at NW;have IS:Inv (X.suite ea oe) Z AA H' {s1 with heap:=h6}:=I6.suite ⟨EZ,Ex,λz=>NW (z ▸ W2),λz=>NW (WR _ z),λv z=>by rw[RS]at z;cases z⟩;refine YI (hs ea oe Z _ _ H' D IS q) (λf s8 q8=>?_) λ_ _ z=>Yd z;cases f with
  |next=>obtain⟨GU,H8,J,q⟩:=q8;exact⟨_,H8,J.unsuite I1.ok.hd,q⟩
  |brk=>obtain⟨GU,H8,J,q⟩:=q8;exact⟨_,H8,J.unsuite I1.ok.hd,q⟩
  |cont=>obtain⟨GU,H8,J,q⟩:=q8;exact⟨_,H8,J.unsuite I1.ok.hd,q⟩
  |ret u=>obtain⟨v,GU,H8,J,r,q⟩:=q8;exact⟨v,_,H8,J.unsuite I1.ok.hd,r,q⟩
open BB
variable{X:Cx}
end L2
namespace L2
open PySem PySem.Spec PySem.Calls PyProof.Rows PySem.W
end L2
namespace BB
open PySem L2 PySem.Builtin PySem.Builtin.Str
end BB
namespace L2
open PySem PySem.Spec PySem.Calls PyProof.Rows PySem.Builtin PySem.Builtin.Str BB
variable{X:Cx}
end L2
namespace L2
open PySem PySem.Spec PyProof.Rows
end L2
namespace BB
open PySem L2
end BB
namespace L2
open PySem PySem.Spec PyProof.Rows
open PySem.Calls
structure FvOk(P:Xm)(w:XD)(K:WW)(mg:Xj->Option WV)(base:X3)(CX:CXT)(k:Nat)(f:WS)(sp:Sp):Prop where
 fn:∀(A:XH)(outer:List Env)(s:WZ)(H:Hp)(vs:List V)(Q:VK)(E:XK),Env0 P w K mg base A outer s H->sp vs H Q E->PySem.W.FnAt f s.1
 run:∀(A:XH)(outer:List Env)(s:WZ)(H:Hp)(us:List WV)(vs:List V)(Q:VK)(E:XK),Room k A->Env0 P w K mg base A outer s H->Vals vs us->sp vs H Q E ->
  codeAny (Xx P w) A (.call (.ref f) ⟨us,[]⟩) (CR CX outer P w H s Q E) s
theorem FvOk.of{k:Nat}(F:FnOk P w K mg base CX k f fd ps sp)(G:Fun K x qual st f fd)(hb:Binds K fd ps []):FvOk P w K mg base CX k f sp where
 fn:=λA outer s H vs Q E e0 h=>by
  obtain⟨oc,od,kV,doc,pm,an,zZ,ct,D1,rfl,lk,_⟩:=G.ex;exact⟨_,_,_,_,(e0.bs _ _ (e0.mod.kin _ _ lk)).1⟩
 run:=λA outer s H us vs Q E hr e0 r h=>by
  have KX:K.In s.1:=e0.mod.kin.keeps λb o e=>(e0.bs b o e).1;have hl:us.length=ps.length:=by rw[<-r.length];exact F.len _ _ _ _ h
  have:=hb s us KX (by rw[Yx];exact hl);rw[Yx]at this;exact F.run A outer s H ⟨us,[]⟩ us vs Q E hr e0 this r h
section
variable{X:Cx}{k:Nat}{E:XK}{p:Z9}{es:List XZ}{t:TA}
def uZ(P:Xm)(w:XD)(K:WW)(mg:Xj->Option WV)(base:X3)(CX:CXT)(k i:Nat)(E:XK)(t:TA):TE:=λY H Q=>∃f sp,Y[i]?=A? (A? (.ref f))/\FvOk P w K mg base CX k f sp/\t Y H λvs H1=>sp vs H1 Q E
theorem qM{E:WV->WZ->Prop}{q:WS}{rest:List XZ}(h:Xf M A (spliced (ZC pos (XE (e::rest) env))) (λvs zX=>PySem.W.FnAt q zX.heap/\Xf M A (call (.ref q) ([]++vs)) Q E zX) E s)
 (he:XE (e::rest) env=(D?,YQ e env)::XE rest env) (C1:(ZC pos (XE rest env)).any (·.1)=D?) :
 Xf M A (callWith pos (.ref q) [] (ZC pos (XE (e::rest) env)) []) Q E s:=by
 rw[he]at h |-;exact PySem.W.callWith_of (by show((D? ||(ZC pos (XE rest env)).any (·.1)) ||false)=D?;rw[C1];rfl) PySem.W.keeps_F (evalArgs_plain h)
theorem kj(hN:X.N[i]?=A? x)(hv:Vis X.env.scope x)(hr:Room k X.A)(hx:Passes CX X E)(ha:PA X (e::es) t)(C0:(x == ("__debug__":Xj))=false:=by decide)(BU:(x == ("__classdict__":Xj))=false:=by decide)
 (he:XE (e::es) X.env=(D?,YQ e X.env)::XE es X.env:=by rfl) (AF:(ZC pos (XE es X.env)).any (·.1)=false:=by rfl) :
 PE X (.Call (.Name x p) (e::es) [] pos) (uZ X.prog X.w X.K X.mg X.base CX k i E t):=by
 intro Z s Y H Q I h;obtain⟨f,sp,NX,F,q⟩:=h;refine Yo (thn (t5 (X:=X) hN hv C0 BU Z s Y H (λv H1=>v=.ref f/\t Y H1 λvs H2=>sp vs H2 Q E) I ⟨_,NX,rfl,q⟩) λu s1⟨v,H1,I1,r,e1,q1⟩=>?_);subst e1;obtain rfl:u=XI f:=r;refine qM (thn (ha pos Z s1 Y H1 _ I1 q1) λus s2⟨vs,H2,I2,r2,q2⟩=>⟨F.fn X.A X.stack s2 H2 vs Q E I2.env0 q2,?_⟩) he AF;refine wpAny_call (codeAny_mono (F.run X.A X.stack s2 H2 ([]++us) vs Q E hr I2.env0 r2 q2) λr s' hq=>?_);cases r with
 |error e=>exact hx Z Y H2 s2 e s' I2 hq
 | ok fl =>
   cases fl with
   |ret u=>exact I2.after hq
   |next=>exact Yd hq
   |brk=>exact Yd hq
   |cont=>exact Yd hq
end
def fgt(S:List WS)(H:Hp):Hp:=λb=>if b∈S then B? else H b
def rst(S:List WS)(H H':Hp):Hp:=λb=>if b∈S then H b else H' b
theorem iM{S:List WS}(h:b∈S):fgt S H b=none:=b! h
theorem bK{S:List WS}(h:b∉S):fgt S H b=H b:=a! h
theorem ql{S:List WS}(h:b∈S):rst S H H' b=H b:=b! h
theorem cU{S:List WS}(h:b∉S):rst S H H' b=H' b:=a! h
theorem ur{S:List WS}(h:fgt S H b=A? o):b∉S/\H b=A? o:=by
 by_cases hb:b∈S
 .rw[iM hb]at h;cases h
 .exact⟨hb,by rw[bK hb]at h;exact h⟩
def Exts(S:List WS)(H:Hp):Prop:=∀b∈S,∃φ,H b=A? (.ext φ)
theorem Exts.out{S:List WS}(x:Exts S H)(e:H b=A? o)(n:∀φ,o≠.ext φ):b∉S:=λz=>by
 obtain⟨φ,h⟩:=x b z;rw[e]at h;exact n φ (Xh h)
theorem HOk.fgt{S:List WS}(x:HOk P w H h)(hS:Exts S H):HOk P w (fgt S H) h:=λa o e=>by
 obtain⟨ha,e'⟩:=ur e;exact(x a o e').stay (λ_ _ _ q=>q) (λb q=>by rw[bK (hS.out q (by intro φ z;cases z))];exact q) λb xs q=>by rw[bK (hS.out q (by intro φ z;cases z))];exact q
theorem HOk.rst{S:List WS}(x:HOk P w H h)(x':HOk P w H' h')(hS:Exts S H)(hk:∀b∈S,∀o,h.get? b=A? o->h'.get? b=A? o)(hn:∀b∈S,H' b=B?):HOk P w (rst S H H') h':=λa o e=>by
 by_cases ha:a∈S
 .rw[ql ha]at e;obtain⟨φ,UU⟩:=hS a ha;have e2:=UU;rw[e]at e2;cases e2;obtain⟨p,⟨ob,q⟩,st⟩:=x a _ e;exact⟨st _ _ p (λo z=>hk a ha o z),⟨ob,hk a ha ob q⟩,st⟩
 .rw[cU ha]at e;have out:∀b u,H' b=A? u->b∉S:=λb u q z=>by rw[hn b z]at q;cases q
  exact(x' a o e).stay (λ_ _ _ q=>q) (λb q=>by rw[cU (out b _ q)];exact q) λb xs q=>by rw[cU (out b _ q)];exact q
def CellAt(H:Hp)(c:WS)(v:V):Prop:=∃φ,H c=A? (.ext φ)/\∀h:X3,φ h->∃u,RelV v u/\h.IsCell c (A? u)
def CodeAt(H:Hp)(c:WS)(qual:Xj):Prop:=∃φ,H c=A? (.ext φ)/\∀h:X3,φ h->h.CodeRec (.ref c) qual
def vR(H:Hp)(cl:List (Xj×WS))(ns:List Xj)(ws:List V):Prop:=Xv (λ(x:Xj)(v:V)=>∃c,cl.lookup x=A? c/\CellAt H c v) ns ws
def LamAt(H:Hp)(f c':WS)(name qual:Xj)(params:Arguments)(body:XZ)(scope:ZP)(cl:List (Xj×WS)):Prop:=∃φ,H f=A? (.ext φ)/\∀h:X3,φ h->∃pm CD,h.get? f=A? (Zt name qual params body scope cl pm c' CD)
theorem CodeAt.mono(s:Same H H'){q:Xj}(h:CodeAt H c q):CodeAt H' c q:=by
 obtain⟨φ,h1,h2⟩:=h;exact⟨φ,s _ _ h1,h2⟩
theorem LamAt.mono(s:Same H H'){body:XZ}(h:LamAt H f c' name qual params body scope cl):LamAt H' f c' name qual params body scope cl:=by
 obtain⟨φ,h1,h2⟩:=h;exact⟨φ,s _ _ h1,h2⟩
theorem CellAt.now(x:HOk P w H h)(z:CellAt H c v):∃u,RelV v u/\h.IsCell c (A? u):=by
 obtain⟨φ,h1,h2⟩:=z;exact h2 h (x c _ h1).1
def cxL(P:Xm)(w:XD)(K:WW)(mg:Xj->Option WV)(base:X3)(N:List Xj)(qual:Xj)(scope:ZP)(f:WS)(cd:WV)(cl:List (Xj×WS))(A:XH)(outer:List Env)(s:WZ)(H:Hp):Cx where
 prog:=P
 w:=w
 K:=K
 mg:=mg
 base:=base
 A:=A.deeper (PySem.W.envX qual scope s.1.1.size f cd cl)
 N:=N
 s₀:=s
 H₀:=fgt (cl.map (·.2)) H
 env:=PySem.W.envX qual scope s.1.1.size f cd cl
 outer:=outer
 stack:=PySem.W.envX qual scope s.1.1.size f cd cl::outer
 ex:=[]
 calm:=C?
 fn:=λ_=>D?
 pn:=[]
 xe:=λ_ _=>False
structure oA(N ps:List Xj)(cl:List (Xj×WS))(sc:ZP):Prop where
 kind:sc.kind=.function
 co:sc.isCoroutine=D?
 gen:sc.isGenerator=D?
 nocell:∀x∈sc.names,x.2≠.cell
 nd:N.Nodup
 pre:N.take ps.length=ps
 par:∀x∈ps,sc.names.lookup x=A? .local
 fre:∀x∈N.drop ps.length,sc.names.lookup x=A? .free
 has:∀x,sc.names.lookup x=A? .free->∃c,cl.lookup x=A? c
 inj:∀x y c,cl.lookup x=A? c->cl.lookup y=A? c->x=y
theorem jl(h:cl.lookup x=A? c):c∈cl.map (·.2):=Xn.mpr ⟨(x,c),Yc h,rfl⟩
theorem mD:∀{l:List (Xj×WV)}{x:Xj}{u:WV},(l.map (·.1)).Nodup->(x,u)∈l->l.lookup x=A? u
 | [],_,_,_,h=>by cases h
 | (y,v)::l,x,u,nd,h=>by
   rw[XG,X6]at nd;rw[YW];rcases Xc.mp h with e|e
   .cases e;rw[beq_self_eq_true]
   .have Ar:(x == y)=false:=by
     rw[beq_eq_false_iff_ne];intro z;subst z;exact nd.1 (Xn.mpr ⟨_,e,rfl⟩)
    rw[Ar];exact mD nd.2 e
theorem oN(nd:ps.Nodup)(hl:us.length=ps.length)(h1:ps[i]?=A? x)(h2:us[i]?=A? u):(ps.zip us).reverse.lookup x=A? u:=by
 refine mD ?_ ?_
 .rw[List.map_reverse,List.map_fst_zip (by lia)];exact(List.pairwise_reverse.mpr (nd.imp λh z=>h z.symm))
 .rw[List.mem_reverse];exact WT (Yu.mpr ⟨h1,h2⟩)
theorem yd{k:Nat}{body:XZ}
 (S:oA N ps cl scope) (bind:∀(pm CD:WV)(us:List WV),us.length=ps.length->bindArgs (PySem.W.kla_fn name qual params body scope cl pm (.ref c') CD) ⟨us,[]⟩=pure (ps.zip us))
 (Bu:∀vs H Q E,sp vs H Q E->vs.length=ps.length/\LamAt H f c' name qual params body scope cl/\CodeAt H c' qual/\Exts (cl.map (·.2)) H/\∀x c,cl.lookup x=A? c->∃v,CellAt H c v)
 (AG:∀(A:XH)(outer:List Env)(s:WZ)(H:Hp)(vs:List V)(Q:VK)(E:XK),Room k (A.deeper (PySem.W.envX qual scope s.1.1.size f (.ref c') cl))->sp vs H Q E ->
  ∃t ws,vR H cl (N.drop ps.length) ws/\PE (cxL P w K mg base N qual scope f (.ref c') cl A outer s H) body t/\t (vs.map A?++ws.map A?) (fgt (cl.map (·.2)) H) λv H'=>Q v (rst (cl.map (·.2)) H H')) :
 FvOk P w K mg base CX0 (k+1) f sp where
 fn:=λA outer s H vs Q E e0 h=>by
  obtain⟨_,⟨φ,h1,h2⟩,_⟩:=Bu _ _ _ _ h;obtain⟨pm,CD,e⟩:=h2 _ (e0.hok f _ h1).1;exact⟨_,_,_,_,e⟩
 run:=λA outer s H us vs Q E hr e0 r h=>by
  obtain⟨hl,⟨φ,h1,h2⟩,⟨ψ,g1,g2⟩,hx,JV⟩:=Bu _ _ _ _ h;obtain⟨pm,CD,ef⟩:=h2 _ (e0.hok f _ h1).1;have NY:=g2 _ (e0.hok c' _ g1).1;have C2:us.length=ps.length:=by rw[<-r.length];exact hl
  have NZ:∀y∈ps.zip us,scope.names.lookup y.1=A? .local:=λ⟨n,v⟩hy=>S.par n (List.of_mem_zip hy).1;refine PySem.W.kla_callFunE hr.depth ef rfl S.co S.gen rfl NY ?_;rw[show bindArgs _ _=_ from bind pm CD us C2];refine WX (wpAny_newFunctionEnv S.nocell NZ (λAm C4 EX=>?_) S.kind);have CF:∀b o,s.1.get? b=A? o->Am.get? b=A? o:=λb o e=>EX.extBut b o (XF (Xe e)) (WU _ e);refine⟨e0.mod.nolimit.keeps λb o e=>CF b o (e0.bs b o e).1,?_⟩;show codeAny _ _ (.expr body (PySem.W.envX qual scope s.1.1.size f (.ref c') cl)) _ _;obtain⟨t,ws,Ax,ht,hq⟩:=AG A outer s H vs Q E (hr.deeper _) h;have Ds:(N.drop ps.length).length=ws.length:=W9 Ax;have AF:ps.length<=N.length:=by have:=h! Y3 S.pre;rw[XC]at this;lia
  have Af:∀x c,cl.lookup x=A? c->c∈cl.map (·.2):=λx c e=>jl e
  have Ad:∀c∈cl.map (·.2),c<s.1.1.size:=λc hc=>by
   obtain⟨IC,e⟩:=hx c hc;exact e0.hok.lt e
  have G9:∀x c,cl.lookup x=A? c->∃v,Am.IsCell c v:=λx c e=>by
   obtain⟨v,hv⟩:=JV x c e;obtain⟨u,_,o,ho,hd⟩:=hv.now e0.hok;exact⟨_,o,CF _ _ ho,hd⟩
  have ID:∀b,H b=B?->fgt (cl.map (·.2)) H b=none:=λb e=>by
   by_cases hb:b∈cl.map (·.2)
   .exact iM hb
   .rw[bK hb];exact e
  have LW:ps.Nodup:=by rw[<-S.pre];exact S.nd.sublist (List.take_sublist _ _)
  have I:Inv (cxL P w K mg base N qual scope f (.ref c') cl A outer s H) [] (vs.map A?++ws.map A?) (fgt (cl.map (·.2)) H) {s with heap:=Am,toks:=s.toks+(ps.zip us).length}:=by
   refine⟨⟨e0.mod,S.kind,Dn,Dn,W0 _,S.inj,λx hx=>?_,λx c hf _=>(by cases hf),λ_=>hr.hd,Around.frames_deeper e0.frames,.inr ⟨rfl,rfl⟩,λb z=>(by cases z),λb o e=>⟨(e0.bs b o e).1,?_⟩,e0.bsz,λb _ _ z=>(by cases z),λb z=>(by cases z),e0.funs,λb hb=>?_⟩,
    rfl,e0.bare,Un.kept CF,⟨_,C4,λi x v e1 e2 e3=>?_⟩,G9,?_,λx c e=>iM (Af x c e),λp hp=>(by cases hp),?_,?_⟩
   .have Bc:scope.names.lookup x=A? .cell\/scope.names.lookup x=A? .free:=hx;rcases Bc with z|z
    .exact g! rfl (S.nocell _ (Yc z))
    .exact S.has x z
   .exact ID b (e0.bs b o e).2
   .exact ID b (e0.frf b hb)
   .by_cases hi:i<vs.length
    .rw[XB (by rw[WO];exact hi),Xd]at e2;obtain⟨v',B4,e4⟩:=Yh.mp e2;cases e4;obtain⟨u,hu,rv⟩:=r.get B4
     have hp:ps[i]?=A? x:=by
      rw[<-S.pre,List.getElem?_take_of_lt (by lia)];exact e1
     exact⟨u,rv,.inl ⟨S.par x (WT hp),oN LW C2 hp hu⟩⟩
    .rw[X0 (by rw[WO];lia),Xd,WO]at e2;obtain⟨v',B4,e4⟩:=Yh.mp e2;cases e4
     have hd:(N.drop ps.length)[i - vs.length]?=A? x:=by
      rw[List.getElem?_drop,hl,show ps.length+(i - ps.length)=i by lia];exact e1
     obtain⟨w',BF,c,hc,Ao⟩:=x! Ax hd;rw[B4]at BF;cases BF;obtain⟨u,ru,o,ho,Gn⟩:=Ao.now e0.hok;exact⟨u,ru,.inr ⟨.inr (S.fre x (WT hd)),c,hc,o,CF _ _ ho,Gn⟩⟩
   .exact ID _ (e0.hok.fresh (W0 _))
   .exact(e0.hok.fgt hx).kept CF
   .show(vs.map A?++ws.map A?).length=N.length;rw[W4,WO,WO,<-Ds,XJ];lia
  refine PySem.W.kla_codeExpr (YI (ht [] _ _ _ _ I hq) (λu s' Cn=>?_) λe s' z=>z.elim);obtain⟨v,H',I',rv,q'⟩:=Cn;have un:Un (frs outer) [] (fgt (cl.map (·.2)) H) H' s.1 s'.1:=I'.base
  have kS:∀b∈cl.map (·.2),∀o,s.1.get? b=A? o->s'.1.get? b=A? o:=λb hb o e=>un.keep b o e (iM hb) (λz=>by
   obtain⟨IC,e'⟩:=hx b hb;rw[e0.frf b z]at e';cases e') (by simp)
  have UW:∀b∈cl.map (·.2),H' b=none:=λb hb=>by
   obtain⟨IC,e'⟩:=hx b hb;obtain⟨_,⟨o,ho⟩,_⟩:=e0.hok b _ e';exact un.free b o ho (iM hb) (by simp)
  have nS:∀b,H b=B?->b∉cl.map (·.2):=λb e hb=>by
   obtain⟨IC,e'⟩:=hx b hb;rw[e]at e';cases e'
  refine⟨v,rst (cl.map (·.2)) H H',I'.os,I'.bare,⟨λb o e n hb Bc=>un.keep b o e (ID b n) hb Bc,λb o e n hb Bc=>un.slot b o e (ID b n) hb Bc,λb o e n Bc=>?_,λb o e Bc=>un.there b o e Bc,λb xs e=>?_,λb o u' e=>?_,λb pp e=>?_⟩,HOk.rst e0.hok I'.hok hx kS UW,rv,q'⟩
  .rw[cU (nS b n)];exact un.free b o e (ID b n) Bc
  .have hb:=hx.out e (by intro IC z;cases z);rw[cU hb];exact un.tups b xs (by rw[bK hb];exact e)
  .have hb:=hx.out e (by intro IC z;cases z);rw[cU hb];exact un.frzs b o u' (by rw[bK hb];exact e)
  .have hb:=hx.out e (by intro IC z;cases z);rw[cU hb];exact un.tbls b pp (by rw[bK hb];exact e)
structure Lam(mg:Xj->Option WV)(base:X3)(c P:WS):Prop where
 hd:PySem.W.CodeHd base c P
 bl:base.BuiltinsAt mg P
def SameT(P:WS)(H H':Hp):Prop:=∀b o,b≠P->H b=A? o->H' b=A? o
def tabOf(pos:Z9)(c':WS):Array WV:=#[YJ pos.line,YJ pos.col,.ref c']
def TabSt(H:Hp)(P:WS)(pos:Z9)(qual:Xj):Prop:=H P=A? (.tbl #[])\/∃c',H P=A? (.tbl (tabOf pos c'))/\CodeAt H c' qual
theorem TabSt.mono(s:Same H H'){P:WS}(h:TabSt H P pos qual):TabSt H' P pos qual:=by
 rcases h with h|⟨c',h1,h2⟩
 .exact .inl (s _ _ h)
 .exact .inr ⟨c',s _ _ h1,h2.mono s⟩
theorem SameT.trans{P:WS}(a:SameT P H H1)(b:SameT P H1 H2):SameT P H H2:=λc o n e=>b c o n (a c o n e)
theorem Same.t(s:Same H H')(P:WS):SameT P H H':=λb o _ e=>s b o e
theorem SameT.kt{P:WS}(s:SameT P H H'){pp:Array WV}(hP:H P=A? (.tbl pp)):BB.KT H H':=λb xs e=>s b _ (λz=>by rw[z,hP]at e;cases e) e
theorem TabSt.kt{P:WS}(t:TabSt H P pos qual)(s:SameT P H H'):BB.KT H H':=by
 rcases t with h|⟨_,h,_⟩
 .exact s.kt h
 .exact s.kt h
theorem uN(pos:Z9)(c':WS):TriplesOk (tabOf pos c').toList:=trivial
theorem tG(pos:Z9)(c':WS):codeAmong pos (tabOf pos c').toList=A? (.ref c'):=by
 show codeAmong pos [YJ pos.line,YJ pos.col,.ref c']=_;simp[codeAmong,YJ]
def zV(X:Cx)(P:WS)(pos:Z9)(params:Arguments)(body:XZ)(scope:ZP)(cl:List (Xj×WS)):TE:=λ_ H Q=>TabSt H P pos (X.env.qual++"<lambda>") /\
 ∀f c' H',SameT P H H'->H' P=A? (.tbl (tabOf pos c'))->CodeAt H' c' (X.env.qual++"<lambda>")->LamAt H' f c' "<lambda>" (X.env.qual++"<lambda>") params body scope cl->H f=B?->Q (.ref f) H'
theorem yc{X:Cx}{P:WS}{body:XZ}(L:Lam X.mg X.base c P)(hc:X.env.code=.ref c)(Af:closureFor scope X.env=pure cl)(N0:defaultsOf params X.env=([],[]):=by rfl) :
 PE X (.Lambda params body scope pos) (zV X P pos params body scope cl):=by
 intro Z s Y H Q I h;obtain⟨tab,q⟩:=h;have N1:s.1.Ns X8 X.mg:=I.mod.glob.keeps I.bk;have C:PySem.W.CodeHd s.1 c P:=L.hd.keeps I.bk
 have hb:s.1.BuiltinsAt X.mg P:=by
  obtain⟨bm,o,h1,h2,h3,h4,h5,h6⟩:=L.bl;exact⟨bm,o,h1,h2,h3,h4,I.bk _ _ h5,h6⟩
 refine PySem.W.kla_eval N0 ?_;rcases tab with hP|⟨c',hP,EU⟩
 .have L7:s.1.get? P=A? (PySem.W.tabObj #[]):=I.hok P _ hP
  have UX:X8≠P:=λz=>by
   obtain⟨o,es,ep,e,d,_⟩:=N1;rw[z,L7]at e;cases e;cases d
  refine PySem.W.kla_makeFunction Af I.ok.glob N1 hc C L7 trivial rfl UX hb λc' CD h' tk hx IE Ad JW RT=>?_;have hsz:s.1.1.size<=h'.objs.size:=X2 IE (ZQ Ad);have RU:H c'=none:=I.hok.fresh IE;have nf:H h'.objs.size=none:=I.hok.fresh hsz;have UY:c'≠h'.objs.size:=XF Ad;have UZ:P≠c':=λz=>by rw[z,RU]at hP;cases hP
  have U0:P≠h'.objs.size:=λz=>by rw[z,nf]at hP;cases hP
  have kp:∀b o,b≠P->s.1.get? b=A? o->(h'.push (Zt "<lambda>" (X.env.qual++"<lambda>") params body scope cl ((X.mg "__name__").getD .none) c' CD)).get? b=A? o:=λb o n e=>WU _ (hx b o n e);obtain⟨H',L8⟩:∃H',H'=upd (upd (upd H P (.tbl (tabOf pos c'))) c' (.ext λh=>h.CodeRec (.ref c') (X.env.qual++"<lambda>"))) h'.objs.size (.ext λh=>h.get? h'.objs.size=A? (Zt "<lambda>" (X.env.qual++"<lambda>") params body scope cl ((X.mg "__name__").getD .none) c' CD)):=⟨_,rfl⟩;have eP:H' P=A? (.tbl (tabOf pos c')):=by rw[L8,af U0,af UZ,ae]
  have ec:H' c'=A? (.ext λh=>h.CodeRec (.ref c') (X.env.qual++"<lambda>")):=by rw[L8,af UY,ae]
  have ef:H' h'.objs.size=A? (.ext λh=>h.get? h'.objs.size=A? (Zt "<lambda>" (X.env.qual++"<lambda>") params body scope cl ((X.mg "__name__").getD .none) c' CD)):=by rw[L8,ae]
  have eo:∀b,b≠P->b≠c'->b≠h'.objs.size->H' b=H b:=λb n1 n2 n3=>by rw[L8,af n3,af n2,af n1]
  have es:∀b o,H b=A? o->b≠P->H' b=A? o:=λb o e n=>by rw[eo b n (λz=>by rw[z,RU]at e;cases e) (λz=>by rw[z,nf]at e;cases e)];exact e
  have un:Un X.fs [] H H' s.1 (h'.push (Zt "<lambda>" (X.env.qual++"<lambda>") params body scope cl ((X.mg "__name__").getD .none) c' CD)):=by
   have nP:∀b,H b=B?->b≠P:=λb n z=>by rw[z,hP]at n;cases n
   refine⟨λb o e n _ _=>kp b o (nP b n) e,λb o e n _ _=>⟨o.slots,kp b o (nP b n) e⟩,λb o e n _=>?_,λb o e _=>?_,λb xs e=>es b _ e (λz=>by rw[z,hP]at e;cases e),λb o u e=>es b _ e (λz=>by rw[z,hP]at e;cases e),λb pp e=>?_⟩
   .rw[eo b (nP b n) (XF (Xz (Xe e) IE)) (XF (Xz (Xe e) hsz))];exact n
   .by_cases hb:b=P
    .exact⟨_,by rw[hb];exact WU _ RT⟩
    .exact⟨o,kp b o hb e⟩
   .by_cases hb:b=P
    .subst hb;rw[hP]at e;cases e;exact⟨tabOf pos c',by rw[eP];simp⟩
    .exact⟨#[],by rw[es b _ e hb];simp⟩
  have hok:HOk X.prog X.w H' (h'.push (Zt "<lambda>" (X.env.qual++"<lambda>") params body scope cl ((X.mg "__name__").getD .none) c' CD)):=λa o e=>by
   by_cases ha:a=P
   .subst ha;rw[eP]at e;cases e;exact WU _ RT
   by_cases BA:a=c'
   .subst BA;rw[ec]at e;cases e;refine⟨JW.push _,?_,λh1 h2 z k=>?_⟩
    .obtain⟨_,oc,_,_,e1,e2,_⟩:=JW;cases e1;exact⟨oc,WU _ e2⟩
    .obtain⟨_,oc,vs,t,e1,e2,e3⟩:=z;cases e1;exact⟨_,oc,vs,t,Dn,k _ e2,e3⟩
   by_cases B5:a=h'.objs.size
   .subst B5;rw[ef]at e;cases e;exact⟨W3 _ rfl,⟨_,W3 _ rfl⟩,λh1 h2 z k=>k _ z⟩
   rw[eo a ha BA B5]at e;refine(I.hok a o e).stay (λb u hb z=>kp b u ?_ z) (λb z=>es b _ z (λy=>by rw[y,hP]at z;cases z)) λb xs z=>es b _ z (λy=>by rw[y,hP]at z;cases z);rcases hb with hb|hb
   .rw[hb];exact ha
   .exactλy=>by rw[y,hP]at hb;cases hb
  refine⟨.ref h'.objs.size,H',I.un un hok,Dn,q _ c' H' (λb o n e=>es b o e n) eP ⟨_,ec,λ_ z=>z⟩ ⟨_,ef,λ_ z=>⟨_,_,z⟩⟩ nf⟩
 .have L7:s.1.get? P=A? (PySem.W.tabObj (tabOf pos c')):=I.hok P _ hP;refine PySem.W.kla_makeFunctionHit Af I.ok.glob N1 hc C L7 (uN pos c') (tG pos c') hb λCD h' tk hk hsz=>?_;have nf:H h'.objs.size=none:=I.hok.fresh hsz
  have I':=I.laid (h':=h'.push {cls:=.type "function",data:=.func (PySem.W.kla_fn "<lambda>" (X.env.qual++"<lambda>") params body scope cl ((X.mg "__name__").getD .none) (.ref c') CD)}) (a:=h'.objs.size) (t':=tk)
   (o:=.ext λh=>h.get? h'.objs.size=A? (Zt "<lambda>" (X.env.qual++"<lambda>") params body scope cl ((X.mg "__name__").getD .none) c' CD)) (λb u e=>WU _ (hk b u e)) hsz ⟨W3 _ rfl,⟨_,W3 _ rfl⟩,λh1 h2 z k=>k _ z⟩
  have sm:Same H (upd H h'.objs.size (.ext λh=>h.get? h'.objs.size=A? (Zt "<lambda>" (X.env.qual++"<lambda>") params body scope cl ((X.mg "__name__").getD .none) c' CD))):=am nf _;exact⟨.ref h'.objs.size,_,I',Dn,q _ c' _ (sm.t P) (sm _ _ hP) (EU.mono sm) ⟨_,ae,λ_ z=>⟨_,_,z⟩⟩ nf⟩
section
variable{X:Cx}{k:Nat}{p:Z9}{es:List XZ}{t:TA}
def Trk(X:Cx)(Y:St)(cl:List (Xj×WS))(H H':Hp):Prop:=(∀b∈cl.map (·.2),H b=B?)/\(∀b,b∉cl.map (·.2)->H' b=H b)/\Exts (cl.map (·.2)) H'/\∀(i:Nat)(y:Xj)(v:V)(c:WS),X.N[i]?=A? y->Y[i]?=A? (A? v)->cl.lookup y=A? c->CellAt H' c v
def xG(X:Cx)(cl:List (Xj×WS))(sp:Sp)(t:TA):TE:=λY H Q=>t Y H λvs H1=>∀H2,Trk X Y cl H1 H2->sp vs H2 (λv H3=>(∀b∈cl.map (·.2),H3 b=H2 b)/\Q v (fgt (cl.map (·.2)) H3)) E0
theorem Trk.same{X:Cx}(t:Trk X Y cl H H'):Same H H':=λb o e=>by
 rw[t.2.1 b (λz=>by rw[t.1 b z]at e;cases e)];exact e
structure pG(X:Cx)(cl:List (Xj×WS)):Prop where
 look:∀y c,(y,c)∈cl->X.env.cells.lookup y=A? c
 fn:∀y c,(y,c)∈cl->X.fn y=C?
 kind:∀y c,(y,c)∈cl->X.env.kindOf y=A? .cell
theorem zK{y:Xj}(h1:X.env.cells.lookup y=A? c)(h2:X.fn y=C?)(h3:X.env.kindOf y=A? .cell):pG X [(y,c)] :=
 ⟨λ_ _ h=>by cases WY.mp h;exact h1,λ_ _ h=>by cases WY.mp h;exact h2,λ_ _ h=>by cases WY.mp h;exact h3⟩
theorem uE(F:FnOk X.prog X.w X.K X.mg X.base CX0 k f fd ps sp)(hr:Room k X.A)(hg:Gl X x)(hm:X.mg x=A? (.ref f))(hk:ZJ X.K (.ref f)=C?)(hb:Binds X.K fd ps [])(oc:pG X cl)
 (ha:PA X (e::es) t) (C0:(x == ("__debug__":Xj))=false:=by decide) (he:XE (e::es) X.env=(D?,YQ e X.env)::XE es X.env:=by rfl) (AF:(ZC pos (XE es X.env)).any (·.1)=false:=by rfl) :
 PE X (.Call (.Name x p) (e::es) [] pos) (xG X cl sp t):=by
 intro Z s Y H Q I h;refine Yo (fR I hg hm ?_ C0);refine PySem.W.callWith_K (h₀:=X.base) I.ok.mod.kin hk (thn (ha pos Z s Y H _ I h) λus s1⟨vs,H1,I1,r,q⟩=>⟨I1.kIn,?_⟩) he AF
 have Ba:∀b∈cl.map (·.2),∃y,(y,b)∈cl:=λb hb=>by
  obtain⟨⟨y,c⟩,h1,h2⟩:=Xn.mp hb;cases h2;exact⟨y,h1⟩
 have Ao:∀b∈cl.map (·.2),∃v o,s1.1.get? b=A? o/\o.data=.cell v:=λb hb=>by
  obtain⟨y,hy⟩:=Ba b hb;obtain⟨v,o,h1,h2⟩:=I1.cell y b (oc.look y b hy);exact⟨v,o,h1,h2⟩
 have Cr:∀b∈cl.map (·.2),H1 b=none:=λb hb=>by
  obtain⟨y,hy⟩:=Ba b hb;exact I1.freeC y b (oc.look y b hy)
 obtain⟨H2,RV⟩:∃H2:Hp,H2=λb=>if b∈cl.map (·.2)then A? (.ext λh=>h.get? b=s1.1.get? b/\(h.get? b).isSome=C?)else H1 b:=⟨_,rfl⟩
 have JX:∀b∈cl.map (·.2),H2 b=A? (.ext λh=>h.get? b=s1.1.get? b/\(h.get? b).isSome=C?):=λb hb=>by rw[RV];exact b! hb
 have Bx:∀b,b∉cl.map (·.2)->H2 b=H1 b:=λb hb=>by rw[RV];exact a! hb
 have U1:Exts (cl.map (·.2)) H2:=λb hb=>⟨_,JX b hb⟩;have JY:∀b u,H1 b=A? u->b∉cl.map (·.2):=λb u z hb=>by rw[Cr b hb]at z;cases z
 have N2:HOk X.prog X.w H2 s1.1:=λa o ea=>by
  by_cases hb:a∈cl.map (·.2)
  .rw[JX a hb]at ea;cases ea;obtain⟨v,o,h1,h2⟩:=Ao a hb
   exact⟨⟨Dn,by rw[h1];rfl⟩,⟨o,h1⟩,λg1 g2 z y=>by
    obtain⟨ob,RW⟩:=Option.isSome_iff_exists.mp z.2;have:=y ob RW;exact⟨by rw[this,<-RW];exact z.1,by rw[this];rfl⟩⟩
  .rw[Bx a hb]at ea;exact(I1.hok a o ea).stay (λ_ _ _ z=>z) (λb z=>by rw[Bx b (JY b _ z)];exact z) λb xs z=>by rw[Bx b (JY b _ z)];exact z
 have AM:∀b o,X.base.get? b=A? o->b∉cl.map (·.2):=λb o z hb=>by
  obtain⟨y,hy⟩:=Ba b hb;have h1:=I1.ok.cab y b (oc.fn y b hy) (oc.look y b hy);exact g! (Xz (Xe z) (X2 I1.ok.bsz h1)) (Yk _)
 have JZ:∀b∈frs X.stack,b∉cl.map (·.2):=λb hb hc=>by
  obtain⟨y,hy⟩:=Ba b hc;rcases Xc.mp (I1.stkSub b hb)with z|z
  .exact I1.cne y b (oc.look y b hy) z
  .obtain⟨_,o,ho,_⟩:=I1.ok.funs.mem z;have h1:=I1.ok.cab y b (oc.fn y b hy) (oc.look y b hy);exact g! (Xz (Xe ho) h1) (Yk _)
 have e0:=I1.env0;have e2:Env0 X.prog X.w X.K X.mg X.base X.A X.stack s1 H2:=⟨e0.frames,e0.mod,λb o z=>⟨(e0.bs b o z).1,by rw[Bx b (AM b o z)];exact(e0.bs b o z).2⟩,e0.bsz,e0.funs,λb hb=>by rw[Bx b (JZ b hb)];exact e0.frf b hb,N2,e0.bare⟩
 have N3:Trk X Y cl H1 H2:=by
  refine⟨Cr,Bx,U1,λi y v c hN NX hc=>?_⟩;have RX:(y,c)∈cl:=Yc hc;have U2:=oc.look y c RX;have Fp:=oc.kind y c RX;obtain⟨m,hn,hl⟩:=I1.loc;obtain⟨u,ru,l⟩:=hl i y v hN NX (.inr (.inl Fp));rcases l with⟨z,_⟩|⟨_,c2,Dr,z⟩
  .rw[Fp]at z;cases z
  .rw[U2]at Dr;cases Dr;refine⟨_,JX c (jl hc),λh z'=>⟨u,ru,?_⟩⟩;obtain⟨o,ho,hd⟩:=z;exact⟨o,by rw[z'.1];exact ho,hd⟩
 have Bu:=q H2 N3;have hl:us.length=ps.length:=by rw[<-r.length];exact F.len _ _ _ _ Bu
 have AQ:=hb s1 us I1.kIn (by rw[Yx];exact hl);rw[Yx]at AQ;refine wpAny_call (codeAny_mono (F.run X.A X.stack s1 H2 ⟨us,[]⟩ us vs _ _ hr e2 AQ r Bu) λrr s' hq=>?_);cases rr with
 |error e=>exact Yd hq
 | ok fl =>
   cases fl with
   |next=>exact Yd hq
   |brk=>exact Yd hq
   |cont=>exact Yd hq
   | ret u =>
     obtain⟨v,H3,os,bare,un,J0,rv,hS,q3⟩:=hq;have U3:Exts (cl.map (·.2)) H3:=λb hb=>⟨_,(hS b hb).trans (JX b hb)⟩;have kS:∀b∈cl.map (·.2),s'.1.get? b=s1.1.get? b:=λb hb=>((J0 b _ ((hS b hb).trans (JX b hb))).1).1;refine⟨v,fgt (cl.map (·.2)) H3,I1.call' (ch:=[]) os ⟨λb o z n hb Bc=>?_,λb o z n hb Bc=>?_,λb o z n Bc=>?_,λb o z Bc=>un.there b o z Bc,λb xs z=>?_,λb o u' z=>?_,λb pp z=>?_⟩ (J0.fgt U3) bare (λb z=>by cases z),rv,q3⟩
     .by_cases hc:b∈cl.map (·.2)
      .rw[kS b hc];exact z
      .exact un.keep b o z (by rw[Bx b hc];exact n) hb Bc
     .exact un.slot b o z (by rw[Bx b (JZ b hb)];exact n) hb Bc
     .by_cases hc:b∈cl.map (·.2)
      .exact iM hc
      .rw[bK hc];exact un.free b o z (by rw[Bx b hc];exact n) Bc
     .have hc:=JY b _ z;rw[bK hc];exact un.tups b xs (by rw[Bx b hc];exact z)
     .have hc:=JY b _ z;rw[bK hc];exact un.frzs b o u' (by rw[Bx b hc];exact z)
     .have hc:=JY b _ z;rw[bK hc];exact un.tbls b pp (by rw[Bx b hc];exact z)
end
theorem vQ{P:WS}(F:Fun K x qual st f fd)(hn:PySem.W.nsIn K X8 x=A? (A? (.ref f)))(ht:PySem.W.tabIn K x=A? (c,P)):fd.code=.ref c:=by
 obtain⟨oc,od,kV,doc,pm,an,zZ,ct,D1,rfl,lk,BU⟩:=F.ex;unfold PySem.W.tabIn at ht;rw[hn]at ht;simp only[lk]at ht;show zZ=.ref c;cases zZ with
 | ref c2 =>
   simp only[PySem.W.fnOf]at ht;split at ht
   .split at ht
    .cases ht;rfl
    .cases ht
   .cases ht
 |_=>simp[PySem.W.fnOf]at ht
theorem sI{mb:Xj->Option WV}{k:Nat}{fa T:WS}{zX:WZ}{vs:List WV}{ns:List Int}
 (KX:K.In zX.heap) (C4:zX.heap.Ns X8 mg) (hb:zX.heap.Ns builtinsNs mb) (G':∀x:Xj,x≠"__name__"->mb x=bootBuiltins x) (N4:zX.heap.NoLimit) (hg:zX.gens=#[])
 (ha:zX.heap.get? a=A? {cls:=.type "list",data:=.seq vs.toArray}) (hi:IntsAre vs ns) (hl:ns.length<=Xi) (hr:Room k callerA)
 (hC:PySem.W.CodeHd zX.heap c T) (hT:zX.heap.get? T=A? (PySem.W.tabObj #[])) (Bm:zX.heap.BuiltinsAt mg T) (N5:K.lookup T=B?)
 (F:∀base:X3,K.In base->base.Ns X8 mg->Lam mg base c T->FnOk P w K mg base CX k fa fd [x] sp) (J1:∀(s:WZ)(u:WV),BindsTo s fd ⟨[u],[]⟩ [(x,u)])
 (Bu:∀H:Hp,SqL K H a (ns.map o!)->H T=A? (.tbl #[])->sp [.ref a] H (λv _=>v=.bl C?) λ_ _ _=>False)
 (N6:∀H e s',CX [] H zX (λ_ _ _=>False) e s'->False) :
 codeAny (Xx P w) callerA (.call (.ref fa) ⟨[.ref a],[]⟩) (λr s'=>r=.ok (.ret (.bool C?))/\OldK zX.heap s'.1/\s'.os=zX.os/\AllBare s'.gens) zX:=by
 have rv:=l8 hi;have N7:=hi.length;have RY:a≠T:=λz=>by rw[z,hT]at ha;cases ha
 have core:∀H:Hp,(∀b,H b=B?\/(∃o xs,H b=A? (.frz o (.lst xs)))\/(b=T/\H b=A? (.tbl #[])))->H T=A? (.tbl #[])->SqL K H a (ns.map o!)->HOk P w H zX.heap->(∀b,H b≠B?->b=a\/b=T)->(H a≠B?->K.lookup a=B?) ->
  codeAny (Xx P w) callerA (.call (.ref fa) ⟨[.ref a],[]⟩) (λr s'=>r=.ok (.ret (.bool C?))/\OldK zX.heap s'.1/\s'.os=zX.os/\AllBare s'.gens) zX:=by
  intro H hO N8 hS hok hA hK;have BG:∀{b:WS}{o:YF},zX.heap.get? b=A? o->H b=B?->(lE zX.heap H).get? b=A? o:=λe n=>uX e n
  have N9:∀{b:WS}{o:YF},zX.heap.get? b=A? o->(∀xs n,o.data≠.seq xs n)->(∀xs,o.data≠.fields xs\/o.cls≠.none)->H b=none:=λ{b o}e d1 d2=>by
   cases q:H b with
   |none=>rfl
   | some u =>
     rcases hA b (by rw[q];simp)with e'|e'
     .subst e';rw[ha]at e;cases e;exact g! rfl (d1 _ _)
     .subst e';rw[hT]at e;cases e;rcases d2 #[]with z|z
      .exact g! rfl z
      .exact g! rfl z
  have L9:∀{b:WS}{m:Xj->Option WV},zX.heap.Ns b m->(lE zX.heap H).Ns b m:=λ{b m}⟨o,es,ep,e,d,r⟩=>⟨o,es,ep,BG e (N9 e (λxs n=>by rw[d];exactλz=>nomatch z) (λxs=>.inl (by rw[d];exactλz=>nomatch z))),d,r⟩
  have RZ:K.In (lE zX.heap H):=λb o e=>BG (KX b o e) (by
   cases q:H b with
   |none=>rfl
   | some u =>
     rcases hA b (by rw[q];simp)with e'|e'
     .subst e';rw[hK (by rw[q];simp)]at e;cases e
     .subst e';rw[N5]at e;cases e)
  have hM:Mod K mg (lE zX.heap H):=⟨RZ,L9 C4,⟨mb,L9 hb,G'⟩,let⟨mc,h1,h2⟩:=N4;⟨mc,L9 h1,h2⟩⟩
  have hL:Lam mg (lE zX.heap H) c T:=by
   refine⟨?_,?_⟩
   .obtain⟨o,U4,file,tf,flags,tg,U5,text,tt,e1,r1,r2,r3⟩:=hC;exact⟨o,U4,file,tf,flags,tg,U5,text,tt,BG e1 (N9 e1 (λxs n=>by rw[r2];exactλz=>nomatch z) (λxs=>.inr (by rw[r1];exactλz=>nomatch z))),r1,r2,r3⟩
   .obtain⟨bm,o,h1,h2,h3,h4,h5,h6,h7,h8⟩:=Bm;exact⟨bm,o,h1,h2,h3,h4,BG h5 (N9 h5 (λxs n=>by rw[h8];exactλz=>nomatch z) (λxs=>.inl (by rw[h8];exactλz=>nomatch z))),h6,h7,h8⟩
  have e0:Env0 P w K mg (lE zX.heap H) callerA [] zX H:=⟨rfl,hM,λb o e=>wt e,Nat.le_of_eq (tM _ _),trivial,λb hb=>g! (show b∈([]:List WS)from hb) (by simp),hok,.of_eq hg⟩;refine codeAny_mono ((F _ RZ (L9 C4) hL).run callerA [] zX H ⟨[.ref a],[]⟩ [.ref a] [.ref a] _ _ hr e0 (J1 zX (.ref a)) (.cons rfl .nil) (Bu H hS N8)) λr s' h=>?_;cases r with
  |error e=>exact(N6 H e s' h).elim
  | ok fl =>
    cases fl with
    |next=>exact Yd h
    |brk=>exact Yd h
    |cont=>exact Yd h
    | ret u =>
      obtain⟨v,H',os,bare,un,J2,r',q⟩:=h;have q':v=.bl true:=q;subst q';obtain rfl:u=Value.bool true:=r';refine⟨Dn,⟨λb o e=>?_,λb o e=>un.there b o e (by simp)⟩,os,bare⟩;cases q:H b with
      |none=>exact .inl (un.keep b o e q (by intro z;exact g! (show b∈([]:List WS)from z) (by simp)) (by simp))
      | some u =>
        rcases hO b with z|⟨ob,xs,z⟩|⟨rfl,z⟩
        .rw[q]at z;cases z
        .have z2:=un.frzs b ob _ z;obtain⟨e1,_⟩:=hok b _ z;obtain⟨e2,_⟩:=J2 b _ z2;rw[e]at e1;cases e1;exact .inl e2
        .obtain⟨more,z2⟩:=un.tbls b _ z;have e2:s'.1.get? b=A? {cls:=.none,data:=.fields (#[]++more)}:=J2 b _ z2;rw[hT]at e;cases e;exact .inr (.inl ⟨(hC.tab hT).isCodeTable,rfl,#[],more,rfl,e2⟩)
 have R0:∀H:Hp,ObjOk P w H zX.heap T (.tbl #[]):=λ_=>hT;cases hk:K.lookup a with
 | some o =>
   have e:=KX a o hk;rw[ha]at e;cases e;refine core (λb=>if b=T then A? (.tbl #[])else B?) (λb=>?_) (b! rfl) (.inr ⟨_,vs.toArray,_,hk,rfl,rfl,rfl,by rw[Xa,N7];exact hl,by simpa using rv⟩) (λb u z=>?_) (λb z=>?_) λz=>g! (a! RY) z
   .by_cases hb:b=T
    .exact .inr (.inr ⟨hb,b! hb⟩)
    .exact .inl (a! hb)
   .by_cases hb:b=T
    .have z':=(b! hb).symm.trans z;cases z';rw[hb];exact R0 _
    .have z':=(a! hb).symm.trans z;cases z'
   .by_cases hb:b=T
    .exact .inr hb
    .exact g! (a! hb) z
 | none =>
   refine core (λb=>if b=T then A? (.tbl #[])else if b=a then A? (.frz {cls:=.type "list",data:=.seq vs.toArray} (.lst (ns.map o!)))else B?) (λb=>?_) (b! rfl) (.inl (.inr ⟨{cls:=.type "list",data:=.seq vs.toArray},(a! RY).trans (b! rfl)⟩)) (λb u z=>?_) (λb z=>?_) λ_=>hk
   .by_cases hb:b=T
    .exact .inr (.inr ⟨hb,b! hb⟩)
    .by_cases AQ:b=a
     .exact .inr (.inl ⟨_,_,(a! hb).trans (b! AQ)⟩)
     .exact .inl ((a! hb).trans (a! AQ))
   .by_cases hb:b=T
    .have z':=(b! hb).symm.trans z;cases z';rw[hb];exact R0 _
    .have z':=(a! hb).symm.trans z;by_cases AQ:b=a
     .have z2:=(b! AQ).symm.trans z';cases z2;subst AQ;exact⟨ha,by rw[WO];exact hl,vs,_,rv,ha⟩
     .have z2:=(a! AQ).symm.trans z';cases z2
   .by_cases hb:b=T
    .exact .inr hb
    .by_cases AQ:b=a
     .exact .inl AQ
     .exact g! ((a! hb).trans (a! AQ)) z
def tabAt(o:YF):Option WS:=match o.data with
 | .fields vs=>(match(vs[11]?:Option WV)with
   |some (.ref P)=>A? P
   |_=>B?)
 |_=>B?
theorem yn{T:WS}{sl:Array (Option WV)}{ot:YF}(hn:PySem.W.nsIn K X8 x=A? (A? (.ref f)))(hl:K.lookup f=A? ⟨oc,od,.func fd,sl⟩)(hc:fd.code=.ref c)(ho:K.lookup c=A? ot)(ht:tabAt ot=A? T):PySem.W.tabIn K x=A? (c,T):=by
 unfold PySem.W.tabIn;rw[hn];simp only[hl,hc,ho];obtain⟨o1,o2,o3,o4⟩:=ot;unfold tabAt at ht;cases o3 with
 | fields vs =>
   simp only at ht |-;split at ht
   .rename_i e
    cases ht;simp only[e]
   .cases ht
 |_=>cases ht
theorem uh{l:PySem.W.OpenLaw}{k:Nat}{q:Xm}{d dt:DefRec}{K:Params->WW}{CX:XD->CXT}{sp:XD->WS->Sp}{tn:Xj}
 (hn:l.most=A? n) (Jr:n<=Xi) (hdf:d.params.defaults=[]) (hr:Room k callerA) (hq:(recsOf q).find? (λe=>e.name == tn)=A? dt)
 (hY:∀(w:XD)(h:X3),YP w h->(K w.params).In h)
 (F:∀(w:XD)(mg:Xj->Option WV)(fa:WS)(h:X3),(K w.params).In h->h.Ns X8 mg->mg d.name=A? (.ref fa) ->
  ∃(fd:YT)(c T:WS),(∀(s:WZ)(u:WV),BindsTo s fd ⟨[u],[]⟩ [(x,u)])/\PySem.W.tabIn (K w.params) tn=A? (c,T)/\(K w.params).lookup T=B? /\
    ∀base:X3,(K w.params).In base->base.Ns X8 mg->Lam mg base c T->FnOk l.prog w (K w.params) mg base (CX w) k fa fd [x] (sp w T))
 (Bu:∀(w:XD)(T:WS)(H:Hp)(a:WS)(ns:List Int),ns.length<=n->SqL (K w.params) H a (ns.map o!)->H T=A? (.tbl #[])->sp w T [.ref a] H (λv _=>v=.bl C?) λ_ _ _=>False)
 (N6:∀(w:XD)(H:Hp)(s:WZ)(e:WV)(s':WZ),CX w [] H s (λ_ _ _=>False) e s'->False) :
 PySem.W.WalkO q loose XP YP l.row.toRowW d [] (λf vs=>PySem.call f vs):=by
 refine Att.attach_call hn hdf λw s₀ zX mg mb fa o pm cd doc a vs ns G Y ho hd BU Nj GS hints hlen hg=>?_;have KX:=hY w _ Y;obtain⟨fd,c,T,hb,ht,N5,hF⟩:=F w mg fa _ KX G.T.g Nj;obtain⟨hC,hT⟩:=PySem.W.tab_of G.T KX hq ht
 have Bm:zX.heap.BuiltinsAt mg T:=by
  obtain⟨bm,ob,b1,b2,b3,b4,b5,b6⟩:=G.T.bmain;refine⟨bm,ob,b1,b2,λz=>?_,λz=>?_,b3,b4,b5,b6⟩
  .obtain⟨o',es,ep,e,d',_⟩:=G.T.g;rw[z,e]at b3;cases b3;rw[d']at b6;cases b6
  .rw[z,hT]at b3;cases b3;cases b4
 exact sI KX G.T.g G.T.b G.T.builtins G.T.nolimit hg GS hints (X2 hlen Jr) hr hC hT Bm N5 hF hb (λH hS N8=>Bu w T H a ns hlen hS N8) λH e s'=>N6 w H zX e s'
end L2
namespace BB
open PySem L2
section
variable{head:Th}
end
end BB
namespace L2
open PySem PySem.Spec PySem.SeqAt PyProof.Rows
section
variable{X:Cx}{o i value:XZ}{td ty tv:TE}
end
end L2
namespace BB
open PySem L2
mutual
def cnT:Th->Nat
 |.knot _ ks=>pi ks
 |.call _ _=>1
def pi:List Th->Nat
 | []=>0
 |t::ts=>cnT t+pi ts
end
section
variable{mid:List (Xj×Int)}{S1 S2:Int}{Gp Gq:Th}{Gr Gs:List (List Th)}
end
end BB
namespace L2
open PySem PySem.Spec PySem.Calls PyProof.Rows
end L2
namespace BB
open PySem L2
mutual
def lc:Th->Nat
 |.call _ _=>1
 |.knot _ ks=>if lcs ks=0 then 0 else lcs ks+1
def lcs:List Th->Nat
 | []=>0
 |t::ts=>max (lc t) (lcs ts)
end
mutual
theorem f8{ks:List (Xj×Int)}{C:Int}(g:aL ks):∀t:Th,t.FitS ks S C->2 * t.size+1<=3 ^ t.tall/\3 * cnT t<=3 ^ lc t
 | .call _ _,_=>by
   rw[v!,q!,cnT,lc];exact⟨by decide,by decide⟩
 | .knot n ts,h=>by
   rw[G!]at h;obtain⟨h1,h2⟩:=kh g ts h.2
   have hw:ts.length<=3:=by
    have:=(g.num _ h.1).2;have h2:((ts.length:Nat):Int)<=3:=this;lia
   rw[v!,q!,cnT,lc];refine⟨?_,?_⟩
   .rw[Nat.pow_succ];have hp:1<=3 ^ aB ts:=Nat.pow_pos (by decide);have:ts.length * (3 ^ aB ts - 1)<=3 * (3 ^ aB ts - 1):=Nat.mul_le_mul_right _ hw;lia
   .have:ts.length * 3 ^ lcs ts<=3 * 3 ^ lcs ts:=Nat.mul_le_mul_right _ hw;split
    .rename_i hz
     rw[hz]at h2 this;have h3:=mH g ts h.2 hz;lia
    .rw[Nat.pow_succ];lia
theorem kh{ks:List (Xj×Int)}{C:Int}(g:aL ks):∀ts:List Th,FitSs ks S C ts->2 * ar ts<=ts.length * (3 ^ aB ts - 1)/\3 * pi ts<=ts.length * 3 ^ lcs ts
 | [],_=>by
   rw[ar,pi];exact⟨XA _,XA _⟩
 | t::ts,h=>by
   rw[FitSs]at h;obtain⟨h1,h2⟩:=f8 g t h.1;obtain⟨h3,h4⟩:=kh g ts h.2;rw[ar,pi,aB,lcs,W8];have a1:3 ^ t.tall<=3 ^ max t.tall (aB ts):=Zy (by decide) (Nat.le_max_left ..);have a2:3 ^ aB ts<=3 ^ max t.tall (aB ts):=Zy (by decide) (Nat.le_max_right ..);have b1:3 ^ lc t<=3 ^ max (lc t) (lcs ts):=Zy (by decide) (Nat.le_max_left ..);have b2:3 ^ lcs ts<=3 ^ max (lc t) (lcs ts):=Zy (by decide) (Nat.le_max_right ..);have a3:ts.length * (3 ^ aB ts - 1)<=ts.length * (3 ^ max t.tall (aB ts) - 1):=Nat.mul_le_mul_left _ (by lia);have b3:ts.length * 3 ^ lcs ts<=ts.length * 3 ^ max (lc t) (lcs ts):=Nat.mul_le_mul_left _ b2;rw[Nat.add_mul,Nat.add_mul];lia
theorem mH{ks:List (Xj×Int)}{C:Int}(g:aL ks):∀ts:List Th,FitSs ks S C ts->lcs ts=0->pi ts=0
 | [],_,_=>by rw[pi]
 | t::ts,h,hz=>by
   rw[FitSs]at h;rw[lcs]at hz;have h1:=(f8 g t h.1).2;rw[show lc t=0 by lia]at h1;rw[pi,mH g ts h.2 (by lia)];lia
end
section
variable{mid:List (Xj×Int)}{S1 S2:Int}{Gp Gq:Th}{Gr Gs:List (List Th)}{U6 U7 U8 U9 U' Va Vb:Nat}
end
end BB
namespace L2
open PySem PySem.Spec PySem.Calls PyProof.Rows
end L2
namespace BB
open PySem L2
section
variable{k0 k1 k2 k3:List (Xj×Int)}{SA SB SC:Int}{a0 b0 c0:Th}{R1 R3 R4:List (List Th)}
end
section
variable{mid:List (Xj×Int)}{S1 S2:Int}{Gp Gq:Th}{Gr Gs:List (List Th)}{U6 U7 U8 U9 U' Va Vb:Nat}
end
theorem hid{G:Prop}(k:∀F:Prop,(G->F)->F):G:=k G id
inductive Ex1{A0:Type}(p:A0->Prop):Prop
 |mk (x0:A0) (h:p x0):Ex1 p
inductive Ex2{A0 A1:Type}(p:A0->A1->Prop):Prop
 |mk (x0:A0) (x1:A1) (h:p x0 x1):Ex2 p
inductive Ex3{A0 A1 A2:Type}(p:A0->A1->A2->Prop):Prop
 |mk (x0:A0) (x1:A1) (x2:A2) (h:p x0 x1 x2):Ex3 p
inductive Ex4{A0 A1 A2 A3:Type}(p:A0->A1->A2->A3->Prop):Prop
 |mk (x0:A0) (x1:A1) (x2:A2) (x3:A3) (h:p x0 x1 x2 x3):Ex4 p
inductive Ex5{A0 A1 A2 A3 A4:Type}(p:A0->A1->A2->A3->A4->Prop):Prop
 |mk (x0:A0) (x1:A1) (x2:A2) (x3:A3) (x4:A4) (h:p x0 x1 x2 x3 x4):Ex5 p
inductive Ex6{A0 A1 A2 A3 A4 A5:Type}(p:A0->A1->A2->A3->A4->A5->Prop):Prop
 |mk (x0:A0) (x1:A1) (x2:A2) (x3:A3) (x4:A4) (x5:A5) (h:p x0 x1 x2 x3 x4 x5):Ex6 p
inductive Ex7{A0 A1 A2 A3 A4 A5 A6:Type}(p:A0->A1->A2->A3->A4->A5->A6->Prop):Prop
 |mk (x0:A0) (x1:A1) (x2:A2) (x3:A3) (x4:A4) (x5:A5) (x6:A6) (h:p x0 x1 x2 x3 x4 x5 x6):Ex7 p
inductive Ex8{A0 A1 A2 A3 A4 A5 A6 A7:Type}(p:A0->A1->A2->A3->A4->A5->A6->A7->Prop):Prop
 |mk (x0:A0) (x1:A1) (x2:A2) (x3:A3) (x4:A4) (x5:A5) (x6:A6) (x7:A7) (h:p x0 x1 x2 x3 x4 x5 x6 x7):Ex8 p
inductive An2(a0 a1:Prop):Prop
 |mk (h0:a0) (h1:a1):An2 a0 a1
inductive An3(a0 a1 a2:Prop):Prop
 |mk (h0:a0) (h1:a1) (h2:a2):An3 a0 a1 a2
inductive An4(a0 a1 a2 a3:Prop):Prop
 |mk (h0:a0) (h1:a1) (h2:a2) (h3:a3):An4 a0 a1 a2 a3
inductive An5(a0 a1 a2 a3 a4:Prop):Prop
 |mk (h0:a0) (h1:a1) (h2:a2) (h3:a3) (h4:a4):An5 a0 a1 a2 a3 a4
inductive An6(a0 a1 a2 a3 a4 a5:Prop):Prop
 |mk (h0:a0) (h1:a1) (h2:a2) (h3:a3) (h4:a4) (h5:a5):An6 a0 a1 a2 a3 a4 a5
inductive An7(a0 a1 a2 a3 a4 a5 a6:Prop):Prop
 |mk (h0:a0) (h1:a1) (h2:a2) (h3:a3) (h4:a4) (h5:a5) (h6:a6):An7 a0 a1 a2 a3 a4 a5 a6
inductive An8(a0 a1 a2 a3 a4 a5 a6 a7:Prop):Prop
 |mk (h0:a0) (h1:a1) (h2:a2) (h3:a3) (h4:a4) (h5:a5) (h6:a6) (h7:a7):An8 a0 a1 a2 a3 a4 a5 a6 a7
inductive An9(a0 a1 a2 a3 a4 a5 a6 a7 a8:Prop):Prop
 |mk (h0:a0) (h1:a1) (h2:a2) (h3:a3) (h4:a4) (h5:a5) (h6:a6) (h7:a7) (h8:a8):An9 a0 a1 a2 a3 a4 a5 a6 a7 a8
inductive yl(a0 a1 a2 a3 a4 a5 a6 a7 a8 a9:Prop):Prop
 |mk (h0:a0) (h1:a1) (h2:a2) (h3:a3) (h4:a4) (h5:a5) (h6:a6) (h7:a7) (h8:a8) (h9:a9):yl a0 a1 a2 a3 a4 a5 a6 a7 a8 a9
inductive ze(a0 a1 a2 a3 a4 a5 a6 a7 a8 a9 J3:Prop):Prop
 |mk (h0:a0) (h1:a1) (h2:a2) (h3:a3) (h4:a4) (h5:a5) (h6:a6) (h7:a7) (h8:a8) (h9:a9) (Vc:J3):ze a0 a1 a2 a3 a4 a5 a6 a7 a8 a9 J3
inductive xl(a0 a1 a2 a3 a4 a5 a6 a7 a8 a9 J3 R5 R6 R7:Prop):Prop
 |mk (h0:a0) (h1:a1) (h2:a2) (h3:a3) (h4:a4) (h5:a5) (h6:a6) (h7:a7) (h8:a8) (h9:a9) (Vc:J3) (h11:R5) (h12:R6) (h13:R7):xl a0 a1 a2 a3 a4 a5 a6 a7 a8 a9 J3 R5 R6 R7
end BB
namespace L2
open PySem PySem.Spec PyProof.Rows
end L2
namespace BB
open PySem L2
section
variable{d:Nat}{head:Th}
end
end BB
namespace L2
open PySem PySem.Spec PyProof.Rows
def uS(H H1 H2:Hp):Prop:=∀b,H2 b=H1 b\/∃o u,H1 b=A? (.frz o u)/\H b=A? u/\H2 b=A? u
theorem yk{o:YF}{u:HO}(h:u=.frz o u):False:=by
 have:=h! sizeOf h;simp at this
theorem Inv.thaw{X:Cx}{AA:St}{s1:WZ}(I:Inv X Z Y H s)(I1:Inv X Z AA H1 s1)(h:uS H H1 H2):Inv X Z AA H2 s1:=by
 have keep:∀b u,H1 b=A? u->(∀o v,u≠.frz o v)->H2 b=A? u:=λb u e n=>by
  rcases h b with z|⟨o,v,z,_⟩
  .rw[z];exact e
  .rw[e]at z;cases z;exact g! rfl (n o v)
 have non:∀b,H1 b=B?->H2 b=none:=λb e=>by
  rcases h b with z|⟨o,v,z,_⟩
  .rw[z];exact e
  .rw[e]at z;cases z
 have ht:∀b xs,H1 b=A? (.tup xs)->H2 b=A? (.tup xs):=λb xs e=>keep b _ e (λ_ _ z=>nomatch z);have hw:∀c b,H1 b=A? (.own c)->H2 b=A? (.own c):=λc b e=>keep b _ e (λ_ _ z=>nomatch z);refine⟨I1.ok,I1.os,I1.bare,⟨I1.base.keep,I1.base.slot,λb o e n x=>non b (I1.base.free b o e n x),I1.base.there,λb xs e=>ht b xs (I1.base.tups b xs e),λb o u e=>?_,λb ps e=>?_⟩,I1.loc,I1.cell,non _ I1.free,λx c e=>non _ (I1.freeC x c e),λp hp=>?_,λb u e=>?_,I1.len⟩
 .have e1:=I1.base.frzs b o u e;have e2:=I.base.frzs b o u e;rcases h b with z|⟨o',v,z,z2,_⟩
  .rw[z];exact e1
  .rw[e1]at z;cases z;rw[e2]at z2;exact(yk (Xh z2).symm).elim
 .obtain⟨more,e1⟩:=I1.base.tbls b ps e;exact⟨more,keep b _ e1 (λ_ _ z=>nomatch z)⟩
 .obtain⟨a1,a2,a3⟩:=I1.pin p hp;exact⟨a1,non _ a2,a3⟩
 .rcases h b with z|⟨o,v,z,_,z3⟩
  .rw[z]at e;exact(I1.hok b u e).stay (λ_ _ _ q=>q) (hw b) ht
  .rw[z3]at e;cases e;obtain⟨_,k⟩:=(show ObjOk X.prog X.w H1 s1.1 b (.frz o u)from I1.hok b _ z);exact k.stay (λ_ _ _ q=>q) (hw b) ht
def y6(t:TS):TS:=λD Y H=>t {D with nx:=λAA H1=>∃H2,uS H H1 H2/\D.nx AA H2} Y H
theorem jM{X:Cx}{t:TS}(h:PS X st t):PS X st (y6 t):=λZ s Y H D I q=>thn (h Z s Y H _ I q) λf s' r=>by
 cases f with
 | next =>
   obtain⟨AA,H1,I1,H2,th,q2⟩:=r;exact⟨AA,H2,I.thaw I1 th,q2⟩
 |brk=>exact r
 |cont=>exact r
 |ret u=>exact r
def jY(t:TE):TE:=λY H Q=>t Y H λv H1=>∃H2,uS H H1 H2/\Q v H2
theorem nj{X:Cx}{t:TE}(h:PE X e t):PE X e (jY t):=λZ s Y H Q I q=>thn (h Z s Y H _ I q) λv s' r=>by
 obtain⟨x,H1,I1,rv,H2,th,q2⟩:=r;exact⟨x,H2,I.thaw I1 th,rv,q2⟩
theorem dR:entryFor table "dict_itemiterator.__iter__"=A? YZ.«dict_keyiterator.__iter__»:=entryFor_alias (id':="dict_keyiterator.__iter__") (by kernel_rfl) rfl (by decide +kernel) (by kernel_rfl)
theorem Inv.freezeK{X:Cx}{kvs:List (Key×V)}{o:YF}(I:Inv X Z Y H s)(ha:H a=A? (.dK kvs))(ho:s.1.get? a=A? o):Inv X Z Y (upd H a (.frz o (.dK kvs))) s:=by
 have ne:∀b u,H b=A? u->u≠.dK kvs->b≠a:=λb u e d z=>by rw[z,ha]at e;exact d (Xh e).symm
 have ht:∀b xs,H b=A? (.tup xs)->upd H a (.frz o (.dK kvs)) b=A? (.tup xs):=λb xs e=>by rw[af (ne b _ e (by intro z;cases z))];exact e
 have hw:∀c b,H b=A? (.own c)->upd H a (.frz o (.dK kvs)) b=A? (.own c):=λc b e=>by rw[af (ne b _ e (by intro z;cases z))];exact e
 have st:∀b u,H b=A? u->ObjOk X.prog X.w (upd H a (.frz o (.dK kvs))) s.1 b u:=λb u e=>(I.hok b u e).stay (λ_ _ _ q=>q) (hw b) ht;refine I.step (g':=s.gens) (d':=s.drawn) (t':=s.toks) (ch:=[]) (λ_ z=>nomatch z) (λb ob _ _ _ e _=>e) (λb ob _ _ _ e _=>⟨ob.slots,e⟩) (λb ob _ e n=>?_) (λb ob _ e=>⟨ob,e⟩) ht (λb ob u e=>?_) (λb ps e=>⟨#[],?_⟩) (λm hm=>hm) (λb u e=>?_) I.bare
 .rw[af (λz=>by rw[z,ha]at n;cases n)];exact n
 .rw[af (ne b _ e (by intro z;cases z))];exact e
 .rw[af (ne b _ e (by intro z;cases z)),e];simp
 .by_cases hb:b=a
  .subst hb;rw[ae]at e;cases e;exact⟨ho,st _ _ ha⟩
  .rw[af hb]at e;exact st b u e
theorem jN{o:YF}{es:Array DictEntry}{kvs:List (Key×V)}(hd:o.data=.dict es ep)(k:ObjOk P w H h a (.frz o (.dK kvs))) :
 ∃vs,KV kvs vs/\h.DictAt (aU P w) a vs ep/\vs.length=kvs.length:=by
 obtain⟨e0,z,y,vs,rel,o',F5,F6,h1,h2,h3,h4⟩:=k;rw[e0]at h1;cases h1;rw[hd]at h3;cases h3;exact⟨vs,rel,⟨o,es,e0,h2,hd,h4⟩,(W9 rel).symm⟩
theorem vC{k:Key}{v:WV}(h:(aU P w).is k v=C?):RelV (kV k) v:=by
 rcases bA h with⟨i,tk,e1,e2⟩|⟨x,tk,e1,e2⟩
 .rw[e1];exact⟨tk,e2⟩
 .rw[e1];exact⟨tk,e2⟩
def ItI(a:WS)(o:YF)(kvs:List (Key×V)):It :=
 ⟨λi H=>H a=A? (.frz o (.dK kvs))/\i<kvs.length,
  λi H v H'=>∃p kv,H p=B?/\v=.ref p/\H'=upd H p (.tup [kV kv.1,kv.2])/\kvs[i]?=A? kv,
  λi H=>H a=A? (.frz o (.dK kvs))/\kvs.length<=i⟩
theorem qC{k1}(a it:WS)(o:YF)(es:Array DictEntry)(ep:Nat)(kvs:List (Key×V))(hd:o.data=.dict es ep) :
 Turn P w K (.Tuple elts k1 pos) (ItI a o kvs) [it] it (λi h=>∃ok ov,IsItemIter h it a i kvs.length ep ok ov) where
 mem:=by simp
 obj:=λi h st b hb=>by
  obtain⟨ok,ov,e⟩:=st;have eb:b=it:=by simpa using hb
  subst eb;exact⟨_,e,λv z=>by cases z⟩
 keep:=λi h h' st k=>by
  obtain⟨ok,ov,e⟩:=st;exact⟨ok,ov,k it (by simp) _ e⟩
 item:=by
  walk_at"a";obtain⟨hq,Ad⟩:=hg;obtain⟨ok,ov,hit⟩:=st;obtain⟨vs,rel,dat,hlen⟩:=jN hd (I.hok a _ hq);obtain⟨kv,Ac⟩:∃kv,kvs[i]?=A? kv:=⟨_,WQ Ad⟩;obtain⟨xv,Ob,r1,r2⟩:=x! rel Ac;rw[<-hlen]at hit;have BO:it<s.1.1.size:=Xe hit;obtain⟨f0,f1,f2,f3,f4,f5⟩:=hf it (by simp);refine wpAny_pyNext_items_item hit dat (k:=xv.1) (v:=xv.2) Ob λkey h1 Cc AU Ha hsz Ey=>?_;refine⟨_,Dn,wpAny_letOwnedTupleGo_items AU λh2 g1 sb=>?_⟩;replace sb:X1 it h1 h2:=sb;have Fi:H s.1.1.size=none:=I.hok.fresh (W0 _)
  have IA:Inv X Z Y (upd H s.1.1.size (.tup [kV kv.1,kv.2])) {s with heap:=s.1.push {cls:=.type "tuple",data:=.seq #[key,xv.2]},toks:=s.toks} :=
   I.laid (o:=.tup [kV kv.1,kv.2]) (λb ob q=>WU _ q) (W0 _) ⟨by show 2<=Xi;decide,[key,xv.2],0,.cons (by rw[r1];exact vC Cc) (.cons r2 .nil),W3 _ rfl⟩
  refine⟨.ref s.1.1.size,upd H s.1.1.size (.tup [kV kv.1,kv.2]),?_,Dn,⟨_,kv,Fi,Dn,Dn,Ac⟩,⟨_,_,by rw[<-hlen];exact g1⟩,λc hc=>?_⟩
  .refine Inv.turnedL (s:={s with heap:=s.1.push {cls:=.type "tuple",data:=.seq #[key,xv.2]},toks:=s.toks}) (h':=h2) (fp:=[it]) (t':=s.toks) IA (λc oc hc q=>?_) λc hc=>?_
   .have n1:c≠it:=λe=>hc (by simp[e]);rw[sb.2 c n1];by_cases hb2:c=s.1.1.size
    .subst hb2;have q':(s.1.push {cls:=.type "tuple",data:=.seq #[key,xv.2]}).get? s.1.1.size=A? oc:=q;rw[W3 _ rfl]at q';rw[<-q'];exact Ha
    .have q':(s.1.push {cls:=.type "tuple",data:=.seq #[key,xv.2]}).get? c=A? oc:=q;rw[Heap.get?_push_ne _ _ _ hb2]at q';exact Ey c oc n1 q'
   .have e:c=it:=by simpa using hc
    subst e;exact⟨by rw[af (XF BO)];exact f0,f1,f2,f3,f4,f5⟩
  .have e:c=it:=by simpa using hc
   subst e;rw[af (XF BO)];exact f0
 done:=by
  walk_at"a";obtain⟨hq,IE⟩:=hg;obtain⟨ok,ov,hit⟩:=st;obtain⟨vs,rel,dat,hlen⟩:=jN hd (I.hok a _ hq);rw[<-hlen]at hit;obtain⟨f0,f1,f2,f3,f4,f5⟩:=hf it (by simp);exact wpAny_pyNext_items_end (I.ok.hd hc) hit dat (Yb (by lia)) λh' eb=>⟨rfl,I.turned (t':=s.toks) (λb ob hb e=>eb b ob hb e) f0 f1 f3 f4 f5⟩
 self:=by
  intro A i s Q E st h;obtain⟨ok,ov,e⟩:=st;have hT:s.TypeIs (.ref it) "dict_itemiterator":=⟨_,e,rfl⟩;refine wpAny_pyIter_slot hT Z3 (XY Z3 hT dR ?_ (F.args_dict_itemiterator_iter_1 _));exact WX ⟨_,rfl,"dict_itemiterator",_,hT,Yy.lookup,h⟩
section
variable{X:Cx}{apos Aj:Z9}
def vf(tl:TE):TI:=λY H R=>tl Y H λx H1=>∃a kvs,x=.ref a/\H1 a=A? (.dK kvs)/\∀o,R (ItI a o kvs) (upd H1 a (.frz o (.dK kvs)))
theorem kY{k1}(he:PE X e te)(AM:Z8 e "items" X.env (YQ e X.env)=YQ e X.env:=by rfl)(Bf:(apos.endLine == Aj.line)=true:=by rfl) :
 PI X (.Tuple elts k1 pos) (.Call (.Attribute e "items" apos) [] [] Aj) (vf te):=by
 intro Z s Y H R I h;refine wpAny_Call_method0_late AM Bf (thn (he Z s Y H _ I h) λv s1⟨x,H1,I1,r1,a,kvs,ex,ha,q⟩=>?_);subst ex;cases r1;obtain⟨z,y,vs,rel,dd⟩:=(show ObjOk X.prog X.w H1 s1.1 a (.dK kvs)from I1.hok a _ ha);obtain⟨o,es,ep,h1,h2,h3,h4⟩:=id dd;have hlen:kvs.length=vs.length:=W9 rel;have dat:s1.1.DictAt (aU X.prog X.w) a vs ep:=⟨o,es,h1,h2,h3,h4⟩;refine⟨"dict","dict.items",F.plainAttrs_dict,F.slot_dict_items,F.type_dict_items,dd.typeIs,dd.mapOf.noDict,?_⟩;refine method_meetsIn F.slot_dict_items F.entry_dict_items rfl (PySem.evalArgs_none ⟨rfl,dd.typeIs,F.args_dict_items_1 _,_,meets_dict_items (aU X.prog X.w) a y,⟨vs,dd⟩,?_⟩);have I2:=I1.freezeK ha h1;refine wpAny_pyIter_items (kvs:=vs) (ep:=ep) ⟨_,W3 _ rfl,rfl,rfl⟩ (dat.push _) ?_;generalize hN:((s1.1.push {cls:=.type "dict_items",data:=.fields #[.ref a]}).objs.size)=n;have hn:n=s1.1.1.size+1:=by rw[<-hN,Ym]
 have kept:∀b ob,s1.1.get? b=A? ob->((s1.1.push {cls:=.type "dict_items",data:=.fields #[.ref a]}).push {cls:=.type "dict_itemiterator",data:=.fields #[.none,.bool D?,.ref a,.int 0 0,.int vs.length 0,.int ep 0,.none,.none]}).get? b=A? ob:=λb ob e=>WU _ (WU _ e);have hz:s1.1.1.size<=n:=by lia
 refine⟨n,[n],_,_,upd H1 a (.frz o (.dK kvs)),Dn,I2.kept (t':=s1.toks) kept,qC a n o es ep kvs h3,⟨.none,.none,?_⟩,λb hb=>?_,q o⟩
 .rw[<-hN,hlen];exact W3 _ rfl
 .have e:b=n:=by simpa using hb
  subst e;exact I2.fpOk hz (I2.hok.fresh hz)
theorem lS{o:YF}{kvs:List (Key×V)}(Pv:Nat->St->Hp->Prop)(h0:Pv 0 Y H)(hl:∀i Y H,i<=kvs.length->Pv i Y H->H a=A? (.frz o (.dK kvs)))
 (hs:∀i kv p Y H,kvs[i]?=A? kv->H p=B?->Pv i Y H->g (.ref p) Y (upd H p (.tup [kV kv.1,kv.2])) λAg H2=>tb {D with nx:=Pv (i+1),ct:=Pv (i+1),bk:=D.nx} Ag H2) (hd:∀Y H,Pv kvs.length Y H->D.nx Y H) :
 ∃W:Nat->Nat->St->Hp->Prop,(∃m,W 0 m Y H)/\∀i m Y H,W i m Y H ->
   ((ItI a o kvs).stop i H/\D.nx Y H)\/((ItI a o kvs).go i H/\∃N:St->Hp->Prop,(∀l' H',N l' H'->∃m',m'<m/\W (i+1) m' l' H')/\∀x H',(ItI a o kvs).yld i H x H'->g x Y H' λAg H2=>tb {D with nx:=N,ct:=N,bk:=D.nx} Ag H2):=by
 refine⟨λi m Y H=>m=kvs.length - i/\i<=kvs.length/\Pv i Y H,⟨kvs.length,by simp,XA _,h0⟩,?_⟩;rintro i m Y H ⟨rfl,hi,p⟩;have q:=hl i Y H hi p;by_cases Ad:i<kvs.length
 .refine .inr ⟨⟨q,Ad⟩,Pv (i+1),λl' H' p'=>⟨kvs.length - (i+1),by lia,rfl,Ad,p'⟩,λx H' y=>?_⟩;obtain⟨pa,kv,hp,rfl,rfl,Ac⟩:=y;exact hs i kv pa Y H Ac hp p
 .have e:i=kvs.length:=by lia
  subst e;exact .inl ⟨⟨q,W0 _⟩,hd Y H p⟩
end
def ItW(a:WS)(o:YF)(kvs:List (Key×V)):It :=
 ⟨λi H=>H a=A? (.frz o (.dK kvs))/\i<kvs.length,λi H v H'=>H'=H/\∃k,kvs[i]?=A? (k,v),λi H=>H a=A? (.frz o (.dK kvs))/\kvs.length<=i⟩
theorem pJ(a it:WS)(o:YF)(es:Array DictEntry)(ep:Nat)(kvs:List (Key×V))(hd:o.data=.dict es ep) :
 Turn P w K tg (ItW a o kvs) [it] it (λi h=>h.IsValIter it a i kvs.length ep) where
 mem:=by simp
 obj:=λi h st b hb=>by
  have e:b=it:=by simpa using hb
  subst e;obtain⟨ob,e,c,d⟩:=st;exact⟨ob,e,λv z=>by rw[d]at z;cases z⟩
 keep:=λi h h' st k=>st.at λob e=>k it (by simp) ob e
 item:=by
  walk_at"a";obtain⟨hq,Ad⟩:=hg;obtain⟨vs,rel,dat,hlen⟩:=jN hd (I.hok a _ hq);obtain⟨kv,Ac⟩:∃kv,kvs[i]?=A? kv:=⟨_,WQ Ad⟩;obtain⟨xv,Ob,r1,r2⟩:=x! rel Ac;rw[<-hlen]at st;obtain⟨f0,f1,f2,f3,f4,f5⟩:=hf it (by simp);refine wpAny_pyNext_values_item st dat (k:=xv.1) (v:=xv.2) Ob λh' Bt sb=>?_;have I1:Inv X Z Y H {s with heap:=h'}:=I.turned (t':=s.toks) (λb ob hb e=>(sb.2 b hb).trans e) f0 f1 f3 f4 f5;rw[hlen]at Bt;obtain⟨ob,e,c,d⟩:=id Bt;exact⟨_,Dn,j4 (s:={s with heap:=h'}) e c d (by decide) ⟨kv.2,H,I1,r2,⟨Dn,kv.1,Ac⟩,Bt,λb hb=>(hf b hb).1⟩⟩
 done:=by
  walk_at"a";obtain⟨hq,IE⟩:=hg;obtain⟨vs,rel,dat,hlen⟩:=jN hd (I.hok a _ hq);rw[<-hlen]at st;obtain⟨f0,f1,f2,f3,f4,f5⟩:=hf it (by simp);exact wpAny_pyNext_values_end (I.ok.hd hc) st dat (Yb (by lia)) λh' eb=>⟨rfl,I.turned (t':=s.toks) (λb ob hb e=>eb b ob hb e) f0 f1 f3 f4 f5⟩
 self:=λ_ _ _ _ _ st h=>wpAny_pyIter_valiter st h
section
variable{X:Cx}{apos Aj:Z9}
def wq(tl:TE):TI:=λY H R=>tl Y H λx H1=>∃a kvs,x=.ref a/\H1 a=A? (.dK kvs)/\∀o,R (ItW a o kvs) (upd H1 a (.frz o (.dK kvs)))
theorem tJ(he:PE X e te)(AM:Z8 e "values" X.env (YQ e X.env)=YQ e X.env:=by rfl)(Bf:(apos.endLine == Aj.line)=true:=by rfl) :
 PI X tg (.Call (.Attribute e "values" apos) [] [] Aj) (wq te):=by
 intro Z s Y H R I h;refine wpAny_Call_method0_late AM Bf (thn (he Z s Y H _ I h) λv s1⟨x,H1,I1,r1,a,kvs,ex,ha,q⟩=>?_);subst ex;cases r1;obtain⟨z,y,vs,rel,dd⟩:=(show ObjOk X.prog X.w H1 s1.1 a (.dK kvs)from I1.hok a _ ha);obtain⟨o,es,ep,h1,h2,h3,h4⟩:=id dd;have hlen:kvs.length=vs.length:=W9 rel;have dat:s1.1.DictAt (aU X.prog X.w) a vs ep:=⟨o,es,h1,h2,h3,h4⟩;refine⟨"dict","dict.values",F.plainAttrs_dict,F.slot_dict_values,F.type_dict_values,dd.typeIs,dd.mapOf.noDict,?_⟩;refine method_meetsIn F.slot_dict_values F.entry_dict_values rfl (PySem.evalArgs_none ⟨rfl,dd.typeIs,F.args_dict_values_1 _,_,meets_dict_values (aU X.prog X.w) a y,⟨vs,dd⟩,?_⟩);have I2:=I1.freezeK ha h1;refine wpAny_pyIter_values (kvs:=vs) (ep:=ep) ⟨_,W3 _ rfl,rfl,rfl⟩ (dat.push _) ?_;generalize hN:((s1.1.push {cls:=.type "dict_values",data:=.fields #[.ref a]}).objs.size)=n;have hn:n=s1.1.1.size+1:=by rw[<-hN,Ym]
 have hz:s1.1.1.size<=n:=by lia
 refine⟨n,[n],_,_,upd H1 a (.frz o (.dK kvs)),Dn,I2.kept (t':=s1.toks) (λb ob e=>WU _ (WU _ e)),pJ a n o es ep kvs h3,?_,λb hb=>?_,q o⟩
 .rw[<-hN,hlen];exact⟨_,W3 _ rfl,Dn,Dn⟩
 .have e:b=n:=by simpa using hb
  subst e;exact I2.fpOk hz (I2.hok.fresh hz)
theorem pZ{o:YF}{kvs:List (Key×V)}(Pv:Nat->St->Hp->Prop)(h0:Pv 0 Y H)(hl:∀i Y H,i<=kvs.length->Pv i Y H->H a=A? (.frz o (.dK kvs)))
 (hs:∀i kv Y H,kvs[i]?=A? kv->Pv i Y H->g kv.2 Y H λAg H2=>tb {D with nx:=Pv (i+1),ct:=Pv (i+1),bk:=D.nx} Ag H2) (hd:∀Y H,Pv kvs.length Y H->D.nx Y H) :
 ∃W:Nat->Nat->St->Hp->Prop,(∃m,W 0 m Y H)/\∀i m Y H,W i m Y H ->
   ((ItW a o kvs).stop i H/\D.nx Y H)\/((ItW a o kvs).go i H/\∃N:St->Hp->Prop,(∀l' H',N l' H'->∃m',m'<m/\W (i+1) m' l' H')/\∀x H',(ItW a o kvs).yld i H x H'->g x Y H' λAg H2=>tb {D with nx:=N,ct:=N,bk:=D.nx} Ag H2):=by
 refine⟨λi m Y H=>m=kvs.length - i/\i<=kvs.length/\Pv i Y H,⟨kvs.length,by simp,XA _,h0⟩,?_⟩;rintro i m Y H ⟨rfl,hi,p⟩;have q:=hl i Y H hi p;by_cases Ad:i<kvs.length
 .refine .inr ⟨⟨q,Ad⟩,Pv (i+1),λl' H' p'=>⟨kvs.length - (i+1),by lia,rfl,Ad,p'⟩,λx H' y=>?_⟩;obtain⟨rfl,k,Ac⟩:=y;exact hs i (k,x) Y _ Ac p
 .have e:i=kvs.length:=by lia
  subst e;exact .inl ⟨⟨q,W0 _⟩,hd Y H p⟩
end
end L2
namespace PySem
open Sem (wp)
section
variable{od:YF}{es:Array DictEntry}{ok ov:WV}
theorem bb_put{vs:Array WV}{x:WV}{Q:Unit->WZ->Prop}(e:s.1.get? it=A? {cls:=.type "dict_itemiterator",dict:=B?,data:=.fields vs,slots:=#[]})(hj:j<vs.size)
 (k:∀h',h'.get? it=A? {cls:=.type "dict_itemiterator",dict:=B?,data:=.fields (vs.setIfInBounds j x),slots:=#[]}->X1 it s.1 h'->Q () {s with heap:=h'}):Xf (Xx prog w) A (setField (.ref it) j x) Q E s :=
 Y5 e hj λh' e' sb=>k h' e' sb
theorem bb_itemNextT{en:DictEntry}{Q:Option WV->WZ->Prop}(g:IsItemIter s.1 it d i es.size ep ok ov)(g1:s.1.get? d=A? od)(g2:od.data=.dict es ep)(hx:es[i]?=A? en)
 (fin:∀h',IsItemIterOut h' it d (i+1) es.size ep en.key en.val s.1.1.size->h'.get? s.1.1.size=A? {cls:=.type "tuple",data:=.seq #[en.key,en.val]}->(∀b o,b≠it->s.1.get? b=A? o->h'.get? b=A? o)->Q (A? (.ref s.1.1.size)) {s with heap:=h'}) :
 Xf (Xx prog w) A (Zw (.ref it)) Q E s:=by
 obtain⟨h0,gn,dr,tk,os⟩:=s;have gT:Shared.TypeIs ⟨h0,gn,dr,tk,os⟩ (.ref it) "dict_itemiterator":=⟨_,g,rfl⟩;have own:Zk "dict_itemiterator"=true:=by decide
 have lt:i<es.size:=(Zn.mp hx).1;have ee:es[i]=en:=(Zn.mp hx).2;have BO:it<h0.objs.size:=Xe g;unfold Zw;refine WN (ZO (XS (name:=W6 "__next__") gT Yy (XY Yy gT F.entry_dict_itemiterator_next ?_ (F.args_dict_itemiterator_next_1 _))));refine WN (WX (WN (WN ?_)));first|refine WN (ZS gT (WX ?_))|refine WN (wpAny_typeNameOf_itemiter gT (WX ?_))
 refine WN (wpAny_fieldsOf g rfl ?_);simp only[own,if_true];show Xf _ _ (if(XI d == Yp)=C? then _ else _) _ _ _;rw[a! (show¬((XI d == Yp)=C?)from Xq)];refine WN (WX (WN (Ze g1 g2 ?_)));rw[a! (by simp)];refine WN (WX (WN (wpAny_dictEpoch g1 g2 ?_)));rw[a! (by simp)];refine WX ?_;simp only[show¬((i:Int)<0)from by lia,if_false,Yj,Array.getElem?_eq_getElem lt];rw[ee];refine WN ?_;first|refine WN (ZS gT (WX ?_))|refine WN (wpAny_typeNameOf_itemiter gT (WX ?_))
 refine WN (wpAny_isOneOf_itemiter gT ?_);show Xf _ _ (setField (.ref it) 3 (YJ ((i:Int)+1)) >>= _) _ _ _;refine WN (bb_put g (by simp) λh1 e1 Gi=>?_);replace Gi:X1 it h0 h1:=Gi
 replace e1:IsItemIter h1 it d (i+1) es.size ep ok ov:=by
  have e:((i+1:Nat):Int)=(i:Int)+1:=by lia
  unfold IsItemIter;rw[e];simpa[YJ]using e1
 have R8:Shared.TypeIs ⟨h1,gn,dr,tk,os⟩ (.ref it) "dict_itemiterator":=⟨_,e1,rfl⟩;refine WN (Yn (WN (wpAny_isOneOf_itemiter R8 (WN (wpAny_isOneOf_itemiter R8 ?_)))));show Xf _ _ (Builtin.Dict_items.pairFromOwner (.ref it) 6 en.key en.val) _ _ ⟨h1,gn,dr,tk,os⟩;unfold Builtin.Dict_items.pairFromOwner;refine WN (wpAny_newTuple ?_);have z1:h1.objs.size=h0.objs.size:=Gi.1;have e2:IsItemIter (h1.push {cls:=.type "tuple",data:=.seq #[en.key,en.val]}) it d (i+1) es.size ep ok ov:=WU _ e1;have t2:(h1.push {cls:=.type "tuple",data:=.seq #[en.key,en.val]}).get? h0.objs.size=A? {cls:=.type "tuple",data:=.seq #[en.key,en.val]}:=by rw[<-z1];exact W3 _ rfl
 have k2:∀b o,b≠it->h0.get? b=A? o->(h1.push {cls:=.type "tuple",data:=.seq #[en.key,en.val]}).get? b=A? o:=λb o hb q=>WU _ (Gi.extBut b o hb q);rw[z1];generalize h1.push {cls:=.type "tuple",data:=.seq #[en.key,en.val]}=h2 at e2 t2 k2 |-;show Xf _ _ (Builtin.Dict_items.ownedTupleIsFree (.ref it) >>= _) _ _ ⟨h2,gn,dr,tk,os⟩;refine WN ?_;unfold Builtin.Dict_items.ownedTupleIsFree;refine WN (XT e2 rfl (x:=.none) rfl (WX ?_));simp only[if_true];refine WN (XT e2 rfl (x:=ok) rfl (WN (XT e2 rfl (x:=ov) rfl ?_)));refine WN (bb_put e2 (by simp) λh3 e3 Oc=>?_);replace Oc:X1 it h2 h3:=Oc;refine WN (bb_put e3 (by simp) λh4 e4 Od=>?_);replace Od:X1 it h3 h4:=Od;refine WN (bb_put e4 (by simp) λh5 e5 Oe=>?_);replace Oe:X1 it h4 h5:=Oe;refine WN (bb_put e5 (by simp) λh6 e6 Of=>?_);replace Of:X1 it h5 h6:=Of;have up:∀b o,b≠it->h2.get? b=A? o->h6.get? b=A? o:=λb o hb q=>Of.extBut b o hb (Oe.extBut b o hb (Od.extBut b o hb (Oc.extBut b o hb q)));exact WN (wpAny_letGo (WX (WX ⟨_,rfl,WX (fin h6 (by unfold IsItemIterOut;simpa[YJ]using e6) (up _ _ (Nat.ne_of_gt BO) t2) λb o hb q=>up b o hb (k2 b o hb q))⟩)))
theorem bb_itemEndT{Q:Option WV->WZ->Prop}(calm:A.handled=B?)(g:IsItemIter s.1 it d i es.size ep ok ov)(g1:s.1.get? d=A? od)(g2:od.data=.dict es ep)(hx:es.size<=i)
 (fin:∀h',Heap.ExtBut it s.1 h'->Q B? {s with heap:=h'}):Xf (Xx prog w) A (Zw (.ref it)) Q E s:=by
 have gT:s.TypeIs (.ref it) "dict_itemiterator":=⟨_,g,rfl⟩;have own:Zk "dict_itemiterator"=true:=by decide
 unfold Zw;refine WN (ZO (XS (name:=W6 "__next__") gT Yy (XY Yy gT F.entry_dict_itemiterator_next ?_ (F.args_dict_itemiterator_next_1 _))));refine WN (WX (WN (WN ?_)));first|refine WN (ZS gT (WX ?_))|refine WN (wpAny_typeNameOf_itemiter gT (WX ?_))
 refine WN (wpAny_fieldsOf g rfl ?_);simp only[own,if_true];show Xf _ _ (if(XI d == Yp)=C? then _ else _) _ _ s;rw[a! (show¬((XI d == Yp)=C?)from Xq)];refine WN (WX (WN (Ze g1 g2 ?_)));rw[a! (by simp)];refine WN (WX (WN (wpAny_dictEpoch g1 g2 ?_)));rw[a! (by simp)];refine WX ?_;simp only[show¬((i:Int)<0)from by lia,if_false,Yj,Array.getElem?_eq_none hx];refine WN ?_;first|refine WN (ZS gT (WX ?_))|refine WN (wpAny_typeNameOf_itemiter gT (WX ?_))
 show Xf _ _ (setField (.ref it) 2 .none >>= _) _ _ s;refine WN (ZT g rfl (by simp) ?_);show Xf _ _ (newExc (.type "StopIteration") [] >>= _) _ _ _;refine WN ?_;simp only[newExc,newTuple];refine WN (XO ?_ (by size_fits));refine WN (m:=ZU _ _) (wpAny_of_eq (a:=Yp) (by first|rfl|(simp only[ZU];rfl)) ?_);refine XO ?_ (by size_fits);simp only[raiseNew];refine WN (wpAny_handled ?_);rw[show A.in1.handled=B? from calm];refine WN (WX (wpAny_throw ?_));refine WN (wpAny_isInstance (T:="StopIteration") (b:=C?) ⟨_,W3 _ rfl,rfl⟩ isSubtype_stop ?_);exact WX (fin _ (((YM ..).extBut.push _).push _))
theorem bb_itemsT(ns:(d == YD)=D?)(gT:s.TypeIs (.ref d) "dict")(fin:Q (.ref s.1.1.size) {s with heap:=s.1.push {cls:=.type "dict_items",data:=.fields #[.ref d]}}):Xf (Xx prog w) A (call (.builtin "dict.items") [.ref d]) Q E s:=by
 refine XY F.slot_dict_items gT F.entry_dict_items ?_ (F.args_dict_items_1 _);unfold YZ.«dict.items»;refine WN ?_;unfold Builtin.Dict.noArgs;refine WN (wpAny_notOrdered_dict gT ?_);show Xf _ _ (pure d) _ _ s;refine WX ?_;show Xf _ _ (Builtin.Dict.showsAll d >>= _) _ _ s;unfold Builtin.Dict.showsAll;rw[a! (by rw[ns];exact Xq)];exact WN (WX (WN (XO (WX ⟨_,rfl,fin⟩))))
theorem bb_itemsIterT{v:WS}(hv:s.1.IsItemsView v d)(g1:s.1.get? d=A? od)(g2:od.data=.dict es ep)
 (fin:Q (.ref s.1.1.size) {s with heap:=s.1.push {cls:=.type "dict_itemiterator",data:=.fields #[.none,.bool D?,.ref d,.int 0 0,.int es.size 0,.int ep 0,.none,.none]}}):Xf (Xx prog w) A (pyIter (.ref v)) Q E s:=by
 obtain⟨o,e1,e2,e3⟩:=id hv;have own:Zk "dict_itemiterator"=true:=by decide
 refine wpAny_pyIter_slot hv.typeIs F.slot_dict_items_iter (XY F.slot_dict_items_iter hv.typeIs F.entry_dict_items_iter ?_ (F.args_dict_items_iter_1 _));unfold YZ.«dict_items.__iter__»;refine WN (WX (WN ?_));unfold Builtin.Dict_items.dictOf;refine WN (XT e1 e3 (x:=.ref d) rfl (WX ?_));refine WN ?_;unfold Builtin.Dict_items.newIterator;refine WN (Ze g1 g2 (WN (wpAny_dictEpoch g1 g2 ?_)));simp only[own,if_true];refine XO (WX ⟨_,rfl,"dict_itemiterator",_,⟨_,W3 _ rfl,rfl⟩,Yy.lookup,?_⟩) (by simp only[sizeOk,Builtin.Dict_items.ownedTupleFields,Xa,W4,W8,List.length_nil,ZI];lia);simpa[YJ,Builtin.Dict_items.ownedTupleFields]using fin
end
end PySem
namespace L2
open PySem PySem.Spec PyProof.Rows
def y2(a:WS)(o:YF)(kvs:List (List Key×V)):It :=
 ⟨λi H=>H a=A? (.frz o (.dT kvs))/\i<kvs.length,
  λi H v H'=>∃p b kv,H p=B?/\v=.ref p/\H'=upd H p (.tup [.ref b,kv.2])/\kvs[i]?=A? kv/\H b=A? (.tup (kv.1.map kV)),
  λi H=>H a=A? (.frz o (.dT kvs))/\kvs.length<=i⟩
theorem pK{k1}(a it:WS)(o:YF)(es:Array DictEntry)(ep:Nat)(kvs:List (List Key×V))(hd:o.data=.dict es ep) :
 Turn P w K (.Tuple elts k1 pos) (y2 a o kvs) [it] it (λi h=>∃ok ov,IsItemIter h it a i es.size ep ok ov) where
 mem:=by simp
 obj:=λi h st b hb=>by
  obtain⟨ok,ov,e⟩:=st;have eb:b=it:=by simpa using hb
  subst eb;exact⟨_,e,λv z=>by cases z⟩
 keep:=λi h h' st k=>by
  obtain⟨ok,ov,e⟩:=st;exact⟨ok,ov,k it (by simp) _ e⟩
 item:=by
  walk_at"a";obtain⟨hq,Ad⟩:=hg;obtain⟨ok,ov,hit⟩:=st;obtain⟨e0,z,y,xs,r,o',F5,F6,h1,h2,h3,h4,h5⟩:=(show ObjOk X.prog X.w H s.1 a (.frz o (.dT kvs))from I.hok a _ hq);rw[e0]at h1;cases h1;rw[hd]at h3;cases h3;obtain⟨kv,Ac⟩:∃kv,kvs[i]?=A? kv:=⟨_,WQ Ad⟩;obtain⟨q',Fe,hr⟩:=x! r Ac;have Iw:es[i]?=A? (entryOfKey (tupleKind (aU X.prog X.w)) q'):=by rw[<-Z1,h4,Xd,Fe];rfl
  have BO:it<s.1.1.size:=Xe hit;obtain⟨f0,f1,f2,f3,f4,f5⟩:=hf it (by simp);refine bb_itemNextT hit e0 hd Iw λh1 AU Ha Ey=>?_;refine⟨_,Dn,wpAny_letOwnedTupleGo_items AU λh2 g1 sb=>?_⟩;replace sb:X1 it h1 h2:=sb;have Fi:H s.1.1.size=none:=I.hok.fresh (W0 _)
  have IA:Inv X Z Y (upd H s.1.1.size (.tup [.ref q'.2.1,kv.2])) {s with heap:=s.1.push {cls:=.type "tuple",data:=.seq #[.ref q'.2.1,q'.2.2]},toks:=s.toks} :=
   I.laid (o:=.tup [.ref q'.2.1,kv.2]) (λb ob q=>WU _ q) (W0 _) ⟨by show 2<=Xi;decide,[.ref q'.2.1,q'.2.2],0,.cons rfl (.cons hr.2.2 .nil),W3 _ rfl⟩
  refine⟨.ref s.1.1.size,upd H s.1.1.size (.tup [.ref q'.2.1,kv.2]),?_,Dn,⟨_,q'.2.1,kv,Fi,Dn,Dn,Ac,hr.2.1⟩,⟨_,_,g1⟩,λc hc=>?_⟩
  .refine Inv.turnedL (s:={s with heap:=s.1.push {cls:=.type "tuple",data:=.seq #[.ref q'.2.1,q'.2.2]},toks:=s.toks}) (h':=h2) (fp:=[it]) (t':=s.toks) IA (λc oc hc q=>?_) λc hc=>?_
   .have n1:c≠it:=λe=>hc (by simp[e]);rw[sb.2 c n1];by_cases hb2:c=s.1.1.size
    .subst hb2;have q2:(s.1.push {cls:=.type "tuple",data:=.seq #[.ref q'.2.1,q'.2.2]}).get? s.1.1.size=A? oc:=q;rw[W3 _ rfl]at q2;rw[<-q2];exact Ha
    .have q2:(s.1.push {cls:=.type "tuple",data:=.seq #[.ref q'.2.1,q'.2.2]}).get? c=A? oc:=q;rw[Heap.get?_push_ne _ _ _ hb2]at q2;exact Ey c oc n1 q2
   .have e:c=it:=by simpa using hc
    subst e;exact⟨by rw[af (XF BO)];exact f0,f1,f2,f3,f4,f5⟩
  .have e:c=it:=by simpa using hc
   subst e;rw[af (XF BO)];exact f0
 done:=by
  walk_at"a";obtain⟨hq,IE⟩:=hg;obtain⟨ok,ov,hit⟩:=st;obtain⟨e0,z,y,xs,r,o',F5,F6,h1,h2,h3,h4,h5⟩:=(show ObjOk X.prog X.w H s.1 a (.frz o (.dT kvs))from I.hok a _ hq);rw[e0]at h1;cases h1;rw[hd]at h3;cases h3;have hl:=W9 r
  have BC:es.size=xs.length:=by
   have:=h! Y3 h4;rw[WO,Xr]at this;exact this
  obtain⟨f0,f1,f2,f3,f4,f5⟩:=hf it (by simp);exact bb_itemEndT (I.ok.hd hc) hit e0 hd (by lia) λh' eb=>⟨rfl,I.turned (t':=s.toks) (λb ob hb e=>eb b ob hb e) f0 f1 f3 f4 f5⟩
 self:=by
  intro A i s Q E st h;obtain⟨ok,ov,e⟩:=st;have hT:s.TypeIs (.ref it) "dict_itemiterator":=⟨_,e,rfl⟩;refine wpAny_pyIter_slot hT Z3 (XY Z3 hT dR ?_ (F.args_dict_itemiterator_iter_1 _));exact WX ⟨_,rfl,"dict_itemiterator",_,hT,Yy.lookup,h⟩
section
variable{X:Cx}{apos Aj:Z9}
def qX(tl:TE):TI:=λY H R=>tl Y H λx H1=>∃a kvs,x=.ref a/\H1 a=A? (.dT kvs)/\∀o,R (y2 a o kvs) (upd H1 a (.frz o (.dT kvs)))
theorem mG{k1}(he:PE X e te)(AM:Z8 e "items" X.env (YQ e X.env)=YQ e X.env:=by rfl)(Bf:(apos.endLine == Aj.line)=true:=by rfl) :
 PI X (.Tuple elts k1 pos) (.Call (.Attribute e "items" apos) [] [] Aj) (qX te):=by
 intro Z s Y H R I h;refine wpAny_Call_method0_late AM Bf (thn (he Z s Y H _ I h) λv s1⟨x,H1,I1,r1,a,kvs,ex,ha,q⟩=>?_);subst ex;cases r1;obtain⟨z,y,xs,r,dd⟩:=(show ObjOk X.prog X.w H1 s1.1 a (.dT kvs)from I1.hok a _ ha);obtain⟨o,es,ep,h1,h2,h3,h4,h5⟩:=id dd;have gT:s1.TypeIs (.ref a) "dict":=⟨_,h1,h2.1⟩;refine⟨"dict","dict.items",F.plainAttrs_dict,F.slot_dict_items,F.type_dict_items,gT,λc e=>by cases e;exact⟨_,h1,h2.2.1⟩,?_⟩;refine Calls.callWith_builtin rfl (PySem.evalArgs_none (bb_itemsT y gT ?_));have I2:=I1.freeze ha h1;refine bb_itemsIterT (d:=a) (od:=o) (es:=es) (ep:=ep) ⟨_,W3 _ rfl,rfl,rfl⟩ (WU _ h1) h3 ?_;generalize hN:((s1.1.push {cls:=.type "dict_items",data:=.fields #[.ref a]}).objs.size)=n;have hn:n=s1.1.1.size+1:=by rw[<-hN,Ym]
 have hz:s1.1.1.size<=n:=by lia
 refine⟨n,[n],_,_,upd H1 a (.frz o (.dT kvs)),Dn,I2.kept (t':=s1.toks) (λb ob e=>WU _ (WU _ e)),pK a n o es ep kvs h3,⟨.none,.none,?_⟩,λb hb=>?_,q o⟩
 .rw[<-hN];exact W3 _ rfl
 .have e:b=n:=by simpa using hb
  subst e;exact I2.fpOk hz (I2.hok.fresh hz)
end
def tU(K:WW)(a b:WS):It:=⟨λi H=>∃xs ys x y,SqL K H a xs/\SqL K H b ys/\xs[i]?=A? x/\ys[i]?=A? y,λi H v H'=>∃p x y,H p=B?/\v=.ref p/\H'=upd H p (.tup [x,y])/\(∀xs,SqL K H a xs->xs[i]?=A? x)/\(∀ys,SqL K H b ys->ys[i]?=A? y),λi H=>∃xs ys,SqL K H a xs/\SqL K H b ys/\(xs.length<=i\/ys.length<=i)⟩
structure zW(z TI TO i1 i2 a b:WS)(i:Nat)(h:X3):Prop where
 ap:ZipApart z TI TO i1 i2 a b
 zip:IsZip h z TI TO .none
 hTI:ZD h TI (.ref i1) (.ref i2)
 hTO:∃u v,ZD h TO u v
 h1:h.IsListIter i1 a i
 h2:h.IsListIter i2 b i
theorem tR{k1}(a b z TI TO i1 i2:WS):Turn P w K (.Tuple elts k1 pos) (tU K a b) [z,TI,TO,i1,i2] z (zW z TI TO i1 i2 a b) where
 mem:=by simp
 obj:=λi h st c hc=>by
  obtain⟨D,hz,hTI,⟨u,v,hTO⟩,⟨o1,a1,a2,a3⟩,⟨o2,b1,b2,b3⟩⟩:=st;simp only[Xc,ZK,or_false]at hc;rcases hc with rfl|rfl|rfl|rfl|rfl
  .exact⟨_,hz,λv z=>by cases z⟩
  .exact⟨_,hTI,λv z=>by cases z⟩
  .exact⟨_,hTO,λv z=>by cases z⟩
  .exact⟨o1,a1,λv z=>by rw[a3]at z;cases z⟩
  .exact⟨o2,b1,λv z=>by rw[b3]at z;cases z⟩
 keep:=λi h h' st k=>by
  obtain⟨D,hz,hTI,⟨u,v,hTO⟩,⟨o1,a1,a2⟩,⟨o2,b1,b2⟩⟩:=st;exact⟨D,k _ (by simp) _ hz,k _ (by simp) _ hTI,⟨u,v,k _ (by simp) _ hTO⟩,⟨o1,k _ (by simp) _ a1,a2⟩,⟨o2,k _ (by simp) _ b1,b2⟩⟩
 item:=by
  walk_at"a";obtain⟨xs,ys,x,y,DM,DN,hx,hy⟩:=hg;obtain⟨ia,Fm,pa,Eu⟩:=I.list DM;obtain⟨ib,Fn,pb,JL⟩:=I.list DN;obtain⟨u,hu,ru⟩:=Fm.get hx;obtain⟨v,hv,rv⟩:=Fn.get hy;obtain⟨D,hz,hTI,⟨ta,tb,hTO⟩,h1,h2⟩:=st
  have lt:∀c∈[z,TI,TO,i1,i2],c<s.1.1.size:=λc hc=>by
   simp only[Xc,ZK,or_false]at hc;rcases hc with rfl|rfl|rfl|rfl|rfl
   .exact Xe hz
   .exact Xe hTI
   .exact Xe hTO
   .obtain⟨o,e,_⟩:=h1;exact Xe e
   .obtain⟨o,e,_⟩:=h2;exact Xe e
  refine wpAny_pyNext_zip_item D hz hTI hTO h1 h2 pa.isList pb.isList (by simpa using hu) (by simpa using hv) λCO a1 a2 a3 a4 a5 a6 a7=>?_;refine⟨_,Dn,wpAny_letOwnedTupleGo_zip a1 λDc g1 sb=>?_⟩;replace sb:X1 z CO Dc:=sb;have Fi:H s.1.1.size=none:=I.hok.fresh (W0 _)
  have IA:Inv X Z Y (upd H s.1.1.size (.tup [x,y])) {s with heap:=s.1.push {cls:=.type "tuple",data:=.seq #[u,v]},toks:=s.toks} :=
   I.laid (o:=.tup [x,y]) (λb ob q=>WU _ q) (W0 _) ⟨by show 2<=Xi;decide,[u,v],0,.cons ru (.cons rv .nil),W3 _ rfl⟩
  have UJ:s.1.1.size≠z:=Nat.ne_of_gt (lt z (by simp));refine⟨.ref s.1.1.size,upd H s.1.1.size (.tup [x,y]),?_,Dn,⟨_,x,y,Fi,Dn,Dn,λzs Gj=>by rw[I.list_inj Gj DM];exact hx,λzs Gj=>by rw[I.list_inj Gj DN];exact hy⟩,?_,λc hc=>?_⟩
  .have IB:Inv X Z Y (upd H s.1.1.size (.tup [x,y])) {s with heap:=Dc,toks:=s.toks}:=by
    refine Inv.turnedL (s:={s with heap:=s.1.push {cls:=.type "tuple",data:=.seq #[u,v]},toks:=s.toks}) (h':=Dc) (fp:=[z,TI,TO,i1,i2]) (t':=s.toks) IA (λc o hc q=>?_) λc hc=>?_
    .have n1:c≠z:=λe=>hc (by simp[e]);have n2:c≠TO:=λe=>hc (by simp[e]);have n3:c≠i1:=λe=>hc (by simp[e]);have n4:c≠i2:=λe=>hc (by simp[e]);rw[sb.2 c n1];by_cases hb2:c=s.1.1.size
     .subst hb2;have q':(s.1.push {cls:=.type "tuple",data:=.seq #[u,v]}).get? s.1.1.size=A? o:=q;rw[W3 _ rfl]at q';rw[<-q'];exact a5
     .have q':(s.1.push {cls:=.type "tuple",data:=.seq #[u,v]}).get? c=A? o:=q;rw[Heap.get?_push_ne _ _ _ hb2]at q';exact a7 c o n1 n2 n3 n4 q'
    .obtain⟨f0,f1⟩:=hf c hc;exact⟨by rw[af (XF (lt c hc))];exact f0,f1⟩
   exact IB
  .have sT:∀c o,c≠z->CO.get? c=A? o->Dc.get? c=A? o:=λc o hc e=>(sb.2 c hc).trans e;refine⟨D,g1,sT _ _ D.TIz (a7 _ _ D.TIz D.TITO D.TIi1 D.TIi2 hTI),⟨_,_,sT _ _ D.TOz a2⟩,?_,?_⟩
   .obtain⟨o,e,r⟩:=a3;exact⟨o,sT _ _ D.i1z e,r⟩
   .obtain⟨o,e,r⟩:=a4;exact⟨o,sT _ _ D.i2z e,r⟩
  .rw[af (XF (lt c hc))];exact(hf c hc).1
 done:=by
  walk_at"a";obtain⟨xs,ys,DM,DN,Cy⟩:=hg;obtain⟨ia,Fm,pa,Eu⟩:=I.list DM;obtain⟨ib,Fn,pb,JL⟩:=I.list DN;have JM:=Fm.length;have UK:=Fn.length;obtain⟨D,hz,hTI,hTO,h1,h2⟩:=st;obtain⟨ta,tb,hTO⟩:=hTO;refine wpAny_pyNext_zip_end (I.ok.hd hc) D hz hTI hTO h1 h2 pa.isList pb.isList ?_ λh' kp=>⟨rfl,?_⟩
  .rcases Cy with h|h
   .exact .inl (by simp;lia)
   .exact .inr (by simp;lia)
  exact I.turnedL (fp:=[z,TI,TO,i1,i2]) (t':=s.toks) (λc o hc q=>kp c o (λe=>hc (by simp[e])) (λe=>hc (by simp[e])) (λe=>hc (by simp[e])) (λe=>hc (by simp[e])) q) hf
 self:=λ_ _ _ _ _ st h=>wpAny_pyIter_zip st.zip h
section
variable{X:Cx}{e1 e2:XZ}{t:TA}{p2 A9:Z9}
def yU(K:WW)(t:TA):TI:=λY H R=>t Y H λvs H1=>∃a b,vs=[.ref a,.ref b]/\(∃xs,SqL K H1 a xs)/\(∃ys,SqL K H1 b ys)/\R (tU K a b) H1
theorem v6{k1}(g2:Gl X "zip")(m2:X.mg "zip"=B?)(ha:PA X [e1,e2] t)
 (h2:XE [e1,e2] X.env=(D?,YQ e1 X.env)::XE [e2] X.env:=by rfl) (h3:(ZC A9 (XE [e2] X.env)).any (·.1)=false:=by rfl):PI X (.Tuple elts k1 pos) (.Call (.Name "zip" p2) [e1,e2] [] A9) (yU X.K t):=by
 intro Z s Y H R I h;refine Yo (d6 I g2 m2 boot_zip ?_);refine Yl (thn (ha A9 Z s Y H _ I h) λus s2⟨vs,H2,I2,r,a,b,ev,⟨xs,DM⟩,⟨ys,DN⟩,q⟩=>?_) h2 h3;subst ev;obtain⟨u1,u2,rfl,r1,r2⟩:=vals2 r;cases r1;cases r2;obtain⟨ia,Fm,pa,Eu⟩:=I2.list DM;obtain⟨ib,Fn,pb,JL⟩:=I2.list DN;have AL:a<s2.1.1.size:=by obtain⟨o,e,_⟩:=pa.isList;exact Xe e
 have Bm:b<s2.1.1.size:=by obtain⟨o,e,_⟩:=pb.isList;exact Xe e
 refine call_zip_2 pa.isList pb.isList λh' z1 z2 z3 z4 z5 z6 z7=>?_;have D:ZipApart (s2.1.1.size+4) (s2.1.1.size+2) (s2.1.1.size+3) s2.1.1.size (s2.1.1.size+1) a b:=zipApart_new AL Bm;refine wpAny_pyIter_zip (s:={s2 with heap:=h'}) z1 ?_;refine⟨s2.1.1.size+4,[s2.1.1.size+4,s2.1.1.size+2,s2.1.1.size+3,s2.1.1.size,s2.1.1.size+1],_,_,H2,Dn,I2.kept (t':=s2.toks) z7,tR a b _ _ _ _ _,⟨D,z1,z2,⟨_,_,z3⟩,z4,z5⟩,λc hc=>?_,q⟩
 have BA:s2.1.1.size<=c:=by
  simp only[Xc,ZK,or_false]at hc;rcases hc with h|h|h|h|h <;> rw[h]
  .exact YV _ _
  .exact YV _ _
  .exact YV _ _
  .exact W0 _
  .exact YV _ _
 exact I2.fpOk BA (I2.hok.fresh BA)
end
def d7:List (Key×V)->List (Key×V)->List (Key×V)
 |kvs,[]=>kvs
 |kvs,p::ps=>d7 (putK kvs p.1 p.2) ps
def PrK(H:Hp)(pr:Key×V)(pa:WS):Prop:=H pa=A? (.tup [kV pr.1,pr.2])
section
variable{X:Cx}
theorem qJ{r key:WV}{k:Key}{kvs:List (Key×V)}{Q:Unit->WZ->Prop}(I:Inv X Z Y H s)(e:H a=A? (.dK kvs))(rk:RelV (kV k) key)(l:kvs.length<Xi)(rv:RelV v r)(h:∀h' tk,X1 a s.1 h'->Inv X Z Y (upd H a (.dK (putK kvs k v))) {s with heap:=h',toks:=tk}->Q () {s with heap:=h',toks:=tk}) :
 Xf (Xx X.prog X.w) A (dictSet a key r) Q E s:=by
 obtain⟨z,hd,xs,rel,dd⟩:=xg I.hok e;have hz:xs.length<=Xi:=by rw[<-rel.length];exact z
 have hl:(putK kvs k v).length<=Xi:=by have:=bI kvs k v;lia
 refine wpAny_dictSet_pairs (mL rk) dd (λh' Eo hs=>h _ _ hs ?_) hz;obtain⟨q,es,ep,hq,rest⟩:=id Eo;exact iH I (by rw[e];exact Y8) hs ⟨q,hq⟩ ⟨hl,hd,_,rel.put k rv,Eo⟩
theorem p9{prs:List (Key×V)}{ps:List WS}(hh:A.handled=B?)(hu:A.units+8<Zb)(hn:prs.length<=10000) :
 ∀(m i:Nat)(s:WZ)(tk:Tok)(H:Hp)(kvs:List (Key×V)),prs.length - i=m->i<=prs.length->Inv X Z Y H s->H d=A? (.dK kvs)->kvs.length<=i->jd X Z H it->s.1.IsListIter it l i->H l=A? (.lst (ps.map i!))->Xv (PrK H) prs ps ->
   (∀s',Inv X Z Y (upd H d (.dK (d7 kvs (prs.drop i)))) s'->R (.ok (.ret .none)) s') ->
   codeAny (Xx X.prog X.w) A (.builtin "dict.update.loop" ⟨[.ref d,.ref it,.int i tk,.none],[]⟩) R s:=by
 intro m;induction m with
 | zero =>
   intro i s tk H kvs hk hi I ed Au hf hit el BX hR;have Cu:i=prs.length:=by lia
   subst Cu;obtain⟨its,rv,p,hz⟩:=I.list (n! (K:=X.K) el);have AF:prs.length=ps.length:=W9 BX;have hl:=rv.length;rw[WO]at hl;obtain⟨f0,f1,f2,f3,f4,f5⟩:=hf;refine codeAny_builtin E! ?_;rw[ZM u! _];show Xf _ A.in1 (Zw (.ref it) >>= _) _ _ s;refine WN (wpAny_pyNext_list_end hh hit p.isList (by simp;lia) λh' eb=>?_);refine WN (WX (WX ?_));refine hR _ ?_;rw[List.drop_length]
   have e0:upd H d (.dK (d7 kvs []))=H:=by
    funext b;by_cases hb:b=d
    .rw[hb,ae,ed];rfl
    .rw[af hb]
   rw[e0];exact I.turned (t':=s.toks) (λb o hb e=>eb b o hb e) f0 f1 f3 f4 f5
 | succ m ih =>
   intro i s tk H kvs hk hi I ed Au hf hit el BX hR;have Ad:i<prs.length:=by lia
   have AF:prs.length=ps.length:=W9 BX;obtain⟨its,rv,p,hz⟩:=I.list (n! (K:=X.K) el);have hl:=rv.length;rw[WO]at hl;obtain⟨pa,CB,Bd⟩:=x! BX (WQ Ad);have hx:(ps.map i!)[i]?=A? (.ref pa):=by rw[Xd,CB];rfl
   obtain⟨u,JK,ru⟩:=rv.get hx;cases ru;obtain⟨f0,f1,f2,f3,f4,f5⟩:=id hf;refine codeAny_builtin E! ?_;rw[ZM u! _];show Xf _ A.in1 (Zw (.ref it) >>= _) _ _ s;refine WN (wpAny_pyNext_list_item hit p.isList (x:=.ref pa) (by simpa using JK) λh1 GZ Gi=>?_);have I1:Inv X Z Y H {s with heap:=h1}:=I.turned (t':=s.toks) (λb o hb e=>(Gi.2 b hb).trans e) f0 f1 f3 f4 f5;obtain⟨_,Aa,n2,NH,e2⟩:=(show ObjOk X.prog X.w H h1 pa (.tup [kV (prs[i]).1,(prs[i]).2])from I1.hok pa _ Bd)
   obtain⟨kk,vv,rfl,Vd,NI⟩:∃kk vv,Aa=[kk,vv]/\RelV (kV (prs[i]).1) kk/\RelV (prs[i]).2 vv:=by
    cases NH with
    | cons a b =>
      cases b with
      | cons c d =>
        cases d;exact⟨_,_,Dn,a,c⟩
   have NJ:(⟨h1,s.gens,s.drawn,s.toks,s.os⟩:WZ).TypeIs (.ref pa) "tuple":=⟨_,e2,rfl⟩;refine WN (Yn ?_);refine WN (wpAny_tryCatch ?_);unfold Builtin.Dict.pairItems;refine WN (Zs NJ ?_);rw[b! (by decide)];refine WN (YN e2 rfl (WX ?_));show Xf _ _ (holding [kk,vv] (dictSet d kk vv)) _ _ _;refine Yn (qJ (k:=(prs[i]).1) I1 ed Vd (by have:=dC;rw[ZI];lia) NI λh2 UG F' I2=>?_);refine WX ⟨plainId_quiet u! _,?_⟩
   have Et:YJ ((i:Int)+1)=.int ((i+1:Nat):Int) 0:=by
    show Value.int ((i:Int)+1) 0=_;rw[show((i+1:Nat):Int)=(i:Int)+1 by lia]
   rw[Et];have G0:it≠d:=λz=>by rw[z,ed]at f0;cases f0
   refine ih (i+1) _ 0 _ (putK kvs (prs[i]).1 (prs[i]).2) (by lia) Ad I2 ae (by have:=bI kvs (prs[i]).1 (prs[i]).2;lia) ⟨by rw[af G0];exact f0,f1,f2,f3,f4,f5⟩ ?_ ?_ ?_ λs' I'=>hR s' ?_
   .obtain⟨o,g1,r⟩:=GZ;exact⟨o,(F'.2 it G0).trans g1,r⟩
   .rw[af (aA el ed (λz=>nomatch z))];exact el
   .refine w! (λx y e=>?_) BX;show upd H d _ y=_;rw[af (aA (show H y=A? (.tup [kV x.1,x.2])from e) ed (λz=>nomatch z))];exact e
   .rw[iA]at I';rw[YE Ad];exact I'
def vK:List V->Hp->VK->Prop:=λxs H Q=>∃(l:WS)(ps:List WS)(prs:List (Key×V)),xs=[.ref l]/\H l=A? (.lst (ps.map i!))/\Xv (PrK H) prs ps/\prs.length<=10000/\∀d,H d=B?->Q (.ref d) (upd H d (.dK (d7 [] prs)))
theorem jG(hu:X.A.units+12<Zb)(hc:X.calm=C?):dm X (.type "dict") vK:=by
 intro Z s Y H xs us Q I r h;obtain⟨l,ps,prs,rfl,el,BX,hn,q⟩:=h;obtain⟨u,rfl,rx⟩:=vals1 r;cases rx;obtain⟨z,its,n,rv,e⟩:=(show ObjOk X.prog X.w H s.1 l (.lst (ps.map i!))from I.hok l _ el);refine callType_codes (Q₁:=λobj zX=>obj=.ref s.1.1.size/\zX={s with heap:=s.1.push {cls:=.type "dict",data:=.dict #[]}}) PySem.F.kt_called_dict (PySem.F.kt_typeCall_dict_1 _) PySem.F.entry_dict_init (kt_code_dict_new _ ⟨rfl,rfl⟩) ?_;rintro obj zX ⟨rfl,rfl⟩;have gn:(s.1.push {cls:=.type "dict",data:=.dict #[]}).DictOf (aU X.prog X.w) s.1.1.size []:=Heap.DictOf.new s.1;have gt:(s.1.push {cls:=.type "dict",data:=.dict #[]}).get? l=A? {cls:=.type "list",data:=.seq its.toArray n}:=WU _ e;refine⟨gn.typeIs,PySem.F.args_dict_init_2 _ _,?_⟩;have Ep:=I.hok.fresh (W0 s.1.1.size);have I1:Inv X Z Y (upd H s.1.1.size (.dK [])) {s with heap:=s.1.push {cls:=.type "dict",data:=.dict #[]}}:=I.laid (a:=s.1.1.size) (o:=.dK []) (t':=s.toks) (λ_ _ q=>WU _ q) (W0 _) (oz s.1 I.big);unfold YZ.«dict.__init__»;refine WN ?_;unfold Builtin.Dict.selfAndRest;refine WN (wpAny_notOrdered_dict gn.typeIs ?_);show Xf _ _ (pure (s.1.1.size,[XI l])) _ _ _;refine WX ?_;show Xf _ _ (Builtin.Dict.updateFrom "dict.__init__" s.1.1.size (.ref l) [] .none) _ _ _;unfold Builtin.Dict.updateFrom;refine WN (Zs (T:="list") ⟨_,gt,rfl⟩ ?_);rw[b! (by decide)];refine WN (bb_nokeysL (A:=X.A.in1.in1) (I.ok.hd hc) gt λh1 G1 k1=>?_);have I2:Inv X Z Y (upd H s.1.1.size (.dK [])) {s with heap:=h1,toks:=G1}:=I1.kept (t':=G1) λb o e=>k1 b o e;simp only[Option.isNone_none,if_true];refine WN (wpAny_rule ?_);obtain⟨od,es,ep,NK,UI⟩:=id gn;have Ad:s.1.1.size<h1.objs.size:=Xe (k1 _ _ NK);refine WN (wpAny_pyIter_list (l:=l) (items:=its.toArray) ⟨_,k1 _ _ gt,rfl,n,rfl⟩ ?_);refine WX ⟨plainId_quiet u! _,?_⟩;have DL:l≠s.1.1.size:=aq el Ep
 have G2:Xv (PrK (upd H s.1.1.size (.dK []))) prs ps:=w! (λx y e=>by
  show upd H s.1.1.size _ y=_;rw[af (aq (show H y=A? (.tup [kV x.1,x.2])from e) Ep)];exact e) BX
 have Gf:(upd H s.1.1.size (.dK [])) h1.objs.size=none:=I2.hok.fresh (W0 _);refine p9 (A:=X.A.in1) (d:=s.1.1.size) (it:=h1.objs.size) (l:=l) (prs:=prs) (ps:=ps) (I.ok.hd hc) (by show X.A.units+1+8<Zb;lia) hn prs.length 0 _ 0 (upd H s.1.1.size (.dK [])) [] (Nat.sub_zero _) (XA _) (I2.kept (t':=G1) λb o e=>WU _ e) ae (W0 _) (I2.fpOk (W0 _) Gf) ⟨_,W3 _ rfl,rfl,rfl⟩ (by rw[af DL];exact el) G2 λs' I'=>?_;rw[iA,Yw]at I';exact⟨Dn,.ref s.1.1.size,_,I',Dn,q _ Ep⟩
end
end L2
namespace BB
open PySem L2
def smC(f:Int->Int->Int)(cs:List (List Int×Int×Int)):Int:=(cs.map λc=>f c.2.1 c.2.2).sum
theorem ku(f:Int->Int->Int)(a b:List (List Int×Int×Int)):smC f (a++b)=smC f a+smC f b:=by
 unfold smC;rw[W5,List.sum_append]
theorem eW(pre:List Int)(n:Xj)(ts:List Th):callsOf (Th.pl pre (.knot n ts))=callsOf (pls pre 0 ts):=by
 rw[Th.pl];rfl
theorem fc(pre:List Int)(s k:Int):callsOf (Th.pl pre (.call s k))=[(pre,s,k)]:=by
 rw[Th.pl];rfl
theorem ff(pre:List Int)(i:Int)(t:Th)(ts:List Th):callsOf (pls pre i (t::ts))=callsOf (t.pl (pre++[i]))++callsOf (pls pre (i+1) ts):=by
 rw[pls,dG]
mutual
theorem o9{f:Int->Int->Int}(k:Th):∀(p:Th)(pre:List Int)(o:Th),Out ins rows p k o->(∀c∈callsOf (p.pl pre),∀oc,Out ins rows (.call c.2.1 c.2.2) k oc->f c.2.1 c.2.2=(oc.size:Nat))->((o.size:Nat):Int)=(p.kn:Nat)+smC f (callsOf (p.pl pre))
 | .call s c,pre,o,ho,hf=>by
   rw[fc]at hf |-;have:=hf _ (WY.mpr rfl) o ho;show _=((0:Nat):Int)+(f s c+0);rw[this];simp
 | .knot n ts,pre,o,ho,hf=>by
   obtain⟨os,rfl,Bi⟩:=ho.unknot;rw[eW]at hf |-;have:=l3 k ts pre 0 os Bi hf;rw[v!,Th.kn];lia
theorem l3{f:Int->Int->Int}(k:Th):∀(ts:List Th)(pre:List Int)(i:Int)(os:List Th),Outs ins rows ts k os->(∀c∈callsOf (pls pre i ts),∀oc,Out ins rows (.call c.2.1 c.2.2) k oc->f c.2.1 c.2.2=(oc.size:Nat))->((ar os:Nat):Int)=(kns ts:Nat)+smC f (callsOf (pls pre i ts))
 | [],pre,i,os,ho,hf=>by
   cases ho;rw[ar,kns,pls];rfl
 | t::ts,pre,i,os,ho,hf=>by
   cases ho with
   |cons h1 h2 =>
   rw[ff]at hf |-;have e1:=o9 k t (pre++[i]) _ h1 λc hc=>hf c (Xg _ hc);have e2:=l3 k ts pre (i+1) _ h2 λc hc=>hf c (Xl _ hc);rw[ar,kns,ku];lia
end
structure MxC(f:Int->Int->Int)(d:Int)(cs:List (List Int×Int×Int))(own m:Int):Prop where
 lo:own<=m
 all:∀c∈cs,(c.1.length:Int) - d+f c.2.1 c.2.2<=m
 some:m=own\/∃c∈cs,m=(c.1.length:Int) - d+f c.2.1 c.2.2
mutual
theorem oX{f:Int->Int->Int}(k:Th):∀(p:Th)(pre:List Int)(o:Th),Out ins rows p k o->(∀c∈callsOf (p.pl pre),∀oc,Out ins rows (.call c.2.1 c.2.2) k oc->f c.2.1 c.2.2=(oc.tall:Nat))->MxC f pre.length (callsOf (p.pl pre)) (p.tall:Nat) (o.tall:Nat)
 | .call s c,pre,o,ho,hf=>by
   rw[fc]at hf |-;have e:=hf _ (WY.mpr rfl) o ho;have h1:=Th.tall_eq o;have h2:(A! s c).tall=1:=by rw[q!]
   simp only at e;refine⟨by rw[h2];lia,λc hc=>?_,.inr ⟨_,WY.mpr rfl,?_⟩⟩
   .rw[WY.mp hc];simp only;lia
   .simp only;lia
 | .knot n ts,pre,o,ho,hf=>by
   obtain⟨os,rfl,Bi⟩:=ho.unknot;rw[eW]at hf |-;obtain⟨a,b,c⟩:=mY k ts pre 0 os Bi hf;have h1:(r! n ts).tall=aB ts+1:=by rw[q!]
   have h2:(r! n os).tall=aB os+1:=by rw[q!]
   refine⟨by lia,λc hc=>?_,?_⟩
   .have:=b c hc;lia
   .rcases c with c|⟨x,hx,c⟩
    .exact .inl (by lia)
    .exact .inr ⟨x,hx,by lia⟩
theorem mY{f:Int->Int->Int}(k:Th):∀(ts:List Th)(pre:List Int)(i:Int)(os:List Th),Outs ins rows ts k os->(∀c∈callsOf (pls pre i ts),∀oc,Out ins rows (.call c.2.1 c.2.2) k oc->f c.2.1 c.2.2=(oc.tall:Nat))->MxC f (pre.length+1) (callsOf (pls pre i ts)) (aB ts:Nat) (aB os:Nat)
 | [],pre,i,os,ho,hf=>by
   cases ho;rw[pls];exact⟨Int.le_refl _,λc hc=>(by cases hc),.inl rfl⟩
 | t::ts,pre,i,os,ho,hf=>by
   cases ho with
   | @cons _ _ o' _ Dq h1 h2 =>
   rw[ff]at hf |-;obtain⟨a1,b1,c1⟩:=oX k t (pre++[i]) _ h1 λc hc=>hf c (Xg _ hc);obtain⟨a2,b2,c2⟩:=mY k ts pre (i+1) _ h2 λc hc=>hf c (Xl _ hc);have hl:((pre++[i]).length:Int)=pre.length+1:=by rw[W4];rfl
   rw[hl]at b1 c1;have e1:aB (t::ts)=max t.tall (aB ts):=by rw[aB]
   have e2:aB (o'::Dq)=max o'.tall (aB Dq):=by rw[aB]
   refine⟨by lia,λc hc=>?_,?_⟩
   .rcases W7.mp hc with hc|hc
    .have:=b1 c hc;lia
    .have:=b2 c hc;lia
   .by_cases h:aB Dq<=o'.tall
    .rcases c1 with c1|⟨x,hx,c1⟩
     .exact .inl (by lia)
     .exact .inr ⟨x,Xg _ hx,by lia⟩
    .rcases c2 with c2|⟨x,hx,c2⟩
     .exact .inl (by lia)
     .exact .inr ⟨x,Xl _ hx,by lia⟩
end
def ky(c:Int×Int):List Key:=[Xs c.1,Xs c.2]
theorem iZ{a b:Int×Int}(h:ky a=ky b):a=b:=by
 obtain⟨a1,a2⟩:=a;obtain⟨b1,b2⟩:=b;simp only[ky,List.cons.injEq,Sum.inl.injEq,and_true]at h;rw[h.1,h.2]
abbrev CLs:=List ((Int×Int)×Int)
def dE(es:CLs):List (List Key×V):=es.map λe=>(ky e.1,o! e.2)
def d3(es:CLs)(k:Int×Int)(v:Int):CLs:=if k∈es.map (·.1)then es.map (λe=>if e.1=k then(e.1,v)else e)else es++[(k,v)]
def cv:CLs->Int×Int->Option Int
 | [],_=>B?
 |e::es,k=>if e.1=k then A? e.2 else cv es k
theorem nA(k:Int×Int):∀es:CLs,aG (dE es) (ky k)=(cv es k).map o!
 | []=>rfl
 | e::es=>by
   show aG ((ky e.1,o! e.2)::dE es) (ky k)=_;rw[cv];by_cases h:e.1=k
   .rw[b! h,bC (by rw[h])];rfl
   .rw[a! h,bJ (λz=>h (iZ z)),nA k es]
theorem yj(k:Int×Int)(es:CLs):((dE es).any λkv=>decide (kv.1=ky k))=decide (k∈es.map (·.1)):=by
 rw[ZY,List.any_eq_true,decide_eq_true_iff];constructor
 .rintro⟨x,hx,hk⟩;obtain⟨e,he,rfl⟩:=Xn.mp hx;exact Xn.mpr ⟨e,he,iZ (e! hk)⟩
 .intro h;obtain⟨e,he,rfl⟩:=Xn.mp h;exact⟨_,Xn.mpr ⟨e,he,Dn⟩,d! rfl⟩
theorem rf(es:CLs)(k:Int×Int)(v:Int):putK (dE es) (ky k) (.int v)=dE (d3 es k v):=by
 unfold putK d3;rw[yj];by_cases h:k∈es.map (·.1)
 .rw[b! (d! h),b! h];unfold dE;rw[Zd,Zd];refine List.map_congr_left λe he=>?_;simp only[Function.comp];by_cases g:e.1=k
  .rw[b! (by rw[g]),b! g]
  .rw[a! (λz=>g (iZ z)),a! g]
 .rw[a! (λz=>h (e! z)),a! h];unfold dE;rw[W5];rfl
theorem lx{es:CLs}{k:Int×Int}{v:Int}(h:cv es k=A? v):(k,v)∈es:=by
 induction es with
 |nil=>cases h
 | cons e es ih =>
   rw[cv]at h;by_cases g:e.1=k
   .rw[b! g]at h;cases h;rw[<-g];exact W2 ..
   .rw[a! g]at h;exact WR _ (ih h)
theorem tz{es:CLs}{k:Int×Int}(h:cv es k=B?):k∉es.map (·.1):=by
 induction es with
 |nil=>intro z;cases z
 | cons e es ih =>
   rw[cv]at h;by_cases g:e.1=k
   .rw[b! g]at h;cases h
   .rw[a! g]at h;intro z;rcases Xc.mp z with z|z
    .exact g z.symm
    .exact ih h z
theorem wn{es:CLs}(nd:(es.map (·.1)).Nodup){e:(Int×Int)×Int}(h:e∈es):cv es e.1=A? e.2:=by
 induction es with
 |nil=>cases h
 | cons x es ih =>
   rw[XG,X6]at nd;rw[cv];rcases Xc.mp h with rfl|h
   .rw[b! rfl]
   .rw[a! (λz=>nd.1 (by rw[z];exact Xn.mpr ⟨e,h,rfl⟩))];exact ih nd.2 h
theorem sY(es:CLs)(k:Int×Int)(v:Int):(d3 es k v).map (·.1)=if k∈es.map (·.1)then es.map (·.1)else es.map (·.1)++[k]:=by
 unfold d3;by_cases h:k∈es.map (·.1)
 .rw[b! h,b! h,Zd];refine List.map_congr_left λe he=>?_;simp only[Function.comp];by_cases g:e.1=k
  .rw[b! g]
  .rw[a! g]
 .rw[a! h,a! h,W5];rfl
theorem qw{es:CLs}(nd:(es.map (·.1)).Nodup)(k:Int×Int)(v:Int):((d3 es k v).map (·.1)).Nodup:=by
 rw[sY];by_cases h:k∈es.map (·.1)
 .rw[b! h];exact nd
 .rw[a! h,Y7];refine⟨nd,by simp,λa ha b hb=>?_⟩;rw[WY.mp hb];exactλz=>h (z ▸ ha)
theorem hI{es:CLs}{k:Int×Int}{v:Int}{e:(Int×Int)×Int}(h:e∈d3 es k v):e=(k,v)\/(e∈es/\e.1≠k):=by
 unfold d3 at h;by_cases g:k∈es.map (·.1)
 .rw[b! g]at h;obtain⟨x,hx,rfl⟩:=Xn.mp h;by_cases e:x.1=k
  .rw[b! e,e];exact .inl rfl
  .rw[a! e];exact .inr ⟨hx,e⟩
 .rw[a! g]at h;rcases W7.mp h with h|h
  .exact .inr ⟨h,λz=>g (z ▸ Xn.mpr ⟨e,h,rfl⟩)⟩
  .exact .inl (WY.mp h)
theorem uk(es:CLs)(k:Int×Int)(v:Int):(k,v)∈d3 es k v:=by
 unfold d3;by_cases g:k∈es.map (·.1)
 .rw[b! g];obtain⟨x,hx,hk⟩:=Xn.mp g;exact Xn.mpr ⟨x,hx,by rw[b! hk,hk]⟩
 .rw[a! g];exact Xl _ (WY.mpr rfl)
theorem tq{es:CLs}{k:Int×Int}{v:Int}{e:(Int×Int)×Int}(h:e∈es)(hk:e.1≠k):e∈d3 es k v:=by
 unfold d3;by_cases g:k∈es.map (·.1)
 .rw[b! g];exact Xn.mpr ⟨e,h,a! hk⟩
 .rw[a! g];exact Xg _ h
theorem ox(es:CLs)(k:Int×Int)(v:Int):(d3 es k v).length<=es.length+1:=by
 unfold d3;split
 .rw[WO];lia
 .rw[W4];exact W0 _
def smE(f:Int->Int->Int)(es:CLs):Int:=(es.map λe=>e.2 * f e.1.1 e.1.2).sum
theorem wI(f:Int->Int->Int)(k:Int×Int)(d:Int):∀{es:CLs},(es.map (·.1)).Nodup->smE f (d3 es k ((cv es k).getD 0+d))=smE f es+d * f k.1 k.2:=by
 have upd:∀(es:CLs),(es.map (·.1)).Nodup->k∈es.map (·.1)->∀v,smE f (es.map λe=>if e.1=k then(e.1,v)else e)=smE f es+(v - (cv es k).getD 0) * f k.1 k.2:=by
  intro es;induction es with
  |nil=>intro _ h;cases h
  | cons e es ih =>
    intro nd hk v;rw[XG,X6]at nd;show(if e.1=k then(e.1,v)else e).2 * f (if e.1=k then(e.1,v)else e).1.1 (if e.1=k then(e.1,v)else e).1.2+smE f (es.map λe=>if e.1=k then(e.1,v)else e)=e.2 * f e.1.1 e.1.2+smE f es+_;rw[cv];by_cases g:e.1=k
    .have hn:∀x∈es,(if x.1=k then(x.1,v)else x)=x:=λx hx=>a! λz=>nd.1 (by rw[g,<-z];exact Xn.mpr ⟨x,hx,rfl⟩);rw[List.map_congr_left hn,List.map_id',b! g,b! g];simp only[Option.getD_some,<-g];rw[Int.sub_mul];lia
    .rw[a! g,a! g];rcases Xc.mp hk with z|z
     .exact g! z.symm g
     .have:=ih nd.2 z v;lia
 intro es nd;cases h:cv es k with
 | some v =>
   have hm:k∈es.map (·.1):=Xn.mpr ⟨_,lx h,rfl⟩;unfold d3;rw[b! hm,upd es nd hm,h];simp only[Option.getD_some];rw[show v+d - v=d by lia]
 | none =>
   have hm:=tz h;unfold d3;rw[a! hm];simp only[Option.getD_none];unfold smE;rw[W5,List.sum_append,XG,YS,List.sum_cons,List.sum_nil];rw[show(0:Int)+d=d by lia];show _+(d * f k.1 k.2+0)=_;lia
structure CallsE(cs:List (List Int×Int×Int))(es:CLs):Prop where
 nd:(es.map (·.1)).Nodup
 «of»:∀e∈es,∃c∈cs,c.2=e.1
 to:∀c∈cs,∃e∈es,e.1=c.2
theorem CallsE.nil:CallsE [] []:=⟨Y1,λe h=>(by cases h),λe h=>(by cases h)⟩
theorem CallsE.put{cs:List (List Int×Int×Int)}{es:CLs}(h:CallsE cs es)(c:List Int×Int×Int)(v:Int):CallsE (cs++[c]) (d3 es c.2 v):=by
 refine⟨qw h.nd _ _,λe he=>?_,λx hx=>?_⟩
 .rcases hI he with rfl|⟨he,_⟩
  .exact⟨c,Xl _ (WY.mpr rfl),Dn⟩
  .obtain⟨y,hy,e⟩:=h.of e he;exact⟨y,Xg _ hy,e⟩
 .by_cases g:x.2=c.2
  .exact⟨_,uk es c.2 v,g.symm⟩
  .rcases W7.mp hx with hx|hx
   .obtain⟨e,he,e2⟩:=h.to x hx;exact⟨e,tq he (λz=>g (e2.symm.trans z)),e2⟩
   .exact g! (by rw[WY.mp hx]) g
structure TimesE(cs:List (List Int×Int×Int))(es:CLs):Prop extends CallsE cs es where
 sum:∀f,smE f es=smC f cs
 pos:∀e∈es,0<=e.2/\e.2<=cs.length
theorem TimesE.nil:TimesE [] []:=⟨CallsE.nil,λ_=>rfl,λe h=>by cases h⟩
theorem TimesE.put{cs:List (List Int×Int×Int)}{es:CLs}(h:TimesE cs es)(c:List Int×Int×Int):TimesE (cs++[c]) (d3 es c.2 ((cv es c.2).getD 0+1)):=by
 refine⟨h.toCallsE.put c _,λf=>?_,λe he=>?_⟩
 .rw[wI f c.2 1 h.nd,ku,h.sum f,Int.one_mul];show _=smC f cs+(f c.2.1 c.2.2+0);lia
 .rw[W4];rcases hI he with rfl|⟨he,_⟩
  .show 0<=(cv es c.2).getD 0+1/\(cv es c.2).getD 0+1<=_;cases g:cv es c.2 with
   | none =>
     simp only[Option.getD_none,YH];lia
   | some v =>
     have:=h.pos _ (lx g);simp only[Option.getD_some,YH];simp only at this;lia
  .have:=h.pos _ he;simp only[YH];lia
structure DepthE(cs:List (List Int×Int×Int))(es:CLs):Prop extends CallsE cs es where
 «at»:∀e∈es,∃c∈cs,c.2=e.1/\e.2=(c.1.length:Nat)
 big:∀c∈cs,∀e∈es,e.1=c.2->((c.1.length:Nat):Int)<=e.2
theorem DepthE.nil:DepthE [] []:=⟨CallsE.nil,λe h=>(by cases h),λe h=>by cases h⟩
theorem DepthE.put{cs:List (List Int×Int×Int)}{es:CLs}(h:DepthE cs es)(c:List Int×Int×Int):DepthE (cs++[c]) (d3 es c.2 (if(cv es c.2).getD 0 > ((c.1.length:Nat):Int)then(cv es c.2).getD 0 else((c.1.length:Nat):Int))):=by
 have hl:=Xl cs (WY.mpr (rfl:c=c));refine⟨h.toCallsE.put c _,λe he=>?_,λx hx e he hk=>?_⟩
 .rcases hI he with rfl|⟨he,_⟩
  .cases g:cv es c.2 with
   | none =>
     refine⟨c,hl,Dn,?_⟩;simp only[Option.getD_none];rw[a! (by lia)]
   | some v =>
     simp only[Option.getD_some];by_cases hv:v > ((c.1.length:Nat):Int)
     .rw[b! hv];obtain⟨y,hy,e1,e2⟩:=h.at _ (lx g);exact⟨y,Xg _ hy,e1,e2⟩
     .rw[a! hv];exact⟨c,hl,Dn,Dn⟩
  .obtain⟨y,hy,e1,e2⟩:=h.at e he;exact⟨y,Xg _ hy,e1,e2⟩
 .rcases hI he with rfl|⟨he,Ar⟩
  .simp only at hk |-
   have hc:((c.1.length:Nat):Int)<=(if(cv es c.2).getD 0 > ((c.1.length:Nat):Int)then(cv es c.2).getD 0 else((c.1.length:Nat):Int)):=by
    split <;> lia
   rcases W7.mp hx with hx|hx
   .obtain⟨e,he,e2⟩:=h.to x hx;have h1:=h.big x hx e he e2;have h2:=wn h.nd he;rw[e2,<-hk]at h2;rw[h2];simp only[Option.getD_some];split <;> lia
   .rw[WY.mp hx];exact hc
  .rcases W7.mp hx with hx|hx
   .exact h.big x hx e he hk
   .exact g! (by rw[hk,WY.mp hx]) Ar
end BB
variable{es:BB.CLs}
namespace BB
open PySem L2
theorem jq{val:(Int×Int)×Int->Int}{Q:VK}
 (Ae:∀R:VK,R (.ref d) H->tl Y H R) (hd:H d=A? (.dT (dE es))) (hlen:es.length<=10000)
 (hs:∀(i:Nat)(e:(Int×Int)×Int)(p b:WS)(H2:Hp)(R:VK),es[i]?=A? e->SameB d H H2->H2 p=A? (.tup [.ref b,.int e.2])->H2 b=A? (.tup ((ky e.1).map kV))->R (.int (val e)) H2->g (.ref p) (cσ js Y) H2 λAg H3=>te Ag H3 R)
 (hq:∀(D:WS)(H2:Hp),j! H H2->H2 D=A? (.lst ((es.map val).map o!))->Q (.ref D) H2) :
 jY (rS js (qX tl) g bE te) Y H Q:=by
 refine Ae _ ⟨d,dE es,rfl,hd,λo D hD=>?_⟩;have CG:D≠d:=λz=>by rw[z,ae]at hD;cases hD
 have J4:H D=none:=by rw[af CG]at hD;exact hD
 have hl:(dE es).length=es.length:=by unfold dE;rw[WO]
 refine⟨es.length,λj H2=>j<=es.length/\SameB d H H2/\H2 d=A? (.frz o (.dT (dE es)))/\H2 D=A? (.lst (((es.take j).map val).map o!)),⟨XA _,λb u hb e=>by rw[af (aq e J4),af hb];exact e,by rw[af CG.symm,ae],ae⟩,?_⟩;rintro j H2 ⟨hj,sb,ed,eD⟩;by_cases Dw:j=es.length
 .left;refine⟨⟨ed,by lia⟩,upd H2 d (.dT (dE es)),λb=>?_,?_⟩
  .by_cases hb:b=d
   .rw[hb];exact .inr ⟨o,_,ed,hd,ae⟩
   .exact .inl (af hb)
  .rw[Dw,Zi]at eD;refine hq D _ (λb u e=>?_) (by rw[af CG];exact eD);by_cases hb:b=d
   .rw[hb,hd]at e;rw[hb,ae];exact e
   .rw[af hb];exact sb b u hb e
 .right;refine⟨by lia,⟨ed,by lia⟩,?_⟩;rintro x H3 ⟨p,b,kv,hp,rfl,rfl,Ac,eb⟩
  obtain⟨e,he,rfl⟩:∃e,es[j]?=A? e/\(ky e.1,o! e.2)=kv:=by
   unfold dE at Ac;rw[Xd]at Ac;cases h:es[j]? with
   |none=>rw[h]at Ac;cases Ac
   |some e=>rw[h]at Ac;exact⟨e,Dn,Xh Ac⟩
  have Ve:d≠p:=λz=>by rw[<-z,ed]at hp;cases hp
  have Ma:D≠p:=λz=>by rw[<-z,eD]at hp;cases hp
  refine hs j e p b _ _ he (λc u hc ec=>by rw[af (aq (sb c u hc ec) hp)];exact sb c u hc ec) ae (by rw[af (aq eb hp)];exact eb) ?_;refine⟨_,by rw[af Ma];exact eD,bc (by rw[WO,WO,XC];lia),by lia,λc u hc ec=>?_,?_,?_⟩
  .rw[af (aq ec J4),af (aq (sb c u hc ec) hp)];exact sb c u hc ec
  .rw[af CG.symm,af Ve];exact ed
  .rw[ae,X5,he,W5,W5];rfl
mutual
theorem Th.dv_inj:∀{t u:Th},t.dv=u.dv->t=u
 | .knot n ks,.knot m js,h=>by
   rw[M!,M!]at h;injection h with h;injection h with h1 h2;injection h1 with h1;rw[h1,rP h2]
 | .call s k,.call s' k',h=>by
   rw[M!,M!]at h;injection h with h;injection h with _ h;injection h with h1 h;injection h with h2 _;injection h1 with h1;injection h2 with h2;rw[h1,h2]
 | .knot n ks,.call s k,h=>by
   rw[M!,M!]at h;injection h with h;injection h with _ h;cases ks with
   |nil=>rw[dvs]at h;cases h
   | cons a as =>
     rw[dvs]at h;injection h with h _;cases a <;> rw[M!]at h <;> cases h
 | .call s k,.knot n ks,h=>by
   rw[M!,M!]at h;injection h with h;injection h with _ h;cases ks with
   |nil=>rw[dvs]at h;cases h
   | cons a as =>
     rw[dvs]at h;injection h with h _;cases a <;> rw[M!]at h <;> cases h
theorem rP:∀{ts us:List Th},dvs ts=dvs us->ts=us
 | [],[],_=>rfl
 | [],u::us,h=>by rw[dvs,dvs]at h;cases h
 |t::ts,[],h=>by rw[dvs,dvs]at h;cases h
 | t::ts,u::us,h=>by
   rw[dvs,dvs]at h;injection h with h1 h2;rw[Th.dv_inj h1,rP h2]
end
structure Nd where
 t:Th
 ta:WS
 aa:WS
 ka:WS
 ask:List (Key×V)
 sp:List (Key×V)
structure Lv where
 x:WS
 dx:WS
 tl:WS
 al:WS
 kl:WS
 ns:List Nd
def lvF(tl al kl:WS):List (Xj×V):=[(W6 "trees",.ref tl),(W6 "asked",.ref al),(W6 "kid_spots",.ref kl)]
theorem wZ:¬(W6 "trees"=W6 "asked"):=by decide +kernel
theorem xh:¬(W6 "trees"=W6 "kid_spots"):=by decide +kernel
theorem wV:¬(W6 "asked"=W6 "kid_spots"):=by decide +kernel
theorem mJ(tl al kl:WS):(lvF tl al kl).lookup (W6 "trees")=A? (i! tl):=by
 unfold lvF;simp only[Zg,beq_self_eq_true]
theorem pP(tl al kl:WS):(lvF tl al kl).lookup (W6 "asked")=A? (i! al):=by
 unfold lvF;have h:(W6 "asked" == W6 "trees")=false:=beq_eq_false_iff_ne.mpr λz=>wZ z.symm;simp only[Zg,h,beq_self_eq_true]
theorem u9(tl al kl:WS):(lvF tl al kl).lookup (W6 "kid_spots")=A? (i! kl):=by
 unfold lvF;have h:(W6 "kid_spots" == W6 "trees")=false:=beq_eq_false_iff_ne.mpr λz=>xh z.symm;have h2:(W6 "kid_spots" == W6 "asked")=false:=beq_eq_false_iff_ne.mpr λz=>wV z.symm;simp only[Zg,h,h2,beq_self_eq_true]
theorem uP{m:Xj}(tl al kl:WS)(h1:(m == W6 "trees")=D?)(h2:(m == W6 "asked")=D?)(h3:(m == W6 "kid_spots")=D?):(lvF tl al kl).lookup m=none:=by
 unfold lvF;simp only[Zg,h1,h2,h3]
theorem v8(tl al kl:WS):dO (W6 "kid_spots") (.ref kl) (dO (W6 "asked") (.ref al) (dO (W6 "trees") (.ref tl) []))=lvF tl al kl:=by
 unfold lvF;simp only[dO];rw[a! wZ,dO,a! xh,dO,a! wV,dO]
def dcts(ns:List Nd):List WS:=ns.flatMap λn=>[n.aa,n.ka]
theorem jD(a b:List Nd):dcts (a++b)=dcts a++dcts b:=List.flatMap_append
theorem cS{ns:List Nd}{n:Nd}(h:n∈ns):n.aa∈dcts ns:=List.mem_flatMap.mpr ⟨n,h,W2 ..⟩
theorem cM{ns:List Nd}{n:Nd}(h:n∈ns):n.ka∈dcts ns:=List.mem_flatMap.mpr ⟨n,h,WR _ (W2 ..)⟩
theorem lh{ns:List Nd}(h:b∈dcts ns):∃n∈ns,b=n.aa\/b=n.ka:=by
 obtain⟨n,hn,hb⟩:=List.mem_flatMap.mp h;refine⟨n,hn,?_⟩;rcases Xc.mp hb with h|h
 .exact .inl h
 .exact .inr (WY.mp h)
structure LvSh(C:WS)(H:Hp)(L:Lv):Prop where
 ins:H L.x=A? (.ins C L.dx (lvF L.tl L.al L.kl))
 tl:H L.tl=A? (.lst (L.ns.map λn=>i! n.ta))
 al:H L.al=A? (.lst (L.ns.map λn=>i! n.aa))
 kl:H L.kl=A? (.lst (L.ns.map λn=>i! n.ka))
 tr:∀n∈L.ns,At H n.t n.ta
 ak:∀n∈L.ns,H n.aa=A? (.dK n.ask)
 sp:∀n∈L.ns,H n.ka=A? (.dK n.sp)
 n1:L.tl≠L.al
 n2:L.tl≠L.kl
 n3:L.al≠L.kl
 nd:(dcts L.ns).Nodup
 un:(L.ns.map (·.t)).Nodup
def Lv.own(L:Lv):List WS:=L.x::L.tl::L.al::L.kl::dcts L.ns
theorem LvSh.keep{L:Lv}(h:LvSh C H L)(k:KT H H')(f:∀b∈L.own,∀o,H b=A? o->H' b=A? o):LvSh C H' L:=by
 have d:∀b∈dcts L.ns,∀o,H b=A? o->H' b=A? o:=λb hb=>f b (WR _ (WR _ (WR _ (WR _ hb))))
 exact⟨f _ (W2 ..) _ h.ins,f _ (WR _ (W2 ..)) _ h.tl,f _ (WR _ (WR _ (W2 ..))) _ h.al,f _ (WR _ (WR _ (WR _ (W2 ..)))) _ h.kl,
  λn hn=>(h.tr n hn).mono k,λn hn=>d _ (cS hn) _ (h.ak n hn),λn hn=>d _ (cM hn) _ (h.sp n hn),h.n1,h.n2,h.n3,h.nd,h.un⟩
def FrB(S:List WS)(H H':Hp):Prop:=∀b o,b∉S->H b=A? o->H' b=A? o
theorem FrB.refl{S:List WS}:FrB S H H:=λ_ _ _ e=>e
theorem FrB.of{S:List WS}(h:j! H H'):FrB S H H':=λb o _ e=>h b o e
theorem FrB.trans{S:List WS}{A B C:Hp}(h:FrB S A B)(k:FrB S B C):FrB S A C:=λb o hb e=>k b o hb (h b o hb e)
theorem FrB.set{S:List WS}(h:a∈S):FrB S H (upd H a o):=λb u hb e=>by rw[af (show b≠a fromλz=>hb (by rw[z];exact h))];exact e
theorem kO{l:List α}(h:l.Nodup){x:α}(hi:l[i]?=A? x)(hj:l[j]?=A? x):i=j:=by
 induction l generalizing i j with
 |nil=>simp at hi
 | cons a l ih =>
   rw[X6]at h;cases i with
   | zero =>
     cases j with
     |zero=>rfl
     | succ j =>
       simp at hi hj;exact g! (by rw[hi];exact WT hj) h.1
   | succ i =>
     cases j with
     | zero =>
       simp at hi hj;exact g! (by rw[hj];exact WT hi) h.1
     | succ j =>
       simp at hi hj;rw[ih h.2 hi hj]
theorem mX{f:α->β}(hf:∀a b,f a=f b->a=b):∀{l:List α},l.Nodup->(l.map f).Nodup
 | [],_=>by simp
 | a::l,h=>by
   rw[X6]at h;rw[XG,X6];refine⟨λz=>?_,mX hf h.2⟩;obtain⟨b,hb,e⟩:=Xn.mp z;exact h.1 (hf _ _ e ▸ hb)
theorem bM:∀{l m:List α},l.Nodup->(∀a∈l,a∈m)->l.length<=m.length
 | [],m,_,_=>XA _
 | a::l,m,h,hs=>by
   rw[X6]at h;obtain⟨m1,m2,rfl⟩:=List.append_of_mem (hs a (W2 ..))
   have:l.length<=(m1++m2).length:=bM h.2 λb hb=>by
    rcases W7.mp (hs b (WR _ hb))with z|z
    .exact Xg _ z
    .rcases Xc.mp z with z|z
     .exact g! (z ▸ hb) h.1
     .exact Xl _ z
   rw[W4,W8]at*;rw[W8];lia
theorem fj{B:Nat}:∀{ts:List Th},(∀t∈ts,t.tall<=B)->bw (ts.map M!)<=B
 | [],_=>by rw[YS,bw];exact XA _
 | t::ts,h=>by
   have h1:=t.dv_deep;have h2:=h t (W2 ..);have h3:=fj (ts:=ts) λu hu=>h u (WR _ hu);rw[XG,bw];lia
theorem LvSh.dats{L:Lv}(h:LvSh C H L):DAts H ((L.ns.map (·.t)).map M!) (L.ns.map λn=>i! n.ta):=by
 have:∀ns:List Nd,(∀n∈ns,At H n.t n.ta)->DAts H ((ns.map (·.t)).map M!) (ns.map λn=>i! n.ta):=by
  intro ns;induction ns with
  |nil=>exactλ_=>.nil
  |cons n ns ih=>exactλh=>.cons (At.dv (h n (W2 ..))) (ih λm hm=>h m (WR _ hm))
 exact this L.ns h.tr
def Lv.add(L:Lv)(t:Th)(ta aa ka:WS):Lv:={L with ns:=L.ns++[⟨t,ta,aa,ka,[],[]⟩]}
theorem LvSh.add{L:Lv}{t:Th}{aa ka:WS}(h:LvSh C H L)(f:FrB [L.tl,L.al,L.kl] H H')(h0:H aa=B?)(h1:H ka=B?)(Ar:aa≠ka)(hA:At H t ta)(hn:t∉L.ns.map (·.t))
 (e1:H' L.tl=A? (.lst ((L.ns.map λn=>i! n.ta)++[.ref ta]))) (e2:H' L.al=A? (.lst ((L.ns.map λn=>i! n.aa)++[.ref aa]))) (e3:H' L.kl=A? (.lst ((L.ns.map λn=>i! n.ka)++[.ref ka]))) (e4:H' aa=A? (.dK [])) (e5:H' ka=A? (.dK [])) :
 LvSh C H' (L.add t ta aa ka):=by
 have no:∀b u,H b=A? u->(∀xs,u≠.lst xs)->b∉[L.tl,L.al,L.kl]:=λb u e n z=>by
  rcases Xc.mp z with rfl|z
  .rw[h.tl]at e;exact n _ (Xh e).symm
  .rcases Xc.mp z with rfl|z
   .rw[h.al]at e;exact n _ (Xh e).symm
   .rw[WY.mp z,h.kl]at e;exact n _ (Xh e).symm
 have k:KT H H':=λb xs e=>f b _ (no b _ e (λ_ z=>nomatch z)) e
 refine⟨f _ _ (no _ _ h.ins (λ_ z=>nomatch z)) h.ins,e1.trans (by show _=A? (HO.lst ((L.ns++[_]).map _));rw[W5];rfl),e2.trans (by show _=A? (HO.lst ((L.ns++[_]).map _));rw[W5];rfl),e3.trans (by show _=A? (HO.lst ((L.ns++[_]).map _));rw[W5];rfl),
  λn hn=>?_,λn hn=>?_,λn hn=>?_,h.n1,h.n2,h.n3,?_,?_⟩
 .rcases W7.mp hn with hn|hn
  .exact(h.tr n hn).mono k
  .rw[WY.mp hn];exact hA.mono k
 .rcases W7.mp hn with hn|hn
  .exact f _ _ (no _ _ (h.ak n hn) (λ_ z=>nomatch z)) (h.ak n hn)
  .rw[WY.mp hn];exact e4
 .rcases W7.mp hn with hn|hn
  .exact f _ _ (no _ _ (h.sp n hn) (λ_ z=>nomatch z)) (h.sp n hn)
  .rw[WY.mp hn];exact e5
 .show(dcts (L.ns++[_])).Nodup;rw[jD,Y7];refine⟨h.nd,by simp[dcts,Ar],λa ha b hb z=>?_⟩
  have hs:∃o,H a=A? o:=by
   obtain⟨n,hn,rfl|rfl⟩:=lh ha
   .exact⟨_,h.ak n hn⟩
   .exact⟨_,h.sp n hn⟩
  obtain⟨o,ho⟩:=hs;have AQ:b=aa\/b=ka:=by simpa[dcts]using hb
  rcases AQ with rfl|rfl
  .rw[z,h0]at ho;cases ho
  .rw[z,h1]at ho;cases ho
 .show((L.ns++[_]).map _).Nodup;rw[W5,Y7];refine⟨h.un,by simp,λa ha b hb z=>hn ?_⟩;have:b=t:=by simpa using hb
  rw[<-this,<-z];exact ha
end BB
variable{m:BB.Nd}{ns:List BB.Nd}{B L B' L':BB.Lv}
namespace L2
open PySem
theorem uW(Pv:Nat->St->Hp->Prop)(h0:Pv 0 Y H)(hl:∀i Y H,i<=xs.length->Pv i Y H->SqT K H a xs)
 (hs:∀i x p Y H,xs[i]?=A? x->H p=B?->Pv i Y H->g (.ref p) Y (upd H p (.tup [.int (i:Nat),x])) λAg H2=>tb {D with nx:=Pv (i+1),ct:=Pv (i+1),bk:=D.nx} Ag H2) (hd:∀Y H,Pv xs.length Y H->D.nx Y H) :
 ∃W:Nat->Nat->St->Hp->Prop,(∃m,W 0 m Y H)/\∀i m Y H,W i m Y H ->
   ((Ite K a).stop i H/\D.nx Y H)\/((Ite K a).go i H/\∃N:St->Hp->Prop,(∀l' H',N l' H'->∃m',m'<m/\W (i+1) m' l' H')/\∀x H',(Ite K a).yld i H x H'->g x Y H' λAg H2=>tb {D with nx:=N,ct:=N,bk:=D.nx} Ag H2):=by
 refine⟨λi m Y H=>m=xs.length - i/\i<=xs.length/\Pv i Y H,⟨xs.length,by simp,XA _,h0⟩,?_⟩;rintro i m Y H ⟨rfl,hi,p⟩;have q:=hl i Y H hi p;by_cases Ad:i<xs.length
 .refine .inr ⟨⟨xs,xs[i],q,by simp[Ad]⟩,Pv (i+1),λl' H' p'=>⟨xs.length - (i+1),by lia,rfl,Ad,p'⟩,λx H' y=>?_⟩;obtain⟨pa,y,hp,rfl,rfl,hy⟩:=y;exact hs i y pa Y H (hy xs q) hp p
 .have e:i=xs.length:=by lia
  subst e;exact .inl ⟨⟨xs,q,rfl⟩,hd Y H p⟩
theorem vF{ys:List V}(Vf:xs.length=ys.length)(Pv:Nat->St->Hp->Prop)(h0:Pv 0 Y H)(hl:∀i Y H,i<=xs.length->Pv i Y H->SqT K H a xs/\SqT K H b ys)
 (hs:∀i x y p Y H,xs[i]?=A? x->ys[i]?=A? y->H p=B?->Pv i Y H->g (.ref p) Y (upd H p (.tup [x,y])) λAg H2=>tb {D with nx:=Pv (i+1),ct:=Pv (i+1),bk:=D.nx} Ag H2) (hd:∀Y H,Pv xs.length Y H->D.nx Y H) :
 ∃W:Nat->Nat->St->Hp->Prop,(∃m,W 0 m Y H)/\∀i m Y H,W i m Y H ->
   ((Itz K a b).stop i H/\D.nx Y H)\/((Itz K a b).go i H/\∃N:St->Hp->Prop,(∀l' H',N l' H'->∃m',m'<m/\W (i+1) m' l' H')/\∀x H',(Itz K a b).yld i H x H'->g x Y H' λAg H2=>tb {D with nx:=N,ct:=N,bk:=D.nx} Ag H2):=by
 refine⟨λi m Y H=>m=xs.length - i/\i<=xs.length/\Pv i Y H,⟨xs.length,by simp,XA _,h0⟩,?_⟩;rintro i m Y H ⟨rfl,hi,p⟩;obtain⟨q1,q2⟩:=hl i Y H hi p;by_cases Ad:i<xs.length
 .have Hb:i<ys.length:=by lia
  refine .inr ⟨⟨xs,ys,xs[i],ys[i],q1,q2,by simp[Ad],by simp[Hb]⟩,Pv (i+1),λl' H' p'=>⟨xs.length - (i+1),by lia,rfl,Ad,p'⟩,λx H' y=>?_⟩;obtain⟨pa,x,y,hp,rfl,rfl,hx,hy⟩:=y;exact hs i x y pa Y H (hx xs q1) (hy ys q2) hp p
 .have e:i=xs.length:=by lia
  subst e;exact .inl ⟨⟨xs,ys,q1,q2,.inl (W0 _)⟩,hd Y H p⟩
theorem vm{ys:List V}(Vf:xs.length=ys.length)(Pv:Nat->St->Hp->Prop)(h0:Pv 0 Y H)(hl:∀i Y H,i<=xs.length->Pv i Y H->SqL K H a xs/\SqL K H b ys)
 (hs:∀i x y p Y H,xs[i]?=A? x->ys[i]?=A? y->H p=B?->Pv i Y H->g (.ref p) Y (upd H p (.tup [x,y])) λAg H2=>tb {D with nx:=Pv (i+1),ct:=Pv (i+1),bk:=D.nx} Ag H2) (hd:∀Y H,Pv xs.length Y H->D.nx Y H) :
 ∃W:Nat->Nat->St->Hp->Prop,(∃m,W 0 m Y H)/\∀i m Y H,W i m Y H ->
   ((tU K a b).stop i H/\D.nx Y H)\/((tU K a b).go i H/\∃N:St->Hp->Prop,(∀l' H',N l' H'->∃m',m'<m/\W (i+1) m' l' H')/\∀x H',(tU K a b).yld i H x H'->g x Y H' λAg H2=>tb {D with nx:=N,ct:=N,bk:=D.nx} Ag H2):=by
 refine⟨λi m Y H=>m=xs.length - i/\i<=xs.length/\Pv i Y H,⟨xs.length,by simp,XA _,h0⟩,?_⟩;rintro i m Y H ⟨rfl,hi,p⟩;obtain⟨q1,q2⟩:=hl i Y H hi p;by_cases Ad:i<xs.length
 .have Hb:i<ys.length:=by lia
  refine .inr ⟨⟨xs,ys,xs[i],ys[i],q1,q2,by simp[Ad],by simp[Hb]⟩,Pv (i+1),λl' H' p'=>⟨xs.length - (i+1),by lia,rfl,Ad,p'⟩,λx H' y=>?_⟩;obtain⟨pa,x,y,hp,rfl,rfl,hx,hy⟩:=y;exact hs i x y pa Y H (hx xs q1) (hy ys q2) hp p
 .have e:i=xs.length:=by lia
  subst e;exact .inl ⟨⟨xs,ys,q1,q2,.inl (W0 _)⟩,hd Y H p⟩
end L2
namespace BB
open PySem L2
abbrev DP:=Th->V->WS->List (List Key×V)->Prop
def DgAt(Dp:DP)(H:Hp)(p:Th)(a:WS):Prop:=∃d own kvs,H a=A? (.tup [own,.ref d])/\H d=A? (.dT kvs)/\Dp p own d kvs
def DgN(Dp:DP)(td:WS)(H:Hp)(p:Th)(a:WS):Prop:=∃d own kvs,d≠td/\H a=A? (.tup [own,.ref d])/\H d=A? (.dT kvs)/\Dp p own d kvs
structure KTD(H H':Hp):Prop where
 tup:∀b xs,H b=A? (.tup xs)->H' b=A? (.tup xs)
 dct:∀b(kvs:List (List Key×V)),H b=A? (.dT kvs)->H' b=A? (.dT kvs)
theorem KTD.trans{A B C:Hp}(h:KTD A B)(k:KTD B C):KTD A C:=⟨λb xs e=>k.tup b xs (h.tup b xs e),λb xs e=>k.dct b xs (h.dct b xs e)⟩
theorem KTD.refl{A:Hp}:KTD A A:=⟨λ_ _ e=>e,λ_ _ e=>e⟩
theorem KTD.of{A B:Hp}(h:j! A B):KTD A B:=⟨λb xs e=>h b _ e,λb xs e=>h b _ e⟩
theorem DgAt.mono{Dp:DP}(h:DgAt Dp H p a)(k:KTD H H'):DgAt Dp H' p a:=by
 obtain⟨d,own,kvs,h1,h2,h3⟩:=h;exact⟨d,own,kvs,k.tup _ _ h1,k.dct _ _ h2,h3⟩
theorem DgN.at{Dp:DP}(h:DgN Dp td H p a):DgAt Dp H p a:=by
 obtain⟨d,own,kvs,_,h1,h2,h3⟩:=h;exact⟨d,own,kvs,h1,h2,h3⟩
theorem DgN.upd{Dp:DP}{u:HO}(h:DgN Dp td H p a)(e:H td=A? (.dT tk)):DgN Dp td (upd H td u) p a:=by
 obtain⟨d,own,kvs,h0,h1,h2,h3⟩:=h;exact⟨d,own,kvs,h0,by rw[af (aA h1 e (λz=>nomatch z))];exact h1,by rw[af h0];exact h2,h3⟩
def kn2(s:Nat)(n:Xj):List Key:=[Xs ((s:Nat):Int),Sum.inr n]
theorem v7{s s':Nat}{n n':Xj}(h:kn2 s n=kn2 s' n'):s=s'/\n=n':=by
 simp only[kn2,List.cons.injEq,Sum.inl.injEq,Sum.inr.injEq,and_true]at h;exact⟨by lia,h.2⟩
def yD(Dp:DP)(td:WS)(H:Hp)(ins:List (Xj×Int))(rows:List (List Th))(tk:List (List Key×V))(i j:Nat):Prop :=
 ∀(s c:Nat)(row:List Th)(p:Th)(k:Xj×Int),(s<i\/(s=i/\c<j))->rows[s]?=A? row->row[c]?=A? p->ins[c]?=A? k->∃da,aG tk (kn2 s k.1)=A? (.ref da)/\DgN Dp td H p da
def DgTab(Dp:DP)(H:Hp)(ins:List (Xj×Int))(rows:List (List Th))(td:WS):Prop:=∃tk,H td=A? (.dT tk) /\
 ∀(s c:Nat)(row:List Th)(p:Th)(k:Xj×Int),rows[s]?=A? row->row[c]?=A? p->ins[c]?=A? k->∃da,aG tk (kn2 s k.1)=A? (.ref da)/\DgAt Dp H p da
theorem DgTab.mono{Dp:DP}(h:DgTab Dp H ins rows td)(k:KTD H H'):DgTab Dp H' ins rows td:=by
 obtain⟨tk,e,g⟩:=h;refine⟨tk,k.dct _ _ e,λs c row p kd h1 h2 h3=>?_⟩;obtain⟨da,a1,a2⟩:=g s c row p kd h1 h2 h3;exact⟨da,a1,a2.mono k⟩
end BB
variable{Dp:BB.DP}
namespace BB
open PySem L2
theorem tL[DecidableEq κ](kvs:List (κ×V))(k:κ)(v:V):(putK kvs k v).map (·.1)=if k∈kvs.map (·.1)then kvs.map (·.1)else kvs.map (·.1)++[k]:=by
 have e:(kvs.any λkv=>decide (kv.1=k))=decide (k∈kvs.map (·.1)):=by
  rw[ZY,List.any_eq_true,decide_eq_true_iff];constructor
  .rintro⟨x,hx,hk⟩;exact Xn.mpr ⟨x,hx,e! hk⟩
  .intro h;obtain⟨x,hx,hk⟩:=Xn.mp h;exact⟨x,hx,d! hk⟩
 unfold putK;rw[e];by_cases h:k∈kvs.map (·.1)
 .rw[b! (d! h),b! h,Zd];refine List.map_congr_left λx hx=>?_;simp only[Function.comp];by_cases g:x.1=k
  .rw[b! g]
  .rw[a! g]
 .rw[a! (λz=>h (e! z)),a! h,W5];rfl
theorem kR[DecidableEq κ]{kvs:List (κ×V)}(nd:(kvs.map (·.1)).Nodup)(k:κ)(v:V):((putK kvs k v).map (·.1)).Nodup:=by
 rw[tL];by_cases h:k∈kvs.map (·.1)
 .rw[b! h];exact nd
 .rw[a! h,Y7];refine⟨nd,by simp,λa ha b hb=>?_⟩;rw[WY.mp hb];exactλz=>h (z ▸ ha)
theorem kP[DecidableEq κ]{kvs:List (κ×V)}{k:κ}{e:κ×V}(h:e∈putK kvs k v):e=(k,v)\/(e∈kvs/\e.1≠k):=by
 unfold putK at h;by_cases g:(kvs.any λkv=>decide (kv.1=k))=C?
 .rw[b! g]at h;obtain⟨x,hx,rfl⟩:=Xn.mp h;by_cases e:x.1=k
  .rw[b! e,e];exact .inl rfl
  .rw[a! e];exact .inr ⟨hx,e⟩
 .rw[a! g]at h;rcases W7.mp h with h|h
  .exact .inr ⟨h,λz=>g (List.any_eq_true.mpr ⟨e,h,d! z⟩)⟩
  .exact .inl (WY.mp h)
theorem f9[DecidableEq κ]{kvs:List (κ×V)}{k:κ}(h:aG kvs k=A? v):(k,v)∈kvs:=by
 induction kvs with
 |nil=>cases h
 | cons p r ih =>
   by_cases e:p.1=k
   .rw[bC e]at h;cases h;rw[<-e];exact W2 ..
   .rw[bJ e]at h;exact WR _ (ih h)
theorem wu[DecidableEq κ]{kvs:List (κ×V)}(nd:(kvs.map (·.1)).Nodup){e:κ×V}(h:e∈kvs):aG kvs e.1=A? e.2:=by
 induction kvs with
 |nil=>cases h
 | cons p r ih =>
   rw[XG,X6]at nd;rcases Xc.mp h with rfl|h
   .exact bC rfl
   .rw[bJ (λz=>nd.1 (by rw[z];exact Xn.mpr ⟨e,h,rfl⟩))];exact ih nd.2 h
def dQ(ins:List (Xj×Int))(rows:List (List Th))(head:Th)(s:Int)(t p:Th):Prop :=
 (s=-1/\p=head/\∃u,t=.knot YU [u])\/(0<=s/\∃(m:Xj)(hs:List Th)(c:Int)(j:Nat)(row:List Th),t=.knot m hs/\ins[j]?=A? (m,c)/\rows[s.toNat]?=A? row/\row[j]?=A? p)
theorem Step.pat{head:Th}{s k:Int}{ks:List Th}{h:Th}(st:Step ins rows s k ks p h):dQ ins rows head s h p:=.inr ⟨st.1,st.2.2.2⟩
structure AskE(Dp:DP)(ins:List (Xj×Int))(rows:List (List Th))(head:Th)(H:Hp)(t:Th)(kv:Key×V)(s:Int)(p:Th)(da:WS):Prop where
 k:kv.1=Xs s
 v:kv.2=.ref da
 pat:dQ ins rows head s t p
 dg:DgAt Dp H p da
def AskOk(Dp:DP)(ins:List (Xj×Int))(rows:List (List Th))(head:Th)(H:Hp)(t:Th)(ask:List (Key×V)):Prop:=∀kv∈ask,∃s p da,AskE Dp ins rows head H t kv s p da
theorem AskE.mono{head:Th}{t:Th}{s:Int}{da:WS}(h:AskE Dp ins rows head H t kv s p da)(k:KTD H H'):AskE Dp ins rows head H' t kv s p da:=⟨h.k,h.v,h.pat,h.dg.mono k⟩
theorem AskOk.mono{head:Th}{t:Th}{ask:List (Key×V)}(h:AskOk Dp ins rows head H t ask)(k:KTD H H'):AskOk Dp ins rows head H' t ask:=λkv Ac=>by
 obtain⟨s,p,da,g⟩:=h kv Ac;exact⟨s,p,da,g.mono k⟩
structure GoodNd(Dp:DP)(ins:List (Xj×Int))(rows:List (List Th))(head:Th)(ok:Th->Prop)(H:Hp)(m:Nd):Prop where
 ask:AskOk Dp ins rows head H m.t m.ask
 nd:(m.ask.map (·.1)).Nodup
 sp:m.sp=[]
 ok:ok m.t
 pos:∀kv∈m.ask,∃s:Int,kv.1=Xs s/\0<=s
theorem GoodNd.mono{head:Th}{ok:Th->Prop}(h:GoodNd Dp ins rows head ok H m)(k:KTD H H'):GoodNd Dp ins rows head ok H' m:=⟨h.ask.mono k,h.nd,h.sp,h.ok,h.pos⟩
theorem AskOk.len{head:Th}{t:Th}{ask:List (Key×V)}(h:AskOk Dp ins rows head H t ask)(nd:(ask.map (·.1)).Nodup):ask.length<=rows.length+1:=by
 have:=bM (m:=(Xs (-1):Key)::(Yr rows.length).map λi=>(Xs ((i:Nat):Int):Key)) nd λk hk=>by
  obtain⟨kv,Ac,rfl⟩:=Xn.mp hk;obtain⟨s,p,da,g⟩:=h kv Ac;rw[g.k];rcases g.pat with⟨rfl,_⟩|⟨s0,m,hs,c,j,row,_,_,hr,_⟩
  .exact W2 ..
  .refine WR _ (Xn.mpr ⟨s.toNat,ZL.mpr (glE hr),?_⟩);rw[YA s0]
 rw[WO,W8,WO,List.length_range]at this;exact this
def Lv.setSp(L:Lv)(i:Nat)(n:Nd)(sp:List (Key×V)):Lv:={L with ns:=L.ns.set i {n with sp:=sp}}
def Lv.setAsk(L:Lv)(i:Nat)(n:Nd)(ask:List (Key×V)):Lv:={L with ns:=L.ns.set i {n with ask:=ask}}
theorem map_set(f:α->β){l:List α}{a b:α}(h:l[i]?=A? a)(e:f b=f a):(l.set i b).map f=l.map f:=by
 rw[List.map_set];refine List.ext_getElem? λj=>?_;rw[List.getElem?_set];split
 .rename_i z
  subst z;rw[WO,b! (glE h),Xd,h,e];rfl
 .rfl
theorem ik{l:List Nd}{a b:Nd}(h:l[i]?=A? a)(e1:b.aa=a.aa)(e2:b.ka=a.ka):dcts (l.set i b)=dcts l:=by
 unfold dcts;rw[List.flatMap_def,List.flatMap_def,map_set (λn:Nd=>[n.aa,n.ka]) h (by simp only[e1,e2])]
theorem mem_set{l:List α}{b x:α}(h:x∈l.set i b):x=b\/∃j,j≠i/\l[j]?=A? x:=by
 obtain⟨j,hj⟩:=Xk.mp h;rw[List.getElem?_set]at hj;split at hj
 .split at hj
  .exact .inl (Xh hj).symm
  .cases hj
 .rename_i z
  exact .inr ⟨j,λe=>z e.symm,hj⟩
theorem jL{l:List Nd}(h:(dcts l).Nodup){a b:Nd}(hi:l[i]?=A? a)(hj:l[j]?=A? b)(Ar:j≠i):b.aa≠a.aa/\b.aa≠a.ka/\b.ka≠a.aa/\b.ka≠a.ka:=by
 induction l generalizing i j with
 |nil=>simp at hi
 | cons x l ih =>
   have hc:dcts (x::l)=x.aa::x.ka::dcts l:=rfl;rw[hc,X6,X6]at h;obtain⟨h1,h2,h3⟩:=h;have CO:x.aa∉dcts l:=λz=>h1 (WR _ z);cases i with
   | zero =>
     cases j with
     |zero=>exact g! rfl Ar
     | succ j =>
       simp at hi hj;subst hi;have m:=WT hj;exact⟨λz=>CO (z ▸ cS m),λz=>h2 (z ▸ cS m),λz=>CO (z ▸ cM m),λz=>h2 (z ▸ cM m)⟩
   | succ i =>
     cases j with
     | zero =>
       simp at hi hj;subst hj;have m:=WT hi;exact⟨λz=>CO (z ▸ cS m),λz=>CO (z ▸ cM m),λz=>h2 (z ▸ cS m),λz=>h2 (z ▸ cM m)⟩
     | succ j =>
       simp at hi hj;exact ih h3 hi hj (by lia)
theorem gW{l:List Nd}(h:(dcts l).Nodup){a:Nd}(hi:l[i]?=A? a):a.aa≠a.ka:=by
 induction l generalizing i with
 |nil=>simp at hi
 | cons x l ih =>
   have hc:dcts (x::l)=x.aa::x.ka::dcts l:=rfl;rw[hc,X6,X6]at h;cases i with
   | zero =>
     simp at hi;subst hi;exactλz=>h.1 (by rw[z];exact W2 ..)
   | succ i =>
     simp at hi;exact ih h.2.2 hi
theorem cp(h:LvSh C H L)(hb:b∈L.own):∃o,H b=A? o/\(∀xs,o≠.tup xs)/\(∀k,o≠.dT k)/\∀x y,o≠.frz x y:=by
 rcases Xc.mp hb with rfl|hb
 .exact⟨_,h.ins,λ_ z=>(nomatch z),λ_ z=>(nomatch z),λ_ _ z=>nomatch z⟩
 rcases Xc.mp hb with rfl|hb
 .exact⟨_,h.tl,λ_ z=>(nomatch z),λ_ z=>(nomatch z),λ_ _ z=>nomatch z⟩
 rcases Xc.mp hb with rfl|hb
 .exact⟨_,h.al,λ_ z=>(nomatch z),λ_ z=>(nomatch z),λ_ _ z=>nomatch z⟩
 rcases Xc.mp hb with rfl|hb
 .exact⟨_,h.kl,λ_ z=>(nomatch z),λ_ z=>(nomatch z),λ_ _ z=>nomatch z⟩
 obtain⟨n,hn,rfl|rfl⟩:=lh hb
 .exact⟨_,h.ak n hn,λ_ z=>(nomatch z),λ_ z=>(nomatch z),λ_ _ z=>nomatch z⟩
 .exact⟨_,h.sp n hn,λ_ z=>(nomatch z),λ_ z=>(nomatch z),λ_ _ z=>nomatch z⟩
theorem LvSh.setSp{n:Nd}{sp:List (Key×V)}(h:LvSh C H L)(hi:L.ns[i]?=A? n)(k:KT H H')(f:∀b∈L.own,b≠n.ka->∀o,H b=A? o->H' b=A? o)(e:H' n.ka=A? (.dK sp)):LvSh C H' (L.setSp i n sp):=by
 have ni:=WT hi;have AB:=h.sp n ni;have m1:L.x∈L.own:=W2 ..;have m2:L.tl∈L.own:=WR _ (W2 ..);have m3:L.al∈L.own:=WR _ (WR _ (W2 ..));have m4:L.kl∈L.own:=WR _ (WR _ (WR _ (W2 ..)));have m5:∀b∈dcts L.ns,b∈L.own:=λb hb=>WR _ (WR _ (WR _ (WR _ hb)));refine⟨f _ m1 (aA h.ins AB (λz=>nomatch z)) _ h.ins,(f _ m2 (aA h.tl AB (λz=>nomatch z)) _ h.tl).trans ?_,(f _ m3 (aA h.al AB (λz=>nomatch z)) _ h.al).trans ?_,(f _ m4 (aA h.kl AB (λz=>nomatch z)) _ h.kl).trans ?_,λm hm=>?_,λm hm=>?_,λm hm=>?_,h.n1,h.n2,h.n3,?_,?_⟩
 .exact h! (λl=>A? (HO.lst l)) (map_set (λn:Nd=>i! n.ta) (b:={n with sp:=sp}) hi rfl).symm
 .exact h! (λl=>A? (HO.lst l)) (map_set (λn:Nd=>i! n.aa) (b:={n with sp:=sp}) hi rfl).symm
 .exact h! (λl=>A? (HO.lst l)) (map_set (λn:Nd=>i! n.ka) (b:={n with sp:=sp}) hi rfl).symm
 .rcases mem_set hm with rfl|⟨j,hj,hm⟩
  .exact(h.tr n ni).mono k
  .exact(h.tr m (WT hm)).mono k
 .rcases mem_set hm with rfl|⟨j,hj,hm⟩
  .exact f _ (m5 _ (cS ni)) (gW h.nd hi) _ (h.ak n ni)
  .have mm:=WT hm;exact f _ (m5 _ (cS mm)) (jL h.nd hi hm hj).2.1 _ (h.ak m mm)
 .rcases mem_set hm with rfl|⟨j,hj,hm⟩
  .exact e
  .have mm:=WT hm;exact f _ (m5 _ (cM mm)) (jL h.nd hi hm hj).2.2.2 _ (h.sp m mm)
 .show(dcts (L.ns.set i _)).Nodup;rw[ik (b:={n with sp:=sp}) hi rfl rfl];exact h.nd
 .show((L.ns.set i _).map _).Nodup;rw[map_set (λn:Nd=>n.t) (b:={n with sp:=sp}) hi rfl];exact h.un
theorem LvSh.setAsk{n:Nd}{ask:List (Key×V)}(h:LvSh C H L)(hi:L.ns[i]?=A? n)(k:KT H H')(f:∀b∈L.own,b≠n.aa->∀o,H b=A? o->H' b=A? o)(e:H' n.aa=A? (.dK ask)):LvSh C H' (L.setAsk i n ask):=by
 have ni:=WT hi;have AB:=h.ak n ni;have m1:L.x∈L.own:=W2 ..;have m2:L.tl∈L.own:=WR _ (W2 ..);have m3:L.al∈L.own:=WR _ (WR _ (W2 ..));have m4:L.kl∈L.own:=WR _ (WR _ (WR _ (W2 ..)));have m5:∀b∈dcts L.ns,b∈L.own:=λb hb=>WR _ (WR _ (WR _ (WR _ hb)));refine⟨f _ m1 (aA h.ins AB (λz=>nomatch z)) _ h.ins,(f _ m2 (aA h.tl AB (λz=>nomatch z)) _ h.tl).trans ?_,(f _ m3 (aA h.al AB (λz=>nomatch z)) _ h.al).trans ?_,(f _ m4 (aA h.kl AB (λz=>nomatch z)) _ h.kl).trans ?_,λm hm=>?_,λm hm=>?_,λm hm=>?_,h.n1,h.n2,h.n3,?_,?_⟩
 .exact h! (λl=>A? (HO.lst l)) (map_set (λn:Nd=>i! n.ta) (b:={n with ask:=ask}) hi rfl).symm
 .exact h! (λl=>A? (HO.lst l)) (map_set (λn:Nd=>i! n.aa) (b:={n with ask:=ask}) hi rfl).symm
 .exact h! (λl=>A? (HO.lst l)) (map_set (λn:Nd=>i! n.ka) (b:={n with ask:=ask}) hi rfl).symm
 .rcases mem_set hm with rfl|⟨j,hj,hm⟩
  .exact(h.tr n ni).mono k
  .exact(h.tr m (WT hm)).mono k
 .rcases mem_set hm with rfl|⟨j,hj,hm⟩
  .exact e
  .have mm:=WT hm;exact f _ (m5 _ (cS mm)) (jL h.nd hi hm hj).1 _ (h.ak m mm)
 .rcases mem_set hm with rfl|⟨j,hj,hm⟩
  .exact f _ (m5 _ (cM ni)) (gW h.nd hi).symm _ (h.sp n ni)
  .have mm:=WT hm;exact f _ (m5 _ (cM mm)) (jL h.nd hi hm hj).2.2.1 _ (h.sp m mm)
 .show(dcts (L.ns.set i _)).Nodup;rw[ik (b:={n with ask:=ask}) hi rfl rfl];exact h.nd
 .show((L.ns.set i _).map _).Nodup;rw[map_set (λn:Nd=>n.t) (b:={n with ask:=ask}) hi rfl];exact h.un
structure Grow(B B':Lv):Prop where
 x:B'.x=B.x
 dx:B'.dx=B.dx
 tl:B'.tl=B.tl
 al:B'.al=B.al
 kl:B'.kl=B.kl
 ns:∀(j:Nat)(m:Nd),B.ns[j]?=A? m->∃m',B'.ns[j]?=A? m'/\m'.t=m.t/\m'.aa=m.aa/\m'.ka=m.ka/\∀k,(aG m.ask k).isSome=C?->(aG m'.ask k).isSome=C?
theorem Grow.refl:Grow B B:=⟨rfl,rfl,rfl,rfl,rfl,λj m h=>⟨m,h,rfl,rfl,rfl,λ_ z=>z⟩⟩
theorem Grow.trans{A C:Lv}(h:Grow A B)(k:Grow B C):Grow A C:=by
 refine⟨k.x.trans h.x,k.dx.trans h.dx,k.tl.trans h.tl,k.al.trans h.al,k.kl.trans h.kl,λj m e=>?_⟩;obtain⟨m1,a1,a2,a3,a4,a5⟩:=h.ns j m e;obtain⟨m2,b1,b2,b3,b4,b5⟩:=k.ns j m1 a1;exact⟨m2,b1,b2.trans a2,b3.trans a3,b4.trans a4,λk z=>b5 k (a5 k z)⟩
theorem Grow.add{t:Th}{aa ka:WS}:Grow B (B.add t ta aa ka):=⟨rfl,rfl,rfl,rfl,rfl,λj m h=>⟨m,by
 show(B.ns++[_])[j]?=_;rw[XB (glE h)];exact h,rfl,rfl,rfl,λ_ z=>z⟩⟩
theorem Grow.setAsk{n:Nd}{k:Key}(hi:B.ns[i]?=A? n):Grow B (B.setAsk i n (putK n.ask k v)):=by
 refine⟨Dn,Dn,Dn,Dn,Dn,λj m h=>?_⟩;by_cases e:i=j
 .subst e;rw[hi]at h;cases h;refine⟨{n with ask:=putK n.ask k v},?_,Dn,Dn,Dn,λk' z=>?_⟩
  .show(B.ns.set i _)[i]?=_;rw[Yv (glE hi)]
  .show(aG (putK n.ask k v) k').isSome=C?;rw[cu];split
   .rfl
   .exact z
 .refine⟨m,?_,Dn,Dn,Dn,λ_ z=>z⟩;show(B.ns.set i _)[j]?=_;rw[Y4 e];exact h
theorem Grow.dcts(h:Grow B B'):∀b∈BB.dcts B.ns,b∈BB.dcts B'.ns:=λb hb=>by
 obtain⟨m,hm,hb⟩:=lh hb;obtain⟨j,hj⟩:=Xk.mp hm;obtain⟨m',h1,h2,h3,h4,_⟩:=h.ns j m hj;have mm:=WT h1;rcases hb with rfl|rfl
 .rw[<-h3];exact cS mm
 .rw[<-h4];exact cM mm
def SpOk(sp:List (Key×V))(t:Th)(ns:List Nd):Prop:=∀kv∈sp,∃(kid:Int)(j:Nat)(m:Nd),kv=(Xs kid,.int (j:Nat))/\ns[j]?=A? m/\0<=kid/\t.kids[kid.toNat]?=A? m.t
theorem SpOk.mono{sp:List (Key×V)}{t:Th}(h:SpOk sp t B.ns)(g:Grow B B'):SpOk sp t B'.ns:=λkv Ac=>by
 obtain⟨kid,j,m,h1,h2,h3,h4⟩:=h kv Ac;obtain⟨m',a1,a2,_⟩:=g.ns j m h2;exact⟨kid,j,m',h1,a1,h3,by rw[a2];exact h4⟩
theorem SpOk.len{sp:List (Key×V)}{t:Th}(h:SpOk sp t ns)(nd:(sp.map (·.1)).Nodup):sp.length<=t.kids.length:=by
 have:=bM (m:=(Yr t.kids.length).map λi=>(Xs ((i:Nat):Int):Key)) nd λk hk=>by
  obtain⟨kv,Ac,rfl⟩:=Xn.mp hk;obtain⟨kid,j,m,rfl,h2,h3,h4⟩:=h kv Ac;refine Xn.mpr ⟨kid.toNat,ZL.mpr (glE h4),?_⟩;rw[YA h3]
 rw[WO,WO,List.length_range]at this;exact this
def CDone(sp:List (Key×V))(t:Th)(ns:List Nd)(c:Int×Int):Prop:=∃(j:Nat)(m:Nd),aG sp (Xs c.2)=A? (.int (j:Nat))/\ns[j]?=A? m/\t.kids[c.2.toNat]?=A? m.t/\(aG m.ask (Xs c.1)).isSome=C?
theorem CDone.mono{sp Ez:List (Key×V)}{t:Th}{c:Int×Int}(h:CDone sp t B.ns c)(g:Grow B B')(hs:∀k v,aG sp k=A? v->aG Ez k=A? v):CDone Ez t B'.ns c:=by
 obtain⟨j,m,h1,h2,h3,h4⟩:=h;obtain⟨m',a1,a2,_,_,a5⟩:=g.ns j m h2;exact⟨j,m',hs _ _ h1,a1,by rw[a2];exact h3,a5 _ h4⟩
def g8(p:Th)(kvs:List (List Key×V)):Prop:=(∀kv∈kvs,∃c∈callsOf (p.pl []),kv.1=ky c.2)/\∀c∈callsOf (p.pl []),∃kv∈kvs,kv.1=ky c.2
structure HandC(C:WS)(H:Hp)(L:Lv)(i:Nat)(n:Nd)(B:Lv):Prop where
 lv:LvSh C H L
 hi:L.ns[i]?=A? n
 bn:LvSh C H B
 dis:∀b∈L.own,b∉B.own
def hS(n:Nd)(B:Lv):List WS:=n.ka::B.tl::B.al::B.kl::dcts B.ns
structure HandI(C:WS)(Dp:DP)(ins:List (Xj×Int))(rows:List (List Th))(head:Th)(ok:Th->Prop)(H:Hp)(L:Lv)(i:Nat)(n:Nd)(B:Lv)(Hg:Hp)(B':Lv)(sp:List (Key×V)):Prop where
 ktd:KTD H Hg
 fr:FrB (hS n B) H Hg
 lv:LvSh C Hg (L.setSp i n sp)
 bn:LvSh C Hg B'
 gr:Grow B B'
 fresh:∀b∈B'.own,b∈B.own\/H b=B?
 good:∀m∈B'.ns,GoodNd Dp ins rows head ok Hg m
 spk:SpOk sp n.t B'.ns
 spn:(sp.map (·.1)).Nodup
structure Fz2(aa d:WS)(o1 o2:YF)(ask:List (Key×V))(kvs:List (List Key×V))(Hg H:Hp):Prop where
 eq:∀b,b≠aa->b≠d->H b=Hg b
 fa:H aa=A? (.frz o1 (.dK ask))
 fd:H d=A? (.frz o2 (.dT kvs))
 ga:Hg aa=A? (.dK ask)
 gd:Hg d=A? (.dT kvs)
def thw(aa d:WS)(Hg H:Hp):Hp:=λb=>if b=aa\/b=d then Hg b else H b
theorem fM{aa:WS}{Hg:Hp}(h1:b≠aa)(h2:b≠d):thw aa d Hg H b=H b:=a! λz=>z.elim h1 h2
theorem iV{aa:WS}{Hg:Hp}(h:b=aa\/b=d):thw aa d Hg H b=Hg b:=b! h
section
variable{head:Th}{ok:Th->Prop}{n:Nd}{Hg:Hp}{sp:List (Key×V)}
theorem HandC.start(c:HandC C H L i n B)(h0:n.sp=[])(hg:∀m∈B.ns,GoodNd Dp ins rows head ok H m):HandI C Dp ins rows head ok H L i n B H B []:=by
 refine⟨KTD.refl,FrB.refl,?_,c.bn,Grow.refl,λb hb=>.inl hb,hg,λkv h=>(by cases h),Y1⟩;refine c.lv.setSp c.hi (λ_ _ e=>e) (λb _ _ o e=>e) ?_;rw[c.lv.sp n (WT c.hi),h0]
theorem iK(hi:L.ns[i]?=A? n)(sp:List (Key×V)):(L.setSp i n sp).own=L.own:=by
 unfold Lv.own;show L.x::L.tl::L.al::L.kl::dcts (L.ns.set i _)=_;rw[ik (b:={n with sp:=sp}) hi rfl rfl]
theorem HandI.ka(c:HandC C H L i n B)(I:HandI C Dp ins rows head ok H L i n B Hg B' sp):Hg n.ka=A? (.dK sp):=I.lv.sp {n with sp:=sp} (WT (Yv (Xu.mp c.hi).1))
theorem HandI.aa(c:HandC C H L i n B)(I:HandI C Dp ins rows head ok H L i n B Hg B' sp):Hg n.aa=A? (.dK n.ask):=I.lv.ak {n with sp:=sp} (WT (Yv (Xu.mp c.hi).1))
theorem HandI.dis(c:HandC C H L i n B)(I:HandI C Dp ins rows head ok H L i n B Hg B' sp):∀b∈L.own,b∉B'.own:=λb hb z=>by
 rcases I.fresh b z with h|h
 .exact c.dis b hb h
 .obtain⟨o,e,_⟩:=cp c.lv hb;rw[h]at e;cases e
theorem eN{n:Nd}(h:n∈L.ns):n.aa∈L.own:=WR _ (WR _ (WR _ (WR _ (cS h))))
theorem jT{n:Nd}(h:n∈L.ns):n.ka∈L.own:=WR _ (WR _ (WR _ (WR _ (cM h))))
theorem cC:∀b∈[L.tl,L.al,L.kl],b∈L.own:=λb hb=>by
 rcases Xc.mp hb with rfl|hb
 .exact WR _ (W2 ..)
 rcases Xc.mp hb with rfl|hb
 .exact WR _ (WR _ (W2 ..))
 .rw[WY.mp hb];exact WR _ (WR _ (WR _ (W2 ..)))
theorem HandI.new(c:HandC C H L i n B)(I:HandI C Dp ins rows head ok H L i n B Hg B' sp)(h:Hg a=B?):H a=none:=by
 cases e:H a with
 |none=>rfl
 | some o =>
   by_cases hs:a∈hS n B
   .rcases Xc.mp hs with rfl|hs
    .rw[I.ka c]at h;cases h
    .have ho:a∈B'.own:=by
      have e1:=I.gr.tl;have e2:=I.gr.al;have e3:=I.gr.kl;rcases Xc.mp hs with rfl|hs
      .exact cC _ (by rw[<-e1];exact W2 ..)
      rcases Xc.mp hs with rfl|hs
      .exact cC _ (by rw[<-e2];exact WR _ (W2 ..))
      rcases Xc.mp hs with rfl|hs
      .exact cC _ (by rw[<-e3];exact WR _ (WR _ (W2 ..)))
      .exact WR _ (WR _ (WR _ (WR _ (I.gr.dcts _ hs))))
     obtain⟨o',e',_⟩:=cp I.bn ho;rw[h]at e';cases e'
   .rw[I.fr a o hs e]at h;cases h
theorem HandI.spot(c:HandC C H L i n B)(I:HandI C Dp ins rows head ok H L i n B Hg B' sp){o1 o2:YF}{H5:Hp}(z:Fz2 n.aa d o1 o2 n.ask kvs Hg H4){B2:Lv}{h:Th}{pa:WS}{kid:Int}
 (hB:LvSh C H5 B2) (D6:B2=B'\/∃a k,H4 a=B?/\H4 k=B?/\B2=B'.add h pa a k) (hj:B2.ns[j]?=A? m) (hm:m.t=h) (fr:FrB [B'.tl,B'.al,B'.kl] H4 H5) (hk:n.t.kids[kid.toNat]?=A? h) (k0:0<=kid) (Bv:aG sp (Xs kid)=B?) (hok:ok h) :
 H5 n.ka=A? (.dK sp)/\Fz2 n.aa d o1 o2 n.ask kvs (thw n.aa d Hg (upd H5 n.ka (.dK (putK sp (Xs kid) (.int (j:Nat)))))) (upd H5 n.ka (.dK (putK sp (Xs kid) (.int (j:Nat))))) /\
  HandI C Dp ins rows head ok H L i n B (thw n.aa d Hg (upd H5 n.ka (.dK (putK sp (Xs kid) (.int (j:Nat)))))) B2 (putK sp (Xs kid) (.int (j:Nat))):=by
 have ni:=WT c.hi;have Mb:=eN ni;have Mc:=jT ni;have AJ:=I.ka c;have Og:n.aa≠n.ka:=gW c.lv.nd c.hi;have Fp:n.ka≠d:=aA AJ z.gd (λz=>nomatch z);have had:n.aa≠d:=aA z.ga z.gd (λz=>nomatch z);have Vg:H4 n.ka=A? (.dK sp):=(z.eq _ Og.symm Fp).trans AJ;have nl:∀b,b∈L.own->b∉[B'.tl,B'.al,B'.kl]:=λb hb hz=>I.dis c b hb (cC b hz)
 have nd:d∉[B'.tl,B'.al,B'.kl]:=λhz=>by
  obtain⟨o,e,_,h2,_⟩:=cp I.bn (cC d hz);rw[z.gd]at e;exact h2 _ (Xh e).symm
 have Md:H5 n.ka=A? (.dK sp):=fr _ _ (nl _ Mc) Vg;have R9:=fr _ _ (nl _ Mb) z.fa;have Oh:=fr _ _ nd z.fd
 have g2:Grow B' B2:=by
  rcases D6 with rfl|⟨_,_,_,_,rfl⟩
  .exact Grow.refl
  .exact Grow.add
 have Fq:∀b∈B2.own,b∈B'.own\/Hg b=none:=λb hb=>by
  rcases D6 with rfl|⟨a,k,ha,Bw,rfl⟩
  .exact .inl hb
  .have non:∀x,H4 x=B?->Hg x=none:=λx hx=>by
    rw[<-z.eq x (λe=>by rw[e,z.fa]at hx;cases hx) (λe=>by rw[e,z.fd]at hx;cases hx)];exact hx
   have AQ:b∈B'.x::B'.tl::B'.al::B'.kl::dcts (B'.ns++[⟨h,pa,a,k,[],[]⟩]):=hb;rw[jD]at AQ;have hb2:b∈B'.own++[a,k]:=by simpa[Lv.own,dcts]using AQ
   rcases W7.mp hb2 with h1|h1
   .exact .inl h1
   .rcases Xc.mp h1 with rfl|h1
    .exact .inr (non _ ha)
    .rw[WY.mp h1];exact .inr (non _ Bw)
 have J5:∀b∈L.own,b∉B2.own:=λb hb hz=>by
  rcases Fq b hz with h1|h1
  .exact I.dis c b hb h1
  .obtain⟨o,e,_⟩:=cp I.lv (by rw[iK c.hi];exact hb);rw[h1]at e;cases e
 generalize J6:putK sp (Xs kid) (.int (j:Nat))=Ez;generalize Sa:upd H5 n.ka (.dK Ez)=H6;have Vh:H6 n.ka=A? (.dK Ez):=by rw[<-Sa,ae]
 have e6:∀b,b≠n.ka->H6 b=H5 b:=λb hb=>by rw[<-Sa,af hb]
 have Vi:=(e6 _ Og).trans R9;have Vj:=(e6 _ Fp.symm).trans Oh
 have pass:∀b o,Hg b=A? o->b∉[B'.tl,B'.al,B'.kl]->b≠n.ka->thw n.aa d Hg H6 b=A? o:=λb o e hb Vk=>by
  by_cases hz:b=n.aa\/b=d
  .rw[iV hz];exact e
  .have h1:b≠n.aa:=λy=>hz (.inl y);have h2:b≠d:=λy=>hz (.inr y);rw[fM h1 h2,e6 b Vk];exact fr b o hb ((z.eq b h1 h2).trans e)
 have J7:∀b o,Hg b=A? o->((∃xs,o=.tup xs)\/∃k,o=.dT k)->b∉[B'.tl,B'.al,B'.kl]/\b≠n.ka:=λb o e ho=>by
  refine⟨λhz=>?_,λhz=>?_⟩
  .obtain⟨o',e',h1,h2,_⟩:=cp I.bn (cC b hz);rw[e]at e';cases e';rcases ho with⟨xs,rfl⟩|⟨k,rfl⟩
   .exact h1 _ rfl
   .exact h2 _ rfl
  .rw[hz,AJ]at e;cases e;rcases ho with⟨xs,z⟩|⟨k,z⟩ <;> cases z
 have ktd:KTD Hg (thw n.aa d Hg H6):=⟨λb xs e=>by obtain⟨h1,h2⟩:=J7 b _ e (.inl ⟨xs,rfl⟩);exact pass b _ e h1 h2,λb k e=>by obtain⟨h1,h2⟩:=J7 b _ e (.inr ⟨k,rfl⟩);exact pass b _ e h1 h2⟩;refine⟨Md,⟨λb h1 h2=>(fM h1 h2).symm,Vi,Vj,(iV (.inl rfl)).trans z.ga,(iV (.inr rfl)).trans z.gd⟩,I.ktd.trans ktd,λb o hb e=>?_,?_,?_,I.gr.trans g2,λb hb=>?_,λm' CP=>?_,?_,?_⟩
 .refine pass b o (I.fr b o hb e) (λhz=>hb ?_) (λhz=>hb (by rw[hz];exact W2 ..));rw[I.gr.tl,I.gr.al,I.gr.kl]at hz;refine WR _ ?_;have:b∈[B.tl,B.al,B.kl]++dcts B.ns:=Xg _ hz;exact this
 .have Ce:(L.setSp i n sp).ns[i]?=A? {n with sp:=sp}:=Yv (Xu.mp c.hi).1;have:=LvSh.setSp (sp:=Ez) (H':=thw n.aa d Hg H6) I.lv Ce ktd.tup (λb hb Ar o e=>pass b o e (nl b (by rw[iK c.hi]at hb;exact hb)) Ar) ((fM Og.symm Fp).trans Vh)
  have e:(L.setSp i n sp).setSp i {n with sp:=sp} Ez=L.setSp i n Ez:=by
   unfold Lv.setSp;simp only[List.set_set]
  rw[e]at this;exact this
 .refine hB.keep (λb xs e=>?_) (λb hb o e=>?_)
  .have h1:b≠n.aa:=aA e R9 (λz=>nomatch z);have h2:b≠d:=aA e Oh (λz=>nomatch z);rw[fM h1 h2,e6 b (aA e Md (λz=>nomatch z))];exact e
  .have h1:b≠n.aa:=λy=>J5 _ Mb (y ▸ hb);have h2:b≠n.ka:=λy=>J5 _ Mc (y ▸ hb)
   have h3:b≠d:=λy=>by
    obtain⟨o',e',_,_,h3⟩:=cp hB hb;rw[y,Oh]at e';exact h3 _ _ (Xh e').symm
   rw[fM h1 h3,e6 b h2];exact e
 .rcases Fq b hb with h1|h1
  .exact I.fresh b h1
  .exact .inr (I.new c h1)
 .rcases D6 with rfl|⟨a,k,_,_,rfl⟩
  .exact(I.good m' CP).mono ktd
  .rcases W7.mp CP with h1|h1
   .exact(I.good m' h1).mono ktd
   .rw[WY.mp h1];exact⟨λkv Ac=>(by cases Ac),Y1,rfl,hok,λkv Ac=>(by cases Ac)⟩
 .intro kv Ac;rw[<-J6]at Ac;rcases kP Ac with rfl|⟨h1,_⟩
  .exact⟨kid,j,m,Dn,hj,k0,by rw[hm];exact hk⟩
  .exact(I.spk.mono g2) kv h1
 .rw[<-J6];exact kR I.spn _ _
theorem HandI.ask(c:HandC C H L i n B)(I:HandI C Dp ins rows head ok H L i n B Hg B' sp){o1 o2:YF}{H7:Hp}(z:Fz2 n.aa d o1 o2 n.ask kvs Hg H4)(s7:j! H4 H7){s':Int}{da:WS}
 (hj:B'.ns[j]?=A? m) (Vl:0<=s') (pat:dQ ins rows head s' m.t p') (dg:DgAt Dp Hg p' da) :
 H7 m.aa=A? (.dK m.ask)/\Fz2 n.aa d o1 o2 n.ask kvs (thw n.aa d Hg (upd H7 m.aa (.dK (putK m.ask (Xs s') (.ref da))))) (upd H7 m.aa (.dK (putK m.ask (Xs s') (.ref da)))) /\
  HandI C Dp ins rows head ok H L i n B (thw n.aa d Hg (upd H7 m.aa (.dK (putK m.ask (Xs s') (.ref da))))) (B'.setAsk j m (putK m.ask (Xs s') (.ref da))) sp:=by
 have ni:=WT c.hi;have mj:=WT hj;have Mb:=eN ni;have Mc:=jT ni;have Me:=eN mj;have J8:=I.bn.ak m mj;have Oi:m.aa≠n.aa:=λy=>I.dis c _ Mb (y ▸ Me);have Sb:m.aa≠n.ka:=λy=>I.dis c _ Mc (y ▸ Me);have Gu:m.aa≠d:=aA J8 z.gd (λz=>nomatch z);have Oj:H7 m.aa=A? (.dK m.ask):=s7 _ _ ((z.eq _ Oi Gu).trans J8);have Vm:=s7 _ _ z.fa;have Vn:=s7 _ _ z.fd;have g2:Grow B' (B'.setAsk j m (putK m.ask (Xs s') (.ref da))):=Grow.setAsk hj;generalize Bw:putK m.ask (Xs s') (.ref da)=ask' at g2 |-;generalize Sd:upd H7 m.aa (.dK ask')=H8;have Vo:H8 m.aa=A? (.dK ask'):=by rw[<-Sd,ae]
 have e8:∀b,b≠m.aa->H8 b=H7 b:=λb hb=>by rw[<-Sd,af hb]
 have Vp:=(e8 _ Oi.symm).trans Vm;have Vq:=(e8 _ Gu.symm).trans Vn
 have pass:∀b o,Hg b=A? o->b≠m.aa->thw n.aa d Hg H8 b=A? o:=λb o e hb=>by
  by_cases hz:b=n.aa\/b=d
  .rw[iV hz];exact e
  .have h1:b≠n.aa:=λy=>hz (.inl y);have h2:b≠d:=λy=>hz (.inr y);rw[fM h1 h2,e8 b hb];exact s7 b o ((z.eq b h1 h2).trans e)
 have ktd:KTD Hg (thw n.aa d Hg H8):=⟨λb xs e=>pass b _ e (aA e J8 (λz=>nomatch z)),λb k e=>pass b _ e (aA e J8 (λz=>nomatch z))⟩
 have Fq:(B'.setAsk j m ask').own=B'.own:=by
  unfold Lv.own;show B'.x::B'.tl::B'.al::B'.kl::dcts (B'.ns.set j _)=_;rw[ik (b:={m with ask:=ask'}) hj rfl rfl]
 refine⟨Oj,⟨λb h1 h2=>(fM h1 h2).symm,Vp,Vq,(iV (.inl rfl)).trans z.ga,(iV (.inr rfl)).trans z.gd⟩,I.ktd.trans ktd,λb o hb e=>?_,?_,?_,I.gr.trans g2,λb hb=>I.fresh b (by rw[Fq]at hb;exact hb),λm' CP=>?_,I.spk.mono g2,I.spn⟩
 .by_cases Mf:b=m.aa
  .rcases I.fresh b (by rw[Mf];exact Me)with h1|h1
   .exfalso;apply hb;rcases Xc.mp h1 with h2|h2
    .obtain⟨o',e',_⟩:=cp c.bn h1;rw[h2]at Mf;have e1:=I.bn.ins;rw[I.gr.x,Mf,J8]at e1;cases e1
    .exact WR _ h2
   .rw[h1]at e;cases e
  .exact pass b o (I.fr b o hb e) Mf
 .refine I.lv.keep ktd.tup (λb hb o e=>pass b o e (λy=>?_));rw[iK c.hi]at hb;exact I.dis c b hb (y ▸ Me)
 .exact I.bn.setAsk hj ktd.tup (λb hb Ar o e=>pass b o e Ar) ((fM Oi Gu).trans Vo)
 .rcases mem_set CP with rfl|⟨j',Bb,Se⟩
  .have g:=I.good m mj;refine⟨λkv Ac=>?_,?_,g.sp,g.ok,λkv Ac=>?_⟩
   .have De:kv∈ask':=Ac;rw[<-Bw]at De;rcases kP De with rfl|⟨h1,_⟩
    .exact⟨s',p',da,Dn,Dn,pat,dg.mono ktd⟩
    .exact(g.ask.mono ktd) kv h1
   .show(ask'.map _).Nodup;rw[<-Bw];exact kR g.nd _ _
   .have De:kv∈ask':=Ac;rw[<-Bw]at De;rcases kP De with rfl|⟨h1,_⟩
    .exact⟨s',Dn,Vl⟩
    .exact g.pos kv h1
  .exact(I.good m' (WT Se)).mono ktd
end
theorem Ats.get'(h:Ats H ts as){t:Th}(hi:ts[i]?=A? t):∃a,as[i]?=A? a/\At H t a:=by
 have hl:=h.length;have Ad:=(glE hi);obtain⟨a,ha⟩:∃a,as[i]?=A? a:=⟨_,WQ (by lia)⟩;obtain⟨t',ht,hA⟩:=h.get ha;rw[hi]at ht;cases ht;exact⟨a,ha,hA⟩
def EDone(Dp:DP)(ins:List (Xj×Int))(rows:List (List Th))(head:Th)(H:Hp)(t:Th)(sp:List (Key×V))(ns:List Nd)(kv:Key×V):Prop:=∃s p da,AskE Dp ins rows head H t kv s p da/\∀c∈callsOf (p.pl []),CDone sp t ns c.2
theorem EDone.grow{head:Th}{t:Th}{sp Ez:List (Key×V)}(h:EDone Dp ins rows head H t sp B.ns kv)(g:Grow B B')(hs:∀k v,aG sp k=A? v->aG Ez k=A? v):EDone Dp ins rows head H t Ez B'.ns kv:=by
 obtain⟨s,p,da,h1,h2⟩:=h;exact⟨s,p,da,h1,λc hc=>(h2 c hc).mono g hs⟩
theorem EDone.mono{head:Th}{t:Th}{sp:List (Key×V)}(h:EDone Dp ins rows head H t sp ns kv)(k:KTD H H'):EDone Dp ins rows head H' t sp ns kv:=by
 obtain⟨s,p,da,h1,h2⟩:=h;exact⟨s,p,da,h1.mono k,h2⟩
structure LvCl(Dp:DP)(ins:List (Xj×Int))(rows:List (List Th))(head:Th)(H:Hp)(L:Lv)(J9:List Nd):Prop where
 ed:∀n∈L.ns,∀kv∈n.ask,EDone Dp ins rows head H n.t n.sp J9 kv
 sp:∀n∈L.ns,SpOk n.sp n.t J9
 an:∀n∈L.ns,(n.ask.map (·.1)).Nodup
 sn:∀n∈L.ns,(n.sp.map (·.1)).Nodup
 kd:∀n∈L.ns,n.t.kids.length<=100
 ln:L.ns.length<=50000
theorem LvCl.mono{head:Th}{J9:List Nd}(h:LvCl Dp ins rows head H L J9)(k:KTD H H'):LvCl Dp ins rows head H' L J9:=⟨λn hn kv Ac=>(h.ed n hn kv Ac).mono k,h.sp,h.an,h.sn,h.kd,h.ln⟩
theorem LvCl.grow{head:Th}(h:LvCl Dp ins rows head H L B.ns)(g:Grow B B'):LvCl Dp ins rows head H L B'.ns:=⟨λn hn kv Ac=>(h.ed n hn kv Ac).grow g (λ_ _ z=>z),λn hn=>(h.sp n hn).mono g,h.an,h.sn,h.kd,h.ln⟩
def nxt(Ls:List Lv)(k:Nat)(e:List Nd):List Nd:=match Ls[k]? with
 |some L=>L.ns
 |none=>e
structure Okd(W:List Th)(ins:List (Xj×Int))(d:Nat)(h:Th):Prop where
 tall:h.tall<=d
 mem:h∈W
 fit:h.Fit ins
def InW(W:List Th)(t u:Th):Prop:=u∈W\/u=.knot YU [t]
structure NdReady(Dp:DP)(ins:List (Xj×Int))(rows:List (List Th))(head:Th)(W:List Th)(H:Hp)(d:Nat)(n:Nd):Prop where
 sp:n.sp=[]
 nd:(n.ask.map (·.1)).Nodup
 ask:∀kv∈n.ask,∃s p da,AskE Dp ins rows head H n.t kv s p da/\∀c∈callsOf (p.pl []),∃p' h,Step ins rows c.2.1 c.2.2 n.t.kids p' h/\Okd W ins (d - 1) h
 knot:∃nm ks,n.t=.knot nm ks
 kids:n.t.kids.length<=100
 tall:n.t.tall<=d
theorem NdReady.mono{head:Th}{d:Nat}{n:Nd}(h:NdReady Dp ins rows head W H d n)(k:KTD H H'):NdReady Dp ins rows head W H' d n:=⟨h.sp,h.nd,λkv Ac=>by
 obtain⟨s,p,da,h1,h2⟩:=h.ask kv Ac;exact⟨s,p,da,h1.mono k,h2⟩,h.knot,h.kids,h.tall⟩
structure SpUp(L L':Lv):Prop where
 x:L'.x=L.x
 dx:L'.dx=L.dx
 tl:L'.tl=L.tl
 al:L'.al=L.al
 kl:L'.kl=L.kl
 ns:∀j:Nat,(L'.ns[j]?=B?/\L.ns[j]?=B?)\/∃n sp,L.ns[j]?=A? n/\L'.ns[j]?=A? {n with sp:=sp}
theorem SpUp.refl:SpUp L L:=⟨rfl,rfl,rfl,rfl,rfl,λj=>by
 cases h:L.ns[j]? with
 |none=>exact .inl ⟨rfl,rfl⟩
 |some n=>exact .inr ⟨n,n.sp,rfl,rfl⟩⟩
theorem SpUp.set(h:SpUp L L'){n:Nd}(hi:L'.ns[i]?=A? n)(sp:List (Key×V)):SpUp L (L'.setSp i n sp):=by
 refine⟨h.x,h.dx,h.tl,h.al,h.kl,λj=>?_⟩;by_cases e:i=j
 .subst e;rcases h.ns i with⟨h1,_⟩|⟨m,sp1,h1,h2⟩
  .rw[hi]at h1;cases h1
  .rw[hi]at h2;cases h2;exact .inr ⟨m,sp,h1,Yv (glE hi)⟩
 .have e2:(L'.setSp i n sp).ns[j]?=L'.ns[j]?:=Y4 e;rw[e2];exact h.ns j
theorem SpUp.grow(h:SpUp L L'):Grow L L':=by
 refine⟨h.x,h.dx,h.tl,h.al,h.kl,λj m hj=>?_⟩;rcases h.ns j with⟨_,h1⟩|⟨n,sp,h1,h2⟩
 .rw[hj]at h1;cases h1
 .rw[hj]at h1;cases h1;exact⟨_,h2,Dn,Dn,Dn,λ_ z=>z⟩
theorem SpUp.len(h:SpUp L L'):L'.ns.length=L.ns.length:=by
 apply Nat.le_antisymm
 .rcases h.ns L.ns.length with⟨h1,_⟩|⟨n,sp,h1,_⟩
  .exact List.getElem?_eq_none_iff.mp h1
  .have:=(glE h1);lia
 .rcases h.ns L'.ns.length with⟨_,h1⟩|⟨n,sp,_,h1⟩
  .exact List.getElem?_eq_none_iff.mp h1
  .have:=(glE h1);lia
theorem SpUp.dcts(h:SpUp L L'):BB.dcts L'.ns=BB.dcts L.ns:=by
 unfold BB.dcts;rw[List.flatMap_def,List.flatMap_def];congr 1;refine List.ext_getElem? λj=>?_;rw[Xd,Xd];rcases h.ns j with⟨h1,h2⟩|⟨n,sp,h1,h2⟩
 .rw[h1,h2]
 .rw[h1,h2];rfl
theorem SpUp.own(h:SpUp L L'):L'.own=L.own:=by
 unfold Lv.own;rw[h.x,h.tl,h.al,h.kl,h.dcts]
structure RunI(C:WS)(Dp:DP)(ins:List (Xj×Int))(rows:List (List Th))(head:Th)(ok:Th->Prop)(H0:Hp)(L B:Lv)(i:Nat)(H:Hp)(L' B':Lv):Prop where
 ktd:KTD H0 H
 fr:FrB (dcts L.ns++B.own) H0 H
 lv:LvSh C H L'
 up:SpUp L L'
 bn:LvSh C H B'
 gr:Grow B B'
 fresh:∀b∈B'.own,b∈B.own\/H0 b=B?
 good:∀m∈B'.ns,GoodNd Dp ins rows head ok H m
 done:∀(j:Nat)(n:Nd),j<i->L'.ns[j]?=A? n->(∀kv∈n.ask,EDone Dp ins rows head H n.t n.sp B'.ns kv)/\SpOk n.sp n.t B'.ns/\(n.sp.map (·.1)).Nodup
 todo:∀j,i<=j->L'.ns[j]?=L.ns[j]?
section
variable{head:Th}{ok:Th->Prop}{H0:Hp}
theorem RunI.start(hL:LvSh C H0 L)(hB:LvSh C H0 B)(h0:B.ns=[]):RunI C Dp ins rows head ok H0 L B 0 H0 L B :=
 ⟨KTD.refl,FrB.refl,hL,SpUp.refl,hB,Grow.refl,λb hb=>.inl hb,λm hm=>(by rw[h0]at hm;cases hm),λj n h=>(by cases h),λj _=>rfl⟩
theorem RunI.handC(R:RunI C Dp ins rows head ok H0 L B i H L' B')(hL:LvSh C H0 L)(dis:∀b∈L.own,b∉B.own){n:Nd}(hi:L'.ns[i]?=A? n):HandC C H L' i n B':=by
 refine⟨R.lv,hi,R.bn,λb hb hz=>?_⟩;rw[R.up.own]at hb;rcases R.fresh b hz with h|h
 .exact dis b hb h
 .obtain⟨o,e,_⟩:=cp hL hb;rw[h]at e;cases e
theorem RunI.step(R:RunI C Dp ins rows head ok H0 L B i H L' B'){n:Nd}(hi:L'.ns[i]?=A? n){B2:Lv}{sp:List (Key×V)}(I:HandI C Dp ins rows head ok H L' i n B' H2 B2 sp)(hd:∀kv∈n.ask,EDone Dp ins rows head H n.t sp B2.ns kv):RunI C Dp ins rows head ok H0 L B (i+1) H2 (L'.setSp i n sp) B2:=by
 refine⟨R.ktd.trans I.ktd,λb o hb e=>I.fr b o (λhz=>hb ?_) (R.fr b o hb e),I.lv,R.up.set hi sp,I.bn,R.gr.trans I.gr,λb hb=>?_,I.good,λj m hj hm=>?_,λj hj=>?_⟩
 .rcases Xc.mp hz with rfl|hz
  .refine Xg _ ?_;rw[<-R.up.dcts];exact cM (WT hi)
  .have Vr:b∈B'.own:=WR _ hz;rcases R.fresh b Vr with h|h
   .exact Xl _ h
   .rw[h]at e;cases e
 .rcases I.fresh b hb with h|h
  .exact R.fresh b h
  .refine .inr ?_;cases e:H0 b with
   |none=>rfl
   | some o =>
     by_cases hs:b∈dcts L.ns++B.own
     .rcases W7.mp hs with hs|hs
      .rw[<-R.up.dcts]at hs;obtain⟨o',e',_⟩:=cp R.lv (WR _ (WR _ (WR _ (WR _ hs))));rw[h]at e';cases e'
      .have:b∈B'.own:=by
        rcases Xc.mp hs with rfl|hs
        .rw[<-R.gr.x];exact W2 ..
        .rw[show B.tl::B.al::B.kl::dcts B.ns=[B.tl,B.al,B.kl]++dcts B.ns from rfl]at hs;rcases W7.mp hs with hs|hs
         .rw[<-R.gr.tl,<-R.gr.al,<-R.gr.kl]at hs;exact cC b hs
         .exact WR _ (WR _ (WR _ (WR _ (R.gr.dcts _ hs))))
       obtain⟨o',e',_⟩:=cp R.bn this;rw[h]at e';cases e'
     .rw[R.fr b o hs e]at h;cases h
 .by_cases e:i=j
  .subst e;have CP:(L'.setSp i n sp).ns[i]?=A? {n with sp:=sp}:=Yv (glE hi);rw[CP]at hm;cases hm;exact⟨λkv Ac=>(hd kv Ac).mono I.ktd,I.spk,I.spn⟩
  .have e2:(L'.setSp i n sp).ns[j]?=L'.ns[j]?:=Y4 e;rw[e2]at hm;obtain⟨h1,h2,h3⟩:=R.done j m (by lia) hm;exact⟨λkv Ac=>((h1 kv Ac).grow I.gr (λ_ _ z=>z)).mono I.ktd,h2.mono I.gr,h3⟩
 .have e2:(L'.setSp i n sp).ns[j]?=L'.ns[j]?:=Y4 (by lia);rw[e2];exact R.todo j (by lia)
theorem RunI.closed(R:RunI C Dp ins rows head ok H0 L B L.ns.length H L' B')(hr:∀n∈L.ns,(n.ask.map (·.1)).Nodup)(hk:∀n∈L.ns,n.t.kids.length<=100)(hl:L.ns.length<=50000):LvCl Dp ins rows head H L' B'.ns:=by
 have at':∀n∈L'.ns,∃j,j<L.ns.length/\L'.ns[j]?=A? n:=λn hn=>by
  obtain⟨j,hj⟩:=Xk.mp hn;have:=(glE hj);rw[R.up.len]at this;exact⟨j,this,hj⟩
 refine⟨λn hn=>?_,λn hn=>?_,λn hn=>?_,λn hn=>?_,λn hn=>?_,by rw[R.up.len];exact hl⟩
 .obtain⟨j,h1,h2⟩:=at' n hn;exact(R.done j n h1 h2).1
 .obtain⟨j,h1,h2⟩:=at' n hn;exact(R.done j n h1 h2).2.1
 .obtain⟨j,h1,h2⟩:=at' n hn;rcases R.up.ns j with⟨h3,_⟩|⟨m,sp,h3,h4⟩
  .rw[h2]at h3;cases h3
  .rw[h2]at h4;cases h4;exact hr m (WT h3)
 .obtain⟨j,h1,h2⟩:=at' n hn;exact(R.done j n h1 h2).2.2
 .obtain⟨j,h1,h2⟩:=at' n hn;rcases R.up.ns j with⟨h3,_⟩|⟨m,sp,h3,h4⟩
  .rw[h2]at h3;cases h3
  .rw[h2]at h4;cases h4;exact hk m (WT h3)
end
structure Chain(C:WS)(Dp:DP)(ins:List (Xj×Int))(rows:List (List Th))(head:Th)(H:Hp)(Ls:List Lv)(e:List Nd):Prop where
 sh:∀L∈Ls,LvSh C H L
 cl:∀(k:Nat)(L:Lv),Ls[k]?=A? L->LvCl Dp ins rows head H L (nxt Ls (k+1) e)
theorem rg{x tl al kl:WS}(hx:H x=B?)(IF:H dx=B?)(Ar:dx≠x)(sb:SameB x (upd (upd H dx (.own x)) x (.ins C dx [])) H1)(Ae:(upd (upd H dx (.own x)) x (.ins C dx [])) tl=B?)(AL:(upd (upd H dx (.own x)) x (.ins C dx [])) al=B?)(Au:(upd (upd H dx (.own x)) x (.ins C dx [])) kl=B?)(n1:tl≠al)(n2:tl≠kl)(n3:al≠kl)
 (ex:H1 x=A? (.ins C dx (lvF tl al kl))) (e1:H1 tl=A? (.lst [])) (e2:H1 al=A? (.lst [])) (e3:H1 kl=A? (.lst [])):j! H H1/\LvSh C H1 ⟨x,dx,tl,al,kl,[]⟩/\∀b∈(Lv.mk x dx tl al kl []).own,H b=none:=by
 have no:∀b,(upd (upd H dx (.own x)) x (.ins C dx [])) b=B?->H b=none:=λb h=>by
  by_cases z:b=x
  .rw[z];exact hx
  .rw[af z]at h;by_cases z2:b=dx
   .rw[z2];exact IF
   .rw[af z2]at h;exact h
 refine⟨λb o e=>sb b o (aq e hx) (by rw[af (aq e hx),af (aq e IF)];exact e),⟨ex,e1,e2,e3,λn hn=>(by cases hn),λn hn=>(by cases hn),λn hn=>(by cases hn),n1,n2,n3,Y1,Y1⟩,λb hb=>?_⟩;have AQ:b=x\/b=tl\/b=al\/b=kl:=by simpa[Lv.own,dcts]using hb
 rcases AQ with rfl|rfl|rfl|rfl
 .exact hx
 .exact no _ Ae
 .exact no _ AL
 .exact no _ Au
def vo(t:Th)(Ls:List Lv):Prop:=∃L0 n0,Ls[0]?=A? L0/\L0.ns=[n0]/\n0.t=.knot YU [t]/\(aG n0.ask (Xs (-1))).isSome=C?
structure gQ(ins:List (Xj×Int))(rows:List (List Th))(head:Th)(W:List Th):Prop where
 wk:∀u∈W,∀k∈u.kids,k∈W
 wl:W.length<=40000
 rl:rows.length<=100
 kids:∀u:Th,u.Fit ins->u.kids.length<=100
 knot:∀u:Th,u.Fit ins->∃nm ks,u=.knot nm ks
 fit:∀u:Th,u.Fit ins->∀k∈u.kids,k.Fit ins
 step:∀(u:Th)(s:Int)(p:Th),u.Fit ins->0<=s->dQ ins rows head s u p->∀c∈callsOf (p.pl []),∃p' h,Step ins rows c.2.1 c.2.2 u.kids p' h
structure LoopI(C:WS)(Dp:DP)(ins:List (Xj×Int))(rows:List (List Th))(head:Th)(W:List Th)(t:Th)(H:Hp)(lv:WS)(mz:Nat)(H4:Hp)(Ls:List Lv)(L:Lv):Prop where
 same:j! H H4
 ls:H4 lv=A? (.lst (Ls.map λL=>i! L.x))
 ch:Chain C Dp ins rows head H4 Ls L.ns
 cur:LvSh C H4 L
 rd:∀n∈L.ns,NdReady Dp ins rows head W H4 mz n
 dis:∀M∈Ls,∀b∈M.own,b∉L.own
 lvn:lv∉L.own/\∀M∈Ls,lv∉M.own
 new:H lv=B?/\(∀b∈L.own,H b=B?)/\∀M∈Ls,∀b∈M.own,H b=B?
 top:vo t (Ls++[L])
 len:Ls.length+mz<=140
 cnt:L.ns.length<=50000
 mem:∀M∈Ls,∀n∈M.ns,InW W t n.t
 mec:∀n∈L.ns,InW W t n.t
theorem GoodNd.ready{head:Th}{d:Nat}(T:gQ ins rows head W)(g:GoodNd Dp ins rows head (Okd W ins d) H m):NdReady Dp ins rows head W H d m:=by
 obtain⟨nm,ks,hk⟩:=T.knot _ g.ok.fit;refine⟨g.sp,g.nd,λkv Ac=>?_,⟨nm,ks,hk⟩,T.kids _ g.ok.fit,g.ok.tall⟩;obtain⟨s,p,da,hE⟩:=g.ask kv Ac
 have s0:0<=s:=by
  obtain⟨s',h1,h2⟩:=g.pos kv Ac;have:s=s':=Sum.inl.inj (hE.k.symm.trans h1);lia
 refine⟨s,p,da,hE,λc hc=>?_⟩;obtain⟨p',h,st⟩:=T.step _ s p g.ok.fit s0 hE.pat c hc;have hm:h∈m.t.kids:=WT st.2.2.1;refine⟨p',h,st,?_,T.wk _ g.ok.mem _ hm,T.fit _ g.ok.fit _ hm⟩;have h1:=ce hm;have h2:=Th.tall_eq m.t;have h3:=g.ok.tall;lia
theorem LoopI.step{head:Th}{t:Th}{lv:WS}{mz:Nat}{Ls:List Lv}(I:LoopI C Dp ins rows head W t H lv mz H4 Ls L)(T:gQ ins rows head W)(Ar:L.ns≠[]){H6 H7:Hp}
 (s6:j! (upd H4 lv (.lst ((Ls.map λL=>i! L.x)++[.ref L.x]))) H6) (Hc:∀b∈B.own,(upd H4 lv (.lst ((Ls.map λL=>i! L.x)++[.ref L.x]))) b=B?)
 (R:RunI C Dp ins rows head (Okd W ins (mz - 1)) H6 L B L.ns.length H7 L' B'):mz - 1<mz/\LoopI C Dp ins rows head W t H lv (mz - 1) H7 (Ls++[L']) B':=by
 have mz1:1<=mz:=by
  cases hL:L.ns with
  |nil=>exact g! hL Ar
  | cons n ns =>
    have h1:=(I.rd n (by rw[hL];exact W2 ..)).tall;have h2:=Th.tall_eq n.t;lia
 obtain⟨l1,l2⟩:=I.lvn;obtain⟨w1,w2,w3⟩:=I.new;generalize Sf:upd H4 lv (.lst ((Ls.map λL=>i! L.x)++[.ref L.x]))=H5 at s6 Hc;have e5:∀b,b≠lv->H5 b=H4 b:=λb hb=>by rw[<-Sf,af hb]
 have IG:H5 lv=A? (.lst ((Ls.map λL=>i! L.x)++[.ref L.x])):=by rw[<-Sf,ae]
 have dL:∀b∈dcts L.ns,b∈L.own:=λb hb=>WR _ (WR _ (WR _ (WR _ hb)))
 have keep:∀b o,H4 b=A? o->b≠lv->b∉L.own->H7 b=A? o:=λb o e hb hL=>by
  have Ol:=(e5 b hb).trans e;refine R.fr b o (λz=>?_) (s6 _ _ Ol);rcases W7.mp z with z|z
  .exact hL (dL b z)
  .rw[Hc b z]at Ol;cases Ol
 have ktd:KTD H4 H7:=by
  have a:KTD H4 H5:=⟨λb xs e=>(e5 b (aA e I.ls (λz=>nomatch z))).trans e,λb xs e=>(e5 b (aA e I.ls (λz=>nomatch z))).trans e⟩;exact(a.trans (KTD.of s6)).trans R.ktd
 have J':∀b∈L.own,∃o,H6 b=A? o:=λb hb=>by
  obtain⟨o,e,_⟩:=cp I.cur hb;exact⟨o,s6 _ _ ((e5 b (λz=>l1 (z ▸ hb))).trans e)⟩
 have Ka:∀M∈Ls,∀b∈M.own,∃o,H6 b=A? o/\H5 b=A? o:=λM hM b hb=>by
  obtain⟨o,e,_⟩:=cp (I.ch.sh M hM) hb;have:=(e5 b (λz=>l2 M hM (z ▸ hb))).trans e;exact⟨o,s6 _ _ this,this⟩
 have hlen:(Ls++[L']).length=Ls.length+1:=by rw[W4];rfl
 refine⟨by lia,λb o e=>keep b o (I.same b o e) (aq e w1) (λz=>by rw[w2 b z]at e;cases e),?_,⟨λM hM=>?_,λk M hk=>?_⟩,R.bn,λm hm=>(R.good m hm).ready T,λM hM b hb hz=>?_,⟨λhz=>?_,λM hM=>?_⟩,⟨w1,λb hb=>?_,λM hM b hb=>?_⟩,?_,by rw[hlen];have:=I.len;lia,?_,λM hM n hn=>?_,λn hn=>.inl (R.good n hn).ok.mem⟩
 .refine(R.fr _ _ (λz=>?_) (s6 _ _ IG)).trans ?_
  .rcases W7.mp z with z|z
   .exact l1 (dL _ z)
   .rw[Hc _ z]at IG;cases IG
  .rw[W5,XG,YS,R.up.x]
 .rcases W7.mp hM with hM|hM
  .exact(I.ch.sh M hM).keep ktd.tup λb hb o e=>keep b o e (λz=>l2 M hM (z ▸ hb)) (I.dis M hM b hb)
  .rw[WY.mp hM];exact R.lv
 .by_cases Au:k<Ls.length
  .rw[XB Au]at hk;have h0:=(I.ch.cl k M hk).mono ktd;unfold nxt at h0 |-;by_cases CH:k+1<Ls.length
   .rw[XB CH];rw[WQ CH]at h0 |-;exact h0
   .have e1:Ls[k+1]?=none:=Yb (by lia);rw[e1]at h0;rw[X0 (by lia),show k+1 - Ls.length=0 by lia];exact h0.grow R.up.grow
  .have AE:=(glE hk);have e1:k=Ls.length:=by lia
   subst e1;rw[X0 (W0 _),Nat.sub_self]at hk;have Ew:L'=M:=Xh hk;rw[<-Ew];unfold nxt;rw[Yb (by lia)];exact R.closed (λn hn=>(I.rd n hn).nd) (λn hn=>(I.rd n hn).kids) I.cnt
 .rcases W7.mp hM with hM|hM
  .obtain⟨o,h6,h5⟩:=Ka M hM b hb;rcases R.fresh b hz with z|z
   .rw[Hc b z]at h5;cases h5
   .rw[z]at h6;cases h6
  .rw[WY.mp hM,R.up.own]at hb;obtain⟨o,h6⟩:=J' b hb;rcases R.fresh b hz with z|z
   .have:=Hc b z;obtain⟨o',e',_⟩:=cp I.cur hb;rw[e5 b (λz=>l1 (z ▸ hb)),e']at this;cases this
   .rw[z]at h6;cases h6
 .rcases R.fresh _ hz with z|z
  .rw[Hc _ z]at IG;cases IG
  .rw[s6 _ _ IG]at z;cases z
 .rcases W7.mp hM with hM|hM
  .exact l2 M hM
  .rw[WY.mp hM,R.up.own];exact l1
 .cases e:H b with
  |none=>rfl
  | some o =>
    have h5:=(e5 b (aq e w1)).trans (I.same b o e);rcases R.fresh b hb with z|z
    .rw[Hc b z]at h5;cases h5
    .rw[s6 _ _ h5]at z;cases z
 .rcases W7.mp hM with hM|hM
  .exact w3 M hM b hb
  .rw[WY.mp hM,R.up.own]at hb;exact w2 b hb
 .obtain⟨L0,n0,h1,h2,h3,h4⟩:=I.top;cases Ls with
  |cons M Ms=>exact⟨L0,n0,h1,h2,h3,h4⟩
  | nil =>
    have IH:L=L0:=Xh h1;subst IH;have hl:=R.up.len;rw[h2]at hl;rcases R.up.ns 0 with⟨_,z⟩|⟨n,sp,z1,z2⟩
    .rw[h2]at z;cases z
    .rw[h2]at z1;have hn:n0=n:=Xh z1;subst hn;refine⟨L',{n0 with sp:=sp},Dn,?_,h3,h4⟩;cases C4:L'.ns with
     |nil=>rw[C4]at hl;cases hl
     | cons a as =>
       rw[C4]at z2 hl;have ha:a={n0 with sp:=sp}:=Xh z2;cases as with
       |nil=>rw[ha]
       |cons b bs=>simp at hl
 .have h1:=bM (m:=W) R.bn.un λu hu=>by
   obtain⟨m',CP,rfl⟩:=Xn.mp hu;exact(R.good m' CP).ok.mem
  have h2:=T.wl;rw[WO]at h1;lia
 .rcases W7.mp hM with h|h
  .exact I.mem M h n hn
  .rw[WY.mp h]at hn;obtain⟨j,hj⟩:=Xk.mp hn;rcases R.up.ns j with⟨z,_⟩|⟨m,sp,z1,z2⟩
   .rw[hj]at z;cases z
   .rw[hj]at z2;cases z2;exact I.mec m (WT z1)
theorem kq{head:Th}(g:aL ins){s:Int}{u:Th}(h:dQ ins rows head s u p)(h':dQ ins rows head s u p'):p=p':=by
 rcases h with⟨h1,h2,_⟩|⟨h0,m,hs,c,j,row,h1,h2,h3,h4⟩
 .rcases h' with⟨_,k2,_⟩|⟨k0,_⟩
  .rw[h2,k2]
  .lia
 .rcases h' with⟨k1,_⟩|⟨_,m',Iy,c',j',Es,k1,k2,k3,k4⟩
  .lia
  .rw[h1]at k1;cases k1;have:=g.nd _ _ _ _ h2 k2 rfl;subst this;rw[h3]at k3;cases k3;rw[h4]at k4;cases k4;rfl
def VRs(ins:List (Xj×Int))(rows:List (List Th))(head:Th)(s:Int)(u:Th)(v:Int):Prop:=∀p o,dQ ins rows head s u p->Out ins rows p u o->v=(o.size:Nat)
def VRt(ins:List (Xj×Int))(rows:List (List Th))(head:Th)(s:Int)(u:Th)(v:Int):Prop:=∀p o,dQ ins rows head s u p->Out ins rows p u o->v=(o.tall:Nat)
def Wvs(p:Th)(f:Int->Int->Int)(v:Int):Prop:=v=(p.kn:Nat)+smC f (callsOf (p.pl []))
def Wvt(p:Th)(f:Int->Int->Int)(v:Int):Prop:=MxC f 0 (callsOf (p.pl [])) (p.tall:Nat) v
theorem MxC.det{f:Int->Int->Int}{d:Int}{cs:List (List Int×Int×Int)}{own a b:Int}(h:MxC f d cs own a)(k:MxC f d cs own b):a=b:=by
 have one:∀{a b:Int},MxC f d cs own a->MxC f d cs own b->a<=b:=λh k=>by
  rcases h.some with e|⟨c,hc,e⟩
  .rw[e];exact k.lo
  .rw[e];exact k.all c hc
 exact Int.le_antisymm (one h k) (one k h)
theorem oM{head:Th}{u:Th}{s c:Int}{oc:Th}(hu:∃n ks,u=.knot n ks)(ho:Out ins rows (.call s c) u oc):∃p' h,dQ ins rows head s h p'/\u.kids[c.toNat]?=A? h/\Out ins rows p' h oc:=by
 obtain⟨n,ks,rfl⟩:=hu;obtain⟨p',h,st,B0⟩:=ho.unstep;exact⟨p',h,st.pat,st.2.2.1,B0⟩
theorem i9{head:Th}{s:Int}{u:Th}(h:dQ ins rows head s u p):∃n ks,u=.knot n ks:=by
 rcases h with⟨_,_,t,h⟩|⟨_,m,hs,_,_,_,h,_⟩
 .exact⟨_,_,h⟩
 .exact⟨_,_,h⟩
theorem xA{head:Th}(g:aL ins)(s:Int)(u p:Th)(f:Int->Int->Int)(v:Int)(hp:dQ ins rows head s u p)(hc:∀c∈callsOf (p.pl []),∀h,u.kids[c.2.2.toNat]?=A? h->VRs ins rows head c.2.1 h (f c.2.1 c.2.2))(hw:Wvs p f v):VRs ins rows head s u v:=λp' o C6 ho=>by
 rw[<-kq g hp C6]at ho;rw[o9 u p [] o ho λc D7 oc GO=>?_]
 .exact hw
 .obtain⟨p2,h,h1,h2,h3⟩:=oM (head:=head) (i9 hp) GO;exact hc c D7 h h2 p2 oc h1 h3
theorem ye{head:Th}(g:aL ins)(s:Int)(u p:Th)(f:Int->Int->Int)(v:Int)(hp:dQ ins rows head s u p)(hc:∀c∈callsOf (p.pl []),∀h,u.kids[c.2.2.toNat]?=A? h->VRt ins rows head c.2.1 h (f c.2.1 c.2.2))(hw:Wvt p f v):VRt ins rows head s u v:=λp' o C6 ho=>by
 rw[<-kq g hp C6]at ho;refine MxC.det hw (oX u p [] o ho λc D7 oc GO=>?_);obtain⟨p2,h,h1,h2,h3⟩:=oM (head:=head) (i9 hp) GO;exact hc c D7 h h2 p2 oc h1 h3
theorem oh(h:CallsE (callsOf (p.pl [])) es):g8 p (dE es):=by
 refine⟨λkv Ac=>?_,λc hc=>?_⟩
 .obtain⟨e,he,rfl⟩:=Xn.mp Ac;obtain⟨c,hc,e2⟩:=h.of e he;exact⟨c,hc,by rw[e2]⟩
 .obtain⟨e,he,e2⟩:=h.to c hc;exact⟨_,Xn.mpr ⟨e,he,Dn⟩,by rw[e2]⟩
theorem CallsE.len{cs:List (List Int×Int×Int)}(h:CallsE cs es):es.length<=cs.length:=by
 have:=bM (m:=cs.map (·.2)) h.nd λk hk=>by
  obtain⟨e,he,rfl⟩:=Xn.mp hk;obtain⟨c,hc,e2⟩:=h.of e he;exact Xn.mpr ⟨c,hc,e2⟩
 rw[WO,WO]at this;exact this
theorem tP{f:Int->Int->Int}{M:Int}(h:DepthE (callsOf (p.pl [])) es)(hm:M∈((p.tall:Nat):Int)::es.map (λe=>e.2+f e.1.1 e.1.2))(ha:∀a∈((p.tall:Nat):Int)::es.map (λe=>e.2+f e.1.1 e.1.2),a<=M):Wvt p f M:=by
 refine⟨ha _ (W2 ..),λc hc=>?_,?_⟩
 .obtain⟨e,he,e2⟩:=h.to c hc;have h1:=h.big c hc e he e2;have h2:=ha _ (WR _ (Xn.mpr ⟨e,he,rfl⟩));rw[e2]at h2;lia
 .rcases Xc.mp hm with e|hm
  .exact .inl e
  .obtain⟨e,he,rfl⟩:=Xn.mp hm;obtain⟨c,hc,e1,e2⟩:=h.at e he;refine .inr ⟨c,hc,?_⟩;rw[e1];lia
mutual
theorem mU:∀(t u k:Th),u∈t.walk->k∈u.kids->k∈t.walk
 | .knot n ks,u,k,hu,hk=>by
   rw[Th.walk]at hu |-;rcases Xc.mp hu with rfl|hu
   .exact WR _ (lZ ks k hk)
   .exact WR _ (lg ks u k hu hk)
 | .call s c,u,k,hu,hk=>by
   rw[Th.walk]at hu;rw[WY.mp hu]at hk;cases hk
theorem lg:∀(ts:List Th)(u k:Th),u∈walks ts->k∈u.kids->k∈walks ts
 | [],u,k,hu,hk=>by rw[walks]at hu;cases hu
 | t::ts,u,k,hu,hk=>by
   rw[walks]at hu |-;rcases W7.mp hu with hu|hu
   .exact Xg _ (mU t u k hu hk)
   .exact Xl _ (lg ts u k hu hk)
theorem lZ:∀(ts:List Th)(k:Th),k∈ts->k∈walks ts
 | [],k,hk=>by cases hk
 | t::ts,k,hk=>by
   rw[walks];rcases Xc.mp hk with rfl|hk
   .exact Xg _ (by rw[B!];exact W2 ..)
   .exact Xl _ (lZ ts k hk)
end
mutual
theorem fT{ks:List (Xj×Int)}{C:Int}:∀(t:Th)(pre:List Int),t.FitS ks S C->∀c∈callsOf (t.pl pre),0<=c.2.1/\c.2.1<S/\0<=c.2.2/\c.2.2<C
 | .call s k,pre,h,c,hc=>by
   rw[fc]at hc;rw[WY.mp hc];rw[G!]at h;exact h
 | .knot n ts,pre,h,c,hc=>by
   rw[eW]at hc;rw[G!]at h;exact j9 ts pre 0 h.2 c hc
theorem j9{ks:List (Xj×Int)}{C:Int}:∀(ts:List Th)(pre:List Int)(i:Int),FitSs ks S C ts->∀c∈callsOf (pls pre i ts),0<=c.2.1/\c.2.1<S/\0<=c.2.2/\c.2.2<C
 | [],pre,i,_,c,hc=>by rw[pls]at hc;cases hc
 | t::ts,pre,i,h,c,hc=>by
   rw[ff]at hc;rw[FitSs]at h;rcases W7.mp hc with hc|hc
   .exact fT t _ h.1 c hc
   .exact j9 ts _ _ h.2 c hc
end
theorem my{d:Nat}{head:Th}(ok:fw ins outs S d head rows){s k:Int}{ks:List Th}(s0:0<=s)(s1:s<S)(k0:0<=k)(k1:k<(ks.length:Int))(hf:∀h∈ks,h.Fit ins):∃p' h,Step ins rows s k ks p' h:=by
 have hk:k.toNat<ks.length:=by lia
 obtain⟨h,hh⟩:∃h,ks[k.toNat]?=A? h:=⟨_,WQ hk⟩;have hl:=ok.len;obtain⟨row,An⟩:∃row,rows[s.toNat]?=A? row:=⟨_,WQ (by lia)⟩;have Mg:=hf h (WT hh);cases h with
 |call a b=>rw[z!]at Mg;exact Mg.elim
 | knot m hs =>
   rw[z!]at Mg;obtain⟨j,hj⟩:=Xk.mp Mg.1;have II:=(ok.row row (WT An)).len;have DK:=(glE hj);obtain⟨p',C6⟩:∃p',row[j]?=A? p':=⟨_,WQ (by lia)⟩;exact⟨p',_,s0,k0,hh,m,hs,_,j,row,Dn,hj,An,C6⟩
theorem nZ{d:Nat}{B6 head:Th}(gi:aL ins)(ok:fw ins outs S d B6 rows)(hS:S<=100){t:Th}(hz:t.size<=40000):gQ ins rows head t.walk:=by
 have Mh:∀u:Th,u.Fit ins->∀k∈u.kids,k.Fit ins:=λu hu k hk=>by
  cases u with
  |call a b=>rw[z!]at hu;exact hu.elim
  |knot m hs=>rw[z!]at hu;exact km hu.2 k hk
 refine⟨λu hu k hk=>mU t u k hu hk,by rw[H!];exact hz,by have:=ok.len;lia,λu hu=>?_,λu hu=>?_,Mh,λu s p hu s0 hp c hc=>?_⟩
 .cases u with
  |call a b=>rw[z!]at hu;exact hu.elim
  | knot m hs =>
    rw[z!]at hu;have:=(gi.num _ hu.1).2;simp only at this;show hs.length<=100;lia
 .cases u with
  |call a b=>rw[z!]at hu;exact hu.elim
  |knot m hs=>exact⟨m,hs,Dn⟩
 .rcases hp with⟨h1,_⟩|⟨_,m,hs,cc,j,row,rfl,hj,An,Vs⟩
  .lia
  .have BE:=hu;rw[z!]at BE;obtain⟨j',Bb⟩:=Xk.mp BE.1;have Vt:=gi.nd _ _ _ _ hj Bb rfl;subst Vt;rw[hj]at Bb;have EU:cc=(hs.length:Int):=h! Prod.snd (Xh Bb);obtain⟨Vu,_⟩:=(ok.row row (WT An)).fit j p _ Vs hj;obtain⟨a1,a2,a3,a4⟩:=fT p [] Vu c hc;simp only at a4;exact my ok a1 a2 a3 (by show c.2.2<((hs.length:Nat):Int);rw[<-EU];exact a4) (Mh _ hu)
theorem fZ:∀(n:Nat)(ts:List Th),ar ts<=n->∀(i:Nat)(p:Th),(walks ts)[i]?=A? p->∃rest,(walks ts).drop i=p.walk++rest
 |_,[],_,i,p,h=>by cases h
 | 0,t::ts,hn,i,p,h=>by
   have:=t.size_pos;rw[ar]at hn;lia
 | n+1,t::ts,hn,i,p,h=>by
   rw[ar]at hn;rw[walks]at h |-;by_cases hi:i<t.walk.length
   .rw[XB hi]at h;rw[List.drop_append_of_le_length (ZQ hi)];rw[t.walk_eq]at h |-;cases i with
    | zero =>
      cases h;rw[Yw,<-t.walk_eq];exact⟨_,Dn⟩
    | succ i =>
      rw[YO]at h;rw[List.drop_succ_cons];have hk:ar t.kids<=n:=by have:=t.size_eq;lia
      obtain⟨r,hr⟩:=fZ n t.kids hk i p h;exact⟨r++walks ts,by rw[hr,X7]⟩
   .rw[X0 (by lia)]at h;have:=t.size_pos;obtain⟨r,hr⟩:=fZ n ts (by lia) _ p h;refine⟨r,?_⟩;rw[List.drop_append,List.drop_eq_nil_of_le (by lia),ZV];exact hr
theorem vY(g:Int->Int->Th)(t:Th)(h:t.walk[i]?=A? p):∃S,bl ((t.walk.map (cB g)).drop i)=p.fill g::S:=by
 have e:walks [t]=t.walk:=by simp[walks]
 obtain⟨r,hr⟩:=fZ _ [t] (W0 _) i p (by rw[e];exact h);rw[e]at hr;rw[<-List.map_drop,hr,W5];have h2:=(il g _ [p] (W0 _) (r.map (cB g))).1;have e2:walks [p]=p.walk:=by simp[walks]
 rw[e2]at h2;exact⟨_,h2⟩
abbrev DPH:=Hp->DP
structure KLT(H H':Hp):Prop where
 tup:∀b xs,H b=A? (.tup xs)->H' b=A? (.tup xs)
 lst:∀b xs,H b=A? (.lst xs)->H' b=A? (.lst xs)
theorem KLT.of(s:j! H H'):KLT H H':=⟨λb xs e=>s _ _ e,λb xs e=>s _ _ e⟩
def ow(DH:DPH):Prop:=∀(H H':Hp)(p:Th)(own:V)(d:WS)(kvs:List (List Key×V)),KLT H H'->DH H p own d kvs->DH H' p own d kvs
theorem j7{DH:DPH}(st:ow DH)(h:DgN (DH H) td H p a)(k:j! H H'):DgN (DH H') td H' p a:=by
 obtain⟨d,own,kvs,h0,h1,h2,h3⟩:=h;exact⟨d,own,kvs,h0,k _ _ h1,k _ _ h2,st _ _ _ _ _ _ (KLT.of k) h3⟩
theorem wB{u:HO}(e:H td=A? (.dT tk)):KLT H (upd H td u):=⟨λb xs h=>by rw[af (aA h e (λz=>nomatch z))];exact h,λb xs h=>by rw[af (aA h e (λz=>nomatch z))];exact h⟩
theorem qY{DH:DPH}(st:ow DH){u:HO}(h:DgN (DH H) td H p a)(e:H td=A? (.dT tk)):DgN (DH (upd H td u)) td (upd H td u) p a:=by
 obtain⟨d,own,kvs,h0,h1,h2,h3⟩:=h.upd (u:=u) e;exact⟨d,own,kvs,h0,h1,h2,st _ _ _ _ _ _ (wB e) h3⟩
def r8(Hs:Hp)(DH:DPH)(D8:Sp)(ok:Th->Prop):Prop:=∀(H1:Hp)(p:Th)(pa:WS)(R:VK),j! Hs H1->At H1 p pa->ok p->(∀(r d:WS)(own:V)(kvs:List (List Key×V))(H2:Hp),j! H1 H2->H1 d=B?->H2 r=A? (.tup [own,.ref d])->H2 d=A? (.dT kvs)->DH H2 p own d kvs->R (.ref r) H2)->D8 [.ref pa] H1 R E0
def KNL(H H':Hp):Prop:=∀b o,H b=A? o->(∀l,o≠.lst l)->(∀d,o≠.dK d)->(∀a u,o≠.frz a u)->H' b=A? o
theorem KNL.of(s:j! H H'):KNL H H':=λb o e _ _ _=>s _ _ e
theorem KNL.trans{A B C:Hp}(h:KNL A B)(k:KNL B C):KNL A C:=λb o e h1 h2 h3=>k b o (h b o e h1 h2 h3) h1 h2 h3
theorem iy{u:HO}(h:∀o,H b=A? o->(∃l,o=.lst l)\/(∃d,o=.dK d)\/∃a u,o=.frz a u):KNL H (upd H b u):=λc o e h1 h2 h3=>by
 by_cases z:c=b
 .rw[z]at e;rcases h o e with⟨l,hl⟩|⟨d,hd⟩|⟨a,u,hf⟩
  .exact g! hl (h1 l)
  .exact g! hd (h2 d)
  .exact g! hf (h3 a u)
 .rw[af z];exact e
def FrX(X:WS->Prop)(H H':Hp):Prop:=∀b o,¬X b->H b=A? o->H' b=A? o
theorem FrX.of{X:WS->Prop}(s:j! H H'):FrX X H H':=λb o _ e=>s _ _ e
theorem FrX.trans{X:WS->Prop}{A B C:Hp}(h:FrX X A B)(k:FrX X B C):FrX X A C:=λb o n e=>k b o n (h b o n e)
structure FoldI(X:WS->Prop)(SI:Hp->List Th->Prop)(VR:List Th->Int->Th->Int->Prop):Prop where
 keep:∀(H H':Hp)(Ts:List Th),SI H Ts->KNL H H'->SI H' Ts
 isD:∀(H:Hp)(Ts:List Th)(b:WS),SI H Ts->X b->∃kv,H b=A? (.dT kv)
 up:∀(Ts By:List Th)(s:Int)(u:Th)(v:Int),Ts <+: By->VR Ts s u v->VR By s u v
theorem FoldI.nx{X:WS->Prop}(I:FoldI X SI VR)(h:SI H Ts)(e:H b=A? o)(ho:∀kv,o≠.dT kv):¬X b:=λz=>by
 obtain⟨kv,hk⟩:=I.isD H Ts b h z;rw[e]at hk;exact ho kv (Xh hk)
theorem FoldI.free{X:WS->Prop}(I:FoldI X SI VR)(h:SI H' Ts)(f:FrX X H H')(e:H' b=B?):H b=none:=by
 cases hb:H b with
 |none=>rfl
 | some o =>
   by_cases z:X b
   .obtain⟨kv,hk⟩:=I.isD H' Ts b h z;rw[e]at hk;cases hk
   .rw[f b o z hb]at e;cases e
theorem pf{X:WS->Prop}(I:FoldI X SI VR){aa:WS}{ask:List (Key×V)}{VW:List Th->Key×V->Int->Prop}{Q:VK}{T0:List Th}
 (Ae:∀R:VK,R (.ref aa) H->tl Y H R) (ha:H aa=A? (.dK ask)) (hlen:ask.length<=10000) (h0:SI H T0) (Vv:∀(Ts By:List Th)(kv:Key×V)(v:Int),Ts <+: By->VW Ts kv v->VW By kv v)
 (hs:∀(i:Nat)(kv:Key×V)(p:WS)(H2:Hp)(R:VK)(Ts:List Th),ask[i]?=A? kv->(∀b o,b≠aa->¬X b->H b=A? o->H2 b=A? o)->SI H2 Ts->T0 <+: Ts->H2 p=A? (.tup [kV kv.1,kv.2])->(∀(v:Int)(pr:WS)(H3:Hp)(By:List Th),FrX X H2 H3->SI H3 By->Ts <+: By->H3 pr=A? (.tup [kV kv.1,.int v])->VW By kv v->R (.ref pr) H3)->g (.ref p) (cσ js Y) H2 λAg H3=>te Ag H3 R)
 (hq:∀(D:WS)(ps:List WS)(prs:List (Key×V))(H2:Hp)(Ts:List Th),FrX X H H2->SI H2 Ts->T0 <+: Ts->H2 D=A? (.lst (ps.map i!))->Xv (PrK H2) prs ps->prs.map (·.1)=ask.map (·.1)->(∀pr∈prs,∃v,pr.2=.int v/\∃kv∈ask,kv.1=pr.1/\VW Ts kv v)->Q (.ref D) H2) :
 jY (rS js (vf tl) g bE te) Y H Q:=by
 refine Ae _ ⟨aa,ask,rfl,ha,λo D hD=>?_⟩;have CG:D≠aa:=λz=>by rw[z,ae]at hD;cases hD
 have J4:H D=none:=by rw[af CG]at hD;exact hD
 refine⟨ask.length,λj H2=>j<=ask.length/\(∀b o,b≠aa->¬X b->H b=A? o->H2 b=A? o)/\H2 aa=A? (.frz o (.dK ask))/\∃(ps:List WS)(prs:List (Key×V))(Ts:List Th),SI H2 Ts/\T0 <+: Ts/\H2 D=A? (.lst (ps.map i!))/\Xv (PrK H2) prs ps/\prs.map (·.1)=(ask.take j).map (·.1)/\∀pr∈prs,∃v,pr.2=.int v/\∃kv∈ask,kv.1=pr.1/\VW Ts kv v,⟨XA _,λb u hb _ e=>by rw[af (aq e J4),af hb];exact e,by rw[af CG.symm,ae],[],[],T0,?_,List.prefix_rfl,ae,.nil,Dn,λpr h=>by cases h⟩,?_⟩
 .refine I.keep _ _ _ h0 ((iy (b:=aa) λo e=>?_).trans (iy λo e=>?_))
  .rw[ha]at e;cases e;exact .inr (.inl ⟨_,rfl⟩)
  .rw[hD]at e;cases e
 rintro j H2 ⟨hj,sb,ed,ps,prs,Ts,Fs,AH,eD,hp,hk,hv⟩;by_cases Dw:j=ask.length
 .left;refine⟨⟨ed,by lia⟩,upd H2 aa (.dK ask),λb=>?_,?_⟩
  .by_cases hb:b=aa
   .rw[hb];exact .inr ⟨o,_,ed,ha,ae⟩
   .exact .inl (af hb)
  .rw[Dw,Zi]at hk;refine hq D ps prs _ Ts (λb u hx e=>?_) (I.keep _ _ _ Fs (iy λu e=>?_)) AH (by rw[af CG];exact eD) (w! (λpr pa e=>?_) hp) hk hv
   .by_cases hb:b=aa
    .rw[hb,ha]at e;rw[hb,ae];exact e
    .rw[af hb];exact sb b u hb hx e
   .rw[ed]at e;cases e;exact .inr (.inr ⟨_,_,rfl⟩)
   .have e':H2 pa=A? (.tup [kV pr.1,pr.2]):=e;show upd H2 aa _ pa=_;rw[af (aA e' ed (λz=>nomatch z))];exact e'
 .right;refine⟨by lia,⟨ed,by lia⟩,?_⟩;rintro x H3 ⟨p,kv,Vw,rfl,rfl,Ac⟩;have s3:j! H2 (upd H2 p (.tup [kV kv.1,kv.2])):=am Vw _;have AF:=W9 hp;have Au:=h! Y3 hk;rw[WO,WO,XC]at Au;refine hs j kv p _ _ Ts Ac (λc u hc hx ec=>s3 _ _ (sb c u hc hx ec)) (I.keep _ _ _ Fs (KNL.of s3)) AH ae λv pr H4 By s4 Om Gv Ft Vx=>?_;have E4:FrX X H2 H4:=(FrX.of s3).trans s4;have IJ:=E4 _ _ (I.nx Fs eD (λ_ z=>nomatch z)) eD;refine⟨_,IJ,lbE (by lia),by lia,λc u hc hx ec=>?_,?_,ps++[pr],prs++[(kv.1,.int v)],By,I.keep _ _ _ Om (iy λu e=>?_),AH.trans Gv,?_,?_,?_,?_⟩
  .rw[af (aq ec J4)];exact E4 _ _ hx (sb c u hc hx ec)
  .rw[af CG.symm];exact E4 _ _ (I.nx Fs ed (λ_ z=>nomatch z)) ed
  .rw[IJ]at e;cases e;exact .inl ⟨_,rfl⟩
  .rw[ae,W5];rfl
  .refine p! (w! (λMi pa e=>?_) hp) (.cons ?_ .nil)
   .have e':H2 pa=A? (.tup [kV Mi.1,Mi.2]):=e;show upd H4 D _ pa=_;rw[af (aA e' eD (λz=>nomatch z))];exact E4 _ _ (I.nx Fs e' (λ_ z=>nomatch z)) e'
   .show upd H4 D _ pr=_;rw[af (aA Ft IJ (λz=>nomatch z))];exact Ft
  .rw[X5,Ac,W5,W5,hk];rfl
  .intro Mi Oo;rcases W7.mp Oo with h|h
   .obtain⟨v',h1,Kb,h2,h3,h4⟩:=hv Mi h;exact⟨v',h1,Kb,h2,h3,Vv _ _ _ _ Gv h4⟩
   .rw[WY.mp h];exact⟨v,Dn,kv,WT Ac,Dn,Vx⟩
end BB
variable{DH:BB.DPH}
namespace BB
open PySem L2
theorem qq(st:ow DH)(h:DgTab (DH H) H ins rows td)(k:j! H H'):DgTab (DH H') H' ins rows td:=by
 obtain⟨tk,e,g⟩:=h;refine⟨tk,k _ _ e,λs c row p kd h1 h2 h3=>?_⟩;obtain⟨da,a1,d,own,kvs,b1,b2,b3⟩:=g s c row p kd h1 h2 h3;exact⟨da,a1,d,own,kvs,k _ _ b1,k _ _ b2,st _ _ _ _ _ _ (KLT.of k) b3⟩
end BB
namespace L2
open PySem
theorem FvOk.lv{k k':Nat}(h:k<=k')(F:FvOk P w K mg base CX k f sp):FvOk P w K mg base CX k' f sp:=⟨F.fn,λA outer s H us vs Q E hr e0 r h'=>F.run A outer s H us vs Q E (hr.mono h) e0 r h'⟩
end L2
namespace BB
open PySem L2
def CtAt(H:Hp)(c:List Int×Int×Int)(a:WS):Prop:=∃ca,H a=A? (.tup [.ref ca,.bl C?])/\H ca=A? (.tup [.int c.2.1,.int c.2.2])
theorem CtAt.mono(k:KT H H'){c:List Int×Int×Int}(h:CtAt H c a):CtAt H' c a:=by
 obtain⟨ca,h1,h2⟩:=h;exact⟨ca,k _ _ h1,k _ _ h2⟩
theorem xX{cs:List (List Int×Int×Int)}(h:Xv (CtAt H) cs as):Xv (PrA H) (cs.map λc=>(ky c.2,V.bl C?)) as:=by
 induction h with
 |nil=>exact .nil
 | cons r _ ih =>
   obtain⟨ca,h1,h2⟩:=r;exact .cons ⟨ca,h1,h2⟩ ih
theorem uc[DecidableEq κ]{kvs:List (κ×V)}{k:κ}(h:aG kvs k=B?):∀kv∈kvs,kv.1≠k:=by
 intro kv Ac e;unfold aG at h;rw[Option.map_eq_none_iff,List.find?_eq_none]at h;exact h kv Ac (by simp[e])
theorem sQ{cs:List (List Int×Int×Int)}(BW:callsOf (p.pl [])=cs):g8 p (dz [] (cs.map λc=>(ky c.2,V.bl C?))):=by
 obtain⟨f1,f2⟩:=jf (R:=λk _=>∃c∈cs,k=ky c.2) (cs.map λc=>(ky c.2,V.bl C?)) [] (λk v hv=>by rw[ve]at hv;cases hv) (λpr BP=>by
  obtain⟨c,hc,rfl⟩:=Xn.mp BP;exact⟨c,hc,Dn⟩)
 refine⟨λkv Ac=>?_,λc hc=>?_⟩
 .have hn:∃v,aG (dz [] (cs.map λc=>(ky c.2,V.bl C?))) kv.1=A? v:=by
   cases h:aG (dz [] (cs.map λc=>(ky c.2,V.bl C?))) kv.1 with
   |some v=>exact⟨v,Dn⟩
   |none=>exact g! rfl (uc h kv Ac)
  obtain⟨v,hv⟩:=hn;rw[BW];exact f1 _ v hv
 .rw[BW]at hc;obtain⟨v,hv⟩:=f2 (ky c.2) (.inr ⟨_,Xn.mpr ⟨c,hc,rfl⟩,rfl⟩);exact⟨_,f9 hv,Dn⟩
def DpP(ea:WS):DPH:=λH p own d kvs=>∃(la:WS)(as:List WS),own=.ref la/\H la=A? (.lst (as.map i!))/\Ats H p.walk as/\g8 p kvs/\d≠ea/\p.size<=10000
end BB
namespace L2
open PySem PySem.Spec PyProof.Rows PySem.W
end L2
namespace BB
open PySem L2
mutual
theorem oK{u:Th}{g:Int->Int->Th}:∀q:Th,(∀s k,A! s k∈q.walk->Out ins rows (.call s k) u (g s k))->Out ins rows q u (q.fill g)
 |.call s k,h=>by rw[Th.fill];exact h s k (by rw[Th.walk];exact W2 ..)
 | .knot n ts,h=>by
   rw[Th.fill];exact .mk (.stop n ts u) (mK ts λs k hm=>h s k (by rw[Th.walk];exact WR _ hm))
theorem mK{u:Th}{g:Int->Int->Th}:∀ts:List Th,(∀s k,A! s k∈walks ts->Out ins rows (.call s k) u (g s k))->Outs ins rows ts u (fills g ts)
 | [],_=>by rw[fills];exact .nil u
 | t::ts,h=>by
   rw[fills];exact .cons (oK t λs k hm=>h s k (by rw[walks];exact Xg _ hm)) (mK ts λs k hm=>h s k (by rw[walks];exact Xl _ hm))
end
def VRo(ins:List (Xj×Int))(rows:List (List Th))(head:Th)(Ts:List Th)(s:Int)(u:Th)(v:Int):Prop:=∃(p o:Th)(j:Nat),dQ ins rows head s u p/\Out ins rows p u o/\v=(j:Nat)/\Ts[j]?=A? o
theorem wD{By:List Th}(h:Ts <+: By){o:Th}(e:Ts[j]?=A? o):By[j]?=A? o:=by
 obtain⟨r,rfl⟩:=h;rw[XB (glE e)];exact e
theorem VRo.up{head:Th}{By:List Th}{s:Int}{u:Th}{v:Int}(h:Ts <+: By)(k:VRo ins rows head Ts s u v):VRo ins rows head By s u v:=by
 obtain⟨p,o,j,h1,h2,h3,h4⟩:=k;exact⟨p,o,j,h1,h2,h3,wD h h4⟩
theorem jb:∀(n:Nat)(ts:List Th),ar ts<=n->∀q∈walks ts,∀x∈q.walk,x∈walks ts
 |_,[],_,q,hq,x,hx=>by cases hq
 | 0,t::ts,hn,q,hq,x,hx=>by
   have:=t.size_pos;rw[ar]at hn;lia
 | n+1,t::ts,hn,q,hq,x,hx=>by
   rw[ar]at hn;rw[walks]at hq |-;rcases W7.mp hq with h|h
   .refine Xg _ ?_;rw[t.walk_eq]at h;rcases Xc.mp h with rfl|h
    .exact hx
    .rw[t.walk_eq];exact WR _ (jb n t.kids (by have:=t.size_eq;lia) q h x hx)
   .have:=t.size_pos;exact Xl _ (jb n ts (by lia) q h x hx)
theorem u8{t q x:Th}(hq:q∈t.walk)(hx:x∈q.walk):x∈t.walk:=by
 have e:walks [t]=t.walk:=by simp[walks]
 have:=jb _ [t] (W0 _) q (by rw[e];exact hq) x hx;rw[e]at this;exact this
theorem qK{head:Th}{s:Int}{u:Th}{f:Int->Int->Int}(hp:dQ ins rows head s u p)(h0:∀c∈callsOf (p.pl []),0<=c.2.1/\0<=c.2.2)(hc:∀c∈callsOf (p.pl []),∃h,u.kids[c.2.2.toNat]?=A? h/\VRo ins rows head Ts c.2.1 h (f c.2.1 c.2.2)) :
 ∃g:Int->Int->Th,(∀a b,A! a b∈p.walk->(∃j:Nat,f a b=(j:Nat)/\Ts[j]?=A? (g a b))/\Out ins rows (.call a b) u (g a b))/\∀q∈p.walk,Out ins rows q u (q.fill g):=by
 classical
 obtain⟨n,ks,rfl⟩:=i9 hp
 have key:∀a b,A! a b∈p.walk->∃o,(∃j:Nat,f a b=(j:Nat)/\Ts[j]?=A? o)/\Out ins rows (.call a b) (.knot n ks) o:=λa b hm=>by
  obtain⟨c,D7,Fj⟩:=rN hm;obtain⟨a0,b0⟩:=h0 c D7;obtain⟨h,hk,p',o,j,h1,h2,h3,h4⟩:=hc c D7;rw[Fj]at a0 b0 hk h1 h3;refine⟨o,⟨j,h3,h4⟩,Out.step (p:=p') (h:=h) ⟨a0,b0,hk,?_⟩ h2⟩;rcases h1 with⟨z,_⟩|⟨_,h1⟩
  .have z':a=-1:=z;have a0':0<=a:=a0;lia
  .exact h1
 refine⟨λa b=>if h:∃o,(∃j:Nat,f a b=(j:Nat)/\Ts[j]?=A? o)/\Out ins rows (.call a b) (.knot n ks) o then h.choose else .call a b,?_,?_⟩
 .intro a b hm;have h:=key a b hm;simp only[dif_pos h];exact h.choose_spec
 .intro q hq;refine oK q λa b hm=>?_;have h:=key a b (u8 hq hm);simp only[dif_pos h];exact h.choose_spec.2
noncomputable def t6(ins:List (Xj×Int))(rows:List (List Th))(head:Th)(s:Int)(u:Th):Th:=open Classical in if h:∃p,dQ ins rows head s u p then h.choose else .call 0 0
noncomputable def xS(ins:List (Xj×Int))(rows:List (List Th))(u q:Th):Th:=open Classical in if h:∃o,Out ins rows q u o then h.choose else q
noncomputable def nz(ins:List (Xj×Int))(rows:List (List Th))(head:Th)(W:List Th)(t:Th):List Th:=(r! YU [t]::W).flatMap λu=>(head.walk++(Yr rows.length).flatMap λs=>(t6 ins rows head ((s:Nat):Int) u).walk).map (xS ins rows u)
theorem wC(g:aL ins){u q o:Th}(h:Out ins rows q u o):xS ins rows u q=o:=by
 unfold xS;rw[dif_pos ⟨o,h⟩];exact rL g (Exists.choose_spec (⟨o,h⟩:∃o,Out ins rows q u o)) h
theorem v9{head:Th}(g:aL ins){s:Int}{u:Th}(h:dQ ins rows head s u p):t6 ins rows head s u=p:=by
 unfold t6;rw[dif_pos ⟨p,h⟩];exact kq g (Exists.choose_spec (⟨p,h⟩:∃p,dQ ins rows head s u p)) h
theorem wA{head:Th}(g:aL ins){t:Th}{s:Int}{u q o:Th}(hp:dQ ins rows head s u p)(hu:InW W t u)(hq:q∈p.walk)(ho:Out ins rows q u o):o∈nz ins rows head W t:=by
 unfold nz;refine List.mem_flatMap.mpr ⟨u,?_,Xn.mpr ⟨q,?_,wC g ho⟩⟩
 .rcases hu with h|h
  .exact WR _ h
  .rw[h];exact W2 ..
 .rcases hp with⟨_,rfl,_⟩|hp
  .exact Xg _ hq
  .obtain⟨h0,m,hs,c,j,row,h1,h2,h3,h4⟩:=hp;refine Xl _ (List.mem_flatMap.mpr ⟨s.toNat,ZL.mpr (glE h3),?_⟩);rw[YA h0,v9 g (head:=head) (p:=p) (.inr ⟨h0,m,hs,c,j,row,h1,h2,h3,h4⟩)];exact hq
theorem j2{f:α->List β}:∀(l:List α),(∀a∈l,(f a).length<=n)->(l.flatMap f).length<=l.length * n
 | [],_=>XA _
 | a::l,h=>by
   rw[List.flatMap_cons,W4,W8,Nat.succ_mul];have h1:=h a (W2 ..);have h2:=j2 l λb hb=>h b (WR _ hb);lia
theorem wH{head:Th}{t:Th}{N:Nat}(hh:head.size<=N)(hN:1<=N)(hr:∀row∈rows,∀p∈row,p.size<=N):(nz ins rows head W t).length<=(W.length+1) * ((rows.length+1) * N):=by
 unfold nz;refine j2 (n:=(rows.length+1) * N) _ λu _=>?_;rw[WO,W4,head.walk_len,Nat.succ_mul]
 have h2:=j2 (f:=λs=>(t6 ins rows head ((s:Nat):Int) u).walk) (n:=N) (Yr rows.length) λs hs=>by
  rw[H!];unfold t6;split
  .rename_i h
   rcases h.choose_spec with⟨_,z,_⟩|⟨_,m,hs,c,j,row,h1,h2,h3,h4⟩
   .rw[z];exact hh
   .exact hr row (WT h3) _ (WT h4)
  .rw[v!];exact hN
 rw[List.length_range]at h2;lia
end BB
namespace L2
open PySem PySem.Spec PySem.Calls PyProof.Rows PySem.W
theorem Fun.okT1{k:Nat}(F:Fun K x qual st f fd)(hc:fd.code=.ref c)(S:cQ N ps (aJ st))(len:∀vs H Q E,sp vs H Q E->vs.length=ps.length)
 (AG:∀(A:XH)(outer:List Env)(s:WZ)(H:Hp)(vs:List V)(Q:VK)(E:XK),Room k (A.deeper (ZN qual (aJ st) s.1.1.size f (.ref c)))->sp vs H Q E ->
  ∃t,PSs (jH (CX1 P w) P w K mg base N qual (aJ st) f (.ref c) A outer s H E) (bF st) t/\t {nx:=λ_ H'=>Q .non H',rt:=Q} (start N vs) H):FnOk P w K mg base (CX1 P w) (k+1) f fd ps sp:=by
 obtain⟨oc,od,kV,doc,pm,an,zZ,ct,D1,rfl,lk,BU⟩:=F.ex;have BA:zZ=.ref c:=hc;subst BA;exact va lk BU S len λA outer s H vs Q E hr Bu=>AG A outer s H vs Q E hr Bu
end L2
namespace BB
open PySem L2
end BB
namespace LAW
open PySem L2 BB
def top(i:Nat):Stmt:=PySem.Challenge.pw_boughbook_k27_whole_four_tellings.main.body.getD i (.Pass ⟨0,0,0,0⟩)
theorem scm{P:List Xj}(a:sc.kind=.function:=by rfl)(b:sc.isCoroutine=false:=by rfl)(c:sc.isGenerator=false:=by rfl)(d:N.Nodup:=by decide +kernel)(e:N.take P.length=P:=by rfl)(f:∀x∈P,sc.names.lookup x=A? .local\/sc.names.lookup x=A? .cell:=by decide +kernel)(g:∀y∈sc.names,y.2≠.free:=by decide +kernel):cQ N P sc:=⟨a,b,c,d,e,f,g⟩
abbrev ND(l:List Xj):Prop:=l.Nodup
abbrev sC(N:List Xj)(k i:Nat):Prop:=cQ N (N.take k) (aJ (top i))
theorem nY:sC ["thing"] 1 6:=scm
theorem o8:sC ["number","bound"] 2 7:=scm
theorem qv:sC ["thing"] 1 8:=scm
theorem fQ:sC ["thing","met","ahead","part"] 1 9:=scm
theorem dB:sC ["thing","met","ahead","place","part","kids"] 1 10:=scm
theorem gZ:sC ["tops","done","top","many"] 1 11:=scm
theorem fe:sC ["tree","level","rows","beneath","part"] 1 12:=scm
theorem mP:sC ["thing","number","kids"] 2 13:=scm
theorem qL:sC ["thing"] 1 16:=scm
theorem qF:sC ["thing"] 1 17:=scm
theorem qr:sC ["thing"] 1 18:=scm
theorem ng:sC ["call"] 1 19:=scm
theorem oZ:sC ["pattern"] 1 20:=scm
theorem qE:sC ["pattern"] 1 21:=scm
theorem oO:sC ["pattern"] 1 22:=scm
theorem tQ:sC ["book"] 1 24:=scm
theorem qO:sC ["book"] 1 25:=scm
theorem oV:sC ["book"] 1 26:=scm
theorem gm:sC ["book","state","name","names"] 3 27:=scm
theorem uL:sC ["tree"] 1 32:=scm
theorem pT:sC ["state"] 1 33:=scm
theorem fV:sC ["book","call","knot","state","kid","handed"] 3 34:=scm
theorem fN:sC ["book","part","knot"] 3 35:=scm
theorem fD:sC ["book","head","tree","tops","ahead","part","knot","row"] 3 36:=scm
theorem tu:sC ["book","tree"] 2 37:=scm
theorem nk:sC ["book","state","tree"] 3 38:=scm
theorem lJ:cQ ["self"] ["self"] (aJ (inClass (top 40) 0)):=scm
theorem iJ:cQ ["self","tree"] ["self","tree"] (aJ (inClass (top 40) 1)):=scm
theorem bW:sC ["book","digest","told","state","patterns","kind","pattern"] 2 41:=scm
theorem b9:sC ["digests","level","number","beneath","tree","spots","own","calls","state","kid","part"] 4 42:=scm
theorem bS:sC ["digests","head","tree","level","top","levels","beneath","number"] 3 43:=scm
theorem bX:sC ["spots","beneath","told","kid","spot","state","value"] 2 44:=scm
theorem cD:sC ["book","head","tree","digest","worth","beneath","level","told","asked","spots","kids"] 5 45:=scm
theorem dX:sC ["pattern","times","place","call"] 1 47:=scm
theorem dP:sC ["pair","counts","own","times"] 2 48:=scm
theorem du:sC ["pattern","depths","place","call"] 1 49:=scm
theorem df:sC ["pair","heights","own","depths"] 2 50:=scm
theorem oW:sC ["book","tree"] 2 51:=scm
theorem nD:sC ["book","tree"] 2 52:=scm
theorem cO:sC ["book","head","tree","place","part","knot","number"] 4 54:=scm
theorem sr:sC ["book","tree","place"] 3 55:=scm
theorem oH:sC ["pattern"] 1 57:=scm
theorem eV:sC ["entries","parts","numbers","done","part","kids"] 3 58:=scm
theorem cF:sC ["row","at","fresh","told","ahead","entry","late"] 2 59:=scm
theorem d5:sC ["tree","entries","at"] 1 60:=scm
abbrev kH:Stmt:=top 61
theorem iP:sC ["book","tree","entries","at"] 2 61:=scm
theorem cX:sC ["pair","row","at","trees","entry"] 1 62:=scm
theorem nC:sC ["script","k"] 2 64:=scm
theorem eZ:sC ["cell","k","near"] 2 65:=scm
theorem aF:sC ["cell","letters","rest","size","more","stem","at","leaf","turn","begun","kinds","k","many","pick","name"] 2 66:=scm
theorem iG:sC ["kinds","cell","leaves"] 2 67:=scm
theorem bG:sC ["cell","outs","states","kids","deep","rest","kind","parts","k"] 5 68:=scm
theorem gC:sC ["left","many","digit"] 2 69:=scm
theorem bu:sC ["left","outs","states","kids","deep","state","some","kind","parts","k"] 5 70:=scm
theorem aW:sC ["cell","ins","outs","states","deep","left","rules","state","row","k"] 5 71:=scm
theorem cI:sC ["cell","ins","outs","states","deep","rules","state","row","k"] 5 72:=scm
theorem g9:sC ["kind","kids","high"] 2 73:=scm
theorem be:sC ["cells","ins","leaf","wide","row","cell","rest","kind","made"] 2 74:=scm
theorem bV:sC ["script","most","deep","ins","outs","cell","book"] 3 75:=scm
theorem fF:sC ["tree","place","found","k"] 3 76:=scm
theorem nh:sC ["tree"] 1 77:=scm
theorem eI:sC ["book","tree","place","refused"] 3 78:=scm
theorem gg:sC ["book","tree","pattern","outcome"] 4 79:=scm
theorem eO:sC ["script","book","tree","count","high","outcome","found","place","part"] 1 80:=scm
structure FX(K:WW)(mg:Xj->Option WV)(n:Xj)(i:Nat)(ps:List Xj) where
 f:WS
 d:YT
 F:Fun K n n (top i) f d
 b:Binds K d ps []
 m:mg n=A? (.ref f)
structure CTX(K:WW)(mg:Xj->Option WV)(n:Xj)(xs:List V) where
 a:WS
 c:mg n=A? (.ref a)
 q:∀H:Hp,SqT K H a xs
structure FT(K:WW)(mg:Xj->Option WV)(n:Xj)(i:Nat)(ps:List Xj) extends FX K mg n i ps where
 tc:WS
 tp:WS
 th:d.code=.ref tc
 t:PySem.W.tabIn K n=A? (tc,tp)
 u:K.lookup tp=B?
structure FM(K:WW)(e:WS)(n q:Xj)(s:Stmt)(ps:List Xj) where
 f:WS
 d:YT
 F:Fun K n q s f d
 b:Binds K d ps []
 me:Meth K e n f
section
open PySem.W
variable{K:Frag}{n q:Xj}{e:WS}{kV dc pm cd ct:WV}{an:Option WS}{sl:Array (Option WV)}{tk:Tok}
abbrev HB(n q:Xj)(st:Stmt)(ps:List Xj):Prop:=∀(kV dc pm:WV)(an:Option WS)(cd ct:WV)(us:List WV),us.length=ps.length->bindArgs (fnOf n q (b7 st) (bF st) (aJ st) .none kV dc pm an cd ct) ⟨us,[]⟩=pure (ps.zip us)
theorem hb1{p0:Xj}(h:∀(kV dc pm:WV)(an:Option WS)(cd ct u0:WV),bindArgs (fnOf n q (b7 st) (bF st) (aJ st) .none kV dc pm an cd ct) ⟨[u0],[]⟩=pure [(p0,u0)]):HB n q st [p0]:=λa b c d e f us hl=>by obtain⟨u0,rfl⟩:=us1 hl;exact h a b c d e f u0
theorem hb2{p0:Xj}(h:∀(kV dc pm:WV)(an:Option WS)(cd ct u0 u1:WV),bindArgs (fnOf n q (b7 st) (bF st) (aJ st) .none kV dc pm an cd ct) ⟨[u0,u1],[]⟩=pure [(p0,u0),(p1,u1)]):HB n q st [p0,p1]:=λa b c d e f us hl=>by obtain⟨u0,u1,rfl⟩:=us2 hl;exact h a b c d e f u0 u1
theorem hb3{p0:Xj}(h:∀(kV dc pm:WV)(an:Option WS)(cd ct u0 u1 u2:WV),bindArgs (fnOf n q (b7 st) (bF st) (aJ st) .none kV dc pm an cd ct) ⟨[u0,u1,u2],[]⟩=pure [(p0,u0),(p1,u1),(p2,u2)]):HB n q st [p0,p1,p2]:=λa b c d e f us hl=>by obtain⟨u0,u1,u2,rfl⟩:=us3 hl;exact h a b c d e f u0 u1 u2
theorem hb4{p0 p3:Xj}(h:∀(kV dc pm:WV)(an:Option WS)(cd ct u0 u1 u2 u3:WV),bindArgs (fnOf n q (b7 st) (bF st) (aJ st) .none kV dc pm an cd ct) ⟨[u0,u1,u2,u3],[]⟩=pure [(p0,u0),(p1,u1),(p2,u2),(p3,u3)]):HB n q st [p0,p1,p2,p3]:=λa b c d e f us hl=>by obtain⟨u0,u1,u2,u3,rfl⟩:=us4 hl;exact h a b c d e f u0 u1 u2 u3
theorem hb5{p0 p3 p4:Xj}(h:∀(kV dc pm:WV)(an:Option WS)(cd ct u0 u1 u2 u3 u4:WV),bindArgs (fnOf n q (b7 st) (bF st) (aJ st) .none kV dc pm an cd ct) ⟨[u0,u1,u2,u3,u4],[]⟩=pure [(p0,u0),(p1,u1),(p2,u2),(p3,u3),(p4,u4)]):HB n q st [p0,p1,p2,p3,p4]:=λa b c d e f us hl=>by obtain⟨u0,u1,u2,u3,u4,rfl⟩:=us5 hl;exact h a b c d e f u0 u1 u2 u3 u4
noncomputable def fm(a:findIn K (.ref e) n=A? (A? (.ref f)):=by k_is)(i:isFn K (.ref f)=true:=by k_is)(l:K.lookup f=A? ⟨oc,od,.func (fnOf n q (b7 st) (bF st) (aJ st) .none kV dc pm an cd ct),sl⟩:=by k_is)(c:codeIn K cd q=true:=by k_is)(k:keepIn K (.ref f)=true:=by k_is)(hb:HB n q (st) ps:=by first|exact LAW.hb1 λ_ _ _ _ _ _ _=>rfl|exact LAW.hb2 λ_ _ _ _ _ _ _ _=>rfl|exact LAW.hb3 λ_ _ _ _ _ _ _ _ _=>rfl|exact LAW.hb4 λ_ _ _ _ _ _ _ _ _ _=>rfl|exact LAW.hb5 λ_ _ _ _ _ _ _ _ _ _ _=>rfl):FM K e n q st ps:=⟨f,_,lj l c k,(lj l c k).binds hb,⟨a,i,k⟩⟩
theorem na(a:findIn K (.ref e) n=A? none:=by k_is):NoAttr K e n:=a
variable(X:K.In h)(G:h.Ns X8 mg)
noncomputable def fx{i:Nat}(a:nsIn K X8 n=A? (A? (.ref f)):=by k_is)(l:K.lookup f=A? ⟨oc,od,.func (fnOf n n (b7 (top i)) (bF (top i)) (aJ (top i)) .none kV dc pm an cd ct),sl⟩:=by k_is)(c:codeIn K cd n=true:=by k_is)(k:keepIn K (.ref f)=true:=by k_is)(hb:HB n n (top i) ps:=by first|exact LAW.hb1 λ_ _ _ _ _ _ _=>rfl|exact LAW.hb2 λ_ _ _ _ _ _ _ _=>rfl|exact LAW.hb3 λ_ _ _ _ _ _ _ _ _=>rfl|exact LAW.hb4 λ_ _ _ _ _ _ _ _ _ _=>rfl|exact LAW.hb5 λ_ _ _ _ _ _ _ _ _ _ _=>rfl):FX K mg n i ps:=⟨f,_,lj l c k,(lj l c k).binds hb,mg_of X G a⟩
noncomputable def ft{i:Nat}{tc tp:WS}{to:YF}(a:nsIn K X8 n=A? (A? (.ref f)):=by k_is)(l:K.lookup f=A? ⟨oc,od,.func (fnOf n n (b7 (top i)) (bF (top i)) (aJ (top i)) .none kV dc pm an cd ct),sl⟩:=by k_is)(c:codeIn K cd n=true:=by k_is)(k:keepIn K (.ref f)=true:=by k_is)(hb:HB n n (top i) ps:=by first|exact LAW.hb1 λ_ _ _ _ _ _ _=>rfl|exact LAW.hb2 λ_ _ _ _ _ _ _ _=>rfl|exact LAW.hb3 λ_ _ _ _ _ _ _ _ _=>rfl|exact LAW.hb4 λ_ _ _ _ _ _ _ _ _ _=>rfl|exact LAW.hb5 λ_ _ _ _ _ _ _ _ _ _ _=>rfl)(e:cd=.ref tc:=by rfl)(v:K.lookup tc=A? to:=by k_is)(x:tabAt to=A? tp:=by rfl)(u:K.lookup tp=none:=by kernel_rfl):FT K mg n i ps:=have t:=yn a l e v x;⟨fx X G a l c k hb,tc,tp,vQ (lj l c k) a t,t,u⟩
include X G
theorem bn(a:nsIn K X8 n=A? none:=by k_is):mg n=none:=mg_none_of X G a
theorem gn(a:nsIn K X8 n=A? (A? (.ref f)):=by k_is):mg n=A? (.ref f):=mg_of X G a
theorem cs(a:nsIn K X8 n=A? (A? (.str x tk)):=by k_is):∃tk,mg n=A? (.str x tk):=⟨tk,mg_of X G a⟩
theorem ci{x:Int}(a:nsIn K X8 n=A? (A? (.int x tk)):=by k_is):∃tk,mg n=A? (.int x tk):=⟨tk,mg_of X G a⟩
noncomputable def ck1{oc:Option WS}{m:Nat}{sc:Array (Option WV)}{x0:Xj}{t0:Tok}(a:nsIn K X8 n=A? (A? (.ref f)):=by k_is)(w:K.lookup f=A? ⟨.type "tuple",oc,.seq #[.str x0 t0] m,sc⟩:=by k_is):CTX K mg n [.str x0]:=⟨f,mg_of X G a,λH=>.inr ⟨_,_,_,w,rfl,rfl,(by show 1<=Xi;decide),.cons ⟨_,rfl⟩ (.nil)⟩⟩
end
theorem pcF{X:Cx}{kk k:Nat}{n:Xj}{st:Nat}{es:List XZ}{t:TA}{p:Z9}(g:FX X.K X.mg n st ps)(F:FnOk X.prog X.w X.K X.mg X.base CX0 k g.f g.d ps sp)(hr:Room kk X.A)(ha:PA X (e::es) t)(hle:k<=kk:=by first|decide|lia)(hg:Gl X n:=by rfl)(C0:(n == ("__debug__":Xj))=false:=by decide)(he:XE (e::es) X.env=(D?,YQ e X.env)::XE es X.env:=by rfl)(AF:(ZC pos (XE es X.env)).any (·.1)=false:=by rfl):PE X (.Call (.Name n p) (e::es) [] pos) (kF sp [] E0 t) :=
 cg F (hr.mono hle) hg g.m g.F.kp g.b .nil dk ha C0 he AF
structure TX(K:WW)(mg:Xj->Option WV) where
 c_CALL_SIGN:∃tk,mg "CALL_SIGN"=A? (.str (W6 "?") tk)
 k_HOLE:CTX K mg "HOLE" [.str (W6 "*")]
 c_MOST_KNOTS:∃tk,mg "MOST_KNOTS"=A? (.int (2000) tk)
 c_TALLEST:∃tk,mg "TALLEST"=A? (.int (150) tk)
 c_HEAD:∃tk,mg "HEAD"=A? (.int (-1) tk)
 e_BookError:WS
 x_BookError:mg "BookError"=A? (.ref e_BookError)
 e_NoPlace:WS
 x_NoPlace:mg "NoPlace"=A? (.ref e_NoPlace)
 e_Great:WS
 x_Great:mg "Great"=A? (.ref e_Great)
 xe_NoPlace:PySem.W.excIn K e_NoPlace [.type "ValueError",.type "Exception",.type "BaseException",.type "object"] "ValueError.__new__"=C?
 xg_NoPlace:Yg K (.ref e_NoPlace) "__getattribute__"=A? (A? (.builtin "BaseException.__getattribute__"))
 xh_NoPlace:Yg K (.ref e_NoPlace) "__getattr__"=A? B?
 xc_NoPlace:Yg K (.ref e_NoPlace) "__class__"=A? (A? (.builtin "object.__class__"))
 xo_NoPlace:PySem.W.mroIn K e_NoPlace (.type "object")=A? C?
 xb_NoPlace:PySem.W.mroIn K e_NoPlace (.type "BaseException")=A? C?
 hit_NoPlace_NoPlace:PySem.W.exmOne K (.ref e_NoPlace) (.ref e_NoPlace)=A? C?
 xe_Great:PySem.W.excIn K e_Great [.type "ValueError",.type "Exception",.type "BaseException",.type "object"] "ValueError.__new__"=C?
 xg_Great:Yg K (.ref e_Great) "__getattribute__"=A? (A? (.builtin "BaseException.__getattribute__"))
 xh_Great:Yg K (.ref e_Great) "__getattr__"=A? B?
 xc_Great:Yg K (.ref e_Great) "__class__"=A? (A? (.builtin "object.__class__"))
 xo_Great:PySem.W.mroIn K e_Great (.type "object")=A? C?
 xb_Great:PySem.W.mroIn K e_Great (.type "BaseException")=A? C?
 hit_Great_NoPlace:PySem.W.exmOne K (.ref e_Great) (.ref e_NoPlace)=A? D?
 g_0:FX K mg "is_number" 6 ["thing"]
 g_1:FX K mg "is_below" 7 ["number","bound"]
 g_2:FX K mg "kids_of" 8 ["thing"]
 g_3:FX K mg "walked" 9 ["thing"]
 g_4:FX K mg "placed" 10 ["thing"]
 g_5:FX K mg "built" 11 ["tops"]
 g_6:FX K mg "tall" 12 ["tree"]
 g_7:FX K mg "kid_at" 13 ["thing","number"]
 g_8:FX K mg "is_call" 16 ["thing"]
 g_9:FX K mg "is_hole" 17 ["thing"]
 g_10:FX K mg "is_knot" 18 ["thing"]
 g_11:FX K mg "called_by" 19 ["call"]
 g_12:FX K mg "knots_of" 20 ["pattern"]
 g_13:FX K mg "tall_of" 21 ["pattern"]
 g_14:FX K mg "calls_in" 22 ["pattern"]
 g_15:FX K mg "ins_of" 24 ["book"]
 g_16:FX K mg "head_of" 25 ["book"]
 g_17:FX K mg "rules_of" 26 ["book"]
 g_18:FX K mg "pattern_of" 27 ["book","state","name"]
 g_19:FX K mg "above" 32 ["tree"]
 g_20:FX K mg "call_of" 33 ["state"]
 g_21:FX K mg "led_on" 34 ["book","call","knot"]
 g_22:FX K mg "resolved" 35 ["book","part","knot"]
 g_23:FX K mg "run" 36 ["book","head","tree"]
 g_24:FX K mg "turned" 37 ["book","tree"]
 g_25:FX K mg "turned_by" 38 ["book","state","tree"]
 g_28:FX K mg "digests_of" 41 ["book","digest"]
 g_29:FX K mg "hand_on" 42 ["digests","level","number","beneath"]
 g_30:FX K mg "levels_of" 43 ["digests","head","tree"]
 g_31:FX K mg "kid_worths" 44 ["spots","beneath"]
 g_32:FX K mg "folded" 45 ["book","head","tree","digest","worth"]
 g_33:FX K mg "times_in" 47 ["pattern"]
 g_34:FX K mg "count_worth" 48 ["pair","counts"]
 g_35:FX K mg "depths_in" 49 ["pattern"]
 g_36:FX K mg "height_worth" 50 ["pair","heights"]
 g_37:FX K mg "count_of" 51 ["book","tree"]
 g_38:FX K mg "height_of" 52 ["book","tree"]
 g_39:FX K mg "name_at" 54 ["book","head","tree","place"]
 g_40:FX K mg "peeked" 55 ["book","tree","place"]
 g_41:FX K mg "parts_in" 57 ["pattern"]
 g_42:FX K mg "entered" 58 ["entries","parts","numbers"]
 g_43:FX K mg "in_order" 59 ["row","at"]
 g_44:FX K mg "shared_row" 60 ["tree"]
 g_45:FT K mg "shared" 61 ["book","tree"]
 g_46:FX K mg "unshared" 62 ["pair"]
 g_47:FX K mg "_law_cell" 64 ["script","k"]
 g_48:FX K mg "_law_turn" 65 ["cell","k"]
 g_49:FX K mg "_law_kinds" 66 ["cell","letters"]
 g_50:FX K mg "_law_leaf" 67 ["kinds","cell"]
 g_51:FX K mg "_law_pattern" 68 ["cell","outs","states","kids","deep"]
 g_52:FX K mg "_law_digit" 69 ["left","many"]
 g_53:FX K mg "_law_by_digits" 70 ["left","outs","states","kids","deep"]
 g_54:FX K mg "_law_book_by_digits" 71 ["cell","ins","outs","states","deep"]
 g_55:FX K mg "_law_book" 72 ["cell","ins","outs","states","deep"]
 g_56:FX K mg "_law_knot" 73 ["kind","kids"]
 g_57:FX K mg "_law_tree" 74 ["cells","ins"]
 g_58:FX K mg "_law_setting" 75 ["script","most","deep"]
 g_59:FX K mg "_law_walked" 76 ["tree","place","found"]
 g_60:FX K mg "_law_high" 77 ["tree"]
 g_61:FX K mg "_law_none" 78 ["book","tree","place"]
 g_62:FX K mg "_law_calls_stand" 79 ["book","tree","pattern","outcome"]
 g_63:FX K mg "law" 80 ["script"]
 e_Level:WS
 x_Level:mg "Level"=A? (.ref e_Level)
 cl_Level:Cls K e_Level
 g_26:FM K e_Level "__init__" "Level.__init__" (inClass (top 40) 0) ["self"]
 g_27:FM K e_Level "spot_of" "Level.spot_of" (inClass (top 40) 1) ["self","tree"]
 mi_Level:PySem.W.makesIn K e_Level=C?/\ZJ K (.ref e_Level)=C?
 na_Level_trees:NoAttr K e_Level "trees"
 na_Level_asked:NoAttr K e_Level "asked"
 na_Level_kid_spots:NoAttr K e_Level "kid_spots"
 n_0:mg "all"=B?
 n_1:mg "bool"=B?
 n_2:mg "dict"=B?
 n_3:mg "enumerate"=B?
 n_4:mg "int"=B?
 n_5:mg "isinstance"=B?
 n_6:mg "len"=B?
 n_7:mg "list"=B?
 n_8:mg "max"=B?
 n_9:mg "numbers"=B?
 n_10:mg "pair"=B?
 n_11:mg "range"=B?
 n_12:mg "reversed"=B?
 n_13:mg "sum"=B?
 n_14:mg "tuple"=B?
 n_15:mg "zip"=B?
theorem TX.X_NoPlace(T:TX K mg):tT K T.e_NoPlace:=⟨T.xe_NoPlace,T.xg_NoPlace,T.xh_NoPlace,T.xc_NoPlace,T.xo_NoPlace,T.xb_NoPlace⟩
theorem TX.X_Great(T:TX K mg):tT K T.e_Great:=⟨T.xe_Great,T.xg_Great,T.xh_Great,T.xc_Great,T.xo_Great,T.xb_Great⟩
theorem y9:ND ["number","kid","place"]:=by decide +kernel
theorem zc:ND ["place","part"]:=by decide +kernel
theorem zO:ND ["part"]:=by decide +kernel
theorem yF:ND ["call","many","counts"]:=by decide +kernel
theorem y8:ND ["call","depth","heights"]:=by decide +kernel
theorem yY:ND ["state","pair","worth","kids"]:=by decide +kernel
theorem yw:ND ["place","call"]:=by decide +kernel
theorem zu:ND ["kid","done"]:=by decide +kernel
theorem yz:ND ["kid","fresh"]:=by decide +kernel
theorem zG:ND ["kid","trees"]:=by decide +kernel
theorem uu:ND ["kind"]:=by decide +kernel
theorem yB:ND ["number","done"]:=by decide +kernel
theorem yQ:ND ["kid","knot","row"]:=by decide +kernel
theorem yO:ND ["kind","deep"]:=by decide +kernel
theorem uY:ND ["kid"]:=by decide +kernel
theorem zf:ND ["k","book","tree","pattern","outcome"]:=by decide +kernel
section
variable(T:TX K mg)
inductive kK(vs:List V)(H:Hp)(Q:VK)(_E:XK):Prop
 |mk (a:WS) (t:Th):vs=[.ref a]->At H t a->(∀(r:WS)(as:List WS)(H':Hp),j! H H'->H' r=A? (.tup (as.map i!))->Ats H' t.kids as->Q (.ref r) H')->kK  vs H Q _E
theorem eJ:FnOk P w K mg base CX0 1 T.g_2.f T.g_2.d ["thing"] kK:=by
 refine T.g_2.F.okA qv λzZ A outer s H vs Q E hr h=>?_;obtain⟨a,t,rfl,hA,k⟩:=h
 refine⟨_,(ag (cb (aI gA (aD aE (pv 0) ai (λ_ _=>rfl)) (bY (v:=.str (W6 "?")) rfl T.c_CALL_SIGN.choose_spec ⟨_,Dn⟩) (aK _)) (aj (ax (aQ ad))) bx)
  (aj (ax (aX fJ (pv 0) (bj ai) bp)))),?_⟩
 try dsimp only[Ak,zY]
 cases t with
 | knot n ks =>
   rw[At]at hA;refine hid λZZ kZ=>?_;obtain⟨hn,as,h1,h2⟩:=hA;refine kZ ?_;refine⟨_,Dn,a,_,0,.str n,Dn,Dn,l! h1,at0,Dn,_,Dn,?_⟩;refine cq (λc=>g! (e! c) (λz=>hn (V.str.inj z))) (λ_=>?_);refine⟨_,Dn,1,Dn,a,_,Dn,l! h1,?_,λr hr=>?_⟩
   .intro z;have:=z.1;simp[t!]at this
   .rw[dH];exact k r as _ (am hr _) ae (h2.mono (fH hr))
 | call sn kn =>
   rw[At]at hA;refine⟨_,Dn,a,_,0,.str q,Dn,Dn,l! hA,at0,Dn,_,Dn,?_⟩;refine cq (λ_=>?_) (λc=>g! (d! rfl) c);refine⟨by show 0<=Xi;decide,λr hr=>?_⟩;exact k r [] _ (am hr _) ae .nil
inductive l5(vs:List V)(H:Hp)(Q:VK)(_E:XK):Prop
 |mk (a:WS) (t:Th):vs=[.ref a]->At H t a->t.size<=100000->(∀(r:WS)(as:List WS)(H':Hp),j! H H'->H r=B?->H' r=A? (.lst (as.map i!))->Ats H' t.walk as->Q (.ref r) H')->l5  vs H Q _E
theorem i4:FnOk P w K mg base CX0 2 T.g_3.f T.g_3.d ["thing"] l5:=by
 refine T.g_3.F.okA fQ λzZ A outer s H vs Q E hr h=>?_;obtain⟨a,t,rfl,hA,hsz,k⟩:=h
 refine⟨_,(ag (ao 1 fQ.nd (aN ad))
  (ag (ao 2 fQ.nd (aN (ac (pv 0) ad)))
  (ag (cY Xw (bH (pv 2) (λ_=>rfl)) (ag (ao 3 fQ.nd (i3 Xb Zp Zo iS (pv 2)))
  (ag (aM (bD Xb Xp Xo aH (pv 1) (ac (pv 3) ad)))
  (aj (aM (bD Xb PySem.F.slot_list_extend PySem.F.type_list_extend kG (pv 2) (ac (rO yi (pcF T.g_2 (eJ T) hr (ac (pv 3) ad))) ad)))))))
  (aj (ax (pv 1)))))),?_⟩
 try dsimp only[Ak,zY]
 refine⟨by show 0<=Xi;decide,λmt Dx=>?_⟩;refine⟨_,Dn,by show 1<=Xi;decide,λah BQ=>?_⟩;have D9:H ah=none:=(am Dx _).free BQ;have Ar:ah≠mt:=λz=>by rw[z,ae]at BQ;cases BQ
 refine⟨λm Y H2=>Ex5 λ(ms as:List WS)(Ms As:List Th)(p:Option V)=>An8 (Y=[A? (.ref a),A? (.ref mt),A? (.ref ah),p]) (j! H H2) (H2 mt=A? (.lst (ms.map i!))) (H2 ah=A? (.lst (as.map i!))) (Ats H2 Ms ms) (Ats H2 As as) (Ms++walks As.reverse=t.walk) (m=ar As),⟨_,[],[a],[],[t],B?,Dn,?_,?_,?_,.nil,.cons (hA.mono ?_) .nil,?_,Dn⟩,?_⟩
 .exact aC (am Dx _) D9
 .rw[af Ar.symm,ae];rfl
 .rw[ae];rfl
 .exact k! (aC (am Dx _) D9)
 .simp[walks]
 rintro m Y H2 ⟨ms,as,Ms,As,p,rfl,sm,e1,e2,a1,a2,hw,rfl⟩
 have hlen:ms.length+ar As<=100000:=by
  have h1:=h! Y3 hw;rw[W4,fW,H!,<-a1.length]at h1;have h2:=l7 As;lia
 refine⟨_,Dn,_,.inl ⟨_,n! e2,Dn⟩,?_⟩;refine cq (λc=>?_) (λc=>?_)
 ·-- a part is taken off
  refine⟨λl' H'=>∃m',m'<ar As/\Ex5 λ(ms as:List WS)(Ms As:List Th)(p:Option V)=>An8 (l'=[A? (.ref a),A? (.ref mt),A? (.ref ah),p]) (j! H H') (H' mt=A? (.lst (ms.map i!))) (H' ah=A? (.lst (as.map i!))) (Ats H' Ms ms) (Ats H' As as) (Ms++walks As.reverse=t.walk) (m'=ar As),λl' H' h=>h,?_⟩;have Bn:as≠[]:=by intro z;subst z;simp at c
  obtain⟨Ai,b,rfl⟩:∃Ai b,as=Ai++[b]:=⟨as.dropLast,as.getLast Bn,(YL Bn).symm⟩;obtain⟨Us,x,rfl,a3,a4⟩:=a2.snoc_inv;have hs:ar (Us++[x])=ar Us+x.size:=by rw[aO,ar,ar];lia
  have IK:=x.size_eq;rw[hs]at hlen;refine⟨_,Dn,.inl ⟨Dn,_,n! e2⟩,ah,_,.ref b,Dn,Dn,e2,by simp,?_⟩;have d1:((Ai++[b]).map i!).dropLast=Ai.map i!:=by simp
  rw[d1];refine⟨_,Dn,.inl ⟨Dn,_,n! (by rw[af Ar.symm];exact e1)⟩,_,Dn,mt,_,.ref b,Dn,Dn,by rw[af Ar.symm];exact e1,lbE (by lia),?_⟩;have k1:KT H2 (upd (upd H2 ah (.lst (Ai.map i!))) mt (.lst (ms.map i!++[.ref b]))):=(aY e2).trans (aY (xs:=ms.map i!) (by rw[af Ar.symm];exact e1));refine⟨_,Dn,.inl ⟨Dn,_,n! (by rw[af Ar,ae])⟩,_,Dn,b,x,Dn,a4.mono k1,λr ks H3 s3 e3 a5=>?_⟩;refine⟨r,_,Dn,l! e3,λl hl=>?_⟩;have l1:l≠ah:=λz=>by rw[z,s3 ah _ (by rw[af Ar,ae])]at hl;cases hl
  have l2:l≠mt:=λz=>by rw[z,s3 mt _ ae]at hl;cases hl
  refine⟨ah,l,_,_,Dn,Dn,by rw[af l1.symm];exact s3 ah _ (by rw[af Ar,ae]),l! ae,ZQ (bc ?_),?_⟩
  .have q1:=a3.length;have q2:=a5.length;have q3:=bO Us;have q4:=bO x.kids;rw[WO,XR,WO];lia
  .have k2:KT H2 (upd (upd H3 l (.tup (ks.map i!).reverse)) ah (.lst (Ai.map i!++(ks.map i!).reverse))) :=
    k1.trans ((k! s3).trans ((fH hl).trans (aY (xs:=Ai.map i!) (by rw[af l1.symm];exact s3 ah _ (by rw[af Ar,ae])))))
   have k3:KT H3 (upd (upd H3 l (.tup (ks.map i!).reverse)) ah (.lst (Ai.map i!++(ks.map i!).reverse))) :=
    (fH hl).trans (aY (xs:=Ai.map i!) (by rw[af l1.symm];exact s3 ah _ (by rw[af Ar,ae])))
   refine⟨ar (Us++x.kids.reverse),?_,ms++[b],Ai++ks.reverse,Ms++[x],Us++x.kids.reverse,A? (.ref b),Dn,?_,?_,?_,?_,?_,?_,Dn⟩
   .rw[aO,l7,hs];lia
   .have s4:j! H (upd (upd H2 ah (.lst (Ai.map i!))) mt (.lst (ms.map i!++[.ref b]))):=aC (aC sm D9) Dx;have nl:H l=none:=s4.free (s3.free hl);exact aC (aC (s4.trans s3) nl) D9
   .rw[af Ar.symm,af l2.symm,s3 mt _ ae,W5];rfl
   .rw[ae,W5,List.map_reverse]
   .exact(a1.mono k2).append (.cons (a4.mono k2) .nil)
   .exact(a3.mono k2).append (a5.mono k3).reverse
   .rw[<-hw,X7,Yq,Yq,Y0,eK];show Ms++([x]++(walks x.kids++walks Us.reverse))=Ms++walks (x::Us.reverse);rw[walks,x.walk_eq];rfl
 .have hz:as=[]:=by
   cases as with
   |nil=>rfl
   |cons y ys=>simp at c
  subst hz;have E5:As=[]:=Ys.mp a2.length.symm;subst E5;refine⟨_,Dn,k mt ms H2 sm Dx e1 ?_⟩;have BF:Ms=t.walk:=by simpa[walks]using hw
  rw[<-BF];exact a1
inductive ma(vs:List V)(H:Hp)(Q:VK)(_E:XK):Prop
 |mk (a:WS) (t:Th):vs=[.ref a]->At H t a->t.size<=100000->t.tall<=100000->(∀(r:WS)(as:List WS)(H':Hp),j! H H'->H r=B?->H' r=A? (.lst (as.map i!))->PsAt H' (t.pl []) as->Q (.ref r) H')->ma  vs H Q _E
theorem sw:FnOk P w K mg base CX0 2 T.g_4.f T.g_4.d ["thing"] ma:=by
 refine T.g_4.F.okA dB λzZ A outer s H vs Q E hr h=>?_;obtain⟨a,t,rfl,hA,hsz,Ae,k⟩:=h
 refine⟨_,(ag (ao 1 dB.nd (aN ad))
  (ag (ao 2 dB.nd (aN (ac (aQ (ac (aQ ad) (ac (pv 0) ad))) ad)))
  (ag (cY Xw (bH (pv 2) (λ_=>rfl)) (ag (de (i3 Xb Zp Zo iS (pv 2)) (bh rfl (au (pgN 3 dB.nd) (au (pgN 4 dB.nd) aT))))
  (ag (aM (bD Xb Xp Xo aH (pv 1) (ac (aQ (ac (pv 3) (ac (pv 4) ad))) ad)))
  (ag (eU (i:=5) (N:=["number","kid","place"]) (js:=[B?,B?,A? 3]) (g:=(pL K 2 (dS (ay 0) (dS (ay 1) oy)))) (tt:=bE) (te:=(qi (bP (tOp (ut K) (bt 2) (qi (bP (bt 0) gb))) (bP (bt 1) gb)))) dB.nd rfl (Or.inl rfl) rfl (cy rfl (by decide +kernel) (by decide +kernel) rfl rfl rfl) (rG rfl T.n_3 (pcF T.g_2 (eJ T) hr (ac (pv 4) ad))) (λ_ _ _ _ _ _=>(bh rfl (au (pgN 0 y9) (au (pgN 1 y9) aT)))) (iW (cz bv (aV rfl) (cz bv (aV rfl) i8))) (λ_ _ _ _ _ _=>bT) (λ_ _ _ _ _ _=>(aQ (ac (av cP (pv 2) (aQ (ac (pv 0) ad))) (ac (pv 1) ad)))))
  (aj (aM (bD Xb PySem.F.slot_list_extend PySem.F.type_list_extend lT (pv 2) (ac (rO vD (pv 5)) ad))))))))
  (aj (ax (pv 1)))))),?_⟩
 try dsimp only[Ak,zY]
 refine⟨lnE rfl,λmt Dx=>?_⟩;have s1:j! H (upd H mt (.lst [])):=am Dx _;have Oq:(upd H mt (.lst [])) mt=A? (.lst []):=ae;generalize upd H mt (.lst [])=H1 at s1 Oq |-;refine⟨lnE rfl,λp0 Vy=>?_⟩;refine⟨_,Dn,lnE rfl,λp1 Dy=>?_⟩;refine⟨lnE rfl,λah BQ=>?_⟩;have s2:j! H1 (upd (upd H1 p0 (.tup [])) p1 (.tup [.ref p0,.ref a])):=(am Vy _).trans (am Dy _);have e1:(upd (upd H1 p0 (.tup [])) p1 (.tup [.ref p0,.ref a])) p1=A? (.tup [.ref p0,.ref a]):=ae;have e0:(upd (upd H1 p0 (.tup [])) p1 (.tup [.ref p0,.ref a])) p0=A? (.tup []):=am Dy _ _ _ ae;generalize(upd (upd H1 p0 (.tup [])) p1 (.tup [.ref p0,.ref a]))=H2 at s2 e1 e0 BQ |-;have Hd:H1 ah=none:=s2.free BQ;have D9:H ah=none:=s1.free Hd;have Ar:ah≠mt:=λz=>by rw[z,Oq]at Hd;cases Hd
 refine⟨λm Y H3=>Ex7 λ(ms as:List WS)(Ms As:List (List Int×Th))(c3 c4 c5:Option V)=>An9 (Y=[A? (.ref a),A? (.ref mt),A? (.ref ah),c3,c4,c5]) (j! H H3) (H3 mt=A? (.lst (ms.map i!))) (H3 ah=A? (.lst (as.map i!))) (PsAt H3 Ms ms) (PsAt H3 As as) (Ms++plP As.reverse=t.pl []) ((∀p∈As,p.1.length+p.2.tall<=100000)) (m=szP As),⟨_,[],[p1],[],[([],t)],B?,B?,B?,Dn,?_,?_,?_,.nil,.cons ⟨p0,a,?_,?_,?_⟩ .nil,?_,?_,Dn⟩,?_⟩
 .exact aC (s1.trans s2) D9
 .rw[af Ar.symm];exact s2 _ _ Oq
 .rw[ae];rfl
 .exact am BQ _ _ _ e1
 .exact am BQ _ _ _ e0
 .exact hA.mono (k! (aC (s1.trans s2) D9))
 .simp[plP]
 .intro p hp;rw[WY]at hp;subst hp;simpa using Ae
 rintro m Y H3 ⟨ms,as,Ms,As,c3,c4,c5,rfl,sm,em,ea,a1,a2,hw,hb,rfl⟩
 have hlen:ms.length+szP As<=100000:=by
  have h1:=h! Y3 hw;rw[W4,rj,J!,rn]at h1;have h2:=W9 a1;lia
 refine⟨_,Dn,_,.inl ⟨_,n! ea,Dn⟩,?_⟩;refine cq (λc=>?_) (λc=>?_)
 .refine⟨λl' H'=>∃m',m'<szP As/\Ex7 λ(ms as:List WS)(Ms As:List (List Int×Th))(c3 c4 c5:Option V)=>An9 (l'=[A? (.ref a),A? (.ref mt),A? (.ref ah),c3,c4,c5]) (j! H H') (H' mt=A? (.lst (ms.map i!))) (H' ah=A? (.lst (as.map i!))) (PsAt H' Ms ms) (PsAt H' As as) (Ms++plP As.reverse=t.pl []) ((∀p∈As,p.1.length+p.2.tall<=100000)) (m'=szP As),λl' H' h=>h,?_⟩;have Bn:as≠[]:=by intro z;subst z;simp at c
  refine hid λZZ kZ=>?_;obtain⟨Ai,b,rfl⟩:∃Ai b,as=Ai++[b]:=⟨as.dropLast,as.getLast Bn,(YL Bn).symm⟩;obtain⟨Us,⟨pre,x⟩,rfl,a3,pa,ta,eb,Bd,BH⟩:=P2.snoc_inv a2;refine kZ ?_;have Sg:szP (Us++[(pre,x)])=szP Us+x.size:=by rw[fh,szP,szP];rfl
  have IK:=x.size_eq;rw[Sg]at hlen;have Vz:=hb (pre,x) (by simp);simp only at Vz Bd BH;refine⟨_,Dn,.inl ⟨Dn,_,n! ea⟩,ah,_,.ref b,Dn,Dn,ea,by simp,?_⟩;have d1:((Ai++[b]).map i!).dropLast=Ai.map i!:=by simp
  rw[d1];have k1:KT H3 (upd H3 ah (.lst (Ai.map i!))):=aY ea;have Gw:j! H (upd H3 ah (.lst (Ai.map i!))):=aC sm D9;have Kc:(upd H3 ah (.lst (Ai.map i!))) mt=A? (.lst (ms.map i!)):=by rw[af Ar.symm];exact em
  have Kd:(upd H3 ah (.lst (Ai.map i!))) ah=A? (.lst (Ai.map i!)):=ae;generalize(upd H3 ah (.lst (Ai.map i!)))=H4 at k1 Gw Kc Kd |-;refine⟨b,_,Dn,l! (k1 _ _ eb),Dn,_,_,Dn,_,_,Dn,Dn,?_⟩
  refine⟨_,Dn,.inl ⟨Dn,_,n! Kc⟩,_,Dn,_,Dn,lnE rfl,λpr BP=>?_⟩;have Ot:mt≠pr:=aq Kc BP;refine⟨mt,_,_,Dn,Dn,am BP _ _ _ Kc,lbE (by lia),?_⟩;have Ou:(upd H4 pr (.tup [.ref pa,.ref ta])) mt=A? (.lst (ms.map i!)):=am BP _ _ _ Kc;have k2:KT H4 (upd (upd H4 pr (.tup [.ref pa,.ref ta])) mt (.lst (ms.map i!++[.ref pr]))):=(fH BP).trans (aY Ou);have Ov:j! H (upd (upd H4 pr (.tup [.ref pa,.ref ta])) mt (.lst (ms.map i!++[.ref pr]))):=aC (aC Gw (Gw.free BP)) Dx;have Sh:(upd (upd H4 pr (.tup [.ref pa,.ref ta])) mt (.lst (ms.map i!++[.ref pr]))) mt=A? (.lst ((ms++[pr]).map i!)):=uAE;have IL:(upd (upd H4 pr (.tup [.ref pa,.ref ta])) mt (.lst (ms.map i!++[.ref pr]))) ah=A? (.lst (Ai.map i!)):=by rw[af Ar,af (aq Kd BP)];exact Kd
  have Ft:(upd (upd H4 pr (.tup [.ref pa,.ref ta])) mt (.lst (ms.map i!++[.ref pr]))) pr=A? (.tup [.ref pa,.ref ta]):=by rw[af Ot.symm,ae]
  generalize(upd (upd H4 pr (.tup [.ref pa,.ref ta])) mt (.lst (ms.map i!++[.ref pr])))=H5 at k2 Ov Sh IL Ft |-;have Ow:KT H3 H5:=k1.trans k2;have Ox:=Ow _ _ Bd
  refine⟨_,Dn,ta,x,Dn,BH.mono Ow,λr ks H6 s6 er AX=>⟨r,Dn,⟨_,l! er⟩,?_⟩⟩;have Au:ks.length=x.kids.length:=AX.length;have IM:=bO x.kids;intro D hD;have Oy:=s6 _ _ Ox;refine⟨ks.length,λj H7=>An3 (j<=ks.length) (j! H6 H7) (Ex1 λ(bs:List WS)=>An2 (H7 D=A? (.lst (bs.map i!))) (PsAt H7 ((d9 pre 0 x.kids).take j) bs)),⟨XA _,am hD _,[],ae,.nil⟩,?_⟩;rintro j H7 ⟨hj,s7,bs,eD,AO⟩;by_cases Dw:j=ks.length
  .left;refine⟨⟨_,l! (s7 _ _ er),by rw[WO];exact Dw.symm⟩,?_⟩;have z9:(d9 pre 0 x.kids).take j=d9 pre 0 x.kids:=by rw[Dw,Au,<-kQ pre 0 x.kids,Zi]
   rw[z9]at AO;have Oz:=s7 _ _ (s6 _ _ IL);have Si:=s7 _ _ (s6 _ _ Sh)
   have Bm:bs.length=x.kids.length:=by
    have:=W9 AO;rw[kQ]at this;exact this.symm
   refine⟨_,Dn,.inl ⟨Dn,_,n! Oz⟩,_,Dn,D,_,Dn,n! eD,λl hl=>?_⟩;have JM:ah≠l:=aq Oz hl;have Fu:mt≠l:=aq Si hl;have Sj:(upd H7 l (.lst (bs.map i!).reverse)) ah=A? (.lst (Ai.map i!)):=by rw[af JM];exact Oz
   have q3:Ai.length=Us.length:=(W9 a3).symm;have q4:=qZ Us;refine⟨ah,l,_,_,Dn,Dn,Sj,ae,ba ?_,?_⟩
   .rw[WO,XR,WO];lia
   have k8:KT H7 (upd (upd H7 l (.lst (bs.map i!).reverse)) ah (.lst (Ai.map i!++(bs.map i!).reverse))):=(fH hl).trans (aY Sj);have Mj:KT H3 (upd (upd H7 l (.lst (bs.map i!).reverse)) ah (.lst (Ai.map i!++(bs.map i!).reverse))):=Ow.trans ((k! (s6.trans s7)).trans k8);refine⟨szP (Us++(d9 pre 0 x.kids).reverse),?_,ms++[pr],Ai++bs.reverse,Ms++[(pre,x)],Us++(d9 pre 0 x.kids).reverse,_,_,_,Dn,?_,?_,?_,?_,?_,?_,?_,Dn⟩
   .rw[fh,rn,oB,Sg];lia
   .exact aC (aC ((Ov.trans s6).trans s7) ((Ov.trans s6).trans s7 |>.free hl)) D9
   .rw[af Ar.symm,af Fu];exact Si
   .rw[ae,W5,List.map_reverse]
   .exact p! (a1.mono Mj) (.cons ⟨pa,ta,k8 _ _ (s7 _ _ (s6 _ _ Ft)),Mj _ _ Bd,BH.mono Mj⟩ .nil)
   .exact p! (PsAt.mono Mj a3) (P2.reverse (PsAt.mono k8 AO))
   .rw[<-hw,X7,Yq,Yq,Y0,kJ,pE];show Ms++([(pre,x)]++(pls pre 0 x.kids++plP Us.reverse))=Ms++plP ((pre,x)::Us.reverse);rw[plP,x.pl_eq pre];rfl
   .intro p hp;rcases W7.mp hp with hp|hp
    .exact hb p (Xg _ hp)
    .obtain⟨g1,g2⟩:=om pre 0 x.kids p (List.mem_reverse.mp hp);have:=nX g2;lia
  .right;have Bb:j<ks.length:=by lia
   refine⟨Bb,⟨_,.ref ks[j],l! (s7 _ _ er),by rw[Xd,WQ Bb];rfl⟩,?_⟩;rintro y H8 ⟨p,v,hp,rfl,rfl,hv⟩;have B4:=hv _ (l! (s7 _ _ er));obtain⟨kd,rfl,Fp⟩:=bq B4;obtain⟨tk,D0,VA⟩:=AX.get Fp;have s8:j! H7 (upd H7 p (.tup [.int (j:Nat),.ref kd])):=am hp _;refine⟨p,_,Dn,l! ae,Dn,_,_,Dn,_,_,Dn,Dn,?_⟩;generalize(upd H7 p (.tup [.int (j:Nat),.ref kd]))=H8 at s8 |-;refine⟨_,Dn,_,Dn,lnE rfl,λn1 Ke=>?_⟩;refine gU Ke λH9 s9 e9=>?_;refine lO (s9 _ _ (s8 _ _ (s7 _ _ Oy))) e9 (by rw[WO];show pre.length+1<=1000000;lia) λn2 Cv BD VB=>?_;refine⟨_,Dn,lnE rfl,λn3 Kf=>?_⟩;have C9:j! H7 (upd Cv n3 (.tup [.ref n2,.ref kd])):=(s8.trans (s9.trans BD)).trans (am Kf _);have Kg:=C9 _ _ eD;refine⟨_,Kg,bc ?_,Bb,?_,bs++[n3],?_,?_⟩
   .have:=W9 AO;rw[XC]at this;rw[WO];lia
   .exact aC (s7.trans C9) hD
   .rw[ae,W5];rfl
   .have Ml:KT (upd Cv n3 (.tup [.ref n2,.ref kd])) (upd (upd Cv n3 (.tup [.ref n2,.ref kd])) D (.lst (bs.map i!++[.ref n3]))):=aY Kg;rw[X5,pD pre 0 x.kids j tk D0];refine p! (PsAt.mono ((k! C9).trans Ml) AO) (.cons ⟨n2,kd,Ml _ _ ae,Ml _ _ (am Kf _ _ _ ?_),?_⟩ .nil)
    .rw[VB,W5,Int.zero_add];rfl
    .exact VA.mono ((k! (s7.trans C9)).trans Ml)
 .have hz:as=[]:=by
   cases as with
   |nil=>rfl
   |cons y ys=>simp at c
  subst hz;have E5:As=[]:=Ys.mp (W9 a2);subst E5;refine⟨_,Dn,k mt ms H3 sm Dx em ?_⟩;have BF:Ms=t.pl []:=by simpa[plP]using hw
  rw[<-BF];exact a1
inductive gO(vs:List V)(H:Hp)(Q:VK)(_E:XK):Prop
 |mk (a:WS) (t:Th):vs=[.ref a]->At H t a->Q (.bl t.isCall) H->gO  vs H Q _E
theorem eF:FnOk P w K mg base CX0 1 T.g_8.f T.g_8.d ["thing"] gO:=by
 refine T.g_8.F.okA qL λzZ A outer s H vs Q E hr h=>?_;obtain⟨a,t,rfl,hA,k⟩:=h;refine⟨_,(aj (ax (eT gA (aD aE (pv 0) ai (λ_ _=>rfl)) (bY (v:=.str (W6 "?")) rfl T.c_CALL_SIGN.choose_spec ⟨_,Dn⟩) (aK _)))),?_⟩
 try dsimp only[Ak,zY]
 cases t with
 | knot n ks =>
   rw[At]at hA;refine hid λZZ kZ=>?_;obtain⟨hn,as,h1,h2⟩:=hA;refine kZ ?_;refine⟨_,Dn,a,_,0,.str n,Dn,Dn,l! h1,at0,Dn,?_⟩;have e:decide (F! n=F! (W6 "?"))=false:=c! (λz=>hn (V.str.inj z));rw[e];exact k
 | call sn kn =>
   rw[At]at hA;refine⟨_,Dn,a,_,0,.str q,Dn,Dn,l! hA,at0,Dn,?_⟩;have e:decide (F! q=F! (W6 "?"))=true:=d! rfl;rw[e];exact k
inductive eY(vs:List V)(H:Hp)(Q:VK)(_E:XK):Prop
 |mk (a:WS) (sn kn:Int):vs=[.ref a]->At H (.call sn kn) a->(∀p,H p=B?->Q (.ref p) (upd H p (.tup [.int sn,.int kn])))->eY  vs H Q _E
theorem fb:FnOk P w K mg base CX0 1 T.g_11.f T.g_11.d ["call"] eY:=by
 refine T.g_11.F.okA ng λzZ A outer s H vs Q E hr h=>?_;obtain⟨a,sn,kn,rfl,hA,k⟩:=h;refine⟨_,(aj (ax (aQ (ac (aD aE (pv 0) ai (λ_ _=>rfl)) (ac (aD aE (pv 0) ai (λ_ _=>rfl)) ad))))),?_⟩
 try dsimp only[Ak,zY]
 rw[At]at hA;exact⟨_,Dn,a,_,1,_,Dn,Dn,l! hA,at1,_,Dn,a,_,2,_,Dn,Dn,l! hA,at2,lnE rfl,λp hp=>k p hp⟩
inductive lb(vs:List V)(H:Hp)(Q:VK)(_E:XK):Prop
 |mk (a:WS) (t:Th):vs=[.ref a]->At H t a->t.tall<=150->Q (.bl t.isHole) H->lb  vs H Q _E
theorem qf:FnOk P w K mg base CX0 1 T.g_9.f T.g_9.d ["thing"] lb:=by
 refine T.g_9.F.okA qF λzZ A outer s H vs Q E hr h=>?_;obtain⟨a,t,rfl,hA,Ae,k⟩:=h;refine⟨_,(aj (ax (eT (yo (B:=150) (eh hr)) (pv 0) (bY (v:=.ref T.k_HOLE.a) rfl T.k_HOLE.c rfl) (aK _)))),?_⟩
 try dsimp only[Ak,zY]
 refine⟨_,Dn,?_⟩;cases t with
 | knot n ks =>
   rw[At]at hA;refine hid λZZ kZ=>?_;obtain⟨hn,as,h1,h2⟩:=hA;refine kZ ?_;rw[q!]at Ae;have hd:=fz ks;refine⟨a,T.k_HOLE.a,_,_,.str n::dvs ks,[.str star],Dn,Dn,l! h1,T.k_HOLE.q _,.cons (by rw[DAt]) h2.dvs,.cons (by rw[DAt];rfl) .nil,by rw[bw,I!];lia,λb hb=>?_⟩
   have e:b=(r! n ks).isHole:=by
    rw[ZY,hb];show _↔decide (n=star/\ks=[])=C?;rw[decide_eq_true_iff];constructor
    .intro z;have z1:=List.cons.inj z;refine⟨Dv.str.inj z1.1,?_⟩;cases ks with
     |nil=>rfl
     |cons x xs=>rw[dvs]at z1;cases z1.2
    .rintro⟨z1,z2⟩;rw[z1,z2,dvs]
   rw[e];exact k
 | call sn kn =>
   rw[At]at hA;refine⟨a,T.k_HOLE.a,_,_,[.str q,.int sn,.int kn],[.str star],Dn,Dn,l! hA,T.k_HOLE.q _,.cons (by rw[DAt]) (.cons (by rw[DAt]) (.cons (by rw[DAt]) .nil)),.cons (by rw[DAt];rfl) .nil,by simp[bw,I!],λb hb=>?_⟩
   have e:b=(A! sn kn).isHole:=by
    show b=D?;cases b with
    |false=>rfl
    |true=>exact g! (hb.mp rfl) (by simp)
   rw[e];exact k
inductive gH(vs:List V)(H:Hp)(Q:VK)(_E:XK):Prop
 |mk (a:WS) (t:Th):vs=[.ref a]->At H t a->t.tall<=150->Q (.bl t.isKnot) H->gH  vs H Q _E
theorem qo:FnOk P w K mg base CX0 2 T.g_10.f T.g_10.d ["thing"] gH:=by
 refine T.g_10.F.okA qr λzZ A outer s H vs Q E hr h=>?_;obtain⟨a,t,rfl,hA,Ae,k⟩:=h;refine⟨_,(aj (ax (qU (qh (pcF T.g_8 (eF T) hr (ac (pv 0) ad))) (qk (qh (pcF T.g_9 (qf T) hr (ac (pv 0) ad))))))),?_⟩
 try dsimp only[Ak,zY]
 refine⟨_,Dn,a,t,Dn,hA,_,Dn,_,Dn,?_⟩;refine cq (λc=>?_) (λc=>?_)
 .refine⟨_,Dn,a,t,Dn,hA,Ae,_,Dn,?_⟩;have e:t.isKnot=!t.isHole:=by unfold D!;rw[c];rfl
  rw[e]at k;exact k
 .have e:t.isKnot=false:=by unfold D!;rw[Bool.eq_false_iff.mpr c];rfl
  rw[e]at k;exact k
inductive jg(vs:List V)(H:Hp)(Q:VK)(_E:XK):Prop
 |mk (a:WS) (t:Th):vs=[.ref a]->At H t a->t.size<=100000->t.tall<=100000->(∀(r:WS)(as:List WS)(H':Hp),j! H H'->H' r=A? (.lst (as.map i!))->CsAt H' (callsOf (t.pl [])) as->Q (.ref r) H')->jg  vs H Q _E
theorem fI:FnOk P w K mg base CX0 3 T.g_14.f T.g_14.d ["pattern"] jg:=by
 refine T.g_14.F.okA oO λzZ A outer s H vs Q E hr h=>?_;obtain⟨a,t,rfl,hA,hsz,Ae,k⟩:=h;refine⟨_,(aj (ax (bZ (N:=["place","part"]) (js:=[B?,B?]) (g:=(pL K 2 (dS (ay 0) (dS (ay 1) oy)))) (tt:=(λY H Q=>(kF gO [] E0 (bP (bt 1) gb)) Y H λx H1=>∃k,vt K x H1 k/\Q k H1)) (te:=(qi (bP (bt 0) (bP (kF eY [] E0 (bP (bt 1) gb)) gb)))) rfl (cy rfl (by decide +kernel) (by decide +kernel) rfl rfl rfl) (cT (pcF T.g_4 (sw T) hr (ac (pv 0) ad))) (λ_ _ _ _ _ _=>(bh rfl (au (pgN 0 zc) (au (pgN 1 zc) aT)))) (iW (cz bv (aV rfl) (cz bv (aV rfl) i8))) (λ_ _ _ _ _ _=>fS (bH (pcF T.g_8 (eF T) hr (ac (pv 1) ad)) (λ_=>rfl))) (λ_ _ _ _ _ _=>(aQ (ac (pv 0) (ac (pcF T.g_11 (fb T) hr (ac (pv 1) ad)) ad))))))),?_⟩
 try dsimp only[Ak,zY]
 refine⟨_,Dn,a,t,Dn,hA,hsz,Ae,λr as H1 s1 nr er BX=>⟨r,Dn,⟨_,n! er⟩,?_⟩⟩;have AL:(t.pl []).length=as.length:=W9 BX;have AF:=J! [] t;intro D hD;refine⟨as.length,λj H2=>An3 (j<=as.length) (j! H1 H2) (Ex1 λ(bs:List WS)=>An2 (H2 D=A? (.lst (bs.map i!))) (CsAt H2 (callsOf ((t.pl []).take j)) bs)),⟨XA _,am hD _,[],ae,.nil⟩,?_⟩;rintro j H2 ⟨hj,s2,bs,eD,AO⟩;by_cases Dw:j=as.length
 .left;refine⟨⟨_,n! (s2 _ _ er),by rw[WO,Dw];exact W0 _⟩,?_⟩;have z9:(t.pl []).take j=t.pl []:=by rw[Dw,<-AL,Zi]
  rw[z9]at AO;exact k D bs H2 (s1.trans s2) eD AO
 .right;have Bb:j<as.length:=by lia
  refine⟨Bb,⟨_,.ref as[j],n! (s2 _ _ er),by rw[Xd,WQ Bb];rfl⟩,?_⟩;rintro y H3 ⟨rfl,hv⟩;have B4:=hv _ (n! (s2 _ _ er));refine hid λZZ kZ=>?_;obtain⟨pr,rfl,BP⟩:=bq B4;obtain⟨⟨p,u⟩,VC,pa,ta,e1,e2,e3⟩:=C! (BX.mono (k! s2)) BP;refine kZ ?_;simp only at e2 e3;have D0:(t.pl []).take (j+1)=(t.pl []).take j++[(p,u)]:=by rw[X5,VC];rfl
  have Bm:bs.length<=j:=by
   have g1:=W9 AO;have g2:=cW ((t.pl []).take j);rw[XC]at g2;lia
  refine⟨pr,_,Dn,l! e1,Dn,_,_,Dn,_,_,Dn,Dn,?_⟩;refine⟨_,Dn,ta,u,Dn,e3,_,Dn,?_⟩;cases u with
  | knot n ks =>
    refine uy ⟨Bb,s2,bs,eD,?_⟩;rw[D0,dG];show CsAt H3 (callsOf ((t.pl []).take j)++[]) bs;rw[Yx];exact AO
  | call sn kn =>
    refine qg ?_;refine⟨_,Dn,_,Dn,ta,sn,kn,Dn,e3,λca Cj=>⟨lnE rfl,λn3 Kf=>?_⟩⟩;have s4:j! H3 (upd (upd H3 ca (.tup [.int sn,.int kn])) n3 (.tup [.ref pa,.ref ca])):=(am Cj _).trans (am Kf _);have IJ:=s4 _ _ eD;refine⟨_,IJ,lbE (by lia),Bb,aC (s2.trans s4) hD,bs++[n3],?_,?_⟩
    .rw[ae,W5];rfl
    .have k5:KT (upd (upd H3 ca (.tup [.int sn,.int kn])) n3 (.tup [.ref pa,.ref ca])) (upd (upd (upd H3 ca (.tup [.int sn,.int kn])) n3 (.tup [.ref pa,.ref ca])) D (.lst (bs.map i!++[.ref n3]))):=aY IJ;rw[D0,dG];exact p! (CsAt.mono ((k! s4).trans k5) AO) (.cons ⟨pa,ca,k5 _ _ ae,k5 _ _ (s4 _ _ e2),k5 _ _ (am Kf _ _ _ ae)⟩ .nil)
inductive nG(vs:List V)(H:Hp)(Q:VK)(_E:XK):Prop
 |mk (a:WS) (t:Th):vs=[.ref a]->At H t a->t.size<=100000->(∀H',j! H H'->Q (.int (t.tall:Nat)) H')->nG  vs H Q _E
theorem vq:FnOk P w K mg base CX0 2 T.g_6.f T.g_6.d ["tree"] nG:=by
 refine T.g_6.F.okA fe λzZ A outer s H vs Q E hr h=>?_;obtain⟨a,t,rfl,hA,hsz,k⟩:=h
 refine⟨_,(ag (ao 1 fe.nd (aN (ac (pv 0) ad)))
  (ag (ao 2 fe.nd ai)
  (ag (cY Xw (bH (pv 1) (λ_=>rfl)) (ag (xo (i:=2) fe.nd rfl (Or.inl rfl) ai xY)
  (ag (ao 3 fe.nd (aN ad))
  (ag (br Xw rfl (cT (pv 1)) (pgN 4 fe.nd) (aj (aM (bD Xb PySem.F.slot_list_extend PySem.F.type_list_extend kG (pv 3) (ac (pcF T.g_2 (eJ T) hr (ac (pv 4) ad)) ad)))))
  (aj (ao 1 fe.nd (pv 3)))))))
  (aj (ax (pv 2)))))),?_⟩
 try dsimp only[Ak,zY]
 refine⟨_,Dn,lnE rfl,λlv IP=>?_⟩;refine⟨λm Y H2=>Ex6 λ(lv:WS)(as:List WS)(Ls:List Th)(r:Int)(c3 c4:Option V)=>An7 (Y=[A? (.ref a),A? (.ref lv),A? (.int r),c3,c4]) (j! H H2) (H2 lv=A? (.lst (as.map i!))) (Ats H2 Ls as) (ar Ls<=100000) (r+(aB Ls:Nat)=(t.tall:Nat)) (m=aB Ls),⟨_,lv,[a],[t],0,B?,B?,Dn,am IP _,ae,.cons (hA.mono (fH IP)) .nil,by rw[ar,ar];lia,by rw[aB,aB];lia,Dn⟩,?_⟩;rintro m Y H2 ⟨lv,as,Ls,r,c3,c4,rfl,s2,Mm,Kh,hz,CI,rfl⟩;refine⟨_,Dn,_,.inl ⟨_,n! Mm,Dn⟩,?_⟩;refine cq (λc=>?_) (λc=>?_)
 .have Ar:Ls≠[]:=by
   intro z;subst z;rw[Ats]at Kh;subst Kh;simp at c
  have ht:=gY Ar;have AX:=eL Ls;have DL:as.length=Ls.length:=Kh.length;refine⟨λl' H'=>∃m',m'<aB Ls/\Ex6 λ(lv:WS)(as:List WS)(Ls:List Th)(r:Int)(c3 c4:Option V)=>An7 (l'=[A? (.ref a),A? (.ref lv),A? (.int r),c3,c4]) (j! H H') (H' lv=A? (.lst (as.map i!))) (Ats H' Ls as) (ar Ls<=100000) (r+(aB Ls:Nat)=(t.tall:Nat)) (m'=aB Ls),λl' H' h=>h,?_⟩;refine⟨_,Dn,_,_,Dn,Dn,?_⟩;refine⟨lnE rfl,λbn Mn=>?_⟩;have Bm:lv≠bn:=aq Mm Mn;refine⟨_,Dn,lv,Dn,⟨_,n! (am Mn _ _ _ Mm)⟩,?_⟩
  refine fL (K:=K) (a:=lv) (xs:=as.map i!) (λi Y H3=>Ex2 λc4 bs=>An4 (Y=[A? (.ref a),A? (.ref lv),A? (.int (r+1)),A? (.ref bn),c4]) (j! H2 H3) (H3 bn=A? (.lst (bs.map i!))) (Ats H3 (bi (Ls.take i)) bs))
   ⟨c4,[],rfl,am Mn _,ae,.nil⟩ (λi Y H3 _⟨_,_,_,s3,_,_⟩=>n! (s3 _ _ Mm)) ?_ ?_
  .rintro i x Y H3 hx ⟨c4,bs,rfl,s3,Mo,AO⟩;obtain⟨xa,rfl,He⟩:=bq hx;obtain⟨tx,Mp,OA⟩:=(Kh.mono (k! s3)).get He;have D0:Ls.take (i+1)=Ls.take i++[tx]:=by rw[X5,Mp];rfl
   refine⟨_,Dn,.inl ⟨Dn,_,n! Mo⟩,_,Dn,xa,tx,Dn,OA,λkr AV H4 s4 VD IQ=>?_⟩;have Ki:=s4 _ _ Mo
   have hle:bs.length+AV.length<=100000:=by
    have g1:=AO.length;have g2:=IQ.length;have g3:(bi (Ls.take (i+1))).length<=ar (bi (Ls.take (i+1))):=bO _;have g4:=eL (Ls.take (i+1));have g5:=gP (i+1) Ls
    have g6:bi (Ls.take (i+1))=bi (Ls.take i)++tx.kids:=by
     rw[D0,fO,cK];show _++(tx.kids++bi [])=_;unfold bi;simp
    rw[g6,W4]at g3;rw[g6]at g4;lia
   refine⟨bn,kr,_,_,Dn,Dn,Ki,l! VD,ba (by rw[WO,WO];lia),?_⟩;have k5:KT H4 (upd H4 bn (.lst (bs.map i!++AV.map i!))):=aY Ki;refine⟨_,bs++AV,Dn,aC (s3.trans s4) Mn,by rw[ae,W5],?_⟩;rw[D0,fO,cK];refine(AO.mono ((k! s4).trans k5)).append ?_;have:tx.kids++bi []=tx.kids:=by unfold bi;simp
   rw[this];exact IQ.mono k5
  .rintro Y H3 ⟨c4,bs,rfl,s3,Mo,AO⟩;rw[WO,DL,Zi]at AO;refine⟨_,Dn,aB (bi Ls),by lia,bn,bs,bi Ls,r+1,_,_,Dn,s2.trans s3,Mo,AO,by lia,by lia,Dn⟩
 .have Ff:as=[]:=by
   cases as with
   |nil=>rfl
   |cons y ys=>simp at c
  subst Ff;have E5:Ls=[]:=Ys.mp Kh.length.symm;subst E5;rw[aB]at CI;refine⟨_,Dn,?_⟩;have:r=((t.tall:Nat):Int):=by lia
  rw[this];exact k H2 s2
def qQ:Sp:=nG
theorem qR:FnOk P w K mg base CX0 3 T.g_13.f T.g_13.d ["pattern"] qQ:=by
 refine T.g_13.F.okA qE λzZ A outer s H vs Q E hr h=>?_;obtain⟨a,t,rfl,hA,hsz,k⟩:=h;refine⟨_,(aj (ax (pcF T.g_6 (vq T) hr (ac (pv 0) ad)))),?_⟩
 try dsimp only[Ak,zY]
 exact⟨_,Dn,a,t,Dn,hA,hsz,k⟩
inductive jt(vs:List V)(H:Hp)(Q:VK)(_E:XK):Prop
 |mk (a:WS) (t:Th):vs=[.ref a]->At H t a->t.size<=100000->t.tall<=150->(∀H',j! H H'->Q (.int ((t.walk.filter D!).length:Nat)) H')->jt  vs H Q _E
theorem oo:FnOk P w K mg base CX0 3 T.g_12.f T.g_12.d ["pattern"] jt:=by
 refine T.g_12.F.okA oZ λzZ A outer s H vs Q E hr h=>?_;obtain⟨a,t,rfl,hA,hsz,Ae,k⟩:=h;refine⟨_,(aj (ax (az aw rfl T.n_6 Xy (ac (bZ (N:=["part"]) (js:=[B?]) (g:=(ay 0)) (tt:=(λY H Q=>(kF gH [] E0 (bP (bt 0) gb)) Y H λx H1=>∃k,vt K x H1 k/\Q k H1)) (te:=(bt 0)) rfl (cy rfl (by decide +kernel) (by decide +kernel) rfl rfl rfl) (cT (pcF T.g_3 (i4 T) hr (ac (pv 0) ad))) (λ_ _ _ _ _ _=>(pgN 0 zO)) (aV rfl) (λ_ _ _ _ _ _=>fS (bH (pcF T.g_10 (qo T) hr (ac (pv 0) ad)) (λ_=>rfl))) (λ_ _ _ _ _ _=>(pv 0))) ad)))),?_⟩
 try dsimp only[Ak,zY]
 refine⟨_,Dn,a,t,Dn,hA,hsz,λr as H1 s1 nr er hw=>⟨r,Dn,⟨_,n! er⟩,?_⟩⟩;have Ds:as.length=t.walk.length:=hw.length;have hwz:=H! t;have Fv:(t.walk.zip as).length=(as.map i!).length:=by rw[List.length_zip,WO];lia
 have Gx:∀(i:Nat)(x:V)(z:Th×WS),(as.map i!)[i]?=A? x->(t.walk.zip as)[i]?=A? z->x=.ref z.2/\At H1 z.1 z.2/\z.1.tall<=150:=by
  intro i x z hx hz;obtain⟨xa,rfl,He⟩:=bq hx;obtain⟨tx,Mp,OA⟩:=hw.get He;rw[Yu]at hz;obtain⟨g1,g2⟩:=hz;rw[Mp]at g1;rw[He]at g2;cases g1;cases g2;refine⟨Dn,OA,?_⟩;have:=tm t z.1 (WT Mp);lia
 refine nb (t.walk.zip as) (λz=>z.1.isKnot) (λz=>.ref z.2) (n! er) Fv (by rw[WO];lia) (λi x z H2 R hx hz sm r=>?_) (λi x z H2 R hx hz _ sm r=>?_) (λD hD=>?_)
 .obtain⟨rfl,g2,g3⟩:=Gx i x z hx hz;exact⟨_,Dn,z.2,z.1,Dn,g2.mono (k! sm),g3,_,Dn,r⟩
 .obtain⟨rfl,g2,g3⟩:=Gx i x z hx hz;exact⟨_,Dn,r⟩
 .refine⟨D,_,Dn,.inl (n! ae),?_⟩
  have e:(((t.walk.zip as).filter λz=>z.1.isKnot).map λz=>i! z.2).length=(t.walk.filter D!).length:=by
   rw[WO];have h1:t.walk=(t.walk.zip as).map Prod.fst:=by rw[List.map_fst_zip (by lia)]
   have h2:t.walk.filter D!=((t.walk.zip as).filter λz=>z.1.isKnot).map Prod.fst:=by
    conv=>lhs;rw[h1]
    rw[List.filter_map];rfl
   rw[h2,WO]
  rw[e];exact k _ (s1.trans (am hD _))
inductive lV(vs:List V)(H:Hp)(Q:VK)(_E:XK):Prop
 |mk (b:WS) (v1 v2 v3 v4:V):vs=[.ref b]->H b=A? (.tup [v1,v2,v3,v4])->Q v1 H->lV  vs H Q _E
inductive ju(vs:List V)(H:Hp)(Q:VK)(_E:XK):Prop
 |mk (b:WS) (v1 v2 v3 v4:V):vs=[.ref b]->H b=A? (.tup [v1,v2,v3,v4])->Q v4 H->ju  vs H Q _E
theorem mE:FnOk P w K mg base CX0 1 T.g_15.f T.g_15.d ["book"] lV:=by
 refine T.g_15.F.okA tQ λzZ A outer s H vs Q E hr h=>?_;obtain⟨b,v1,v2,v3,v4,rfl,e,q⟩:=h;refine⟨_,(aj (ax (aD aE (pv 0) ai (λ_ _=>rfl)))),?_⟩
 try dsimp only[Ak,zY]
 exact⟨_,Dn,b,_,0,v1,Dn,Dn,l! e,at0,q⟩
theorem jn:FnOk P w K mg base CX0 1 T.g_17.f T.g_17.d ["book"] ju:=by
 refine T.g_17.F.okA oV λzZ A outer s H vs Q E hr h=>?_;obtain⟨b,v1,v2,v3,v4,rfl,e,q⟩:=h;refine⟨_,(aj (ax (aD aE (pv 0) ai (λ_ _=>rfl)))),?_⟩
 try dsimp only[Ak,zY]
 exact⟨_,Dn,b,_,3,v4,Dn,Dn,l! e,bL (j:=3) rfl,q⟩
inductive j5(vs:List V)(H:Hp)(Q:VK)(_E:XK):Prop
 |mk (b:WS) (v1 v2 v3 v4:V):vs=[.ref b]->H b=A? (.tup [v1,v2,v3,v4])->Q v3 H->j5  vs H Q _E
inductive pw(vs:List V)(H:Hp)(Q:VK)(_E:XK):Prop
 |mk (v:V):vs=[v]->(∀p,H p=B?->Q (.ref p) (upd H p (.tup [.str (W6 ""),v])))->pw  vs H Q _E
inductive kB(vs:List V)(H:Hp)(Q:VK)(_E:XK):Prop
 |mk (s:Int):vs=[.int s]->(∀p,H p=B?->Q (.ref p) (upd H p (.tup [.str q,.int s,.int 0])))->kB  vs H Q _E
theorem dI:FnOk P w K mg base CX0 1 T.g_16.f T.g_16.d ["book"] j5:=by
 refine T.g_16.F.okA qO λzZ A outer s H vs Q E hr h=>?_;obtain⟨b,v1,v2,v3,v4,rfl,e,q⟩:=h;refine⟨_,(aj (ax (aD aE (pv 0) ai (λ_ _=>rfl)))),?_⟩
 try dsimp only[Ak,zY]
 exact⟨_,Dn,b,_,2,v3,Dn,Dn,l! e,bL (j:=2) rfl,q⟩
theorem kb:FnOk P w K mg base CX0 1 T.g_19.f T.g_19.d ["tree"] pw:=by
 refine T.g_19.F.okA uL λzZ A outer s H vs Q E hr h=>?_;obtain⟨v,rfl,q⟩:=h;refine⟨_,(aj (ax (aQ (ac dh (ac (pv 0) ad))))),?_⟩
 try dsimp only[Ak,zY]
 exact⟨_,Dn,lnE rfl,λp hp=>q p hp⟩
theorem qx:FnOk P w K mg base CX0 1 T.g_20.f T.g_20.d ["state"] kB:=by
 refine T.g_20.F.okA pT λzZ A outer s H vs Q E hr h=>?_;obtain⟨v,rfl,q⟩:=h;refine⟨_,(aj (ax (aQ (ac (bY (v:=.str (W6 "?")) rfl T.c_CALL_SIGN.choose_spec ⟨_,Dn⟩) (ac (pv 0) (ac ai ad)))))),?_⟩
 try dsimp only[Ak,zY]
 exact⟨_,Dn,lnE rfl,λp hp=>q p hp⟩
inductive fB(vs:List V)(H:Hp)(Q:VK)(_E:XK):Prop
 |mk (a:WS) (t:Th):vs=[.ref a]->At H t a->t.size<=10000->t.tall<=150->(∀(r d:WS)(es:CLs)(H':Hp),j! H H'->H d=B?->H' r=A? (.tup [.int ((t.walk.filter D!).length:Nat),.ref d])->H' d=A? (.dT (dE es))->TimesE (callsOf (t.pl [])) es->Q (.ref r) H')->fB  vs H Q _E
inductive eR(vs:List V)(H:Hp)(Q:VK)(_E:XK):Prop
 |mk (a:WS) (t:Th):vs=[.ref a]->At H t a->t.size<=10000->t.tall<=150->(∀(r d:WS)(es:CLs)(H':Hp),j! H H'->H d=B?->H' r=A? (.tup [.int (t.tall:Nat),.ref d])->H' d=A? (.dT (dE es))->DepthE (callsOf (t.pl [])) es->Q (.ref r) H')->eR  vs H Q _E
theorem kT{l:List α}{x:α}(h:l[i]?=A? x):l.take (i+1)=l.take i++[x]:=by rw[X5,h];rfl
theorem pF:FnOk P w K mg base CX0 4 T.g_33.f T.g_33.d ["pattern"] fB:=by
 refine T.g_33.F.okA dX λzZ A outer s H vs Q E hr h=>?_;obtain⟨a,t,rfl,hA,hsz,Ae,k⟩:=h
 refine⟨_,(ag (ao 1 dX.nd dM)
  (ag (br Xw rfl (cT (pcF T.g_14 (fI T) hr (ac (pv 0) ad))) (bh rfl (au (pgN 2 dX.nd) (au (pgN 3 dX.nd) aT))) (aj (dU (cw hr) (pv 1) (pv 3) (av bz (o6 (cw hr) (pv 1) (pv 3) ai ⟨Dn,Dn,Dn,Dn⟩) ai) rfl)))
  (aj (ax (aQ (ac (pcF T.g_12 (oo T) hr (ac (pv 0) ad)) (ac (pv 1) ad))))))),?_⟩
 try dsimp only[Ak,zY]
 intro d hd;dsimp only[ay];refine gU hd λH1 s1 e1=>?_;have e1:H1 d=A? (.dT (dE [])):=e1;refine⟨_,Dn,a,t,Dn,hA.mono (k! s1),by lia,by lia,λr as H2 s2 er BW=>⟨r,Dn,⟨_,n! er⟩,?_⟩⟩;have Af:=W9 BW;have hl:=cW (t.pl []);have AF:=J! [] t;generalize JV:callsOf (t.pl [])=cs at BW Af hl k;have LX:r≠d:=λz=>by rw[z,s2 _ _ e1]at er;cases er
 refine fL (K:=K) (a:=r) (xs:=as.map i!) (λi Y H3=>Ex3 λ(c3 c4:Option V)(es:CLs)=>An7 (Y=[A? (.ref a),A? (.ref d),c3,c4]) (j! H H3) (H3 r=A? (.lst (as.map i!))) (CsAt H3 cs as) (H3 d=A? (.dT (dE es))) (es.length<=i) (TimesE (cs.take i) es))
  ⟨B?,B?,[],rfl,s1.trans s2,er,BW,s2 _ _ e1,W0 _,by rw[Zm];exact TimesE.nil⟩ (λi Y H3 _⟨_,_,_,_,_,e,_,_,_,_⟩=>n! e) ?_ ?_
 .rintro i x Y H3 hx ⟨c3,c4,es,rfl,s3,Ck,Df,DQ,hlen,AR⟩;refine hid λZZ kZ=>?_;obtain⟨ca,rfl,Cj⟩:=bq hx;obtain⟨⟨pl,sn,kn⟩,hc,pa,OB,ec,ep,Hf⟩:=C! Df Cj;refine kZ ?_;have BO:i<10000:=by have:=(glE hc);lia
  refine⟨ca,_,Dn,l! ec,Dn,_,_,Dn,_,_,Dn,Dn,?_⟩;dsimp only[ay];have Kj:H3 OB=A? (.tup ((ky (sn,kn)).map kV)):=Hf;refine⟨_,Dn,d,Dn,.inr ⟨_,.inl DQ⟩,_,Dn,_,DGet.t DQ Kj,?_⟩;rw[nA];have hg:((cv es (sn,kn)).map o!).getD (.int 0)=.int ((cv es (sn,kn)).getD 0):=by cases cv es (sn,kn) <;> rfl
  rw[hg];refine⟨_,_,Dn,Dn,_,Dn,_,Dn,d,_,Dn,DPut.t DQ Kj (bc (by unfold dE;rw[WO];lia)),?_⟩;rw[rf];have k6:KT H3 (upd H3 d (.dT (dE (d3 es (sn,kn) ((cv es (sn,kn)).getD 0+1))))):=λb xs e=>by rw[af (aA e DQ (λz=>nomatch z))];exact e
  refine⟨_,_,_,Dn,aC s3 hd,by rw[af LX];exact Ck,Df.mono k6,ae,?_,?_⟩
  .have:=ox es (sn,kn) ((cv es (sn,kn)).getD 0+1);lia
  .rw[kT hc];exact AR.put (pl,sn,kn)
 .rintro Y H3 ⟨c3,c4,es,rfl,s3,Ck,Df,DQ,hlen,AR⟩;rw[Yi (by rw[WO];lia)]at AR;refine⟨_,Dn,a,t,Dn,hA.mono (k! s3),by lia,Ae,λH4 s4=>⟨_,Dn,lnE rfl,λp hp=>?_⟩⟩;have s5:=am hp (.tup [.int ((t.walk.filter D!).length:Nat),.ref d]);exact k p d es _ (s3.trans (s4.trans s5)) hd ae (s5 _ _ (s4 _ _ DQ)) AR
theorem m7:FnOk P w K mg base CX0 4 T.g_35.f T.g_35.d ["pattern"] eR:=by
 refine T.g_35.F.okA du λzZ A outer s H vs Q E hr h=>?_;obtain⟨a,t,rfl,hA,hsz,Ae,k⟩:=h
 refine⟨_,(ag (ao 1 du.nd dM)
  (ag (br Xw rfl (cT (pcF T.g_14 (fI T) hr (ac (pv 0) ad))) (bh rfl (au (pgN 2 du.nd) (au (pgN 3 du.nd) aT))) (aj (dU (cw hr) (pv 1) (pv 3) (az (iR rfl) rfl T.n_8 Zq (ac (az aw rfl T.n_6 Xy (ac (pv 2) ad)) (ac (o6 (cw hr) (pv 1) (pv 3) ai ⟨Dn,Dn,Dn,Dn⟩) ad))) rfl)))
  (aj (ax (aQ (ac (pcF T.g_13 (qR T) hr (ac (pv 0) ad)) (ac (pv 1) ad))))))),?_⟩
 try dsimp only[Ak,zY]
 intro d hd;dsimp only[ay];refine gU hd λH1 s1 e1=>?_;have e1:H1 d=A? (.dT (dE [])):=e1;refine⟨_,Dn,a,t,Dn,hA.mono (k! s1),by lia,by lia,λr as H2 s2 er BW=>⟨r,Dn,⟨_,n! er⟩,?_⟩⟩;have Af:=W9 BW;have hl:=cW (t.pl []);have AF:=J! [] t;generalize JV:callsOf (t.pl [])=cs at BW Af hl k;have LX:r≠d:=λz=>by rw[z,s2 _ _ e1]at er;cases er
 refine fL (K:=K) (a:=r) (xs:=as.map i!) (λi Y H3=>Ex3 λ(c3 c4:Option V)(es:CLs)=>An7 (Y=[A? (.ref a),A? (.ref d),c3,c4]) (j! H H3) (H3 r=A? (.lst (as.map i!))) (CsAt H3 cs as) (H3 d=A? (.dT (dE es))) (es.length<=i) (DepthE (cs.take i) es))
  ⟨B?,B?,[],rfl,s1.trans s2,er,BW,s2 _ _ e1,W0 _,by rw[Zm];exact DepthE.nil⟩ (λi Y H3 _⟨_,_,_,_,_,e,_,_,_,_⟩=>n! e) ?_ ?_
 .rintro i x Y H3 hx ⟨c3,c4,es,rfl,s3,Ck,Df,DQ,hlen,AR⟩;refine hid λZZ kZ=>?_;obtain⟨ca,rfl,Cj⟩:=bq hx;obtain⟨⟨pl,sn,kn⟩,hc,pa,OB,ec,ep,Hf⟩:=C! Df Cj;refine kZ ?_;have BO:i<10000:=by have:=(glE hc);lia
  refine⟨ca,_,Dn,l! ec,Dn,_,_,Dn,_,_,Dn,Dn,?_⟩;dsimp only[ay];have Kj:H3 OB=A? (.tup ((ky (sn,kn)).map kV)):=Hf;refine⟨_,Dn,pa,_,Dn,.inr (l! ep),_,Dn,d,Dn,.inr ⟨_,.inl DQ⟩,_,Dn,_,DGet.t DQ Kj,?_⟩;rw[nA];have hg:((cv es (sn,kn)).map o!).getD (.int 0)=.int ((cv es (sn,kn)).getD 0):=by cases cv es (sn,kn) <;> rfl
  rw[hg];refine⟨_,_,Dn,?_⟩;simp only[WO];refine⟨_,Dn,_,Dn,d,_,Dn,DPut.t DQ Kj (bc (by unfold dE;rw[WO];lia)),?_⟩;rw[rf];generalize hv:(if(cv es (sn,kn)).getD 0 > ((pl.length:Nat):Int)then(cv es (sn,kn)).getD 0 else((pl.length:Nat):Int))=v;have k6:KT H3 (upd H3 d (.dT (dE (d3 es (sn,kn) v)))):=λb xs e=>by rw[af (aA e DQ (λz=>nomatch z))];exact e
  refine⟨_,_,_,Dn,aC s3 hd,by rw[af LX];exact Ck,Df.mono k6,ae,?_,?_⟩
  .have:=ox es (sn,kn) v;lia
  .rw[kT hc,<-hv];exact AR.put (pl,sn,kn)
 .rintro Y H3 ⟨c3,c4,es,rfl,s3,Ck,Df,DQ,hlen,AR⟩;rw[Yi (by rw[WO];lia)]at AR;refine⟨_,Dn,a,t,Dn,hA.mono (k! s3),by lia,λH4 s4=>⟨_,Dn,lnE rfl,λp hp=>?_⟩⟩;have s5:=am hp (.tup [.int (t.tall:Nat),.ref d]);exact k p d es _ (s3.trans (s4.trans s5)) hd ae (s5 _ _ (s4 _ _ DQ)) AR
inductive dN(vs:List V)(H:Hp)(Q:VK)(_E:XK):Prop
 |mk (pa d ca:WS) (own:Int) (es:CLs) (Aw:List (List Key×V)) (f:Int->Int->Int):vs=[.ref pa,.ref ca]->H pa=A? (.tup [.int own,.ref d])->H d=A? (.dT (dE es))->H ca=A? (.dT Aw)->d≠ca->es.length<=10000->(∀e∈es,0<=e.2/\e.2<=10000/\aG Aw (ky e.1)=A? (.int (f e.1.1 e.1.2)))->(∀H',j! H H'->Q (.int (own+smE f es)) H')->dN  vs H Q _E
inductive cZ(vs:List V)(H:Hp)(Q:VK)(_E:XK):Prop
 |mk (pa d ca:WS) (own:Int) (es:CLs) (Aw:List (List Key×V)) (f:Int->Int->Int):vs=[.ref pa,.ref ca]->H pa=A? (.tup [.int own,.ref d])->H d=A? (.dT (dE es))->H ca=A? (.dT Aw)->d≠ca->es.length<=10000->(∀e∈es,aG Aw (ky e.1)=A? (.int (f e.1.1 e.1.2)))->(∀(H':Hp)(M:Int),j! H H'->M∈own::es.map (λe=>e.2+f e.1.1 e.1.2)->(∀a∈own::es.map (λe=>e.2+f e.1.1 e.1.2),a<=M)->Q (.int M) H')->cZ  vs H Q _E
theorem jX:FnOk P w K mg base CX0 2 T.g_34.f T.g_34.d ["pair","counts"] dN:=by
 refine T.g_34.F.okA dP λzZ A outer s H vs Q E hr h=>?_;obtain⟨pa,d,ca,own,es,Aw,f,rfl,Bd,ed,Dz,Gn,hlen,AR,k⟩:=h
 refine⟨_,(ag (de (pv 0) (bh rfl (au (pgN 2 dP.nd) (au (pgN 3 dP.nd) aT))))
  (aj (ax (av bz (pv 2) (az (uO rfl) rfl T.n_13 PyProof.Rows.boot_sum (ac (nj (bZ (N:=["call","many","counts"]) (js:=[B?,B?,A? 1]) (g:=(pL K 2 (dS (ay 0) (dS (ay 1) oy)))) (tt:=bE) (te:=(tOp (rI CMul λi j=>.int (i * j)) (bt 1) (r9 (bt 2) (bt 0)))) rfl (cy rfl (by decide +kernel) (by decide +kernel) rfl rfl rfl) (mG (pv 3)) (λ_ _ _ _ _ _=>(bh rfl (au (pgN 0 yF) (au (pgN 1 yF) aT)))) (iW (cz bv (aV rfl) (cz bv (aV rfl) i8))) (λ_ _ _ _ _ _=>bT) (λ_ _ _ _ _ _=>(av dF (pv 1) (dW (cw hr) (pv 2) (pv 0) (λ_ _=>rfl)))))) ad)))))),?_⟩
 try dsimp only[Ak,zY]
 refine⟨_,Dn,pa,_,Dn,l! Bd,Dn,_,_,Dn,_,_,Dn,Dn,?_⟩;dsimp only[ay];refine⟨_,Dn,?_⟩;change jY _ _ _ _;refine jq (d:=d) (es:=es) (val:=λe=>e.2 * f e.1.1 e.1.2) (λR hR=>⟨_,rfl,hR⟩) ed hlen (λi e p b H2 R he sb ep eb hR=>?_) (λD H2 s2 eD=>?_)
 .obtain⟨h1,h2,h3⟩:=AR e (WT he);refine⟨p,_,Dn,l! ep,Dn,_,_,Dn,_,_,Dn,Dn,?_⟩;dsimp only[ay];exact⟨_,Dn,_,Dn,_,Dn,ca,_,Dn,by have:=DGet.t (sb _ _ Gn.symm Dz) eb;rw[h3]at this;exact this,_,_,Dn,Dn,.inl ⟨by lia,by lia⟩,hR⟩
 .exact⟨D,_,Dn,n! eD,_,_,Dn,Dn,k H2 s2⟩
theorem jJ:FnOk P w K mg base CX0 2 T.g_36.f T.g_36.d ["pair","heights"] cZ:=by
 refine T.g_36.F.okA df λzZ A outer s H vs Q E hr h=>?_;obtain⟨pa,d,ca,own,es,Aw,f,rfl,Bd,ed,Dz,Gn,hlen,AR,k⟩:=h
 refine⟨_,(ag (de (pv 0) (bh rfl (au (pgN 2 df.nd) (au (pgN 3 df.nd) aT))))
  (aj (ax (az (iI rfl) rfl T.n_8 Zq (ac (av gI (aN (ac (pv 2) ad)) (nj (bZ (N:=["call","depth","heights"]) (js:=[B?,B?,A? 1]) (g:=(pL K 2 (dS (ay 0) (dS (ay 1) oy)))) (tt:=bE) (te:=(tOp (rI0 λi j=>.int (i+j)) (bt 1) (r9 (bt 2) (bt 0)))) rfl (cy rfl (by decide +kernel) (by decide +kernel) rfl rfl rfl) (mG (pv 3)) (λ_ _ _ _ _ _=>(bh rfl (au (pgN 0 y8) (au (pgN 1 y8) aT)))) (iW (cz bv (aV rfl) (cz bv (aV rfl) i8))) (λ_ _ _ _ _ _=>bT) (λ_ _ _ _ _ _=>(av bz (pv 1) (dW (cw hr) (pv 2) (pv 0) (λ_ _=>rfl))))))) ad))))),?_⟩
 try dsimp only[Ak,zY]
 refine⟨_,Dn,pa,_,Dn,l! Bd,Dn,_,_,Dn,_,_,Dn,Dn,?_⟩;dsimp only[ay];refine⟨_,Dn,lnE rfl,λl hl=>?_⟩;refine gU hl λH1 s1 e1=>?_;refine jq (d:=d) (es:=es) (val:=λe=>e.2+f e.1.1 e.1.2) (λR hR=>⟨_,rfl,hR⟩) (s1 _ _ ed) hlen (λi e p b H2 R he sb ep eb hR=>?_) (λD H2 s2 eD=>?_)
 .have h3:=AR e (WT he);refine⟨p,_,Dn,l! ep,Dn,_,_,Dn,_,_,Dn,Dn,?_⟩;dsimp only[ay];exact⟨_,Dn,_,Dn,_,Dn,ca,_,Dn,by have:=DGet.t (sb _ _ Gn.symm (s1 _ _ Dz)) eb;rw[h3]at this;exact this,_,_,Dn,Dn,hR⟩
 .refine⟨l,D,_,_,Dn,Dn,s2 _ _ e1,eD,by refine ba ?_;rw[WO,WO,YH];lia,λr CI=>?_⟩;refine⟨r,own::es.map (λe=>e.2+f e.1.1 e.1.2),Dn,n! (by rw[ae];rfl),by simp,λM hM z9=>k _ M (s1.trans (s2.trans (am CI _))) hM z9⟩
theorem vk{k:Nat}(hr:L2.Room k A):A.units+148+4<Zb:=by
 have:=eh hr;lia
inductive gw(C:WS)(vs:List V)(H:Hp)(Q:VK)(_E:XK):Prop
 |mk (x dx:WS):vs=[.ref x]->H x=A? (.ins C dx [])->(∀(tl al kl:WS)(H':Hp),SameB x H H'->H tl=B?->H al=B?->H kl=B?->tl≠al->tl≠kl->al≠kl->H' x=A? (.ins C dx (lvF tl al kl))->H' tl=A? (.lst [])->H' al=A? (.lst [])->H' kl=A? (.lst [])->Q .non H')->gw C vs H Q _E
inductive d8(C:WS)(vs:List V)(H:Hp)(Q:VK)(_E:XK):Prop
 |mk (L:Lv) (ta:WS) (t:Th):vs=[.ref L.x,.ref ta]->LvSh C H L->At H t ta->t.tall<=140->(∀n∈L.ns,n.t.tall<=140)->L.ns.length<=50000->(∀(L':Lv)(j:Nat)(n:Nd)(H':Hp),LvSh C H' L'->(L'=L\/∃aa ka,H aa=B?/\H ka=B?/\L'=L.add t ta aa ka)->L'.ns[j]?=A? n->n.t=t->FrB [L.tl,L.al,L.kl] H H'->Q (.int (j:Nat)) H')->d8 C vs H Q _E
theorem gq:FnOk P w K mg base CX0 1 T.g_26.f T.g_26.d ["self"] (gw T.e_Level):=by
 refine T.g_26.F.okA lJ λzZ A outer s H vs Q E hr h=>?_;obtain⟨x,dx,rfl,ex,q⟩:=h
 refine⟨_,(ag (p8 (pv 0) (aN ad) rfl)
  (ag (p8 (pv 0) (aN ad) rfl)
  (aj (p8 (pv 0) (aN ad) rfl)))),?_⟩
 try dsimp only[Ak,zY]
 refine⟨lnE rfl,λtl Ae=>?_⟩;have Hh:x≠tl:=λz=>by rw[<-z,ex]at Ae;cases Ae
 refine⟨_,Dn,x,T.e_Level,dx,_,Dn,by rw[af Hh];exact ex,T.cl_Level,T.na_Level_trees,(by show 0<1000;decide),?_⟩;refine⟨lnE rfl,λal AL=>?_⟩;have Kk:x≠al:=λz=>by rw[<-z,ae]at AL;cases AL
 have Mq:tl≠al:=λz=>by rw[<-z,af Hh.symm,ae]at AL;cases AL
 rw[af Kk.symm,af Mq.symm]at AL;refine⟨_,Dn,x,T.e_Level,dx,_,Dn,by rw[af Kk];exact ae,T.cl_Level,T.na_Level_asked,(by show 1<1000;decide),?_⟩;refine⟨lnE rfl,λkl Au=>?_⟩;have Mr:x≠kl:=λz=>by rw[<-z,ae]at Au;cases Au
 have OC:al≠kl:=λz=>by rw[<-z,af Kk.symm,ae]at Au;cases Au
 have OD:tl≠kl:=λz=>by rw[<-z,af Hh.symm,af Mq,af Hh.symm,ae]at Au;cases Au
 rw[af Mr.symm,af OC.symm,af Mr.symm,af OD.symm]at Au;refine⟨_,Dn,x,T.e_Level,dx,_,Dn,by rw[af Mr];exact ae,T.cl_Level,T.na_Level_kid_spots,(by show 2<1000;decide),?_⟩;refine q tl al kl _ (λb o hb e=>?_) Ae AL Au Mq OD OC ?_ ?_ ?_ ?_
 .rw[af hb,af (aq e Au),af hb,af (aq e AL),af hb,af (aq e Ae)];exact e
 .rw[ae];exact h! A? (h! (HO.ins T.e_Level dx) (v8 tl al kl))
 .rw[af Hh.symm,af OD,af Hh.symm,af Mq,af Hh.symm,ae]
 .rw[af Kk.symm,af OC,af Kk.symm,ae]
 .rw[af Mr.symm,ae]
theorem ej:FnOk P w K mg base CX0 2 T.g_27.f T.g_27.d ["self","tree"] (d8 T.e_Level):=by
 refine T.g_27.F.okA iJ λzZ A outer s H vs Q E hr h=>?_;obtain⟨L,ta,t,rfl,hL,hA,Ae,BL,hlen,k⟩:=h
 refine⟨_,(ag (cb (aI (si (B:=150) (eh hr)) (pv 1) (cJ (pv 0) rfl) (by with_unfolding_all rfl)) (ag (aM (bD Xb Xp Xo aH (cJ (pv 0) rfl) (ac (pv 1) ad)))
  (ag (aM (bD Xb Xp Xo aH (cJ (pv 0) rfl) (ac jU ad)))
  (aj (aM (bD Xb Xp Xo aH (cJ (pv 0) rfl) (ac jU ad)))))) bx)
  (aj (ax (bD Xb PySem.F.slot_list_index PySem.F.type_list_index (sW (B:=148) (vk hr)) (cJ (pv 0) rfl) (ac (pv 1) ad))))),?_⟩
 try dsimp only[Ak,zY]
 have Fw:∀a b:Th,a.dv=b.dv->a=b:=λa b=>Th.dv_inj
 have Av:∀u∈L.ns.map (·.t),u.tall<=140:=λu hu=>by
  obtain⟨n,hn,rfl⟩:=Xn.mp hu;exact BL n hn
 have VE:(L.ns.map λn=>i! n.ta).length<Xi:=lbE (by lia);refine ck (λl' H'=>An2 (l'=[A? (.ref L.x),A? (.ref ta)]) (Ex1 λ(L':Lv)=>An5 (LvSh T.e_Level H' L') ((L'=L\/∃aa ka,H aa=B?/\H ka=B?/\L'=L.add t ta aa ka)) (t∈L'.ns.map (·.t)) (At H' t ta) (FrB [L.tl,L.al,L.kl] H H'))) (λkk hk=>?_) ?_
 .refine bN (λb H'=>An2 (H=H') ((b=C?↔t∉L.ns.map (·.t)))) (λk2 AE=>?_) (λH' hb=>?_) (λH' hb=>?_)
  .refine⟨_,Dn,_,Dn,L.x,T.e_Level,L.dx,_,_,Dn,hL.ins,T.cl_Level,T.na_Level_trees,mJ _ _ _,L.tl,_,_,_,Dn,n! hL.tl,At.dv hA,hL.dats,X2 (fj Av) (by decide),λr hr=>⟨r,Dn,AE _ _ ⟨Dn,hr.trans (not_congr ⟨λz=>?_,λz=>Xn.mpr ⟨_,z,Dn⟩⟩)⟩⟩⟩;obtain⟨u,hu,e⟩:=Xn.mp z;exact Fw _ _ e ▸ hu
  .obtain⟨rfl,hb⟩:=hb;have Bv:=hb.mp rfl;refine⟨_,Dn,L.x,T.e_Level,L.dx,_,_,Dn,hL.ins,T.cl_Level,T.na_Level_trees,mJ _ _ _,.inl ⟨Dn,_,n! hL.tl⟩,_,Dn,L.tl,_,_,Dn,Dn,hL.tl,VE,?_⟩;have nxt:L.x≠L.tl:=aA hL.ins hL.tl (λz=>nomatch z);have VF:L.x≠L.al:=aA hL.ins hL.al (λz=>nomatch z);have nxk:L.x≠L.kl:=aA hL.ins hL.kl (λz=>nomatch z);have f1:FrB [L.tl,L.al,L.kl] H (upd H L.tl (.lst ((L.ns.map λn=>i! n.ta)++[.ref ta]))):=FrB.set (W2 ..);have x1:(upd H L.tl (.lst ((L.ns.map λn=>i! n.ta)++[.ref ta]))) L.x=_:=(af nxt).trans hL.ins;have a1:(upd H L.tl (.lst ((L.ns.map λn=>i! n.ta)++[.ref ta]))) L.al=_:=(af hL.n1.symm).trans hL.al;have k1:(upd H L.tl (.lst ((L.ns.map λn=>i! n.ta)++[.ref ta]))) L.kl=_:=(af hL.n2.symm).trans hL.kl;have t1:(upd H L.tl (.lst ((L.ns.map λn=>i! n.ta)++[.ref ta]))) L.tl=A? (.lst ((L.ns.map λn=>i! n.ta)++[.ref ta])):=ae
   have g1:∀b,(upd H L.tl (.lst ((L.ns.map λn=>i! n.ta)++[.ref ta]))) b=B?->H b=none:=λb e=>by
    by_cases z:b=L.tl
    .rw[z,ae]at e;cases e
    .rw[af z]at e;exact e
   generalize(upd H L.tl (.lst ((L.ns.map λn=>i! n.ta)++[.ref ta])))=H1 at f1 x1 a1 k1 t1 g1 |-;refine⟨_,Dn,L.x,T.e_Level,L.dx,_,_,Dn,x1,T.cl_Level,T.na_Level_asked,pP _ _ _,.inl ⟨Dn,_,n! a1⟩,λaa DR=>⟨L.al,_,_,Dn,Dn,(am DR _) _ _ a1,lbE (by lia),?_⟩⟩;have Sk:=g1 _ DR;have q1:L.tl≠aa:=λz=>by rw[<-z,t1]at DR;cases DR
   have q2:L.al≠aa:=λz=>by rw[<-z,a1]at DR;cases DR
   have q3:L.kl≠aa:=λz=>by rw[<-z,k1]at DR;cases DR
   have q4:L.x≠aa:=λz=>by rw[<-z,x1]at DR;cases DR
   have f2:FrB [L.tl,L.al,L.kl] H (upd (upd H1 aa (.dK [])) L.al (.lst ((L.ns.map λn=>i! n.aa)++[.ref aa]))):=f1.trans ((FrB.of (am DR _)).trans (FrB.set (WR _ (W2 ..))));have x2:(upd (upd H1 aa (.dK [])) L.al (.lst ((L.ns.map λn=>i! n.aa)++[.ref aa]))) L.x=_:=(af VF).trans ((af q4).trans x1);have k2:(upd (upd H1 aa (.dK [])) L.al (.lst ((L.ns.map λn=>i! n.aa)++[.ref aa]))) L.kl=_:=(af hL.n3.symm).trans ((af q3).trans k1);have t2:(upd (upd H1 aa (.dK [])) L.al (.lst ((L.ns.map λn=>i! n.aa)++[.ref aa]))) L.tl=_:=(af hL.n1).trans ((af q1).trans t1);have a2:(upd (upd H1 aa (.dK [])) L.al (.lst ((L.ns.map λn=>i! n.aa)++[.ref aa]))) L.al=_:=ae;have d2:(upd (upd H1 aa (.dK [])) L.al (.lst ((L.ns.map λn=>i! n.aa)++[.ref aa]))) aa=A? (.dK []):=(af q2.symm).trans ae
   have g2:∀b,(upd (upd H1 aa (.dK [])) L.al (.lst ((L.ns.map λn=>i! n.aa)++[.ref aa]))) b=B?->H b=none:=λb e=>by
    by_cases z:b=L.al
    .rw[z,ae]at e;cases e
    .rw[af z]at e;by_cases z2:b=aa
     .rw[z2,ae]at e;cases e
     .rw[af z2]at e;exact g1 _ e
   generalize(upd (upd H1 aa (.dK [])) L.al (.lst ((L.ns.map λn=>i! n.aa)++[.ref aa])))=H2 at f2 x2 k2 t2 a2 d2 g2 |-;refine⟨_,Dn,L.x,T.e_Level,L.dx,_,_,Dn,x2,T.cl_Level,T.na_Level_kid_spots,u9 _ _ _,.inl ⟨Dn,_,n! k2⟩,λka AB=>⟨L.kl,_,_,Dn,Dn,(am AB _) _ _ k2,lbE (by lia),?_⟩⟩;have Sl:=g2 _ AB;have r1:L.tl≠ka:=λz=>by rw[<-z,t2]at AB;cases AB
   have r2:L.al≠ka:=λz=>by rw[<-z,a2]at AB;cases AB
   have r3:L.kl≠ka:=λz=>by rw[<-z,k2]at AB;cases AB
   have r4:aa≠ka:=λz=>by rw[<-z,d2]at AB;cases AB
   have f3:FrB [L.tl,L.al,L.kl] H (upd (upd H2 ka (.dK [])) L.kl (.lst ((L.ns.map λn=>i! n.ka)++[.ref ka]))):=f2.trans ((FrB.of (am AB _)).trans (FrB.set (WR _ (WR _ (W2 ..)))));have Fx:=hL.add f3 Sk Sl r4 hA Bv ((af hL.n2).trans ((af r1).trans t2)) ((af hL.n3).trans ((af r2).trans a2)) ae ((af q3.symm).trans ((af r4).trans d2)) ((af r3.symm).trans ae);exact hk _ _ ⟨rfl,_,Fx,.inr ⟨aa,ka,Sk,Sl,rfl⟩,by show t∈(L.ns++[_]).map _;simp,Fx.tr ⟨t,ta,aa,ka,[],[]⟩ (Xl _ (WY.mpr rfl)),f3⟩
  .obtain⟨rfl,hb⟩:=hb;have Cu:t∈L.ns.map (·.t):=Classical.byContradiction λz=>by cases hb.mpr z
   exact hk _ _ ⟨rfl,L,hL,.inl rfl,Cu,hA,FrB.refl⟩
 rintro l' H' ⟨rfl,L',Fx,D6,Cu,Mt,hf⟩;refine hid λZZ kZ=>?_;obtain⟨n,hn,DA⟩:=Xn.mp Cu;obtain⟨j,hj⟩:=Xk.mp hn;refine kZ ?_;have hx:L'.x=L.x:=by rcases D6 with rfl|⟨_,_,_,_,rfl⟩ <;> rfl
 have Cn:L'.ns.length<=100000/\∀u∈L'.ns.map (·.t),u.tall<=140:=by
  rcases D6 with rfl|⟨aa,ka,_,_,rfl⟩
  .exact⟨by lia,Av⟩
  .refine⟨by show(L.ns++[_]).length<=_;rw[W4,YH];lia,λu hu=>?_⟩;have BE:u∈(L.ns++[(⟨t,ta,aa,ka,[],[]⟩:Nd)]).map (λn:Nd=>n.t):=hu;rw[W5]at BE;rcases W7.mp BE with h|h
   .exact Av u h
   .have:u=t:=by simpa using h
    rw[this];exact Ae
 have Gy:((L'.ns.map (·.t)).map M!)[j]?=A? t.dv:=by rw[Xd,Xd,hj,<-DA];rfl
 have VG:=mX Fw Fx.un;exact⟨_,Dn,L.x,T.e_Level,L'.dx,_,_,Dn,by rw[<-hx];exact Fx.ins,T.cl_Level,T.na_Level_trees,mJ _ _ _,.inl ⟨Dn,_,n! Fx.tl⟩,_,Dn,L'.tl,_,_,_,_,j,Dn,Dn,n! Fx.tl,At.dv Mt,Fx.dats,X2 (fj Cn.2) (by decide),Gy,λi hi e=>g! (kO VG e Gy) (by lia),by rw[WO,WO];exact Cn.1,k L' j n H' Fx D6 hj DA hf⟩
inductive gh(P:Xm)(w:XD)(K:WW)(mg:Xj->Option WV)(base:X3)(vs:List V)(H:Hp)(Q:VK)(_E:XK):Prop
 |mk (b f:WS) (ins outs:List (Xj×Int)) (head:Th) (rows:List (List Th)) (D8:Sp) (DH:DPH) (ok:Th->Prop):vs=[.ref b,.ref f]->Bk H ins outs head rows b->aL ins->rows.length<=100->(∀row∈rows,row.length=ins.length/\∀p∈row,ok p)->FvOk P w K mg base CX0 4 f D8->r8 H DH D8 ok->ow DH->(∀(td:WS)(H':Hp),j! H H'->DgTab (DH H') H' ins rows td->Q (.ref td) H')->gh P w K mg base vs H Q _E
theorem lQ:FnOk P w K mg base CX0 5 T.g_28.f T.g_28.d ["book","digest"] (gh P w K mg base):=by
 refine T.g_28.F.okA bW λzZ A outer s H vs Q E hr h=>?_;obtain⟨b,f,ins,outs,head,rows,D8,DH,ok,rfl,hB,gi,II,Ay,Mu,Fy,BV,k⟩:=h;refine hid λZZ kZ=>?_;obtain⟨ia,oa,ha,ra,Al,Ap,Aq,hB⟩:=hB;refine kZ ?_
 refine⟨_,(ag (ao 2 bW.nd dM)
  (ag (br Xw rfl (rG rfl T.n_3 (pcF T.g_17 (jn T) hr (ac (pv 0) ad))) (bh rfl (au (pgN 3 bW.nd) (au (pgN 4 bW.nd) aT))) (aj (br Xw rfl (xC rfl T.n_15 (ac (pcF T.g_15 (mE T) hr (ac (pv 0) ad)) (ac (pv 4) ad))) (bh rfl (au (pgN 5 bW.nd) (au (pgN 6 bW.nd) aT))) (aj (dU (cw hr) (pv 2) (aQ (ac (pv 3) (ac (aD aE (pv 5) ai (λ_ _=>rfl)) ad))) (kj (k:=4) (i:=1) rfl (Or.inl rfl) (hr.mono (by first|decide|lia)) dk (ac (pv 6) ad)) rfl)))))
  (aj (ax (pv 2))))),?_⟩
 try dsimp only[Ak,zY]
 intro td Sm;dsimp only[ay];refine gU Sm λH1 s1 e1=>?_;have VH:rows.length=Aq.length:=W9 hB.rw;have VI:ins.length=Al.length:=W9 hB.inK;refine⟨_,Dn,b,_,_,_,_,Dn,s1 _ _ hB.bk,ra,Dn,⟨_,l! (s1 _ _ hB.rl)⟩,?_⟩
 refine uW (K:=K) (a:=ra) (xs:=Aq.map i!) (λi Y H3=>Ex5 λ(c3 c4 c5 c6:Option V)(tk:List (List Key×V))=>An5 (Y=[A? (.ref b),A? (.ref f),A? (.ref td),c3,c4,c5,c6]) (j! H H3) (H3 td=A? (.dT tk)) (tk.length<=8 * i) (yD (DH H3) td H3 ins rows tk i 0))
  ⟨B?,B?,B?,B?,[],rfl,s1,e1,XA _,λs c row p kd h=>by rcases h with h|⟨_,h⟩ <;> cases h⟩ (λi Y H3 _⟨_,_,_,_,_,_,s3,_,_,_⟩=>l! (s3 _ _ hB.rl)) ?_ ?_
 .rintro i x pr Y H3 hx BP ⟨c3,c4,c5,c6,tk,rfl,s3,OE,hlen,z9⟩;refine hid λZZ kZ=>?_;obtain⟨rwa,rfl,OF⟩:=bq hx;obtain⟨row,An,as,Sn,Bh⟩:=C! hB.rw OF;have BO:i<100:=by have:=(glE An);lia
  obtain⟨VJ,hok⟩:=Ay row (WT An);refine kZ ?_;have Kl:=Bh.length;refine gU BP λH4 s4 e4=>?_;have DB:=s3.trans s4;refine⟨pr,_,Dn,l! e4,Dn,_,_,Dn,_,_,Dn,Dn,?_⟩;dsimp only[ay];refine⟨_,Dn,b,_,_,_,_,Dn,DB _ _ hB.bk,_,Dn,ia,rwa,Dn,⟨_,l! (DB _ _ hB.inE)⟩,⟨_,l! (DB _ _ Sn)⟩,?_⟩
  refine vF (K:=K) (a:=ia) (b:=rwa) (xs:=Al.map i!) (ys:=as.map i!) (by rw[WO,WO];lia) (λj Y H5=>Ex3 λ(c5 c6:Option V)(tk:List (List Key×V))=>An5 (Y=[A? (.ref b),A? (.ref f),A? (.ref td),A? (.int ((i:Nat):Int)),A? (.ref rwa),c5,c6]) (j! H H5) (H5 td=A? (.dT tk)) (tk.length<=8 * i+j) (yD (DH H5) td H5 ins rows tk i j))
   ⟨_,_,tk,rfl,DB,s4 _ _ OE,hlen,λs c row p kd h h1 h2 h3=>by
    obtain⟨da,a1,a2⟩:=z9 s c row p kd h h1 h2 h3;exact⟨da,a1,j7 BV a2 s4⟩⟩ (λj Y H5 _⟨_,_,_,_,s5,_,_,_⟩=>⟨l! (s5 _ _ hB.inE),l! (s5 _ _ Sn)⟩) ?_ ?_
  .rintro j x y p2 Y H5 hx hy Bj ⟨c5,c6,tk,rfl,s5,OG,hlen,z9⟩;refine hid λZZ kZ=>?_;obtain⟨ka,rfl,AB⟩:=bq hx;obtain⟨pa,rfl,CB⟩:=bq hy;obtain⟨⟨nm,cn⟩,hk,ek⟩:=C! hB.inK AB;obtain⟨p,hp,Fz⟩:=Bh.get CB;refine kZ ?_;have hj8:j<8:=by have:=(glE hk);have:=gi.le;lia
   refine gU Bj λH6 s6 e6=>?_;have OH:=s5.trans s6;refine⟨p2,_,Dn,l! e6,Dn,_,_,Dn,_,_,Dn,Dn,?_⟩;dsimp only[ay];refine⟨f,D8,Dn,Mu,_,Dn,Fy H6 p pa _ OH (Fz.mono (k! OH)) (hok p (WT hp)) λr d own kvs H7 s7 hd er ed Gz=>?_⟩;have So:=s6 _ _ OG;have VL:=s7 _ _ So;have hdt:d≠td:=λz=>by rw[z,So]at hd;cases hd
   have VM:H7 ka=A? (.tup [.str nm,.int cn]):=(OH.trans s7) _ _ ek;refine⟨_,Dn,_,Dn,_,Dn,ka,_,0,.str nm,Dn,Dn,l! VM,at0,lnE rfl,λkp CJ=>?_⟩;refine gU CJ λH8 s8 e8=>?_;have e8:H8 kp=A? (.tup ((kn2 i nm).map kV)):=e8;have OI:=s8 _ _ VL;refine⟨td,_,Dn,DPut.t OI e8 (bc (by lia)),?_⟩;have D':=(s6.trans s7).trans s8;refine⟨_,_,_,Dn,aC (s5.trans D') Sm,ae,?_,λs c Es p' kd h h1 h2 h3=>?_⟩
   .have:=bI tk (kn2 i nm) (.ref r);lia
   .rw[cu];by_cases GA:kn2 s kd.1=kn2 i nm
    .obtain⟨rfl,hn⟩:=v7 GA;rw[b! GA];have VN:=gi.nd _ _ _ _ h3 hk hn;subst VN;rw[An]at h1;cases h1;rw[hp]at h2;cases h2;exact⟨r,Dn,qY BV (j7 BV ⟨d,own,kvs,hdt,er,ed,Gz⟩ s8) OI⟩
    .rw[a! GA]
     have h':s<i\/(s=i/\c<j):=by
      rcases h with h|⟨h,hc⟩
      .exact .inl h
      .refine .inr ⟨h,?_⟩;rcases YY.mp hc with z|z
       .exact z
       .refine g! ?_ GA;rw[z,hk]at h3;cases h3;rw[h]
     obtain⟨da,a1,a2⟩:=z9 s c Es p' kd h' h1 h2 h3;exact⟨da,a1,qY BV (j7 BV a2 D') OI⟩
  .rintro Y H5 ⟨c5,c6,tk,rfl,s5,OG,hlen,z9⟩;rw[WO]at hlen z9;have Km:=gi.le;refine⟨_,_,_,_,tk,Dn,s5,OG,by lia,λs c Es p' kd h h1 h2 h3=>z9 s c Es p' kd ?_ h1 h2 h3⟩;rcases h with h|⟨_,h⟩
   .rcases YY.mp h with z|z
    .exact .inl z
    .refine .inr ⟨z,?_⟩;have:=(glE h3);lia
   .cases h
 .rintro Y H3 ⟨c3,c4,c5,c6,tk,rfl,s3,OE,hlen,z9⟩;rw[WO]at z9;refine⟨_,Dn,k td H3 s3 ⟨tk,OE,λs c row p kd h1 h2 h3=>?_⟩⟩;obtain⟨da,a1,a2⟩:=z9 s c row p kd (.inl (by have:=(glE h1);lia)) h1 h2 h3;exact⟨da,a1,a2.at⟩
inductive kg(C:WS)(vs:List V)(H:Hp)(Q:VK)(_E:XK):Prop
 |mk (td:WS) (L B:Lv) (i:Nat) (n:Nd) (Dp:DP) (ins:List (Xj×Int)) (rows:List (List Th)) (head:Th) (ok:Th->Prop) (W:List Th):vs=[.ref td,.ref L.x,.int (i:Nat),.ref B.x]->DgTab Dp H ins rows td->(∀p own d kvs,Dp p own d kvs->g8 p kvs)->HandC C H L i n B->n.sp=[]->(∀kv∈n.ask,∃s p da,AskE Dp ins rows head H n.t kv s p da/\∀c∈callsOf (p.pl []),∃p' h,Step ins rows c.2.1 c.2.2 n.t.kids p' h/\ok h)->(∀m∈B.ns,GoodNd Dp ins rows head ok H m)->(∀h,ok h->h.tall<=140/\h∈W)->W.length<=40000->rows.length<=100->n.t.kids.length<=100->(∃nm ks,n.t=.knot nm ks)->(∀(B':Lv)(sp:List (Key×V))(H':Hp),HandI C Dp ins rows head ok H L i n B H' B' sp->(∀kv∈n.ask,EDone Dp ins rows head H n.t sp B'.ns kv)->Q .non H')->kg C vs H Q _E
theorem qP:FnOk P w K mg base CX0 3 T.g_29.f T.g_29.d ["digests","level","number","beneath"] (kg T.e_Level):=by
 refine T.g_29.F.okA b9 λzZ A outer s H vs Q E hr h=>?_;obtain⟨td,L,B,i,n,Dp,ins,rows,head,ok,W,rfl,hT,Gz,hc,OJ,Hi,Kn,hW,hWl,II,Au,⟨nm,ks,DA⟩,k⟩:=h;have ni:=WT hc.hi;have ilt:=(Xu.mp hc.hi).1;have eta:=hc.lv.tr n ni;rw[DA,At]at eta;refine hid λZZ kZ=>?_;obtain⟨_,AV,eta,EA⟩:=eta;obtain⟨tk,VO,D0⟩:=hT;refine kZ ?_
 refine⟨_,(ag (ao 4 b9.nd (aD bd (cJ (pv 1) rfl) (pv 2) (λ_ _=>rfl)))
  (ag (ao 5 b9.nd (aD bd (cJ (pv 1) rfl) (pv 2) (λ_ _=>rfl)))
  (aj (jM (br Xw rfl (tJ (aD bd (cJ (pv 1) rfl) (pv 2) (λ_ _=>rfl))) (bh rfl (au (pgN 6 b9.nd) (au (pgN 7 b9.nd) aT))) (aj (jM (br Xw rfl (vG (pv 7)) (bh rfl (au (pgN 8 b9.nd) (au (pgN 9 b9.nd) aT))) (ag (ao 10 b9.nd (aD aE (pv 4) (av bz (pv 9) ai) (λ_ _=>rfl)))
  (ag (cb (ue (mn (cw hr) (pv 9) (pv 5))) (aj (dU (cw hr) (pv 5) (pv 9) (rJ (pv 3) T.cl_Level T.g_27.me (ej T) (hr.mono (by first|decide|lia)) T.g_27.b .nil dk (ac (pv 10) ad)) rfl)) bx)
  (aj (dU (cw hr) (aD bd (cJ (pv 3) rfl) (dW (cw hr) (pv 5) (pv 9) (λ_ _=>rfl)) (λ_ _=>rfl)) (pv 8) (dW (cw hr) (pv 0) (aQ (ac (pv 8) (ac (aD aE (pv 10) ai (λ_ _=>rfl)) ad))) (λ_ _=>rfl)) rfl)))))))))))),?_⟩
 try dsimp only[Ak,zY]
 refine⟨_,Dn,L.x,T.e_Level,L.dx,_,_,Dn,hc.lv.ins,T.cl_Level,T.na_Level_trees,mJ _ _ _,_,Dn,L.tl,_,_,.ref n.ta,Dn,Dn,n! hc.lv.tl,bL (by rw[Xd,hc.hi];rfl),?_⟩;dsimp only[ay];refine⟨_,Dn,L.x,T.e_Level,L.dx,_,_,Dn,hc.lv.ins,T.cl_Level,T.na_Level_kid_spots,u9 _ _ _,_,Dn,L.kl,_,_,.ref n.ka,Dn,Dn,n! hc.lv.kl,bL (by rw[Xd,hc.hi];rfl),?_⟩;dsimp only[ay];refine⟨_,Dn,L.x,T.e_Level,L.dx,_,_,Dn,hc.lv.ins,T.cl_Level,T.na_Level_asked,pP _ _ _,_,Dn,L.al,_,_,.ref n.aa,Dn,Dn,n! hc.lv.al,bL (by rw[Xd,hc.hi];rfl),n.aa,n.ask,Dn,hc.lv.ak n ni,λo1=>?_⟩
 refine pZ (a:=n.aa) (o:=o1) (kvs:=n.ask) (λe Y H3=>Ex8 λ(c6 c7 c8 c9 B7:Option V)(Hg:Hp)(B':Lv)(sp:List (Key×V))=>An5 (Y=[A? (.ref td),A? (.ref L.x),A? (.int ((i:Nat):Int)),A? (.ref B.x),A? (.ref n.ta),A? (.ref n.ka),c6,c7,c8,c9,B7]) ((∀b,b≠n.aa->H3 b=Hg b)) (H3 n.aa=A? (.frz o1 (.dK n.ask))) (HandI T.e_Level Dp ins rows head ok H L i n B Hg B' sp) (∀(e':Nat)(kv:Key×V),e'<e->n.ask[e']?=A? kv->EDone Dp ins rows head H n.t sp B'.ns kv))
  ⟨B?,B?,B?,B?,B?,H,B,[],rfl,λb hb=>af hb,ae,hc.start OJ Kn,λe' kv h=>by cases h⟩ (λe Y H3 _⟨_,_,_,_,_,_,_,_,_,_,h,_,_⟩=>h) ?_ ?_
 .rintro e kv Y H3 Ac ⟨c6,c7,c8,c9,B7,Hg,B1,sp,rfl,eq3,IL,I,AY⟩;refine hid λZZ kZ=>?_;obtain⟨s0,p,da,hE,Dg⟩:=Hi kv (WT Ac);obtain⟨d,own,kvs,Mv,ed,Hj⟩:=hE.dg;obtain⟨VP,VQ⟩:=Gz p own d kvs Hj;refine kZ ?_;have Sq:=I.ktd.tup _ _ Mv;have gd:=I.ktd.dct _ _ ed;have OK:=I.aa hc;have OL:H3 da=A? (.tup [own,.ref d]):=(eq3 _ (aA Sq OK (λz=>nomatch z))).trans Sq;have Bl:d≠n.aa:=aA gd OK (λz=>nomatch z);have Sr:H3 d=A? (.dT kvs):=(eq3 _ Bl).trans gd;rw[hE.v];refine⟨da,_,Dn,l! OL,Dn,_,_,Dn,_,_,Dn,Dn,?_⟩;dsimp only[ay];refine⟨_,Dn,d,kvs,Dn,Sr,λo2=>?_⟩
  refine ux (a:=d) (o:=o2) (kvs:=kvs) (λf Y H4=>Ex6 λ(c8 c9 B7:Option V)(Hg:Hp)(B':Lv)(sp:List (Key×V))=>An5 (Y=[A? (.ref td),A? (.ref L.x),A? (.int ((i:Nat):Int)),A? (.ref B.x),A? (.ref n.ta),A? (.ref n.ka),A? own,A? (.ref d),c8,c9,B7]) (Fz2 n.aa d o1 o2 n.ask kvs Hg H4) (HandI T.e_Level Dp ins rows head ok H L i n B Hg B' sp) ((∀(e':Nat)(kv:Key×V),e'<e->n.ask[e']?=A? kv->EDone Dp ins rows head H n.t sp B'.ns kv)) (∀(f':Nat)(kv:List Key×V)(c:Int×Int),f'<f->kvs[f']?=A? kv->kv.1=ky c->CDone sp n.t B'.ns c))
   ⟨_,_,_,Hg,B1,sp,rfl,⟨λb h1 h2=>by rw[af h2];exact eq3 b h1,by rw[af Bl.symm];exact IL,ae,OK,gd⟩,I,AY,λf' kv c h=>by cases h⟩ (λf Y H4 _⟨_,_,_,_,_,_,_,z,_,_,_⟩=>z.fd) ?_ ?_
  .rintro f Mw b Y H4 CK eb ⟨c8,c9,B7,Hg,B1,sp,rfl,z,I,AY,Bo⟩;refine hid λZZ kZ=>?_;obtain⟨c,D7,GB⟩:=VP Mw (WT CK);obtain⟨pl,s',kid⟩:=c;obtain⟨p',h,st,hok⟩:=Dg _ D7;refine kZ ?_;rw[GB]at eb;have VS:H4 b=A? (.tup [.int s',.int kid]):=eb;refine⟨b,_,Dn,l! VS,Dn,_,_,Dn,_,_,Dn,Dn,?_⟩;dsimp only[ay];refine hid λZZ kZ=>?_;obtain⟨OM,k0,Dh,m,hs,cc,j0,row,hm,FA,An,C6⟩:=id st;refine kZ ?_;simp only at OM k0 Dh An
   have Mx:∀b' xs,H b'=A? (.tup xs)->H4 b'=A? (.tup xs):=λb' xs Hk=>by
    have g:=I.ktd.tup _ _ Hk;rw[z.eq b' (aA g z.ga (λz=>nomatch z)) (aA g z.gd (λz=>nomatch z))];exact g
   have ON:H4 n.ta=_:=Mx _ _ eta;have Ko:=EA.mono Mx;rw[DA]at Dh;obtain⟨pa,CB,IT⟩:=Ko.get' Dh;refine⟨_,Dn,_,Dn,_,_,Dn,Dn,n.ta,_,kid+1,.ref pa,Dn,Dn,l! ON,at_nonneg (by lia) (by rw[show(kid+1).toNat=kid.toNat+1 by lia,YO,Xd,CB];rfl),?_⟩;dsimp only[ay];have OO:H4 n.ka=A? (.dK sp):=(z.eq _ (gW hc.lv.nd hc.hi).symm (aA (I.ka hc) z.gd (λz=>nomatch z))).trans (I.ka hc);refine ck (λl' H5=>Ex5 λ(Hg:Hp)(B':Lv)(sp:List (Key×V))(j:Nat)(mj:Nd)=>An8 (l'=[A? (.ref td),A? (.ref L.x),A? (.int ((i:Nat):Int)),A? (.ref B.x),A? (.ref n.ta),A? (.ref n.ka),A? own,A? (.ref d),A? (.int s'),A? (.int kid),A? (.ref pa)]) (Fz2 n.aa d o1 o2 n.ask kvs Hg H5) (HandI T.e_Level Dp ins rows head ok H L i n B Hg B' sp) ((∀(e':Nat)(kv:Key×V),e'<e->n.ask[e']?=A? kv->EDone Dp ins rows head H n.t sp B'.ns kv)) ((∀(f':Nat)(kv:List Key×V)(c:Int×Int),f'<f->kvs[f']?=A? kv->kv.1=ky c->CDone sp n.t B'.ns c)) (aG sp (Xs kid)=A? (.int (j:Nat))) (B'.ns[j]?=A? mj) (mj.t=h)) (λkk hk=>?_) ?_
   .refine bN (λbb H'=>An2 (H4=H') (bb=!(aG sp (Xs kid)).isSome)) (λk2 AE=>?_) (λH' hb=>?_) (λH' hb=>?_)
    .exact⟨_,Dn,_,Dn,n.ka,_,Dn,DGet.k (k:=Xs kid) OO,_,Dn,AE _ _ ⟨Dn,Dn⟩⟩
    .obtain⟨rfl,hb⟩:=hb
     have Bv:aG sp (Xs kid)=none:=by
      cases hv:aG sp (Xs kid)with
      |none=>rfl
      |some v=>rw[hv]at hb;cases hb
     have hx:=I.bn.ins;rw[I.gr.x]at hx;have VT:H4 B.x=_:=(z.eq _ (aA hx z.ga (λz=>nomatch z)) (aA hx z.gd (λz=>nomatch z))).trans hx
     have VU:LvSh T.e_Level H4 B1:=by
      refine I.bn.keep (λb' xs Hk=>?_) (λb' AQ o eo=>?_)
      .rw[z.eq b' (aA Hk z.ga (λz=>nomatch z)) (aA Hk z.gd (λz=>nomatch z))];exact Hk
      .have h1:b'≠n.aa:=λy=>I.dis hc _ (eN ni) (y ▸ AQ)
       have h2:b'≠d:=λy=>by
        obtain⟨o',e',_,h2,_⟩:=cp I.bn AQ;rw[y,z.gd]at e';exact h2 _ (Xh e').symm
       rw[z.eq b' h1 h2];exact eo
     have hlen:B1.ns.length<=50000:=by
      have:=bM (m:=W) I.bn.un λu hu=>by
       obtain⟨m',CP,rfl⟩:=Xn.mp hu;exact(hW _ (I.good m' CP).ok).2
      rw[WO]at this;lia
     have VV:=I.gr.x;refine⟨_,Dn,B.x,_,_,Dn,VT,uP _ _ _ (by decide +kernel) (by decide +kernel) (by decide +kernel),_,Dn,B1,pa,h,by rw[VV];rfl,VU,IT,(hW h hok).1,λm' CP=>(hW _ (I.good m' CP).ok).1,hlen,λB2 j mj H5 VX D6 hj Kp fr=>?_⟩;have VY:n.t.kids[kid.toNat]?=A? h:=by rw[DA];exact Dh
     obtain⟨Md,z',I'⟩:=I.spot hc z VX D6 hj Kp fr VY k0 Bv hok;have Kq:=I.spk.len I.spn;refine⟨_,Dn,_,Dn,n.ka,_,Dn,DPut.k (k:=Xs kid) Md (bc (by lia)),?_⟩
     have g2:Grow B1 B2:=by
      rcases D6 with rfl|⟨_,_,_,_,rfl⟩
      .exact Grow.refl
      .exact Grow.add
     have EV:∀(k:Key)(v:V),aG sp k=A? v->aG (putK sp (Xs kid) (.int ((j:Nat):Int))) k=A? v:=λk v hv=>by
      rw[cu,a! (λy=>by rw[y,Bv]at hv;cases hv)];exact hv
     exact hk _ _ ⟨_,B2,_,j,mj,rfl,z',I',λe' kv h1 h2=>(AY e' kv h1 h2).grow g2 EV,λf' kv c h1 h2 h3=>(Bo f' kv c h1 h2 h3).mono g2 EV,by rw[cu,b! rfl],hj,Kp⟩
    .obtain⟨rfl,hb⟩:=hb;cases hv:aG sp (Xs kid)with
     |none=>rw[hv]at hb;cases hb
     | some v =>
       refine hid λZZ kZ=>?_;obtain⟨DS,j,mj,he,hj,_,Ew⟩:=I.spk _ (f9 hv);refine kZ ?_;injection he with OP Nv;injection OP with OP;subst OP;rw[DA]at Ew;rw[Nv]at hv;exact hk _ _ ⟨Hg,B1,sp,j,mj,rfl,z,I,AY,Bo,hv,hj,Xh (Ew.symm.trans Dh)⟩
   rintro l' H5 ⟨Hg,B1,sp,j,mj,rfl,z,I,AY,Bo,Ss,hj,Kp⟩
   have Mx:∀b' xs,H b'=A? (.tup xs)->H5 b'=A? (.tup xs):=λb' xs Hk=>by
    have g:=I.ktd.tup _ _ Hk;rw[z.eq b' (aA g z.ga (λz=>nomatch z)) (aA g z.gd (λz=>nomatch z))];exact g
   obtain⟨My,OQ,Kr⟩:=(EA.mono Mx).get' Dh;have Bd:My=pa:=Xh (OQ.symm.trans CB);subst Bd;rw[hm,At]at Kr;refine hid λZZ kZ=>?_;obtain⟨_,has,OR,_⟩:=Kr;obtain⟨OS,OT,OU⟩:=D0 s'.toNat j0 row p' (m,cc) An C6 FA;refine kZ ?_;refine⟨_,Dn,_,Dn,_,Dn,My,_,0,.str m,Dn,Dn,l! OR,at0,lnE rfl,λkp CJ=>?_⟩;have s7:j! H5 (upd H5 kp (.tup [.int s',.str m])):=am CJ _
   have e7:(upd H5 kp (.tup [.int s',.str m])) kp=A? (.tup ((kn2 s'.toNat m).map kV)):=by
    rw[ae];show _=A? (HO.tup [.int ((s'.toNat:Nat):Int),.str m]);rw[YA OM]
   generalize(upd H5 kp (.tup [.int s',.str m]))=H7 at s7 e7 |-;have OV:=I.ktd.dct _ _ VO
   have VZ:Rd H7 td (.dT tk):=by
    by_cases y:td=d
    .refine .inr ⟨o2,?_⟩
     have:kvs=tk:=by
      have g:=z.gd;rw[<-y,OV]at g;cases g;rfl
     rw[y,<-this];exact s7 _ _ z.fd
    .exact .inl (s7 _ _ ((z.eq td (aA OV z.ga (λz=>nomatch z)) y).trans OV))
   obtain⟨Oj,z',I'⟩:=I.ask hc z s7 hj OM (by rw[Kp];exact st.pat) (OU.mono I.ktd);have hx:=I.bn.ins;have AL:=I.bn.al;rw[I.gr.x,I.gr.tl,I.gr.al,I.gr.kl,I.gr.dx]at hx;rw[I.gr.al]at AL;have V0:H7 B.x=_:=s7 _ _ ((z.eq _ (aA hx z.ga (λz=>nomatch z)) (aA hx z.gd (λz=>nomatch z))).trans hx);have OW:H7 B.al=_:=s7 _ _ ((z.eq _ (aA AL z.ga (λz=>nomatch z)) (aA AL z.gd (λz=>nomatch z))).trans AL);have OX:H7 n.ka=A? (.dK sp):=s7 _ _ ((z.eq _ (gW hc.lv.nd hc.hi).symm (aA (I.ka hc) z.gd (λz=>nomatch z))).trans (I.ka hc));have gk:DGet H7 n.ka (.int kid) (A? (.int ((j:Nat):Int))):=by have:=DGet.k (k:=Xs kid) OX;rw[Ss]at this;exact this
   have IU:=I.good mj (WT hj);have FC:=IU.ask.len IU.nd;refine⟨td,.ref OS,Dn,.inr ⟨tk,kn2 s'.toNat m,kp,VZ,Dn,e7,OT.symm⟩,_,Dn,B.x,T.e_Level,B.dx,_,_,Dn,V0,T.cl_Level,T.na_Level_asked,pP _ _ _,_,Dn,_,Dn,n.ka,_,Dn,gk,B.al,_,_,.ref mj.aa,Dn,Dn,n! OW,bL (gmE hj),_,Dn,mj.aa,_,Dn,DPut.k (k:=Xs s') Oj (bc (by lia)),?_⟩;have g2:Grow B1 (B1.setAsk j mj (putK mj.ask (Xs s') (.ref OS))):=Grow.setAsk hj;refine⟨_,_,_,_,_,_,Dn,z',I',λe' kv h1 h2=>(AY e' kv h1 h2).grow g2 (λ_ _ h=>h),λf' kv c h1 h2 h3=>?_⟩;rcases YY.mp h1 with h4|h4
   .exact(Bo f' kv c h4 h2 h3).mono g2 (λ_ _ h=>h)
   .rw[h4,CK]at h2;cases h2;have:=iZ (GB.symm.trans h3);subst this;refine⟨j,{mj with ask:=putK mj.ask (Xs s') (.ref OS)},Ss,Yv (glE hj),?_,?_⟩
    .rw[DA];exact Dh.trans (h! A? Kp.symm)
    .show(aG (putK _ _ _) _).isSome=C?;rw[cu,b! rfl];rfl
  .rintro Y H4 ⟨c8,c9,B7,Hg,B1,sp,rfl,z,I,AY,Bo⟩;refine⟨λb=>if b=d then A? (.dT kvs)else H4 b,λb=>?_,?_⟩
   .by_cases hb:b=d
    .refine .inr ⟨o2,.dT kvs,by rw[hb];exact z.fd,by rw[hb];exact Sr,b! hb⟩
    .exact .inl (a! hb)
   .refine⟨_,_,_,_,_,Hg,B1,sp,Dn,λb hb=>?_,(a! Bl.symm).trans z.fa,I,λe' Kb h1 h2=>?_⟩
    .dsimp only;by_cases Mz:b=d
     .rw[b! Mz,Mz,z.gd]
     .rw[a! Mz];exact z.eq b hb Mz
    .rcases YY.mp h1 with h4|h4
     .exact AY e' Kb h4 h2
     .rw[h4,Ac]at h2;cases h2;refine⟨s0,p,da,hE,λc D7=>?_⟩;refine hid λZZ kZ=>?_;obtain⟨V1,OY,Ew⟩:=VQ c D7;obtain⟨f',B5⟩:=Xk.mp OY;refine kZ ?_;exact Bo f' V1 c.2 (Xu.mp B5).1 B5 Ew
 .rintro Y H3 ⟨c6,c7,c8,c9,B7,Hg,B1,sp,rfl,eq3,IL,I,AY⟩;refine⟨Hg,λb=>?_,?_⟩
  .by_cases hb:b=n.aa
   .refine .inr ⟨o1,.dK n.ask,by rw[hb];exact IL,by rw[hb];exact hc.lv.ak n ni,by rw[hb];exact I.aa hc⟩
   .exact .inl (eq3 b hb).symm
  .refine k B1 sp Hg I λkv Ac=>?_;obtain⟨e',Ks⟩:=Xk.mp Ac;exact AY e' kv (Xu.mp Ks).1 Ks
inductive iC(C:WS)(vs:List V)(H:Hp)(Q:VK)(_E:XK):Prop
 |mk (td Bl ta:WS) (t:Th) (Dp:DP) (ins:List (Xj×Int)) (rows:List (List Th)) (head:Th) (W:List Th):vs=[.ref td,.ref Bl,.ref ta]->DgTab Dp H ins rows td->DgAt Dp H head Bl->(∀p own d kvs,Dp p own d kvs->g8 p kvs)->At H t ta->t.Fit ins->t.tall<=100->t∈W->gQ ins rows head W->(∀c∈callsOf (head.pl []),∃p',Step ins rows c.2.1 c.2.2 [t] p' t)->(∀(r:WS)(Ls:List Lv)(H':Hp),j! H H'->H' r=A? (.lst (Ls.map λL=>i! L.x))->Chain C Dp ins rows head H' Ls []->vo t Ls->Ls.length<=150->(∀M∈Ls,∀n∈M.ns,InW W t n.t)->Q (.ref r) H')->iC C vs H Q _E
theorem nE:FnOk P w K mg base CX0 4 T.g_30.f T.g_30.d ["digests","head","tree"] (iC T.e_Level):=by
 refine T.g_30.F.okA bS λzZ A outer s H vs Q E hr h=>?_;obtain⟨td,Bl,ta,t,Dp,ins,rows,head,W,rfl,hT,IV,Gz,hA,z8,Ae,OZ,TO,EB,k⟩:=h
 refine⟨_,(ag (ao 3 bS.nd (px ⟨T.mi_Level.1,T.g_26.me.1,T.g_26.me.2,T.mi_Level.2⟩ (gq T) (hr.mono (by first|decide|lia)) rfl T.x_Level T.g_26.b .nil dk))
  (ag (ao 4 bS.nd (rJ (pv 3) T.cl_Level T.g_27.me (ej T) (hr.mono (by first|decide|lia)) T.g_27.b .nil dk (ac (pcF T.g_19 (kb T) hr (ac (pv 2) ad)) ad)))
  (ag (dU (cw hr) (aD bd (cJ (pv 3) rfl) (pv 4) (λ_ _=>rfl)) (bY (v:=.int (-1)) rfl T.c_HEAD.choose_spec ⟨_,Dn⟩) (pv 1) rfl)
  (ag (ao 5 bS.nd (aN ad))
  (ag (cY Xw (bH (cJ (pv 3) rfl) (λ_=>rfl)) (ag (aM (bD Xb Xp Xo aH (pv 5) (ac (pv 3) ad)))
  (ag (ao 6 bS.nd (px ⟨T.mi_Level.1,T.g_26.me.1,T.g_26.me.2,T.mi_Level.2⟩ (gq T) (hr.mono (by first|decide|lia)) rfl T.x_Level T.g_26.b .nil dk))
  (ag (br Xw rfl (cf rfl T.n_11 (ac (az aw rfl T.n_6 Xy (ac (cJ (pv 3) rfl) ad)) ad)) (pgN 7 bS.nd) (aj (aM (pcF T.g_29 (qP T) hr (ac (pv 0) (ac (pv 3) (ac (pv 7) (ac (pv 6) ad))))))))
  (aj (ao 3 bS.nd (pv 6)))))))
  (aj (ax (pv 5)))))))),?_⟩
 try dsimp only[Ak,zY]
 intro x dx hx IF Ar;refine⟨x,dx,Dn,ae,λtl al kl H1 sb Hm AL Au n1 n2 n3 ex e1 e2 e3=>⟨Dn,?_⟩⟩;dsimp only[ay];obtain⟨s1,IH,GC⟩:=rg hx IF Ar sb Hm AL Au n1 n2 n3 ex e1 e2 e3;refine⟨_,Dn,x,_,_,Dn,IH.ins,uP _ _ _ (by decide +kernel) (by decide +kernel) (by decide +kernel),_,Dn,.ref ta,Dn,λap Su=>?_⟩;refine gU Su λH2 s2 C5=>?_
 have V2:At H2 (.knot YU [t]) ap:=by
  rw[At];exact⟨by decide +kernel,[ta],C5,.cons (hA.mono (k! (s1.trans s2))) .nil⟩
 have Av:(r! YU [t]).tall=t.tall+1:=by rw[q!,aB,aB];lia
 have V3:H ap=none:=s1.free Su;refine⟨⟨x,dx,tl,al,kl,[]⟩,ap,.knot YU [t],Dn,IH.keep (k! s2) (λb _ o e=>s2 b o e),V2,by lia,λn hn=>(by cases hn),by show 0<=50000;decide,λL1 j n H3 GX D6 hj DA fr=>?_⟩;dsimp only[ay];rcases D6 with rfl|⟨aa,ka,DR,AB,rfl⟩
 .cases hj
 have RE:j=0/\n=⟨.knot YU [t],ap,aa,ka,[],[]⟩:=by
  cases j with
  |zero=>exact⟨Dn,(Xh hj).symm⟩
  |succ j=>cases hj
 obtain⟨rfl,rfl⟩:=RE;have Sv:=GX.ak _ (WT hj);refine⟨_,Dn,_,Dn,x,T.e_Level,dx,_,_,Dn,GX.ins,T.cl_Level,T.na_Level_asked,pP _ _ _,_,Dn,al,_,_,.ref aa,Dn,Dn,n! GX.al,bL (j:=0) rfl,aa,_,Dn,DPut.k (k:=Xs (-1)) Sv (bc (by show 0<=1000000;decide)),?_⟩;have f3:j! H H3:=λb o e=>fr b o (λz=>by rw[GC b (cC (L:=⟨x,dx,tl,al,kl,[]⟩) b z)]at e;cases e) (s2 _ _ (s1 _ _ e));have Kt:H aa=none:=(s1.trans s2).free DR;have O0:H ka=none:=(s1.trans s2).free AB;have s4:j! H (upd H3 aa (.dK (putK [] (Xs (-1)) (.ref Bl)))):=aC f3 Kt;have Sw:(upd H3 aa (.dK (putK [] (Xs (-1)) (.ref Bl)))) aa=A? (.dK (putK [] (Xs (-1)) (.ref Bl))):=ae;have MA:=GX.setAsk (ask:=putK [] (Xs (-1)) (.ref Bl)) hj (λb xs e=>by rw[af (aA e Sv (λz=>nomatch z))];exact e) (λb _ hb o e=>by rw[af hb];exact e) Sw;generalize(upd H3 aa (.dK (putK [] (Xs (-1)) (.ref Bl))))=H4 at s4 Sw MA |-;refine⟨lnE rfl,λlv IP=>?_⟩;dsimp only[ay];refine gU IP λH5 s5 e5=>?_;have Sx:=s4.trans s5;have O1:H lv=none:=s4.free IP;generalize O2:(Lv.add ⟨x,dx,tl,al,kl,[]⟩ (.knot YU [t]) ap aa ka).setAsk 0 ⟨.knot YU [t],ap,aa,ka,[],[]⟩ (putK [] (Xs (-1)) (.ref Bl))=L at MA;have FD:L.ns=[⟨.knot YU [t],ap,aa,ka,[(Xs (-1),.ref Bl)],[]⟩]:=by rw[<-O2];rfl
 have V4:L.x=x:=by rw[<-O2];rfl
 have Ku:∀b∈L.own,H b=none:=λb hb=>by
  have AQ:b∈(Lv.mk x dx tl al kl []).own\/b=aa\/b=ka:=by
   rw[<-O2]at hb;have:b=x\/b=tl\/b=al\/b=kl\/b=aa\/b=ka:=by simpa[Lv.own,Lv.setAsk,Lv.add,dcts]using hb
   rcases this with h|h|h|h|h|h
   .exact .inl (by rw[h];simp[Lv.own])
   .exact .inl (by rw[h];simp[Lv.own])
   .exact .inl (by rw[h];simp[Lv.own])
   .exact .inl (by rw[h];simp[Lv.own])
   .exact .inr (.inl h)
   .exact .inr (.inr h)
  rcases AQ with h|rfl|rfl
  .exact GC b h
  .exact Kt
  .exact O0
 have V5:LvSh T.e_Level H5 L:=MA.keep (k! s5) (λb _ o e=>s5 b o e)
 have O3:lv∉L.own:=λz=>by
  obtain⟨o,e,_⟩:=cp MA z;rw[IP]at e;cases e
 have I0:LoopI T.e_Level Dp ins rows head W t H lv (t.tall+1) H5 [] L:=by
  refine⟨Sx,e5,⟨λM hM=>(by cases hM),λk M hk=>(by cases hk)⟩,V5,λn hn=>?_,λM hM=>(by cases hM),⟨O3,λM hM=>(by cases hM)⟩,⟨O1,Ku,λM hM=>(by cases hM)⟩,⟨L,_,rfl,FD,rfl,?_⟩,by show 0+_<=_;lia,by rw[FD];show 1<=50000;decide,λM hM=>(by cases hM),λn hn=>(by rw[FD]at hn;rw[WY.mp hn];exact .inr rfl)⟩
  .rw[FD]at hn;rw[WY.mp hn];refine⟨Dn,by simp,λkv Ac=>?_,⟨_,_,Dn⟩,by show 1<=100;decide,by show(r! YU [t]).tall<=_;lia⟩;have De:kv=(Xs (-1),.ref Bl):=WY.mp Ac;subst De;refine⟨-1,head,Bl,⟨Dn,Dn,.inl ⟨Dn,Dn,t,Dn⟩,IV.mono (KTD.of Sx)⟩,λc hc=>?_⟩;obtain⟨p',st⟩:=EB c hc;exact⟨p',t,st,by lia,OZ,z8⟩
  .show(aG [((Xs (-1):Key),i! Bl)] (Xs (-1))).isSome=C?;rw[bC rfl];rfl
 have O4:x=L.x:=V4.symm;rw[O4];refine⟨λmz Y H6=>Ex5 λ(Ls:List Lv)(L:Lv)(c4 c6 c7:Option V)=>An2 (Y=[A? (.ref td),A? (.ref Bl),A? (.ref ta),A? (.ref L.x),c4,A? (.ref lv),c6,c7]) (LoopI T.e_Level Dp ins rows head W t H lv mz H6 Ls L),⟨_,[],L,_,_,_,Dn,I0⟩,?_⟩;rintro mz Y H6 ⟨Ls,L,c4,c6,c7,rfl,I⟩;refine⟨_,Dn,L.x,T.e_Level,L.dx,_,_,Dn,I.cur.ins,T.cl_Level,T.na_Level_trees,mJ _ _ _,!(L.ns.map λn=>i! n.ta).isEmpty,?_,?_⟩
 .exact .inl ⟨_,n! I.cur.tl,rfl⟩
 refine cq (λcc=>?_) (λcc=>?_)
 .have Ar:L.ns≠[]:=λz=>by rw[z]at cc;cases cc
  refine⟨λl' H'=>∃m',m'<mz/\Ex5 λ(Ls:List Lv)(L:Lv)(c4 c6 c7:Option V)=>An2 (l'=[A? (.ref td),A? (.ref Bl),A? (.ref ta),A? (.ref L.x),c4,A? (.ref lv),c6,c7]) (LoopI T.e_Level Dp ins rows head W t H lv m' H' Ls L),λl' H' h=>h,?_⟩;have DL:=I.len;refine⟨_,Dn,.inl ⟨Dn,_,n! I.ls⟩,_,Dn,lv,_,_,Dn,Dn,I.ls,lbE (by lia),?_⟩
  have V6:(upd H6 lv (.lst ((Ls.map λL=>i! L.x)++[.ref L.x]))) L.x=A? (.ins T.e_Level L.dx (lvF L.tl L.al L.kl)):=by
   rw[af (aA I.cur.ins I.ls (λz=>nomatch z))];exact I.cur.ins
  have O5:LvSh T.e_Level (upd H6 lv (.lst ((Ls.map λL=>i! L.x)++[.ref L.x]))) L:=I.cur.keep (aY I.ls) (λb hb o e=>by rw[af (show b≠lv fromλz=>I.lvn.1 (z ▸ hb))];exact e);have k7:KTD H6 (upd H6 lv (.lst ((Ls.map λL=>i! L.x)++[.ref L.x]))):=⟨aY I.ls,λb xs e=>by rw[af (aA e I.ls (λz=>nomatch z))];exact e⟩;generalize V7:(upd H6 lv (.lst ((Ls.map λL=>i! L.x)++[.ref L.x])))=H7 at V6 O5 k7 |-;intro x dx hx IF Fo;refine⟨x,dx,Dn,ae,λtl al kl H8 sb Hm AL Au n1 n2 n3 ex e1 e2 e3=>⟨Dn,?_⟩⟩;dsimp only[ay];obtain⟨s8,hB,Kv⟩:=rg hx IF Fo sb Hm AL Au n1 n2 n3 ex e1 e2 e3;have Hn:LvSh T.e_Level H8 L:=O5.keep (k! s8) (λb _ o e=>s8 b o e)
  have Kw:∀b∈L.own,b∉(Lv.mk x dx tl al kl []).own:=λb hb hz=>by
   obtain⟨o,e,_⟩:=cp O5 hb;rw[Kv b hz]at e;cases e
  have V8:KTD H H8:=((KTD.of I.same).trans k7).trans (KTD.of s8);refine⟨_,Dn,L.x,T.e_Level,L.dx,_,_,Dn,Hn.ins,T.cl_Level,T.na_Level_trees,mJ _ _ _,L.tl,_,Dn,.inl (n! Hn.tl),_,Dn,?_⟩;have hlen:((L.ns.map λn=>i! n.ta).length:Int).toNat=L.ns.length:=by rw[WO,Yj]
  have V9:=I.cnt;refine⟨by rw[WO];lia,by rw[WO];lia,?_⟩;rw[hlen]
  refine cj (λi Y H9=>Ex3 λ(c7:Option V)(L' B':Lv)=>An2 (Y=[A? (.ref td),A? (.ref Bl),A? (.ref ta),A? (.ref L.x),c4,A? (.ref lv),A? (.ref x),c7]) (RunI T.e_Level Dp ins rows head (Okd W ins (mz - 1)) H8 L ⟨x,dx,tl,al,kl,[]⟩ i H9 L' B'))
   ⟨_,L,⟨x,dx,tl,al,kl,[]⟩,rfl,RunI.start Hn hB rfl⟩ ?_ ?_
  .rintro i Y H9 hi ⟨c7,L',B',rfl,R⟩;dsimp only[ay];obtain⟨n,hn⟩:∃n,L.ns[i]?=A? n:=⟨_,WQ hi⟩;have LS:L'.ns[i]?=A? n:=(R.todo i (W0 _)).trans hn;have MB:=(I.rd n (WT hn)).mono ((k7.trans (KTD.of s8)).trans R.ktd);have hC:=R.handC Hn Kw LS;have O6:L'.x=L.x:=R.up.x;have O7:B'.x=x:=R.gr.x;have ei:(0:Int)+((i:Nat):Int)=((i:Nat):Int):=by lia
   refine⟨_,Dn,_,Dn,_,Dn,_,Dn,td,L',B',i,n,Dp,ins,rows,head,Okd W ins (mz - 1),W,by rw[O6,O7,ei];rfl,hT.mono (V8.trans R.ktd),Gz,hC,MB.sp,MB.ask,R.good,λh ho=>⟨?_,ho.mem⟩,TO.wl,TO.rl,MB.kids,MB.knot,λB2 sp Cv I2 hd=>?_⟩
   .have:=ho.tall;have:=I.len;lia
   .exact⟨_,_,_,Dn,R.step LS I2 hd⟩
  .rintro Y H9 ⟨c7,L',B',rfl,R⟩;have O7:B'.x=x:=R.gr.x;subst V7;obtain⟨Ad,I'⟩:=I.step TO Ar s8 Kv R;exact⟨_,Dn,mz - 1,Ad,_,B',_,_,_,by rw[O7];rfl,I'⟩
 .have C4:L.ns=[]:=by
   cases hL:L.ns with
   |nil=>rfl
   |cons a as=>rw[hL]at cc;exact g! rfl cc
  have Ho:vo t Ls:=by
   obtain⟨L0,n0,h1,h2,h3,h4⟩:=I.top;cases Ls with
   |cons M Ms=>exact⟨L0,n0,h1,h2,h3,h4⟩
   | nil =>
     have IH:L=L0:=Xh h1;rw[<-IH,C4]at h2;cases h2
  have CN:=I.ch;rw[C4]at CN;exact⟨_,Dn,k lv Ls H6 I.same I.ls CN Ho (by have:=I.len;lia) I.mem⟩
def WsAt(H:Hp)(bl:WS)(ws:List (WS×List (Key×V))):Prop:=H bl=A? (.lst (ws.map λw=>i! w.1))/\∀w∈ws,H w.1=A? (.dK w.2)/\(w.2.map (·.1)).Nodup/\∀kv∈w.2,∃s:Int,kv.1=Xs s
inductive gx(vs:List V)(H:Hp)(Q:VK)(_E:XK):Prop
 |mk (ka bl:WS) (sp:List (Key×V)) (ws:List (WS×List (Key×V))):vs=[.ref ka,.ref bl]->H ka=A? (.dK sp)->(sp.map (·.1)).Nodup->sp.length<=100->WsAt H bl ws->(∀w∈ws,w.1≠ka/\w.2.length<=101)->(∀kv∈sp,∃(kid:Int)(j:Nat)(w:WS×List (Key×V)),kv=(Xs kid,.int (j:Nat))/\ws[j]?=A? w)->(∀(r:WS)(Aw:List (List Key×V))(H':Hp),j! H H'->H r=B?->H' r=A? (.dT Aw)->(∀(kid:Int)(j:Nat)(w:WS×List (Key×V))(s:Int)(v:V),aG sp (Xs kid)=A? (.int (j:Nat))->ws[j]?=A? w->aG w.2 (Xs s)=A? v->aG Aw (ky (s,kid))=A? v)->Q (.ref r) H')->gx  vs H Q _E
theorem lN:FnOk P w K mg base CX0 1 T.g_31.f T.g_31.d ["spots","beneath"] gx:=by
 refine T.g_31.F.okA bX λzZ A outer s H vs Q E hr h=>?_;obtain⟨ka,bl,sp,ws,rfl,AJ,Kx,Kq,⟨Sy,Ax⟩,V',Bu,k⟩:=h
 refine⟨_,(ag (ao 2 bX.nd dM)
  (ag (jM (br Xw rfl (kY (pv 0)) (bh rfl (au (pgN 3 bX.nd) (au (pgN 4 bX.nd) aT))) (aj (jM (br Xw rfl (kY (aD bd (pv 1) (pv 4) (λ_ _=>rfl))) (bh rfl (au (pgN 5 bX.nd) (au (pgN 6 bX.nd) aT))) (aj (dU (cw hr) (pv 2) (aQ (ac (pv 5) (ac (pv 3) ad))) (pv 6) rfl)))))))
  (aj (ax (pv 2))))),?_⟩
 try dsimp only[Ak,zY]
 intro r MC;dsimp only[ay];refine gU MC λH1 s1 e1=>?_;have IQ:ka≠r:=aq AJ MC;refine⟨_,Dn,ka,sp,Dn,s1 _ _ AJ,λo1=>?_⟩
 refine lS (a:=ka) (o:=o1) (kvs:=sp) (λe Y H3=>Ex5 λ(c3 c4 c5 c6:Option V)(Aw:List (List Key×V))=>An6 (Y=[A? (.ref ka),A? (.ref bl),A? (.ref r),c3,c4,c5,c6]) ((∀b u,b≠ka->H b=A? u->H3 b=A? u)) (H3 ka=A? (.frz o1 (.dK sp))) (H3 r=A? (.dT Aw)) (Aw.length<=101 * e) (∀(e':Nat)(kid:Int)(j:Nat)(w:WS×List (Key×V))(s:Int)(v:V),e'<e->sp[e']?=A? (Xs kid,.int (j:Nat))->ws[j]?=A? w->aG w.2 (Xs s)=A? v->aG Aw (ky (s,kid))=A? v))
  ⟨B?,B?,B?,B?,[],rfl,λb u hb e=>by rw[af hb];exact s1 _ _ e,ae,by rw[af IQ.symm];exact e1,XA _,λe' kid j w s v h=>by cases h⟩ (λe Y H3 _⟨_,_,_,_,_,_,_,h,_,_,_⟩=>h) ?_ ?_
 .rintro e kv p Y H3 Ac hp ⟨c3,c4,c5,c6,Aw,rfl,F7,O8,Ck,hlen,z9⟩;refine hid λZZ kZ=>?_;obtain⟨kid,j,w,rfl,hw⟩:=Bu kv (WT Ac);have wm:=WT hw;obtain⟨ew,Wa,Wb⟩:=Ax w wm;obtain⟨Hq,Ds⟩:=V' w wm;refine kZ ?_;have EY:e<100:=by have:=(glE Ac);lia
  dsimp only;refine gU hp λH4 s4 e4=>?_;have e4:H4 p=A? (.tup [.int kid,.int ((j:Nat):Int)]):=e4;refine⟨p,_,Dn,l! e4,Dn,_,_,Dn,_,_,Dn,Dn,?_⟩;dsimp only[ay];have O9:=s4 _ _ (F7 _ _ (aA Sy AJ (λz=>nomatch z)) Sy);have Hr:=s4 _ _ (F7 _ _ Hq ew);have Sz:=s4 _ _ Ck;have Pa:w.1≠r:=aA Hr Sz (λz=>nomatch z);refine⟨_,Dn,_,Dn,bl,_,_,.ref w.1,Dn,Dn,n! O9,bL (gmE hw),w.1,w.2,Dn,Hr,λo2=>?_⟩
  refine lS (a:=w.1) (o:=o2) (kvs:=w.2) (λf Y H5=>Ex3 λ(c5 c6:Option V)(Aw:List (List Key×V))=>An7 (Y=[A? (.ref ka),A? (.ref bl),A? (.ref r),A? (.int kid),A? (.int ((j:Nat):Int)),c5,c6]) ((∀b u,b≠w.1->b≠r->H4 b=A? u->H5 b=A? u)) (H5 w.1=A? (.frz o2 (.dK w.2))) (H5 r=A? (.dT Aw)) (Aw.length<=101 * e+f) ((∀(e':Nat)(kid:Int)(j:Nat)(w:WS×List (Key×V))(s:Int)(v:V),e'<e->sp[e']?=A? (Xs kid,.int (j:Nat))->ws[j]?=A? w->aG w.2 (Xs s)=A? v->aG Aw (ky (s,kid))=A? v)) (∀(f':Nat)(s:Int)(v:V),f'<f->w.2[f']?=A? (Xs s,v)->aG Aw (ky (s,kid))=A? v))
   ⟨_,_,Aw,rfl,λb u hb _ eb=>by rw[af hb];exact eb,ae,by rw[af Pa.symm];exact Sz,by lia,z9,λf' s v h=>by cases h⟩ (λf Y H5 _⟨_,_,_,_,_,h,_,_,_,_⟩=>h) ?_ ?_
  .rintro f Mw p2 Y H5 CK Bj ⟨c5,c6,Aw,rfl,Fd,DT,Co,hlen,z9,FC⟩;obtain⟨s',Iy⟩:=Wb Mw (WT CK);obtain⟨k2,v2⟩:=Mw;simp only at Iy;subst Iy;have hfl:f<101:=by have:=(glE CK);lia
   dsimp only;refine gU Bj λH6 s6 e6=>?_;have e6:H6 p2=A? (.tup [.int s',v2]):=e6;refine⟨p2,_,Dn,l! e6,Dn,_,_,Dn,_,_,Dn,Dn,?_⟩;dsimp only[ay];refine⟨_,Dn,_,Dn,_,Dn,_,Dn,lnE rfl,λkp CJ=>?_⟩;refine gU CJ λH7 s7 e7=>?_;have e7:H7 kp=A? (.tup ((ky (s',kid)).map kV)):=e7;have Pb:=s6.trans s7;have Wc:=Pb _ _ Co;refine⟨r,_,Dn,DPut.t Wc e7 (bc (by lia)),?_⟩;refine⟨_,_,_,Dn,λb u hb SD eb=>by rw[af SD];exact Pb _ _ (Fd b u hb SD eb),by rw[af Pa];exact Pb _ _ DT,ae,?_,λe' DS j' w' s v he h1 h2 h3=>?_,λf' s v hf h1=>?_⟩
   .have:=bI Aw (ky (s',kid)) v2;lia
   .rw[cu];by_cases hk:ky (s,DS)=ky (s',kid)
    .have GA:DS=kid:=h! Prod.snd (iZ hk);rw[GA]at h1;exact g! (kO Kx (i:=e') (j:=e) (x:=Xs kid) (gmE h1) (gmE Ac)) (by lia)
    .rw[a! hk];exact z9 e' DS j' w' s v he h1 h2 h3
   .rw[cu];by_cases hk:ky (s,kid)=ky (s',kid)
    .rw[b! hk];have Pd:s=s':=h! Prod.fst (iZ hk);rw[Pd]at h1;have Pe:=kO Wa (i:=f') (j:=f) (x:=Xs s') (gmE h1) (gmE CK);rw[Pe,CK]at h1;cases h1;rfl
    .rw[a! hk];rcases YY.mp hf with h4|h4
     .exact FC f' s v h4 h1
     .rw[h4,CK]at h1;cases h1;exact g! rfl hk
  .rintro Y H5 ⟨c5,c6,Aw,rfl,Fd,DT,Co,hlen,z9,FC⟩;refine⟨upd H5 w.1 (.dK w.2),λb=>?_,?_⟩
   .by_cases hb:b=w.1
    .rw[hb];exact .inr ⟨o2,_,DT,Hr,ae⟩
    .exact .inl (af hb)
   .refine⟨_,_,_,_,Aw,Dn,λb u hb eb=>?_,?_,by rw[af Pa.symm];exact Co,by lia,λe' DS j' w' s v he h1 h2 h3=>?_⟩
    .by_cases MD:b=w.1
     .rw[MD,ew]at eb;cases eb;rw[MD,ae]
     .rw[af MD];exact Fd b u MD (aq eb MC) (s4 _ _ (F7 b u hb eb))
    .rw[af Hq.symm];exact Fd _ _ Hq.symm IQ (s4 _ _ O8)
    .rcases YY.mp he with h4|h4
     .exact z9 e' DS j' w' s v h4 h1 h2 h3
     .rw[h4,Ac]at h1;cases h1;rw[hw]at h2;cases h2;obtain⟨f',B5⟩:=Xk.mp (f9 h3);exact FC f' s v (Xu.mp B5).1 B5
 .rintro Y H3 ⟨c3,c4,c5,c6,Aw,rfl,F7,O8,Ck,hlen,z9⟩;refine⟨upd H3 ka (.dK sp),λb=>?_,?_⟩
  .by_cases hb:b=ka
   .rw[hb];exact .inr ⟨o1,_,O8,s1 _ _ AJ,ae⟩
   .exact .inl (af hb)
  .refine⟨_,Dn,k r Aw _ (λb u eb=>?_) MC (by rw[af IQ.symm];exact Ck) λkid j w s v h1 h2 h3=>?_⟩
   .by_cases hb:b=ka
    .rw[hb,AJ]at eb;cases eb;rw[hb,ae]
    .rw[af hb];exact F7 b u hb eb
   .obtain⟨e',Ks⟩:=Xk.mp (f9 h1);exact z9 e' kid j w s v (Xu.mp Ks).1 Ks h2 h3
theorem iB:∀(prs acc:List (Key×V)),((acc++prs).map (·.1)).Nodup->d7 acc prs=acc++prs
 | [],acc,_=>by rw[Yx];rfl
 | pr::prs,acc,h=>by
   have e:acc++pr::prs=(acc++[pr])++prs:=by rw[X7];rfl
   rw[e]at h |-
   have hv:aG acc pr.1=none:=by
    cases hv:aG acc pr.1 with
    |none=>rfl
    | some v =>
      rw[W5,W5,X7,Y7]at h;exact g! rfl (h.2.2 _ (Xn.mpr ⟨_,f9 hv,rfl⟩) pr.1 (Xg _ (by simp)))
   show d7 (putK acc pr.1 pr.2) prs=_;rw[um _ hv];exact iB prs _ h
def fOf(Aw:List (List Key×V))(s k:Int):Int:=match aG Aw (ky (s,k))with
 |some (.int v)=>v
 |_=>0
structure Ws1(VR:Int->Th->Int->Prop)(Hl:Hp)(m:Nd)(w:WS×List (Key×V)):Prop where
 new:Hl w.1=B?
 len:w.2.length<=101
 val:∀s,(aG m.ask (Xs s)).isSome=C?->∃v,aG w.2 (Xs s)=A? (.int v)/\VR s m.t v
structure WsOk(VR:Int->Th->Int->Prop)(Hl H:Hp)(bl:WS)(ns:List Nd)(ws:List (WS×List (Key×V))):Prop where
 «at»:WsAt H bl ws
 len:ws.length=ns.length
 one:∀(j:Nat)(m:Nd)(w:WS×List (Key×V)),ns[j]?=A? m->ws[j]?=A? w->Ws1 VR Hl m w
theorem WsOk.up{VR SE:Int->Th->Int->Prop}{Hl:Hp}{bl:WS}{ws:List (WS×List (Key×V))}(h:WsOk VR Hl H bl ns ws)(u:∀s t v,VR s t v->SE s t v):WsOk SE Hl H bl ns ws:=⟨h.at,h.len,λj m w hm hw=>by
 obtain⟨a,b,c⟩:=h.one j m w hm hw
 exact⟨a,b,λs hs=>by
  obtain⟨v,h1,h2⟩:=c s hs;exact⟨v,h1,u _ _ _ h2⟩⟩⟩
theorem WsAt.fr{X:WS->Prop}{bl:WS}{ws:List (WS×List (Key×V))}(h:WsAt H bl ws)(hx:∀b o,H b=A? o->(∀kv,o≠.dT kv)->¬X b)(s:FrX X H H'):WsAt H' bl ws:=⟨s _ _ (hx _ _ h.1 λ_ z=>nomatch z) h.1,λw hw=>⟨s _ _ (hx _ _ (h.2 w hw).1 λ_ z=>nomatch z) (h.2 w hw).1,(h.2 w hw).2⟩⟩
def wa(ins:List (Xj×Int))(rows:List (List Th))(head:Th)(W:List Th)(t:Th)(X:WS->Prop)(SI:Hp->List Th->Prop)(VR:List Th->Int->Th->Int->Prop)(DH:DPH)(IW:Sp):Prop:=∀(H1:Hp)(s:Int)(u p:Th)(da ca:WS)(Aw:List (List Key×V))(f:Int->Int->Int)(Ts:List Th)(R:VK),dQ ins rows head s u p->InW W t u->DgN (DH H1) ca H1 p da->H1 ca=A? (.dT Aw)->¬X ca->SI H1 Ts->(∀c∈callsOf (p.pl []),aG Aw (ky c.2)=A? (.int (f c.2.1 c.2.2))/\∃h,u.kids[c.2.2.toNat]?=A? h/\VR Ts c.2.1 h (f c.2.1 c.2.2))->(∀(v:Int)(H2:Hp)(By:List Th),FrX X H1 H2->SI H2 By->Ts <+: By->VR By s u v->R (.int v) H2)->IW [.ref da,.ref ca] H1 R E0
inductive lW(P:Xm)(w:XD)(K:WW)(mg:Xj->Option WV)(base:X3)(vs:List V)(H:Hp)(Q:VK)(_E:XK):Prop
 |mk (b hd ta f g:WS) (ins outs:List (Xj×Int)) (B6 head t:Th) (rows:List (List Th)) (D8 IW:Sp) (DH:DPH) (Ky:Th->Prop) (W:List Th) (X:WS->Prop) (SI:Hp->List Th->Prop) (VR:List Th->Int->Th->Int->Prop) (T0:List Th):vs=[.ref b,.ref hd,.ref ta,.ref f,.ref g]->Bk H ins outs B6 rows b->aL ins->(∀row∈rows,row.length=ins.length/\∀p∈row,Ky p)->At H head hd->Ky head->FvOk P w K mg base CX0 4 f D8->r8 H DH D8 Ky->ow DH->(∀H p own d kvs,DH H p own d kvs->g8 p kvs/\¬X d)->At H t ta->t.Fit ins->t.tall<=100->t∈W->gQ ins rows head W->(∀c∈callsOf (head.pl []),∃p',Step ins rows c.2.1 c.2.2 [t] p' t)->FvOk P w K mg base CX0 3 g IW->FoldI X SI VR->SI H T0->wa ins rows head W t X SI VR DH IW->(∀(v:Int)(H':Hp)(Ts:List Th),FrX X H H'->SI H' Ts->T0 <+: Ts->VR Ts (-1) (.knot YU [t]) v->Q (.int v) H')->lW P w K mg base vs H Q _E
theorem jc:FnOk P w K mg base CX0 6 T.g_32.f T.g_32.d ["book","head","tree","digest","worth"] (lW P w K mg base):=by
 refine T.g_32.F.okA cD λzZ A outer s H vs Q E hr h=>?_;obtain⟨b,hd,ta,f,g,ins,outs,B6,head,t,rows,D8,IW,DH,Ky,W,X,SI,VR,T0,rfl,hB,gi,Ay,Wd,Pf,Mu,Fy,Ht,Gz,We,z8,Ae,OZ,TO,EB,Wf,FI,Pg,Ph,k⟩:=h
 refine⟨_,(ag (ao 5 cD.nd (aN ad))
  (ag (br Xw rfl (qz rfl T.n_12 (pcF T.g_30 (nE T) hr (ac (pcF T.g_28 (lQ T) hr (ac (pv 0) (ac (pv 3) ad))) (ac (kj (k:=4) (i:=3) rfl (Or.inl rfl) (hr.mono (by first|decide|lia)) dk (ac (pv 1) ad)) (ac (pv 2) ad))))) (pgN 6 cD.nd) (ag (ao 7 cD.nd (aN ad))
  (ag (br Xw rfl (v6 rfl T.n_15 (ac (cJ (pv 6) rfl) (ac (cJ (pv 6) rfl) ad))) (bh rfl (au (pgN 8 cD.nd) (au (pgN 9 cD.nd) aT))) (ag (ao 10 cD.nd (pcF T.g_31 (lN T) hr (ac (pv 9) (ac (pv 5) ad))))
  (aj (aM (bD Xb Xp Xo aH (pv 7) (ac (aS (jG (rV hr) rfl) rfl T.n_2 PyProof.Rows.boot_dict (ac (nj (bZ (N:=["state","pair","worth","kids"]) (js:=[B?,B?,A? 4,A? 10]) (g:=(pL K 2 (dS (ay 0) (dS (ay 1) oy)))) (tt:=bE) (te:=(qi (bP (bt 0) (bP (uZ P w K mg base CX0 3 2 E0 (bP (bt 1) (bP (bt 3) gb))) gb)))) rfl (cy rfl (by decide +kernel) (by decide +kernel) rfl rfl rfl) (kY (pv 8)) (λ_ _ _ _ _ _=>(bh rfl (au (pgN 0 yY) (au (pgN 1 yY) aT)))) (iW (cz bv (aV rfl) (cz bv (aV rfl) i8))) (λ_ _ _ _ _ _=>bT) (λ_ _ _ _ _ _=>(aQ (ac (pv 0) (ac (kj (k:=3) (i:=2) rfl (by first|exact Or.inl rfl|exact Or.inr (Or.inl rfl)|exact Or.inr (Or.inr rfl)) (hr.mono (by first|decide|lia)) dk (ac (pv 1) (ac (pv 3) ad))) ad)))))) ad)) ad))))))
  (aj (ao 5 cD.nd (pv 7))))))
  (aj (ax (dW (cw hr) (aD bd (pv 5) ai (λ_ _=>rfl)) (bY (v:=.int (-1)) rfl T.c_HEAD.choose_spec ⟨_,Dn⟩) (λ_ _=>rfl)))))),?_⟩
 try dsimp only[Ak,zY]
 refine⟨lnE rfl,λbl Bm=>?_⟩;dsimp only[ay];refine gU Bm λH1 s1 e1=>?_
 have Wg:Bk H1 ins outs B6 rows b:=by
  obtain⟨ia,oa,ha,ra,Al,Ap,Aq,hB⟩:=hB;exact⟨ia,oa,ha,ra,Al,Ap,Aq,hB.mono (k! s1)⟩
 refine⟨_,Dn,_,Dn,b,f,ins,outs,B6,rows,D8,DH,Ky,Dn,Wg,gi,TO.rl,Ay,Mu,λH1 p pa R s=>Fy H1 p pa R (s1.trans s),Ht,λtd H2 s2 Pj=>?_⟩;refine⟨f,D8,Dn,Mu,_,Dn,Fy H2 head hd _ (s1.trans s2) (Wd.mono (k! (s1.trans s2))) Pf λr d own kvs H3 s3 Ep er ed Hj=>?_⟩;refine⟨_,Dn,td,r,ta,t,DH H3,ins,rows,head,W,Dn,qq Ht Pj s3,⟨d,own,kvs,er,ed,Hj⟩,λp own d kvs h=>(Gz H3 p own d kvs h).1,We.mono (k! ((s1.trans s2).trans s3)),z8,Ae,OZ,TO,EB,λlr Ls H4 s4 Pl CN Ho hlen Ba=>?_⟩;have DB:=((s1.trans s2).trans s3).trans s4;have Kz:SI H4 T0:=FI.keep _ _ _ Pg (KNL.of DB);have GD:∀{b:WS}{o:HO},H4 b=A? o->(∀kv,o≠.dT kv)->¬X b:=λe h=>FI.nx Kz e h;refine⟨lr,_,Dn,n! Pl,?_⟩
 refine m9 (K:=K) (a:=lr) (xs:=Ls.map λL=>i! L.x) (λi Y H5=>Ex8 λ(c6 c7 c8 c9 B7:Option V)(bl:WS)(ws:List (WS×List (Key×V)))(Ts:List Th)=>An5 (Y=[A? (.ref b),A? (.ref hd),A? (.ref ta),A? (.ref f),A? (.ref g),A? (.ref bl),c6,c7,c8,c9,B7]) (FrX X H4 H5) (SI H5 Ts) (T0 <+: Ts) (WsOk (VR Ts) H4 H5 bl (nxt Ls (Ls.length - i) []) ws))
  ⟨B?,B?,B?,B?,B?,bl,[],T0,rfl,FrX.of (.refl _),Kz,List.prefix_rfl,⟨⟨((s2.trans s3).trans s4) _ _ e1,λw hw=>by cases hw⟩,by unfold nxt;rw[Nat.sub_zero,Yb (W0 _)];rfl,λj m w _ hw=>by cases hw⟩⟩ (λi Y H5 _⟨_,_,_,_,_,_,_,_,_,s5,_,_,_⟩=>n! (s5 _ _ (GD Pl λ_ z=>nomatch z) Pl)) ?_ ?_
 .rintro i x Y H5 hi hx ⟨c6,c7,c8,c9,B7,bl,ws,IX,rfl,s5,EC,Hu,Ax⟩;rw[WO]at hi hx;rw[Xd]at hx
  obtain⟨L,hL,rfl⟩:∃L,Ls[Ls.length - 1 - i]?=A? L/\i! L.x=x:=by
   cases h:Ls[Ls.length - 1 - i]? with
   |none=>rw[h]at hx;cases hx
   |some L=>rw[h]at hx;exact⟨L,Dn,Xh hx⟩
  have Bp:=CN.sh L (WT hL);have Af:=CN.cl _ L hL;rw[show Ls.length - 1 - i+1=Ls.length - i by lia]at Af;dsimp only[ay];refine⟨lnE rfl,λtl Ae=>?_⟩;dsimp only[ay];refine gU Ae λH6 s6 e6=>?_;have Cp:FrX X H4 H6:=s5.trans (FrX.of s6);have Pm:=FI.keep _ _ _ EC (KNL.of s6);have ED:H4 tl=none:=FI.free EC s5 Ae;have Pn:∀{b:WS}{o:HO},H4 b=A? o->(∀kv,o≠.dT kv)->H6 b=A? o:=λe h=>Cp _ _ (GD e h) e;have zi:=Pn Bp.ins (λ_ z=>nomatch z);have za:=Pn Bp.al (λ_ z=>nomatch z);have zk:=Pn Bp.kl (λ_ z=>nomatch z);refine⟨_,Dn,L.x,T.e_Level,L.dx,_,_,Dn,zi,T.cl_Level,T.na_Level_asked,pP _ _ _,_,Dn,L.x,T.e_Level,L.dx,_,_,Dn,zi,T.cl_Level,T.na_Level_kid_spots,u9 _ _ _,L.al,L.kl,Dn,⟨_,n! za⟩,⟨_,n! zk⟩,?_⟩
  refine vm (K:=K) (a:=L.al) (b:=L.kl) (xs:=L.ns.map λn=>i! n.aa) (ys:=L.ns.map λn=>i! n.ka) (by rw[WO,WO]) (λq Y H7=>Ex5 λ(c8 c9 B7:Option V)(us:List (WS×List (Key×V)))(Ts:List Th)=>An5 (Y=[A? (.ref b),A? (.ref hd),A? (.ref ta),A? (.ref f),A? (.ref g),A? (.ref bl),A? (.ref L.x),A? (.ref tl),c8,c9,B7]) ((∀b o,b≠tl->¬X b->H6 b=A? o->H7 b=A? o)) (SI H7 Ts) (IX <+: Ts) (WsOk (VR Ts) H4 H7 tl (L.ns.take q) us))
   ⟨_,_,_,[],IX,rfl,λ_ _ _ _ e=>e,Pm,List.prefix_rfl,⟨⟨e6,λw hw=>by cases hw⟩,by rw[Zm];rfl,λj m w _ hw=>by cases hw⟩⟩ (λq Y H7 _⟨_,_,_,_,_,_,s7,_,_,_⟩=>⟨n! (s7 _ _ (λz=>by rw[<-z,Bp.al]at ED;cases ED) (GD Bp.al λ_ z=>nomatch z) za),n! (s7 _ _ (λz=>by rw[<-z,Bp.kl]at ED;cases ED) (GD Bp.kl λ_ z=>nomatch z) zk)⟩) ?_ ?_
  .rintro q x y pz Y H7 hx hy Wh ⟨c8,c9,B7,us,Po,rfl,s7,FE,GF,C2⟩;rw[Xd]at hx hy
   obtain⟨n,hn,rfl⟩:∃n,L.ns[q]?=A? n/\i! n.aa=x:=by
    cases h:L.ns[q]? with
    |none=>rw[h]at hx;cases hx
    |some n=>rw[h]at hx;exact⟨n,Dn,Xh hx⟩
   rw[hn]at hy;have C3:i! n.ka=y:=Xh hy;subst C3;have CL:=WT hn;refine gU Wh λH8 s8 e8=>?_;have D':FrX X H5 H8:=λc o n e=>s8 _ _ (s7 c o (λz=>by rw[z,Ae]at e;cases e) n (s6 _ _ e));have Hv:FrX X H4 H8:=s5.trans D';have KA:=FI.keep _ _ _ FE (KNL.of s8);have Wi:=Hv _ _ (GD (Bp.sp n CL) λ_ z=>nomatch z) (Bp.sp n CL);have Wj:=Hv _ _ (GD (Bp.ak n CL) λ_ z=>nomatch z) (Bp.ak n CL);refine⟨pz,_,Dn,l! e8,Dn,_,_,Dn,_,_,Dn,Dn,?_⟩;dsimp only[ay];have Bu:=Af.sp n CL;have Kq:=Bu.len (Af.sn n CL);have Fp:=Af.kd n CL;have Ds:=Ax.len
   have Wk:∀(j:Nat)(w':WS×List (Key×V)),ws[j]?=A? w'->∃m,(nxt Ls (Ls.length - i) [])[j]?=A? m/\Ws1 (VR IX) H4 m w':=λj w' BF=>by
    obtain⟨m,hm⟩:∃m,(nxt Ls (Ls.length - i) [])[j]?=A? m:=⟨_,WQ (by rw[<-Ds];exact(Xu.mp BF).1)⟩;exact⟨m,hm,Ax.one j m w' hm BF⟩
   refine⟨_,Dn,_,Dn,n.ka,bl,n.sp,ws,Dn,Wi,Af.sn n CL,by lia,Ax.at.fr (λb o e h=>FI.nx EC e h) D',λw' BF=>?_,λkv Ac=>?_,λca Aw H9 s9 Cj Dz Wl=>?_⟩
   .refine hid λZZ kZ=>?_;obtain⟨j,hj⟩:=Xk.mp BF;obtain⟨m,hm,hW⟩:=Wk j w' hj;refine kZ ?_;exact⟨λz=>(by have:=hW.new;rw[z,Bp.sp n CL]at this;cases this),hW.len⟩
   .refine hid λZZ kZ=>?_;obtain⟨kid,j,m,h1,h2,_⟩:=Bu kv Ac;obtain⟨w',BF⟩:∃w',ws[j]?=A? w':=⟨_,WQ (by rw[Ds];exact(glE h2))⟩;refine kZ ?_;exact⟨kid,j,w',h1,BF⟩
   dsimp only[ay];have ME:FrX X H4 H9:=Hv.trans (FrX.of s9);have KC:=FI.keep _ _ _ KA (KNL.of s9);have Hw:=s9 _ _ (s8 _ _ C2.at.1);have Hz:=s9 _ _ Wj
   have MF:¬X ca:=λz=>by
    obtain⟨kv,hk⟩:=FI.isD _ _ _ KA z;rw[Cj]at hk;cases hk
   have Hi:AskOk (DH H3) ins rows head H4 n.t n.ask:=λkv Ac=>by
    obtain⟨s,p,da,h,_⟩:=Af.ed n CL kv Ac;exact⟨s,p,da,h⟩
   have AL:=Hi.len (Af.an n CL);have II:=TO.rl;refine⟨_,Dn,.inl ⟨Dn,_,n! Hw⟩,?_⟩;change jY _ _ _ _;refine pf FI (aa:=n.aa) (ask:=n.ask) (VW:=λTs kv v=>∃s,kv.1=Xs s/\VR Ts s n.t v) (T0:=Po) (λR hR=>⟨_,rfl,hR⟩) Hz (by lia) KC (λTs By kv v hp⟨s,h1,h2⟩=>⟨s,h1,FI.up _ _ _ _ _ hp h2⟩) (λe kv p H2 R Pp Ac sb FG Bj ep hR=>?_) (λD ps prs H2 Pp s2 FG Bj eD BX AX Cz=>?_)
   .refine hid λZZ kZ=>?_;obtain⟨s0,p0,da,hE,Dg⟩:=Af.ed n CL kv (WT Ac);refine kZ ?_;rw[hE.k,hE.v]at ep;refine⟨p,_,Dn,l! ep,Dn,_,_,Dn,_,_,Dn,Dn,?_⟩;dsimp only[ay];refine hid λZZ kZ=>?_;obtain⟨d,own,kvs,g1,g2,g3⟩:=hE.dg;refine kZ ?_;have kp:∀c o,H4 c=A? o->(∀kv,o≠.dT kv)->(∀kv,o≠.dK kv)->H2 c=A? o:=λc o e h h'=>sb c o (λz=>by rw[z,Bp.ak n CL]at e;cases e;exact h' _ rfl) (GD e h) (ME _ _ (GD e h) e);have KD:¬X d:=(Gz _ _ _ _ _ g3).2;have Gn:d≠ca:=λz=>by rw[z]at g2 KD;rw[Hv _ _ KD g2]at Cj;cases Cj
    have Wm:DgN (DH H2) ca H2 p0 da:=⟨d,own,kvs,Gn,kp _ _ g1 (λ_ z=>nomatch z) (λ_ z=>nomatch z),sb _ _ (aA (ME _ _ KD g2) Hz (λz=>nomatch z)) KD (ME _ _ KD g2),Ht H3 H2 _ _ _ _ ⟨λb xs e=>kp _ _ (s4 _ _ e) (λ_ z=>nomatch z) (λ_ z=>nomatch z),λb xs e=>kp _ _ (s4 _ _ e) (λ_ z=>nomatch z) (λ_ z=>nomatch z)⟩ g3⟩;have Pq:H2 ca=A? (.dT Aw):=sb _ _ (aA Dz Hz (λz=>nomatch z)) MF Dz
    have Wn:∀c∈callsOf (p0.pl []),∃(v:Int)(m:Nd),aG Aw (ky c.2)=A? (.int v)/\n.t.kids[c.2.2.toNat]?=A? m.t/\VR IX c.2.1 m.t v:=λc hc=>by
     obtain⟨j,m,h1,h2,h3,h4⟩:=Dg c hc;obtain⟨w',BF⟩:∃w',ws[j]?=A? w':=⟨_,WQ (by rw[Ds];exact(glE h2))⟩;obtain⟨v,IY,HE⟩:=(Ax.one j m w' h2 BF).val _ h4;exact⟨v,m,Wl _ j w' _ _ h1 BF IY,h3,HE⟩
    have Pe:∀c∈callsOf (p0.pl []),∀v,aG Aw (ky c.2)=A? (.int v)->fOf Aw c.2.1 c.2.2=v:=λc _ v h=>by
     unfold fOf;rw[show ky (c.2.1,c.2.2)=ky c.2 from rfl,h]
    refine⟨_,Dn,g,IW,Dn,Wf,_,Dn,_,Dn,Ph H2 s0 n.t p0 da ca Aw (fOf Aw) Pp _ hE.pat (Ba L (WT hL) n CL) Wm Pq MF FG (λc hc=>?_) λv Pr Wo s3 HF DU Wq=>?_⟩
    .refine hid λZZ kZ=>?_;obtain⟨v,m,h1,h2,h3⟩:=Wn c hc;refine kZ ?_;rw[Pe c hc v h1];exact⟨h1,m.t,h2,FI.up _ _ _ _ _ (GF.trans Bj) h3⟩
    .refine⟨lnE rfl,λpr BP=>?_⟩;exact hR v pr _ Wo (s3.trans (FrX.of (am BP _))) (FI.keep _ _ _ HF (KNL.of (am BP _))) DU (by rw[hE.k];exact ae) ⟨s0,hE.k,Wq⟩
   .have AF:=W9 BX;have Au:=h! Y3 AX;rw[WO,WO]at Au;refine⟨D,ps,prs,Dn,eD,BX,by lia,λwd SF=>?_⟩;have Kx:(prs.map (·.1)).Nodup:=by rw[AX];exact Af.an n CL
    rw[iB prs [] Kx,ZV];refine gU SF λPr s3 e3=>?_;have SG:FrX X H9 Pr:=s2.trans (FrX.of s3);have HG:=SG _ _ (FI.nx KC Hw λ_ z=>nomatch z) Hw;have HF:=FI.keep _ _ _ FG (KNL.of s3);have Pt:=C2.len;rw[XC]at Pt;have hql:=(glE hn);have hln:=Af.ln;refine⟨tl,_,_,Dn,Dn,HG,lbE (by lia),?_⟩;have Wr:wd≠tl:=aA e3 HG (λz=>nomatch z);have SH:FrX X H7 Pr:=(FrX.of (s8.trans s9)).trans SG;refine⟨_,_,_,us++[(wd,prs)],Pp,Dn,λc o hc n e=>by rw[af hc];exact SH _ _ n (s7 c o hc n e),FI.keep _ _ _ HF (iy λo e=>by rw[HG]at e;cases e;exact .inl ⟨_,Dn⟩),GF.trans Bj,⟨⟨by rw[ae,W5];exact rfl,λw' BF=>?_⟩,by rw[W4,XC,YH];lia,λj m w' hm BF=>?_⟩⟩
    .rcases W7.mp BF with h|h
     .obtain⟨h1,h2⟩:=C2.at.2 w' h;exact⟨by rw[af (aA h1 C2.at.1 (λz=>nomatch z))];exact SH _ _ (FI.nx FE h1 λ_ z=>nomatch z) h1,h2⟩
     .rw[WY.mp h];refine⟨by rw[af Wr];exact e3,Kx,λkv Ac=>?_⟩;refine hid λZZ kZ=>?_;obtain⟨v,_,Kb,_,h1,s,h2,_⟩:=Cz kv Ac;refine kZ ?_;exact⟨s,h1.symm.trans h2⟩
    .by_cases Ws:j<q
     .rw[XB (by lia)]at BF;refine(C2.up λ_ _ _ h=>FI.up _ _ _ _ _ Bj h).one j m w' ?_ BF;rw[List.getElem?_take,b! (by lia)]at hm;rw[List.getElem?_take,b! Ws];exact hm
     .have G7:=(Xu.mp BF).1;rw[W4,YH]at G7;have Pu:j=q:=by lia
      subst Pu;rw[X0 (by lia),show j - us.length=0 by lia]at BF;have Wt:(wd,prs)=w':=Xh BF;rw[List.getElem?_take,b! (by lia),hn]at hm;cases hm;rw[<-Wt];refine⟨FI.free FG (ME.trans s2) SF,by show prs.length<=101;lia,λs KG=>?_⟩;refine hid λZZ kZ=>?_;obtain⟨u,hu⟩:=Option.isSome_iff_exists.mp KG;have Cu:(Xs s:Key)∈prs.map (·.1):=by rw[AX];exact Xn.mpr ⟨_,f9 hu,rfl⟩
      obtain⟨pr,BP,CQ⟩:=Xn.mp Cu;obtain⟨v,h1,Kb,_,h2,s',h3,h4⟩:=Cz pr BP;refine kZ ?_;have Pd:s'=s:=Sum.inl.inj (h3.symm.trans (h2.trans CQ));have:=wu Kx BP;rw[CQ,h1]at this;exact⟨v,this,Pd ▸ h4⟩
  .rintro Y H7 ⟨c8,c9,B7,us,Po,rfl,s7,FE,GF,C2⟩;rw[WO,Zi]at C2;refine⟨_,Dn,_,_,_,_,_,tl,us,Po,Dn,λc o n e=>s7 c o (λz=>by rw[z,ED]at e;cases e) n (Cp _ _ n e),FE,Hu.trans GF,?_⟩
   have e2:nxt Ls (Ls.length - (i+1)) []=L.ns:=by
    unfold nxt;rw[show Ls.length - (i+1)=Ls.length - 1 - i by lia,hL]
   rw[e2];exact C2
 .rintro Y H5 ⟨c6,c7,c8,c9,B7,bl,ws,IX,rfl,s5,EC,Hu,Ax⟩;rw[WO,Nat.sub_self]at Ax;refine hid λZZ kZ=>?_;obtain⟨L0,n0,h1,h2,h3,h4⟩:=Ho
  have e2:nxt Ls 0 []=[n0]:=by
   unfold nxt;rw[h1];exact h2
  rw[e2]at Ax
  obtain⟨w0,Pw⟩:∃w0,ws[0]?=A? w0:=by
   have:=Ax.len;exact⟨_,WQ (by rw[this];exact Nat.zero_lt_one)⟩
  obtain⟨v,IY,HE⟩:=(Ax.one 0 n0 w0 rfl Pw).val (-1) h4;refine kZ ?_;rw[h3]at HE;have gk:DGet H5 w0.1 (.int (-1)) (A? (.int v)):=by have:=DGet.k (k:=Xs (-1)) ((Ax.at.2 w0 (WT Pw)).1);rw[IY]at this;exact this
  exact⟨_,Dn,bl,_,_,.ref w0.1,Dn,Dn,n! Ax.at.1,bL (j:=0) (gmE Pw),w0.1,_,Dn,gk,k v H5 IX ((FrX.of DB).trans s5) EC Hu HE⟩
def vz:DP:=λp own _ kvs=>∃es:CLs,own=.int (p.tall:Nat)/\kvs=dE es/\DepthE (callsOf (p.pl [])) es/\(callsOf (p.pl [])).length<=10000
structure PatS(p:Th):Prop where
 size:p.size<=10000
 tall:p.tall<=150
 kn:(p.walk.filter D!).length=p.kn
theorem PatS.calls(h:PatS p):(callsOf (p.pl [])).length<=10000:=by
 have h1:=cW (p.pl []);have h2:=J! [] p;have h3:=h.size;lia
theorem dgT(Hs:Hp):r8 Hs (λ_=>vz) eR PatS:=λH1 p pa R _ hA ok hR=>⟨pa,p,rfl,hA,ok.size,ok.tall,λr d es H' s hd er ed hT=>hR r d _ _ H' s hd er ed ⟨es,rfl,rfl,hT,ok.calls⟩⟩
theorem zD(p:Th)(own:V)(d:WS)(kvs:List (List Key×V))(h:vz p own d kvs):g8 p kvs:=by
 obtain⟨es,_,rfl,h,_⟩:=h;exact oh h.toCallsE
theorem wT{head:Th}{t:Th}(gi:aL ins):wa ins rows head W t (λ_=>False) (λ_ _=>True) (λ_=>VRt ins rows head) (λ_=>vz) cZ:=λH1 s u p da ca Aw f Ts R hp _ hd Dz _ _ hv hR=>by
 refine hid λZZ kZ=>?_;obtain⟨d,own,kvs,h0,h1,h2,es,rfl,rfl,hT,hl⟩:=hd;refine kZ ?_;have BC:=hT.toCallsE.len;refine⟨da,d,ca,_,es,Aw,f,Dn,h1,h2,Dz,h0,by lia,λe he=>?_,λH' M s' hm ha=>hR _ H' Ts (FrX.of s') trivial List.prefix_rfl (ye gi s u p f M hp (λc hc h hh=>?_) (tP hT hm ha))⟩
 .obtain⟨c,hc,e2⟩:=hT.of e he;have:=(hv c hc).1;rw[e2]at this;exact this
 .refine hid λZZ kZ=>?_;obtain⟨_,h',h1,h2⟩:=hv c hc;refine kZ ?_;rw[h1]at hh;cases hh;exact h2
structure CntI(H:Hp)(ins outs:List (Xj×Int))(S:Int)(dp:Nat)(head:Th)(rows:List (List Th))(t:Th)(b ta:WS):Prop where
 bk:Bk H ins outs head rows b
 gi:aL ins
 ok0:∃h0,fw ins outs S dp h0 rows
 hdf:head.FitS outs S 1
 le:S<=100
 pat:∀row∈rows,∀p∈row,PatS p
 hd:PatS head
 tr:At H t ta
 fit:t.Fit ins
 tall:t.tall<=100
 size:t.size<=40000
inductive im(vs:List V)(H:Hp)(Q:VK)(_E:XK):Prop
 |mk (b ta:WS) (ins outs:List (Xj×Int)) (S:Int) (dp:Nat) (head:Th) (rows:List (List Th)) (t:Th):vs=[.ref b,.ref ta]->CntI H ins outs S dp head rows t b ta->(∀(v:Int)(H':Hp),j! H H'->VRt ins rows head (-1) (.knot YU [t]) v->Q (.int v) H')->im  vs H Q _E
theorem CntI.head{dp:Nat}{hd head:Th}{t:Th}(h:CntI H ins outs S dp hd rows t b ta)(hf:head.FitS outs S 1):∀c∈callsOf (head.pl []),∃p',Step ins rows c.2.1 c.2.2 [t] p' t:=λc hc=>by
 refine hid λZZ kZ=>?_;obtain⟨a1,a2,a3,a4⟩:=fT head [] hf c hc;obtain⟨h0,ok⟩:=h.ok0;obtain⟨p',u,st⟩:=my ok (ks:=[t]) a1 a2 a3 (by simpa using a4) (λu hu=>by rw[WY.mp hu];exact h.fit);refine kZ ?_;have hu:=st.2.2.1;have e:c.2.2.toNat=0:=by lia
 rw[e]at hu;have:t=u:=Xh hu;subst this;exact⟨p',st⟩
theorem ir:FnOk P w K mg base CX0 7 T.g_38.f T.g_38.d ["book","tree"] im:=by
 refine T.g_38.F.okA nD λzZ A outer s H vs Q E hr h=>?_;obtain⟨b,ta,ins,outs,S,dp,head,rows,t,rfl,I,k⟩:=h;refine⟨_,(aj (ax (pcF T.g_32 (jc T) hr (ac (pv 0) (ac (pcF T.g_16 (dI T) hr (ac (pv 0) ad)) (ac (pv 1) (ac (bY (v:=.ref T.g_35.f) rfl T.g_35.m rfl) (ac (bY (v:=.ref T.g_36.f) rfl T.g_36.m rfl) ad)))))))),?_⟩
 try dsimp only[Ak,zY]
 refine hid λZZ kZ=>?_;obtain⟨ia,oa,ha,ra,Al,Ap,Aq,hB⟩:=I.bk;obtain⟨h0,ok⟩:=I.ok0;refine kZ ?_;exact⟨_,Dn,_,Dn,b,_,_,_,_,Dn,hB.bk,_,Dn,b,ha,ta,T.g_35.f,T.g_36.f,ins,outs,head,head,t,rows,_,_,(λ_=>vz),PatS,t.walk,(λ_=>False),(λ_ _=>True),(λ_=>VRt ins rows head),[],Dn,I.bk,I.gi,λrow hr=>⟨(ok.row row hr).len,I.pat row hr⟩,hB.hd,I.hd,FvOk.of (m7 T) T.g_35.F T.g_35.b,dgT _,(λ_ _ _ _ _ _ _ h=>h),λ_ p own d kvs h=>⟨zD p own d kvs h,id⟩,I.tr,I.fit,I.tall,by rw[B!];exact W2 ..,nZ I.gi ok I.le I.size,I.head I.hdf,FvOk.lv (by decide) (FvOk.of (jJ T) T.g_36.F T.g_36.b),⟨λ_ _ _ _ _=>trivial,λ_ _ _ _ z=>z.elim,λ_ _ _ _ _ _ h=>h⟩,trivial,wT I.gi,λv H' Ts f _ _ h=>k v H' (λb o e=>f b o id e) h⟩
def vX:DP:=λp own _ kvs=>∃es:CLs,own=.int (p.kn:Nat)/\kvs=dE es/\TimesE (callsOf (p.pl [])) es/\(callsOf (p.pl [])).length<=10000
theorem dgS(Hs:Hp):r8 Hs (λ_=>vX) fB PatS:=λH1 p pa R _ hA ok hR=>⟨pa,p,rfl,hA,ok.size,ok.tall,λr d es H' s hd er ed hT=>hR r d _ _ H' s hd er ed ⟨es,by rw[ok.kn],rfl,hT,ok.calls⟩⟩
theorem zP(p:Th)(own:V)(d:WS)(kvs:List (List Key×V))(h:vX p own d kvs):g8 p kvs:=by
 obtain⟨es,_,rfl,h,_⟩:=h;exact oh h.toCallsE
theorem wS{head:Th}{t:Th}(gi:aL ins):wa ins rows head W t (λ_=>False) (λ_ _=>True) (λ_=>VRs ins rows head) (λ_=>vX) dN:=λH1 s u p da ca Aw f Ts R hp _ hd Dz _ _ hv hR=>by
 refine hid λZZ kZ=>?_;obtain⟨d,own,kvs,h0,h1,h2,es,rfl,rfl,hT,hl⟩:=hd;refine kZ ?_;have BC:=hT.toCallsE.len;refine⟨da,d,ca,_,es,Aw,f,Dn,h1,h2,Dz,h0,by lia,λe he=>?_,λH' s'=>hR _ H' Ts (FrX.of s') trivial List.prefix_rfl (xA gi s u p f _ hp (λc hc h hh=>?_) ?_)⟩
 .refine hid λZZ kZ=>?_;obtain⟨p1,p2⟩:=hT.pos e he;obtain⟨c,hc,e2⟩:=hT.of e he;refine kZ ?_;have:=(hv c hc).1;rw[e2]at this;exact⟨p1,by lia,this⟩
 .refine hid λZZ kZ=>?_;obtain⟨_,h',h1,h2⟩:=hv c hc;refine kZ ?_;rw[h1]at hh;cases hh;exact h2
 .unfold Wvs;rw[hT.sum f]
inductive je(vs:List V)(H:Hp)(Q:VK)(_E:XK):Prop
 |mk (b ta:WS) (ins outs:List (Xj×Int)) (S:Int) (dp:Nat) (head:Th) (rows:List (List Th)) (t:Th):vs=[.ref b,.ref ta]->CntI H ins outs S dp head rows t b ta->(∀(v:Int)(H':Hp),j! H H'->VRs ins rows head (-1) (.knot YU [t]) v->Q (.int v) H')->je  vs H Q _E
theorem oI:FnOk P w K mg base CX0 7 T.g_37.f T.g_37.d ["book","tree"] je:=by
 refine T.g_37.F.okA oW λzZ A outer s H vs Q E hr h=>?_;obtain⟨b,ta,ins,outs,S,dp,head,rows,t,rfl,I,k⟩:=h;refine⟨_,(aj (ax (pcF T.g_32 (jc T) hr (ac (pv 0) (ac (pcF T.g_16 (dI T) hr (ac (pv 0) ad)) (ac (pv 1) (ac (bY (v:=.ref T.g_33.f) rfl T.g_33.m rfl) (ac (bY (v:=.ref T.g_34.f) rfl T.g_34.m rfl) ad)))))))),?_⟩
 try dsimp only[Ak,zY]
 refine hid λZZ kZ=>?_;obtain⟨ia,oa,ha,ra,Al,Ap,Aq,hB⟩:=I.bk;obtain⟨h0,ok⟩:=I.ok0;refine kZ ?_;exact⟨_,Dn,_,Dn,b,_,_,_,_,Dn,hB.bk,_,Dn,b,ha,ta,T.g_33.f,T.g_34.f,ins,outs,head,head,t,rows,_,_,(λ_=>vX),PatS,t.walk,(λ_=>False),(λ_ _=>True),(λ_=>VRs ins rows head),[],Dn,I.bk,I.gi,λrow hr=>⟨(ok.row row hr).len,I.pat row hr⟩,hB.hd,I.hd,FvOk.of (pF T) T.g_33.F T.g_33.b,dgS _,(λ_ _ _ _ _ _ _ h=>h),λ_ p own d kvs h=>⟨zP p own d kvs h,id⟩,I.tr,I.fit,I.tall,by rw[B!];exact W2 ..,nZ I.gi ok I.le I.size,I.head I.hdf,FvOk.lv (by decide) (FvOk.of (jX T) T.g_34.F T.g_34.b),⟨λ_ _ _ _ _=>trivial,λ_ _ _ _ z=>z.elim,λ_ _ _ _ _ _ h=>h⟩,trivial,wS I.gi,λv H' Ts f _ _ h=>k v H' (λb o e=>f b o id e) h⟩
inductive fu(vs:List V)(H:Hp)(Q:VK)(_E:XK):Prop
 |mk (a:WS) (t:Th):vs=[.ref a]->At H t a->t.size<=10000->t.tall<=150->(∀(r d la:WS)(as:List WS)(kvs:List (List Key×V))(H':Hp),j! H H'->H d=B?->H' r=A? (.tup [.ref la,.ref d])->H' d=A? (.dT kvs)->H' la=A? (.lst (as.map i!))->Ats H' t.walk as->g8 t kvs->Q (.ref r) H')->fu  vs H Q _E
theorem pQ:FnOk P w K mg base CX0 4 T.g_41.f T.g_41.d ["pattern"] fu:=by
 refine T.g_41.F.okA oH λzZ A outer s H vs Q E hr h=>?_;obtain⟨a,t,rfl,hA,hsz,Ae,q⟩:=h;refine⟨_,(aj (ax (aQ (ac (pcF T.g_3 (i4 T) hr (ac (pv 0) ad)) (ac (aS (j6 (rV hr) rfl) rfl T.n_2 PyProof.Rows.boot_dict (ac (bZ (N:=["place","call"]) (js:=[B?,B?]) (g:=(pL K 2 (dS (ay 0) (dS (ay 1) oy)))) (tt:=bE) (te:=(qi (bP (bt 1) (bP (tC (.bl C?)) gb)))) rfl (cy rfl (by decide +kernel) (by decide +kernel) rfl rfl rfl) (cT (pcF T.g_14 (fI T) hr (ac (pv 0) ad))) (λ_ _ _ _ _ _=>(bh rfl (au (pgN 0 yw) (au (pgN 1 yw) aT)))) (iW (cz bv (aV rfl) (cz bv (aV rfl) i8))) (λ_ _ _ _ _ _=>bT) (λ_ _ _ _ _ _=>(aQ (ac (pv 1) (ac ji ad))))) ad)) ad))))),?_⟩
 try dsimp only[Ak,zY]
 refine⟨_,Dn,a,t,Dn,hA,by lia,λla ws H1 s1 _ KH Ax=>?_⟩;refine⟨_,Dn,a,t,Dn,hA.mono (k! s1),by lia,by lia,λr as H2 s2 er BW=>?_⟩;have Af:(callsOf (t.pl [])).length=as.length:=W9 BW;have Wu:=cW (t.pl []);rw[J!]at Wu;refine⟨r,Dn,⟨_,n! er⟩,rQ (F:=CtAt) (xs:=as.map i!) (callsOf (t.pl [])) (λH1 H2 z p kt h=>h.mono kt) (by rw[WO];exact Af) (by rw[WO];lia) (λi Hx sx hi=>⟨_,_,n! (sx _ _ er),WQ hi⟩) (λHx sx=>⟨_,n! (sx _ _ er),W0 _⟩) (λi Hx x Hy sx hi hy=>⟨hy.1,hy.2 _ (n! (sx _ _ er))⟩) (λi x z Hx R W' hx IZ sx Wv=>?_) (λD H3 bs hD s3 eD AO=>?_)⟩
 .refine hid λZZ kZ=>?_;obtain⟨pa,rfl,CB⟩:=bq hx;obtain⟨c,hc,pl,ca,Bd,epl,Dz⟩:=C! BW CB;refine kZ ?_;rw[IZ]at hc;cases hc;refine⟨pa,_,Dn,l! (sx _ _ Bd),Dn,_,_,Dn,_,_,Dn,Dn,?_⟩;refine⟨_,Dn,lnE rfl,λp4 FH=>?_⟩;have s5:=am FH (.tup [.ref ca,.bl C?]);exact Wv _ p4 s5 ⟨ca,ae,s5 _ _ (sx _ _ Dz)⟩
 refine⟨D,bs,_,Dn,eD,xX AO,by rw[WO];lia,λta BH=>?_⟩;refine gU BH λH4 s4 e4=>?_;refine⟨lnE rfl,λp5 Hu=>?_⟩;have s5:=am Hu (.tup [.ref la,.ref ta]);have Px:=((s2.trans s3).trans s4).trans s5;exact q p5 ta la ws _ _ (s1.trans Px) ((s1.trans (s2.trans s3)).free BH) ae (s5 _ _ e4) (Px _ _ KH) (Ax.mono (k! Px)) (sQ rfl)
def nV(i:Nat):V:=.int (i:Nat)
theorem oY(n:Xj)(ids:List Nat):(gf (n,ids)).map kV=F! n::ids.map nV:=by
 unfold gf;rw[XG,Zd];rfl
theorem ki:∀{a:List α}{b:List β},Xv F a b->Xv (λy x=>F x y) b a
 |_,_,.nil=>.nil
 |_,_,.cons h t=>.cons h (ki t)
inductive gJ(vs:List V)(H:Hp)(Q:VK)(_E:XK):Prop
 |mk (ea la na:WS) (as:List WS) (t:Th) (E0:List (Xj×List Nat)) (T0:List Th) (Aw:List (List Key×V)) (g:Int->Int->Th) (All:List Th):vs=[.ref ea,.ref la,.ref na]->H ea=A? (.dT (kvsOf E0))->Cl E0 T0->(∀e∈E0,e.2.length<=100000)->H la=A? (.lst (as.map i!))->Ats H t.walk as->H na=A? (.dT Aw)->na≠ea->(∀s k,A! s k∈t.walk->∃j:Nat,aG Aw (ky (s,k))=A? (.int (j:Nat))/\T0[j]?=A? (g s k))->t.size<=100000->(∀u∈T0,u∈All)->(∀n ks,r! n ks∈t.walk->(r! n ks).fill g∈All)->All.length<=900000->(∀(E:List (Xj×List Nat))(Ts:List Th)(at':Nat)(H':Hp),(∀b o,b≠ea->H b=A? o->H' b=A? o)->H' ea=A? (.dT (kvsOf E))->Cl E Ts->T0 <+: Ts->(∀u∈Ts,u∈All)->Ts[at']?=A? (t.fill g)->(∀e∈E,e.2.length<=100000)->Q (.int (at':Nat)) H')->gJ  vs H Q _E
theorem kW:FnOk P w K mg base CX0 2 T.g_42.f T.g_42.d ["entries","parts","numbers"] gJ:=by
 refine T.g_42.F.okA eV λzZ A outer s H vs Q E hr h=>?_;obtain⟨ea,la,na,as,t,E0,T0,Aw,g,All,rfl,ee,Py,Pz,el,hw,Ww,Bn,Di,hsz,KI,PB,PD,q⟩:=h
 refine⟨_,(ag (ao 3 eV.nd (aN ad))
  (ag (br Xw rfl (qz rfl T.n_12 (pv 1)) (pgN 4 eV.nd) (aj (cb (bH (pcF T.g_8 (eF T) hr (ac (pv 4) ad)) (λ_=>rfl)) (aj (aM (bD Xb Xp Xo aH (pv 3) (ac (dW (cw hr) (pv 2) (pcF T.g_11 (fb T) hr (ac (pv 4) ad)) (λ_ _=>rfl)) ad)))) (ag (eU (i:=5) (N:=["kid","done"]) (js:=[B?,A? 3]) (g:=(ay 0)) (tt:=bE) (te:=(xq K "list" (xz) (bt 1))) eV.nd rfl (Or.inl rfl) rfl (cy rfl (by decide +kernel) (by decide +kernel) rfl rfl rfl) (dJ (aX fJ (pv 4) (bj ai) bp)) (λ_ _ _ _ _ _=>(pgN 0 zu)) (aV rfl) (λ_ _ _ _ _ _=>bT) (λ_ _ _ _ _ _=>(i3 Xb Zp Zo iS (pv 1))))
  (aj (aM (bD Xb Xp Xo aH (pv 3) (ac (bD PySem.F.plainAttrs_dict PySem.F.slot_dict_setdefault PySem.F.type_dict_setdefault (lM (cw hr)) (pv 0) (ac (av cP (aX jS (pv 4) bp (bj ai)) (aS aR rfl T.n_14 XX (ac (pv 5) ad))) (ac (az tE rfl T.n_6 Xy (ac (pv 0) ad)) ad))) ad))))))))
  (aj (ax (aD bd (pv 3) ai (λ_ _=>rfl)))))),?_⟩
 try dsimp only[Ak,zY]
 have AL:as.length=t.walk.length:=hw.length;have Ds:=t.walk_len;obtain⟨Bm,hok⟩:=r6 g t;obtain⟨tops,CM⟩:∃tops,tops=t.walk.map (cB g):=⟨_,rfl⟩;rw[<-CM]at Bm hok;have Ae:tops.length=t.walk.length:=by rw[CM,WO]
 refine⟨lnE rfl,λdn CS=>?_⟩;have HH:dn≠ea:=λz=>by rw[z,ee]at CS;cases CS
 have JM:la≠ea:=aA el ee (by intro z;cases z);refine⟨_,Dn,la,_,Dn,n! (am CS _ _ _ el),?_⟩
 refine m9 (K:=K) (a:=la) (xs:=as.map i!) (λi Y H2=>Ex5 λc4 c5 ds E Ts=>An9 (Y=[A? (.ref ea),A? (.ref la),A? (.ref na),A? (.ref dn),c4,c5]) ((∀b o,b≠ea->H b=A? o->H2 b=A? o)) (H2 ea=A? (.dT (kvsOf E))) (H2 dn=A? (.lst (ds.map nV))) (Cl E Ts) (Xv (λu id=>Ts[id]?=A? u) (bl (tops.drop (tops.length - i))).reverse ds) (T0 <+: Ts) ((∀u∈Ts,u∈All)) (∀e∈E,e.2.length<=100000))
  ⟨B?,B?,[],E0,T0,rfl,λb o hb e=>am CS _ _ _ e,by rw[af HH.symm];exact ee,ae,Py,by rw[Nat.sub_zero,List.drop_length];exact .nil,List.prefix_rfl,KI,Pz⟩ (λi Y H2 _⟨_,_,_,_,_,_,s2,_,_,_,_,_,_,_⟩=>n! (s2 _ _ JM el)) ?_ ?_
 .rintro i y Y H2 hi hy ⟨c4,c5,ds,E,Ts,rfl,s2,e2,CT,Af,Bq,AH,A',HI⟩
  have KJ:E.length<=900000:=by
   rw[Af.len];exact X2 (bM Af.nd A') PD
  rw[WO,AL,<-Ae]at hi hy;refine hid λZZ kZ=>?_;obtain⟨pa,rfl,CB⟩:=bq hy;obtain⟨p,hp,PF⟩:=hw.get CB;have Wx:KT H H2:=λb xs e=>s2 b _ (aA e ee (by intro z;cases z)) e;have IT:=PF.mono Wx;have hn:tops.length - 1 - i<tops.length:=by lia
  have hx:tops[tops.length - 1 - i]?=A? (cB g p):=by rw[CM,Xd,<-CM,hp];rfl
  have EE:tops.drop (tops.length - 1 - i)=cB g p::tops.drop (tops.length - i):=by
   rw[YE hn,show tops.length - 1 - i+1=tops.length - i by lia];congr 1;rw[WQ hn]at hx;exact Xh hx
  have Cm:=hok.drop (tops.length - 1 - i);rw[EE]at Cm;have B8:tops.length - (i+1)=tops.length - 1 - i:=by lia
  have HJ:(bl (tops.drop (tops.length - i))).length<=100000:=by
   have:=nT (tops.drop (tops.length - i));rw[XJ]at this;lia
  obtain⟨S',IV⟩:=vY g t (i:=tops.length - 1 - i) hp;refine kZ ?_;rw[<-CM,EE]at IV;generalize tops.drop (tops.length - i)=S at EE Bq Cm HJ IV;cases p with
  | call sn kn =>
    obtain⟨j,PH,G7⟩:=Di sn kn (WT hp)
    have Wy:Ts[j]?=A? (g sn kn):=by
     obtain⟨r,rfl⟩:=AH;rw[XB (glE G7)];exact G7
    have PJ:=s2 _ _ Bn Ww;refine⟨_,Dn,pa,.call sn kn,Dn,IT,C?,Dn,?_⟩;refine qg ?_;have Wz:=CT;refine⟨_,Dn,.inl ⟨Dn,_,n! CT⟩,_,Dn,_,Dn,pa,sn,kn,Dn,IT,λp3 DU=>?_⟩;refine gU DU λH3 s3 e3=>?_;have e3:H3 p3=A? (.tup ((ky (sn,kn)).map kV)):=e3;have hg:DGet H3 na (.ref p3) (A? (.int (j:Nat))):=by have:=DGet.t (s3 _ _ PJ) e3;rw[PH]at this;exact this
    refine⟨na,_,Dn,hg,dn,_,_,Dn,Dn,s3 _ _ CT,bc (by rw[WO];have:=W9 Bq;rw[XR]at this;lia),?_⟩;refine⟨_,_,ds++[j],E,Ts,Dn,λb o hb e=>?_,?_,?_,Af,?_,AH,A',HI⟩
    .rw[af (aq e CS)];exact s3 _ _ (s2 b o hb e)
    .rw[af HH.symm];exact s3 _ _ e2
    .rw[ae,W5];rfl
    .rw[B8,EE,cB,bl,XW];exact p! Bq (.cons Wy .nil)
  |knot n ts =>
  rw[cB,TopsOk]at Cm;have KL:=IT;rw[At]at KL;refine hid λZZ kZ=>?_;obtain⟨MG,Bs,Bd,FJ⟩:=KL;have DV:Bs.length=ts.length:=FJ.length;obtain⟨m,hm⟩:∃m,m=ts.length:=⟨_,rfl⟩;refine kZ ?_;rw[<-hm]at Cm DV;have HK:bl (cB g (.knot n ts)::S)=.knot n ((bl S).take m)::(bl S).drop m:=by rw[cB,bl,<-hm]
  refine⟨_,Dn,pa,.knot n ts,Dn,IT,D?,Dn,?_⟩;refine uy ?_;refine⟨_,Dn,1,Dn,pa,_,Dn,l! Bd,?_,λp2 Bj=>?_⟩
  .rintro⟨z,_⟩;rw[W8,show(1:Int)=((1:Nat):Int)by rfl,y!]at z;lia
  dsimp only;rw[dH];refine gU Bj λH3 s3 e3=>?_;have FK:=s3 _ _ CT;have PK:p2≠dn:=aA e3 FK (by intro z;cases z);refine⟨p2,Dn,⟨_,l! e3⟩,λD hD=>?_⟩;have CG:D≠dn:=λz=>by rw[z,FK]at hD;cases hD
  refine⟨m,λj H4=>An3 (j<=m) ((∀b o,H3 b=A? o->b≠dn->H4 b=A? o)) (Ex2 λ(B9 ks:List Nat)=>An4 (H4 dn=A? (.lst (B9.map nV))) (H4 D=A? (.lst (ks.map nV))) (Xv (λu id=>Ts[id]?=A? u) ((bl S).drop j).reverse B9) (Xv (λu id=>Ts[id]?=A? u) ((bl S).take j) ks)),
   ⟨XA _,λb o e hb=>?_,ds,[],?_,?_,?_,?_⟩,?_⟩
  .rw[af (aq e hD)];exact e
  .rw[af CG.symm];exact FK
  .rw[ae];rfl
  .rw[Yw];exact Bq
  .rw[Zm];exact .nil
  rintro j H4 ⟨hj,kp,B9,ks,ed,eD,Ea,hd2⟩;have SJ:=kp _ _ e3 PK;by_cases MH:j=m
  .left;refine⟨⟨_,l! SJ,by rw[WO];lia⟩,?_⟩;subst MH;have PL:=kp _ _ (s3 _ _ Bd) (aA (s3 _ _ Bd) FK (by intro z;cases z));have SK:=kp _ _ (s3 _ _ e2) HH.symm;have Au:((bl S).take j).length=ks.length:=W9 hd2;have E3:((bl S).drop j).reverse.length=B9.length:=W9 Ea;rw[XC]at Au;rw[XR,XJ]at E3;refine⟨_,Dn,.inl ⟨Dn,_,n! ed⟩,_,Dn,.inr (.inr (.inl ⟨Dn,.inr ⟨_,SK⟩⟩)),_,Dn,1,Dn,pa,_,Dn,PL,λp3 H5 s5 e5=>?_⟩;rw[jP]at e5;refine⟨_,Dn,D,_,Dn,.inl ⟨n! (s5 _ _ eD),λp4 FH=>?_⟩⟩;refine gU FH λH6 s6 e6=>?_;refine lO (s6 _ _ e5) e6 (by rw[WO];show 1+ks.length<=1000000;lia) λp5 H7 s7 e7=>?_;have PM:=s5.trans (s6.trans s7);have PN:=PM _ _ SK;have SM:=PM _ _ ed;have hEs:E.length<1000000:=by lia
   have SN:∀b o,b≠ea->H b=A? o->H7 b=A? o:=λb o hb e=>PM _ _ (kp b o (s3 _ _ (s2 b o hb e)) (aq e CS));refine⟨_,Dn,ea,_,Dn,PN,ea,p5,_,gf (n,ks),kvsOf E,Dn,Dn,PN,by rw[oY];exact e7,bc (by rw[iX];lia),λu hu=>?_,λEx=>?_⟩
   .obtain⟨i0,rfl,WA⟩:=qT hu;have WB:=Af.found WA (ki hd2);refine⟨dn,_,_,Dn,Dn,SM,lbE (by lia),?_⟩;refine⟨_,_,B9++[i0],E,Ts,Dn,λb o hb e=>?_,?_,?_,Af,?_,AH,A',HI⟩
    .rw[af (aq e CS)];exact SN b o hb e
    .rw[af HH.symm];exact PN
    .rw[ae,W5];rfl
    .rw[B8,EE,HK,XW];exact p! Ea (.cons WB .nil)
   .obtain⟨PQ,PR⟩:=qa Ex;rw[iX,PR];have FL:=Af.snoc PQ (ki hd2)
    have up:∀(u:Th)(id:Nat),Ts[id]?=A? u->(Ts++[r! n ((bl S).take j)])[id]?=A? u:=λu id h=>by
     rw[XB (glE h)];exact h
    refine⟨dn,_,_,Dn,Dn,by rw[af HH];exact SM,lbE (by lia),?_⟩
    refine⟨_,_,B9++[E.length],E++[(n,ks)],Ts++[.knot n ((bl S).take j)],Dn,λb o hb e=>?_,?_,?_,FL,?_,AH.trans (List.prefix_append _ _),λu hu=>?_,λe he=>by
     rcases W7.mp he with he|he
     .exact HI e he
     .rw[WY.mp he];show ks.length<=100000;lia⟩
    .rw[af (aq e CS),af hb];exact SN b o hb e
    .rw[af HH.symm,ae]
    .rw[ae,W5];rfl
    .rw[B8,EE,HK,XW];refine p! (w! up Ea) (.cons ?_ .nil);rw[Af.len];simp
    .rcases W7.mp hu with hu|hu
     .exact A' u hu
     .rw[WY.mp hu];rw[HK]at IV;rw[(List.cons.inj IV).1];exact PB n ts (WT hp)
  .right;have Bb:j<m:=by lia
   refine⟨Bb,⟨_,_,l! SJ,WQ (by rw[WO];lia)⟩,?_⟩;rintro x' H5 ⟨e1,_⟩;have C5:H5=H4:=e1;subst C5;have KN:j<(bl S).length:=by lia
   have PU:(bl S).drop j=(bl S)[j]::(bl S).drop (j+1):=YE KN;rw[PU,XW]at Ea
   have Ar:B9≠[]:=by
    intro z;subst z;have:=W9 Ea;rw[W4]at this;simp at this
   refine hid λZZ kZ=>?_;obtain⟨DC,b,rfl⟩:∃DC b,B9=DC++[b]:=⟨B9.dropLast,B9.getLast Ar,(YL Ar).symm⟩;obtain⟨Us,x2,WC,hU,hb2⟩:=P2.snoc_inv Ea;obtain⟨e5,e6⟩:=List.append_inj' WC rfl;refine kZ ?_;cases e6;subst e5;have AE:((bl S).take j).length=ks.length:=W9 hd2;rw[XC]at AE;refine⟨_,Dn,.inl ⟨Dn,_,n! ed⟩,dn,_,nV b,Dn,Dn,ed,by simp,?_⟩;have d1:((DC++[b]).map nV).dropLast=DC.map nV:=by simp
   rw[d1];have MI:(upd H5 dn (.lst (DC.map nV))) D=A? (.lst (ks.map nV)):=by rw[af CG];exact eD
   refine⟨_,MI,lbE (by lia),Bb,λb' o e AQ=>?_,DC,ks++[b],?_,?_,hU,?_⟩
   .rw[af (aq e hD),af AQ];exact kp b' o e AQ
   .rw[af CG.symm,ae]
   .rw[ae,W5];rfl
   .rw[X5,WQ KN];exact p! hd2 (.cons hb2 .nil)
 .rintro Y H2 ⟨c4,c5,ds,E,Ts,rfl,s2,e2,CT,Af,Bq,AH,A',HI⟩;rw[WO,AL,<-Ae,Nat.sub_self,Yw,Bm]at Bq
  obtain⟨at',rfl,AI⟩:∃at',ds=[at']/\Ts[at']?=A? (t.fill g):=by
   have FN:Xv (λu id=>Ts[id]?=A? u) [t.fill g] ds:=Bq;cases FN with
   |cons a b=>cases b;exact⟨_,Dn,a⟩
  refine⟨_,Dn,dn,_,0,.int (at':Nat),Dn,Dn,n! CT,at0,q E Ts at' H2 s2 e2 Af AH A' AI HI⟩
def EnA(H:Hp)(e:Xj×List Nat)(b:WS):Prop:=H b=A? (.tup (.str e.1::e.2.map nV))
theorem lw{a:List α}{b:List β}(h:Xv F a b){x:α}{y:β}(hx:a[i]?=A? x)(hy:b[i]?=A? y):F x y:=by
 obtain⟨y',h1,h2⟩:=x! h hx;rw[hy]at h1;cases h1;exact h2
theorem rc{c:α}{l2:List α}:∀{l1:List α}{ks:List β},Xv F (l1++c::l2) ks->∃k1 kc k2,ks=k1++kc::k2/\Xv F l1 k1/\F c kc/\Xv F l2 k2
 | [],_,.cons h t=>⟨[],_,_,rfl,.nil,h,t⟩
 | x::l1,_,.cons h t=>by
   refine hid λZZ kZ=>?_;obtain⟨k1,kc,k2,e,h1,h2,h3⟩:=rc t;refine kZ ?_;exact⟨_::k1,kc,k2,by rw[e];rfl,.cons h h1,h2,h3⟩
theorem xL:∀{a:List α},(∀x∈a,∃y,F x y)->∃b,Xv F a b
 | [],_=>⟨[],.nil⟩
 | x::a,h=>by
   obtain⟨y,hy⟩:=h x (W2 ..);obtain⟨b,hb⟩:=xL λz hz=>h z (WR _ hz);exact⟨y::b,.cons hy hb⟩
theorem oP{a:List α}{b:List β}(h:Xv F a b){y:β}(hy:y∈b):∃x∈a,F x y:=by
 refine hid λZZ kZ=>?_;obtain⟨i,hi⟩:=Xk.mp hy;obtain⟨x,hx,hf⟩:=C! h hi;refine kZ ?_;exact⟨x,WT hx,hf⟩
theorem qe{a:List α}{b:List β}(h:Xv F a b){x:α}(hx:x∈a):∃y∈b,F x y:=by
 refine hid λZZ kZ=>?_;obtain⟨i,hi⟩:=Xk.mp hx;obtain⟨y,hy,hf⟩:=x! h hi;refine kZ ?_;exact⟨y,WT hy,hf⟩
theorem pM:∀{l:List Nat}{N:Nat},l.Pairwise (· > ·)->(∀a∈l,a<N)->l.length<=N
 | [],_,_,_=>XA _
 | a::l,N,h,hN=>by
   obtain⟨h1,h2⟩:=List.pairwise_cons.mp h;have:=pM h2 h1;have:=hN a (W2 ..);rw[W8];lia
def pX(as:List Nat):Nat:=match as.getLast? with|none=>0 |some a=>a+1
theorem mM(as:List Nat)(a:Nat):pX (as++[a])=a+1:=by
 unfold pX;rw[List.getLast?_concat]
theorem vx{as:List Nat}{N:Nat}(h:∀a∈as,a<N):pX as<=N:=by
 unfold pX;cases e:as.getLast? with
 |none=>exact XA _
 |some a=>exact h a (List.mem_of_getLast? e)
inductive jC(vs:List V)(H:Hp)(Q:VK)(_E:XK):Prop
 |mk (ra:WS) (at':Nat) (bs:List WS) (E:List (Xj×List Nat)) (Ts:List Th) (t:Th):vs=[.ref ra,.int (at':Nat)]->H ra=A? (.lst (bs.map i!))->Xv (EnA H) E bs->Cl E Ts->Ts[at']?=A? t->E.length<=900000->(∀e∈E,e.2.length<=100000)->(∀(r tp:WS)(cs:List WS)(To:List (Xj×List Nat))(ix:Nat)(H':Hp),j! H H'->H' r=A? (.tup [.ref tp,.int (ix:Nat)])->H' tp=A? (.tup (cs.map i!))->Xv (EnA H') To cs->Cl To (post t [])->(post t [])[ix]?=A? t->Q (.ref r) H')->jC  vs H Q _E
theorem jF:FnOk P w K mg base CX0 1 T.g_43.f T.g_43.d ["row","at"] jC:=by
 refine T.g_43.F.okA cF λzZ A outer s H vs Q E hr h=>?_;obtain⟨ra,at',bs,E,Ts,t,rfl,era,AO,Af,AI,KJ,WD,q⟩:=h
 refine⟨_,(ag (ao 2 cF.nd jU)
  (ag (ao 3 cF.nd (aN ad))
  (ag (ao 4 cF.nd (aN (ac (pv 1) ad)))
  (ag (cY Xw (bH (pv 4) (λ_=>rfl)) (ag (ao 5 cF.nd (aD bd (pv 0) (aD bd (pv 4) (xi uU ai) (λ_ _=>rfl)) (λ_ _=>rfl)))
  (ag (eU (i:=6) (N:=["kid","fresh"]) (js:=[B?,A? 2]) (g:=(ay 0)) (tt:=(tB (rq (bt 0) (bt 1)))) (te:=(bt 0)) cF.nd rfl (Or.inl rfl) rfl (cy rfl (by decide +kernel) (by decide +kernel) rfl rfl rfl) (dJ (aX fJ (pv 5) (bj ai) bp)) (λ_ _ _ _ _ _=>(pgN 0 yz)) (aV rfl) (λ_ _ _ _ _ _=>fS (ue (mn (cw hr) (pv 0) (pv 1)))) (λ_ _ _ _ _ _=>(pv 0)))
  (aj (cb (bH (pv 6) (λ_=>rfl)) (aj (aM (bD Xb Xp Xo aH (pv 4) (ac (aD bd (pv 6) ai (λ_ _=>rfl)) ad)))) (ag (dU (cw hr) (pv 2) (i3 Xb Zp Zo iS (pv 4)) (az aw rfl T.n_6 Xy (ac (pv 3) ad)) rfl)
  (aj (aM (bD Xb Xp Xo aH (pv 3) (ac (av cP (aX jS (pv 5) bp (bj ai)) (aS aR rfl T.n_14 XX (ac (bZ (N:=["kid","fresh"]) (js:=[B?,A? 2]) (g:=(ay 0)) (tt:=bE) (te:=(r9 (bt 1) (bt 0))) rfl (cy rfl (by decide +kernel) (by decide +kernel) rfl rfl rfl) (dJ (aX fJ (pv 5) (bj ai) bp)) (λ_ _ _ _ _ _=>(pgN 0 yz)) (aV rfl) (λ_ _ _ _ _ _=>bT) (λ_ _ _ _ _ _=>(dW (cw hr) (pv 1) (pv 0) (λ_ _=>rfl)))) ad))) ad))))))))))
  (aj (ax (aQ (ac (aS aR rfl T.n_14 XX (ac (pv 3) ad)) (ac (dW (cw hr) (pv 2) (pv 1) (λ_ _=>rfl)) ad))))))))),?_⟩
 try dsimp only[Ak,zY]
 have Bm:E.length=bs.length:=W9 AO;intro fr JS;dsimp only[ay];refine gU JS λH1 s1 e1=>?_;have e1:H1 fr=A? (.dK (fkv [])):=e1;refine⟨lnE rfl,λtl Ae=>?_⟩;have s2:j! H1 (upd H1 tl (.lst [])):=am Ae _;have e2:(upd H1 tl (.lst [])) tl=A? (.lst (([]:List WS).map i!)):=ae;have PV:H tl=none:=s1.free Ae;have SO:fr≠tl:=λz=>by rw[<-z,e1]at Ae;cases Ae
 generalize(upd H1 tl (.lst []))=H2 at s2 e2 |-;refine⟨_,Dn,lnE rfl,λah BQ=>?_⟩;have s3:j! H2 (upd H2 ah (.lst [.int (at':Nat)])):=am BQ _;have e3:(upd H2 ah (.lst [.int (at':Nat)])) ah=A? (.lst ([at'].map nV)):=ae;have KO:H ah=none:=(s1.trans s2).free BQ;have KP:fr≠ah:=λz=>by rw[<-z,s2 _ _ e1]at BQ;cases BQ
 have BH:tl≠ah:=λz=>by rw[<-z,e2]at BQ;cases BQ
 generalize(upd H2 ah (.lst [.int (at':Nat)]))=H3 at s3 e3 |-;have WE:=s1.trans (s2.trans s3);refine⟨λm Y H4=>Ex8 λ(as FI:List Nat)(xs L:List Th)(To:List (Xj×List Nat))(cs:List WS)(c5 c6:Option V)=>xl (Y=[A? (.ref ra),A? (.int (at':Nat)),A? (.ref fr),A? (.ref tl),A? (.ref ah),c5,c6]) (j! H H4) (H4 fr=A? (.dK (fkv FI))) (H4 tl=A? (.lst (cs.map i!))) (H4 ah=A? (.lst (as.map nV))) (Xv (EnA H4) To cs) (Cl To L) (Xv (λid u=>Ts[id]?=A? u) FI L) (Xv (λid u=>Ts[id]?=A? u) as xs) (BB.finish xs.reverse L=post t []) (b8 L) ((∀x∈xs,x∉L)) (as.Pairwise (· > ·)) (m=unt E.length FI * (E.length+1)+pX as),⟨_,[at'],[],[t],[],[],[],B?,B?,Dn,WE,s3 _ _ (s2 _ _ e1),s3 _ _ e2,e3,.nil,⟨Dn,Y1,λi e h=>by simp at h⟩,.nil,.cons AI .nil,Dn,λu hu=>by(cases hu),λu _ hu=>by(cases hu),List.pairwise_singleton ..,rfl⟩,?_⟩;rintro m Y H4 ⟨as,FI,xs,L,To,cs,c5,c6,rfl,s4,MJ,FO,PX,EF,E6,Eb,IK,AS,MK,Bv,FP,rfl⟩;have SQ:To.length=cs.length:=W9 EF;have WG:FI.length=L.length:=W9 Eb;have WH:=E6.len;refine⟨_,Dn,_,.inl ⟨_,n! PX,Dn⟩,?_⟩;refine cq (λcc=>?_) (λcc=>?_)
 .refine ⟨λl' H'=>∃m',m'<unt E.length FI * (E.length+1)+pX as/\Ex8 λ(as FI:List Nat)(xs L:List Th)(To:List (Xj×List Nat))(cs:List WS)(c5 c6:Option V)=>xl (l'=[A? (.ref ra),A? (.int (at':Nat)),A? (.ref fr),A? (.ref tl),A? (.ref ah),c5,c6]) (j! H H') (H' fr=A? (.dK (fkv FI))) (H' tl=A? (.lst (cs.map i!))) (H' ah=A? (.lst (as.map nV))) (Xv (EnA H') To cs) (Cl To L) (Xv (λid u=>Ts[id]?=A? u) FI L) (Xv (λid u=>Ts[id]?=A? u) as xs) (BB.finish xs.reverse L=post t []) (b8 L) ((∀x∈xs,x∉L)) (as.Pairwise (· > ·)) (m'=unt E.length FI * (E.length+1)+pX as),λl' H' h=>h,?_⟩;have Bn:as≠[]:=by intro z;subst z;simp at cc
  refine hid λZZ kZ=>?_;obtain⟨Ai,a,rfl⟩:∃Ai a,as=Ai++[a]:=⟨as.dropLast,as.getLast Bn,(YL Bn).symm⟩
  obtain⟨Ja,x,rfl,KQ,KR⟩:∃Ja x,xs=Ja++[x]/\Xv (λid u=>Ts[id]?=A? u) Ai Ja/\Ts[a]?=A? x:=by
   obtain⟨us,v,e1,h1,h2⟩:=P2.snoc_inv (ki IK |> λh=>(show Xv (λu id=>Ts[id]?=A? u) xs (Ai++[a])from h));exact⟨us,v,e1,ki h1,h2⟩
  rw[Yq,ZR,Z0,BB.finish]at AS;have SR:a<E.length:=by rw[Af.len];exact(glE KR)
  have KS:∀p∈Ai++[a],p<E.length:=λp hp=>by
   obtain⟨u,_,hu⟩:=qe IK hp;rw[Af.len];exact(glE hu)
  obtain⟨e,PY⟩:∃e,E[a]?=A? e:=⟨_,WQ SR⟩;obtain⟨n,ids⟩:=e;obtain⟨kids,PZ,CJ⟩:=Af.ent a _ PY;dsimp only at PZ CJ;rw[KR]at PZ;have ML:x=.knot n kids:=Xh PZ;have KU:=WD _ (WT PY);dsimp only at KU;obtain⟨b,hb,P0⟩:=x! AO PY;refine kZ ?_;have eb:H4 b=A? (.tup (.str n::ids.map nV)):=s4 _ _ P0;have P1:x∉L:=Bv x (Xl _ (W2 ..))
  have Cu:∀id u,Ts[id]?=A? u->(id∈FI↔u∈L):=λid u hu=>by
   constructor
   .intro h;obtain⟨y,hy,hf⟩:=qe Eb h;rw[hu]at hf;cases hf;exact hy
   .intro h;obtain⟨j,hj,hf⟩:=oP Eb h;rw[gE Af.nd hu hf];exact hj
  have KW:atI ((Ai++[a]).map nV) (-1)=A? (nV a):=by
   rw[W5];exact uD _ _
  refine⟨_,Dn,_,Dn,1,Dn,ah,_,_,nV a,Dn,Dn,n! PX,KW,ra,_,_,.ref b,Dn,Dn,n! (s4 _ _ era),at_nonneg (by lia) (by rw[Yj,Xd,hb];rfl),?_⟩;dsimp only[ay];refine⟨_,Dn,1,Dn,b,_,Dn,l! eb,?_,λp2 Bj=>?_⟩
  .rintro⟨z,_⟩;rw[W8,show(1:Int)=((1:Nat):Int)by rfl,y!]at z;lia
  dsimp only;rw[dH];refine gU Bj λH5 s5 e5=>?_;have P4:=s5 _ _ MJ;refine⟨p2,Dn,⟨_,l! e5⟩,cV ids (λid=>decide (id∉FI)) nV (l! e5) (by rw[WO]) (by rw[WO];lia) (λi y z Hx R hy hz sx r=>?_) (λi y z Hx R hy hz _ sx r=>?_) (λD hD=>?_)⟩
  .rw[Xd,hz]at hy;cases hy;refine⟨_,Dn,_,Dn,fr,_,Dn,DGet.k (k:=Xs ((z:Nat):Int)) (sx _ _ P4),_,Dn,?_⟩;rw[qm];have:(!decide (z∈FI))=decide (z∉FI):=by by_cases h:z∈FI <;> simp[h]
   rw[this];exact r
  .rw[Xd,hz]at hy;cases hy;exact⟨_,Dn,r⟩
  refine gU hD λH6 s6 e6=>?_;have Cp:=s5.trans s6;have DW:=Cp _ _ PX;refine⟨_,Dn,_,.inl ⟨_,n! e6,Dn⟩,?_⟩;refine cq (λc1=>?_) (λc1=>?_)
  .refine hid λZZ kZ=>?_
   obtain⟨c,Ca,KY⟩:∃c Ca,(ids.filter λid=>decide (id∉FI))=c::Ca:=by
    cases hf:(ids.filter λid=>decide (id∉FI))with
    |nil=>rw[hf]at c1;cases c1
    |cons c r=>exact⟨c,r,Dn⟩
   obtain⟨pre,rest,P5,AH,WI,_⟩:=List.filter_eq_cons_iff.mp KY;have P6:c∉FI:=e! WI;rw[P5]at CJ;obtain⟨k1,kc,k2,KZ,CH,⟨Cj,GB⟩,AE⟩:=rc CJ;refine kZ ?_;rw[KY]at e6;refine⟨_,Dn,.inl ⟨Dn,_,n! DW⟩,_,Dn,D,_,0,nV c,Dn,Dn,n! e6,at0,ah,_,_,Dn,Dn,DW,bc ?_,?_⟩
   .rw[WO];have:=pM FP KS;lia
   have CQ:∀u∈k1,u∈L:=λu hu=>by
    obtain⟨id,hid,hf⟩:=oP CH hu;have h1:id∈FI:=Decidable.byContradiction λz=>AH id hid (d! z);exact(Cu id u hf.2).mp h1
   have P7:kc∉L:=λz=>P6 ((Cu c kc GB).mpr z);have s7:j! H (upd H6 ah (.lst ((Ai++[a]).map nV++[nV c]))):=aC (s4.trans Cp) KO;refine⟨_,?_,Ai++[a]++[c],FI,Ja++[x]++[kc],L,To,cs,_,_,Dn,s7,by rw[af KP];exact Cp _ _ MJ,by rw[af BH];exact Cp _ _ FO,by rw[ae,W5 (l₂:=[c])];rfl,w! (λe' b' h'=>?_) EF,E6,Eb,p! IK (.cons GB .nil),?_,MK,?_,?_,Dn⟩
   .rw[mM,mM];lia
   .have L6:H6 b'=A? (.tup (.str e'.1::e'.2.map nV)):=Cp _ _ h';show(upd H6 ah _) b'=_;rw[af (aA L6 DW (by intro z;cases z))];exact L6
   .rw[Yq,ZR,Z0,BB.finish,Yq,ZR,Z0,BB.finish];rw[<-AS];congr 1;rw[<-t9 MK E6.nd (t:=x) (c:=kc) (pre:=k1) (rest:=k2) (by rw[ML];exact KZ) CQ]
   .intro y hy;rcases W7.mp hy with hy|hy
    .exact Bv y hy
    .rw[WY.mp hy];exact P7
   .rw[List.pairwise_append];refine⟨FP,List.pairwise_singleton ..,λp hp r hr=>?_⟩;rw[WY.mp hr];rcases W7.mp hp with hp|hp
    .have:=(List.pairwise_append.mp FP).2.2 p hp a (W2 ..);lia
    .rw[WY.mp hp];exact Cj
  .have z9:∀id∈ids,id∈FI:=λid hid=>Decidable.byContradiction λz=>by
    have hm:id∈ids.filter λid=>decide (id∉FI):=ZX.mpr ⟨hid,d! z⟩;cases hf:(ids.filter λid=>decide (id∉FI))with
    |nil=>rw[hf]at hm;cases hm
    |cons c r=>rw[hf]at c1;exact c1 rfl
   have WJ:∀u∈kids,u∈L:=λu hu=>by
    obtain⟨id,hid,hf⟩:=oP CJ hu;exact(Cu id u hf.2).mp (z9 id hid)
   have P8:a∉FI:=λz=>P1 ((Cu a x KR).mp z);have K0:post x L=L++[x]:=ss MK (by rw[ML];exact WJ) P1;refine hid λZZ kZ=>?_;obtain⟨_,K1,_,_⟩:=m8 x MK E6.nd;rw[K0]at K1 AS;obtain⟨js,P9⟩:∃js,Xv (λid j=>FI[j]?=A? id) ids js:=xL λid hid=>Xk.mp (z9 id hid);refine kZ ?_;have DK:ids.length=js.length:=W9 P9
   have hFx:FI.length<=900000:=by
    have h1:=bM E6.nd (m:=Ts) λu hu=>by
     obtain⟨id,_,hid⟩:=oP Eb hu;exact WT hid
    have h2:=W9 Eb;have h3:=Af.len;lia
   have K2:=Cp _ _ FO;have P':=Cp _ _ MJ;refine⟨_,Dn,tl,_,Dn,.inl (n! K2),_,Dn,_,Dn,.inl ⟨Dn,_,n! DW⟩,ah,_,nV a,Dn,Dn,DW,by simp,?_⟩;have d1:((Ai++[a]).map nV).dropLast=Ai.map nV:=by simp
   rw[d1];have HL:(upd H6 ah (.lst (Ai.map nV))) fr=A? (.dK (fkv FI)):=by rw[af KP];exact P'
   have K3:(upd H6 ah (.lst (Ai.map nV))) ah=A? (.lst (Ai.map nV)):=ae;have EG:(upd H6 ah (.lst (Ai.map nV))) tl=A? (.lst (cs.map i!)):=by rw[af BH];exact K2
   have s7:j! H (upd H6 ah (.lst (Ai.map nV))):=aC (s4.trans Cp) KO;have k7:KT H4 (upd H6 ah (.lst (Ai.map nV))):=(k! Cp).trans (aY DW);generalize(upd H6 ah (.lst (Ai.map nV)))=H7 at HL K3 EG s7 k7 |-;refine⟨fr,_,Dn,DPut.k (k:=Xs ((a:Nat):Int)) HL (bc (by rw[vI];lia)),?_⟩;rw[(hG (vH P8)).2];have hv:o! ((cs.map i!).length:Nat)=o! (FI.length:Nat):=by rw[WO,<-SQ,WH,WG]
   rw[hv,<-ug];have HM:(upd H7 fr (.dK (fkv (FI++[a])))) fr=A? (.dK (fkv (FI++[a]))):=ae;have K4:(upd H7 fr (.dK (fkv (FI++[a])))) ah=A? (.lst (Ai.map nV)):=by rw[af KP.symm];exact K3
   have HN:(upd H7 fr (.dK (fkv (FI++[a])))) tl=A? (.lst (cs.map i!)):=by rw[af SO.symm];exact EG
   have s8:j! H (upd H7 fr (.dK (fkv (FI++[a])))):=aC s7 JS;have k8:KT H7 (upd H7 fr (.dK (fkv (FI++[a])))):=λb' ys e=>by rw[af (aA e HL (by intro z;cases z))];exact e
   generalize(upd H7 fr (.dK (fkv (FI++[a]))))=H8 at HM K4 HN s8 k8 |-;have MM:=k7.trans k8;have SS:=MM _ _ eb;dsimp only;refine⟨_,Dn,.inl ⟨Dn,_,n! HN⟩,_,Dn,1,Dn,b,_,Dn,SS,λp3 H9 s9 e9=>?_⟩;rw[jP]at e9;have WK:=s9 _ _ SS;refine⟨_,Dn,1,Dn,b,_,Dn,l! WK,?_,λp4 FH=>?_⟩
   .rintro⟨z,_⟩;rw[W8,show(1:Int)=((1:Nat):Int)by rfl,y!]at z;lia
   dsimp only;rw[dH];refine gU FH λHA sA eA=>?_;have Qa:=(s9.trans sA) _ _ HM;refine⟨p4,Dn,⟨_,l! eA⟩,cV (ids.zip js) (λ_=>C?) (λz=>nV z.2) (l! eA) (by rw[List.length_zip,WO];lia) (by rw[WO];lia) (λi y z Hx R hy hz sx r=>r) (λi y z Hx R hy hz _ sx r=>?_) (λD2 WL=>?_)⟩
   .obtain⟨h1,h2⟩:=Yu.mp hz;rw[Xd,h1]at hy;cases hy;have hF:=lw P9 h1 h2
    have HP:aG (fkv (FI++[a])) (Xs ((z.1:Nat):Int):Key)=A? (nV z.2):=by
     cases K5:aG (fkv (FI++[a])) (Xs ((z.1:Nat):Int):Key)with
     | none =>
       have:=(hG K5).1;exact g! (Xg _ (WT hF)) this
     | some u =>
       obtain⟨j0,rfl,CU⟩:=ie K5
       have PH:j0<FI.length:=by
        rcases Nat.lt_or_ge j0 FI.length with h|h
        .exact h
        .rw[X0 h]at CU
         have h0:j0 - FI.length=0:=by
          have:=(glE CU);simp at this;lia
         rw[h0]at CU;have e0:a=z.1:=Xh CU;exact g! (e0 ▸ WT hF) P8
       rw[XB PH]at CU;obtain⟨u1,WM,hf1⟩:=x! Eb CU;obtain⟨u2,JK,SU⟩:=x! Eb hF;rw[hf1]at SU;cases SU;rw[gE E6.nd WM JK];rfl
    refine⟨_,Dn,_,Dn,fr,_,Dn,?_,r⟩;rw[<-HP];exact DGet.k (k:=Xs ((z.1:Nat):Int)) (sx _ _ Qa)
   rw[filter_tt]
   have hzj:(ids.zip js).map (λz=>nV z.2)=js.map nV:=by
    have:(ids.zip js).map (λz=>nV z.2)=((ids.zip js).map (·.2)).map nV:=by rw[Zd];rfl
    rw[this,List.map_snd_zip (by lia)]
   rw[hzj];refine gU WL λHB sB eB=>?_;refine⟨D2,_,Dn,.inl ⟨n! eB,λp6 K6=>?_⟩⟩;refine gU K6 λHC sC eC=>?_;have SV:=sA.trans (sB.trans sC);refine lO (SV _ _ e9) eC (by rw[WO];show 1+js.length<=1000000;lia) λp7 HD sD eD=>?_;have K7:=s9.trans (SV.trans sD);have K8:=K7 _ _ HN;refine⟨tl,_,_,Dn,Dn,K8,lbE (by lia),?_⟩;have kE:KT HD (upd HD tl (.lst (cs.map i!++[.ref p7]))):=aY K8
   have Dw:Xv (λj u=>L[j]?=A? u) js kids:=by
    refine fX (by rw[<-DK];exact W9 CJ) λi j u hj hu=>?_;obtain⟨id,hid,Qb⟩:=C! CJ hu;obtain⟨u',BE,B5⟩:=x! Eb (lw P9 hid hj);rw[Qb.2]at B5;cases B5;exact BE
   have Qc:(n,js)∉To:=λz=>by
    obtain⟨i,hi⟩:=Xk.mp z;have:=E6.found hi Dw;rw[<-ML]at this;exact P1 (WT this)
   have Cd:=E6.snoc Qc Dw;rw[<-ML]at Cd;refine⟨_,?_,Ai,FI++[a],Ja,L++[x],To++[(n,js)],cs++[p7],_,_,Dn,aC (s8.trans K7) PV,by rw[af SO];exact K7 _ _ HM,uAE,by rw[af BH.symm];exact K7 _ _ K4,?_,Cd,p! Eb (.cons KR .nil),KQ,AS,K1,?_,(List.pairwise_append.mp FP).1,Dn⟩
   .have h1:=xM (N:=E.length) (F:=FI) SR P8;have h2:=vx (as:=Ai) (N:=E.length) λp hp=>KS p (Xg _ hp);have h3:(unt E.length (FI++[a])+1) * (E.length+1)<=unt E.length FI * (E.length+1):=Nat.mul_le_mul_right _ h1;rw[Nat.add_mul,Nat.one_mul]at h3;lia
   .refine p! (w! (λe' b' h'=>?_) EF) (.cons ?_ .nil)
    .exact(MM.trans ((k! K7).trans kE)) _ _ h'
    .exact kE _ _ eD
   .intro y hy hyL;rcases W7.mp hyL with h|h
    .exact Bv y (Xg _ hy) h
    .rw[WY.mp h]at hy;obtain⟨id,hid,hf⟩:=oP KQ hy;have:=gE Af.nd hf KR;have:=(List.pairwise_append.mp FP).2.2 id hid a (W2 ..);lia
 .have hz:as=[]:=by
   cases as with
   |nil=>rfl
   |cons y ys=>simp at cc
  subst hz;have O4:xs=[]:=Ys.mp (W9 IK).symm;subst O4;have hL:L=post t []:=AS;subst hL;refine hid λZZ kZ=>?_;obtain⟨_,_,_,htm⟩:=m8 t (L:=[]) (λu hu=>by cases hu) Y1;obtain⟨ix,DD⟩:=Xk.mp htm;obtain⟨id,hid,K9⟩:=C! Eb DD;refine kZ ?_;have Qd:=gE Af.nd K9 AI;subst Qd;refine⟨_,Dn,tl,_,Dn,.inl ⟨n! FO,λtp BM=>?_⟩⟩;have s5:=am BM (.tup (cs.map i!))
  have HP:aG (fkv FI) (Xs ((id:Nat):Int):Key)=A? (nV ix):=by
   cases K5:aG (fkv FI) (Xs ((id:Nat):Int):Key)with
   |none=>exact g! (WT hid) (hG K5).1
   | some u =>
     obtain⟨j0,rfl,CU⟩:=ie K5;obtain⟨u',BE,B5⟩:=x! Eb CU;rw[K9]at B5;cases B5;rw[gE E6.nd BE DD];rfl
  refine⟨_,Dn,_,Dn,fr,nV ix,Dn,?_,lnE rfl,λr CI=>?_⟩
  .rw[<-HP];exact DGet.k (k:=Xs ((id:Nat):Int)) (s5 _ _ MJ)
  have s6:=s5.trans (am CI (.tup [.ref tp,nV ix]));exact q r tp cs To ix _ (s4.trans s6) ae (am CI _ _ _ ae) (w! (λe' b' h'=>s6 _ _ h') EF) E6 DD
def aP:XZ:=match bF kH with
 | [_,_,.Assign _ (.Call _ [_,_,_,_,l] _ _) _,_]=>l
 |_=>.Name "" ⟨0,0,0,0⟩
def wE:XZ->Arguments
 |.Lambda p _ _ _=>p
 |_=>b7 kH
def vL:XZ->XZ
 |.Lambda _ b _ _=>b
 |e=>e
def vb:XZ->ZP
 |.Lambda _ _ s _=>s
 |_=>aJ kH
def i5:XZ->Z9
 |.Lambda _ _ _ p=>p
 |_=>⟨0,0,0,0⟩
def lL:Xj:="shared.<locals>."++"<lambda>"
inductive n6(f c' c:WS)(vs:List V)(H:Hp)(Q:VK)(_E:XK):Prop
 |mk (da ca ea la d:WS):vs=[.ref da,.ref ca]->LamAt H f c' "<lambda>" lL (wE aP) (vL aP) (vb aP) [("entries",c)]->CodeAt H c' lL->CellAt H c (.ref ea)->H da=A? (.tup [.ref la,.ref d])->gJ [.ref ea,.ref la,.ref ca] (fgt [c] H) (λv H'=>Q v (rst [c] H H')) E0->n6 f c' c vs H Q _E
theorem xQ(c:WS):oA ["pair","numbers","entries"] ["pair","numbers"] [("entries",c)] (vb aP):=by
 refine⟨Dn,Dn,Dn,by decide +kernel,by decide +kernel,Dn,by decide +kernel,by decide +kernel,λx h=>?_,λx y c1 h1 h2=>?_⟩
 .by_cases hx:x="entries"
  .exact⟨c,by rw[hx];rfl⟩
  .exfalso;have hm:=Yc h;have z9:∀z∈(vb aP).names,z.2=.free->z.1="entries":=by decide +kernel
   exact hx (z9 _ hm rfl)
 .have e1:=Yc h1;have e2:=Yc h2;rw[WY]at e1 e2;exact(h! Prod.fst e1).trans (h! Prod.fst e2).symm
include T in
theorem sX(f c' c:WS):FvOk P w K mg base CX0 3 f (n6 f c' c):=by
 refine yd (k:=2) (c':=c') (name:="<lambda>") (qual:=lL) (params:=wE aP) (body:=vL aP) (xQ c) (λpm CD us hl=>?_) (λvs H Q E h=>?_) λA outer s H vs Q E hr h=>?_
 .obtain⟨u,v,rfl⟩:=us2 hl;rfl
 .obtain⟨da,ca,ea,la,d,rfl,hl,hc,Ao,_⟩:=h;refine⟨Dn,hl,hc,λb' hb=>?_,λx c1 hx=>?_⟩
  .obtain rfl:b'=c:=WY.mp hb;obtain⟨φ,e,_⟩:=Ao;exact⟨φ,e⟩
  .have e1:=Yc hx;rw[WY]at e1;cases e1;exact⟨_,Ao⟩
 .obtain⟨da,ca,ea,la,d,rfl,hl,hc,Ao,Mv,Bu⟩:=h
  have hx:Exts (([("entries",c)]:List (Xj×WS)).map (·.2)) H:=λb' hb=>by
   obtain rfl:b'=c:=WY.mp hb;obtain⟨φ,e,_⟩:=Ao;exact⟨φ,e⟩
  refine⟨_,[.ref ea],.cons ⟨c,Dn,Ao⟩ .nil,cg (kW T) (hr.mono (by decide)) rfl T.g_42.m T.g_42.F.kp T.g_42.b .nil dk (ac (pv 2) (ac (aD aE (pv 0) ai (λ_ _=>rfl)) (ac (pv 1) ad))),?_⟩;have Qe:fgt (([("entries",c)]:List (Xj×WS)).map (·.2)) H da=A? (.tup [.ref la,.ref d]):=by rw[bK (hx.out Mv λφ z=>nomatch z)];exact Mv
  exact⟨_,Dn,_,Dn,da,_,0,.ref la,Dn,Dn,l! Qe,at0,_,Dn,Bu⟩
def SIs(f c' c ea:WS)(All:List Th)(H:Hp)(Ts:List Th):Prop:=∃E,H ea=A? (.dT (kvsOf E))/\Cl E Ts/\(∀u∈Ts,u∈All)/\(∀e∈E,e.2.length<=100000)/\LamAt H f c' "<lambda>" lL (wE aP) (vL aP) (vb aP) [("entries",c)]/\CodeAt H c' lL/\CellAt H c (.ref ea)
theorem wL{head:Th}{All:List Th}:FoldI (λb=>b=ea) (SIs f c' c ea All) (VRo ins rows head):=by
 refine⟨λH H' Ts h k=>?_,λH Ts b h e=>?_,λTs By s u v h k=>k.up h⟩
 .obtain⟨E,h1,h2,h3,h4,⟨φ,h5,Qf⟩,⟨ψ,h6,Qg⟩,⟨χ,h7,h7'⟩⟩:=h;exact⟨E,k _ _ h1 (λ_ z=>nomatch z) (λ_ z=>nomatch z) (λ_ _ z=>nomatch z),h2,h3,h4,⟨φ,k _ _ h5 (λ_ z=>nomatch z) (λ_ z=>nomatch z) (λ_ _ z=>nomatch z),Qf⟩,⟨ψ,k _ _ h6 (λ_ z=>nomatch z) (λ_ z=>nomatch z) (λ_ _ z=>nomatch z),Qg⟩,⟨χ,k _ _ h7 (λ_ z=>nomatch z) (λ_ z=>nomatch z) (λ_ _ z=>nomatch z),h7'⟩⟩
 .obtain⟨E,h1,_⟩:=h;rw[e];exact⟨_,h1⟩
theorem ww{head:Th}{t:Th}(gi:aL ins)(h0:∀s u p,dQ ins rows head s u p->∀c∈callsOf (p.pl []),0<=c.2.1/\0<=c.2.2)(PD:(nz ins rows head W t).length<=900000) :
 wa ins rows head W t (λb=>b=ea) (SIs f c' c ea (nz ins rows head W t)) (VRo ins rows head) (DpP ea) (n6 f c' c):=by
 intro H1 s u p da ca Aw fn Ts R hp hw hd Dz MF Fs hc hR;refine hid λZZ kZ=>?_;obtain⟨d,own,kvs,Gn,e1,e2,la,as,rfl,KH,Ax,GB,HH,hsz⟩:=hd;obtain⟨E,Qh,Af,A',FQ,hL,hC,Ao⟩:=Fs;obtain⟨g,hg1,SW⟩:=qK hp (h0 s u p hp) (λc BA=>(hc c BA).2);refine kZ ?_;refine⟨da,ca,ea,la,d,Dn,hL,hC,Ao,e1,?_⟩;obtain⟨χ,ec,JV⟩:=Ao
 have fg:∀{b:WS}{o:HO},H1 b=A? o->(∀φ,o≠.ext φ)->fgt [c] H1 b=A? o:=λe h=>by
  rw[bK (λz=>by rw[WY.mp z,ec]at e;cases e;exact h _ rfl)];exact e
 have nce:c≠ea:=aA ec Qh (λz=>nomatch z);refine⟨ea,la,ca,as,p,E,Ts,Aw,g,_,Dn,fg Qh (λ_ z=>nomatch z),Af,FQ,fg KH (λ_ z=>nomatch z),Ax.mono (λb xs e=>fg e (λ_ z=>nomatch z)),fg Dz (λ_ z=>nomatch z),MF,λa b hm=>?_,by lia,A',λn ks hm=>wA gi hp hw hm (SW _ hm),PD,λE' By at' H2 fr e' FL AH K' AI La=>?_⟩
 .refine hid λZZ kZ=>?_;obtain⟨⟨j,h1,h2⟩,_⟩:=hg1 a b hm;obtain⟨c1,D7,Fj⟩:=rN hm;refine kZ ?_;have:=(hc c1 D7).1;rw[Fj]at this;exact⟨j,by rw[this];exact h! (λz=>A? (o! z)) h1,h2⟩
 .have kx:∀{b:WS}{φ:X3->Prop},H1 b=A? (.ext φ)->rst [c] H1 H2 b=A? (.ext φ):=λ{b}{φ}e=>by
   by_cases z:b∈[c]
   .rw[ql z];exact e
   .rw[cU z];exact fr _ _ (aA e Qh (λz=>nomatch z)) (by rw[bK z];exact e)
  refine hR _ _ By (λb o n e=>?_) ?_ AH ⟨p,p.fill g,at',hp,SW p (by rw[B!];exact W2 ..),rfl,AI⟩
  .by_cases z:b∈[c]
   .rw[ql z];exact e
   .rw[cU z];exact fr b o n (by rw[bK z];exact e)
  .refine hid λZZ kZ=>?_;obtain⟨φ,h5,Qf⟩:=hL;obtain⟨ψ,h6,Qg⟩:=hC;refine kZ ?_;exact⟨E',by rw[cU (λz=>nce (WY.mp z).symm)];exact e',FL,K',La,⟨φ,kx h5,Qf⟩,⟨ψ,kx h6,Qg⟩,⟨χ,kx ec,JV⟩⟩
theorem o7{E:List (Xj×List Nat)}{bs:List WS}(h:Xv (λ(kv:List Key×V)b=>H b=A? (.tup (kv.1.map kV))) (kvsOf E) bs):Xv (EnA H) E bs:=by
 refine fX (by rw[<-iX];exact W9 h) λj e b he hb=>?_
 have hk:(kvsOf E)[j]?=A? (gf e,o! (j:Nat)):=by
  unfold kvsOf;rw[Xd,List.getElem?_zipIdx,he];simp
 have:=lw h hk hb;dsimp only at this;rw[show e=(e.1,e.2)from rfl,oY]at this;exact this
structure ShI(H:Hp)(ins outs:List (Xj×Int))(S:Int)(dp:Nat)(head:Th)(rows:List (List Th))(t:Th)(b ta:WS)(o:Th):Prop where
 cnt:CntI H ins outs S dp head rows t b ta
 out:Out ins rows head (.knot YU [t]) o
 al:(nz ins rows head t.walk t).length<=900000
 cs:∀s u p,dQ ins rows head s u p->∀c∈callsOf (p.pl []),0<=c.2.1/\0<=c.2.2
inductive l6(C tp:WS)(vs:List V)(H:Hp)(Q:VK)(E:XK):Prop
 |mk (b ta:WS) (ins outs:List (Xj×Int)) (S:Int) (dp:Nat) (head:Th) (rows:List (List Th)) (t o:Th):vs=[.ref b,.ref ta]->ShI H ins outs S dp head rows t b ta o->TabSt H tp (i5 aP) lL->(o.tall<=150->∀(r ra:WS)(cs:List WS)(To:List (Xj×List Nat))(ix:Nat)(H':Hp),SameT tp H H'->TabSt H' tp (i5 aP) lL->H' r=A? (.tup [.ref ra,.int (ix:Nat)])->H' ra=A? (.tup (cs.map i!))->Xv (EnA H') To cs->Cl To (post o [])->(post o [])[ix]?=A? o->Q (.ref r) H')->(¬o.tall<=150->∀H',j! H H'->E (.ref C) B? H')->l6 C tp vs H Q E
theorem sf(L:Lam mg base T.g_45.tc T.g_45.tp):FnOk P w K mg base (CX1 P w) 9 T.g_45.f T.g_45.d ["book","tree"] (l6 T.e_Great T.g_45.tp):=by
 refine T.g_45.F.okT1 T.g_45.th iP (λvs H Q E h=>?_) (λA outer s H vs Q E hr h=>?_)
 .obtain⟨b,ta,ins,outs,S,dp,head,rows,t,o,rfl,_⟩:=h;rfl
 obtain⟨b,ta,ins,outs,S,dp,head,rows,t,o,rfl,I,HQ,hq,hE⟩:=h
 refine⟨_,(ag (cb (aI cN (pcF T.g_38 (ir T) hr (ac (pv 0) (ac (pv 1) ad))) (bY (v:=.int (150)) rfl T.c_TALLEST.choose_spec ⟨_,Dn⟩) (aK _)) (aj (kL T.X_Great T.x_Great dh)) bx)
  (ag (ao 2 iP.nd dM)
  (ag (ao 3 iP.nd (uE (cl:=[("entries",s.1.1.size+1)]) (jc T) (hr.mono (by decide)) rfl T.g_32.m T.g_32.F.kp T.g_32.b (zK rfl rfl rfl) (ac (pv 0) (ac (cg (dI T) (hr.mono (by decide)) rfl T.g_16.m T.g_16.F.kp T.g_16.b .nil dk (ac (pv 0) ad)) (ac (pv 1) (ac (bY (v:=.ref T.g_41.f) rfl T.g_41.m rfl) (ac (yc (pos:=i5 aP) (params:=wE aP) (body:=vL aP) (scope:=vb aP) (cl:=[("entries",s.1.1.size+1)]) L rfl rfl) ad)))))))
  (aj (ax (pcF T.g_43 (jF T) hr (ac (aS (fC rfl) rfl T.n_7 PyProof.Rows.boot_list (ac (pv 2) ad)) (ac (pv 3) ad)))))))),?_⟩
 try dsimp only[Ak,zY]
 refine ck (λl' H'=>An3 (l'=[A? (.ref b),A? (.ref ta),B?,B?]) (j! H H') (o.tall<=150)) (λkk hk=>?_) ?_
 .refine bN (λz H'=>An2 (j! H H') ((z=C?↔¬o.tall<=150))) (λk2 AE=>?_) (λH' hb=>?_) (λH' hb=>?_)
  .refine⟨_,Dn,_,Dn,b,ta,ins,outs,S,dp,head,rows,t,Dn,I.cnt,λv H1 s1 hv=>?_⟩;have B4:=hv head o (.inl ⟨rfl,rfl,t,rfl⟩) I.out;refine⟨_,_,Dn,Dn,_,Dn,AE _ _ ⟨s1,?_⟩⟩;rw[decide_eq_true_iff];lia
  .obtain⟨s1,hb⟩:=hb;exact hE (hb.mp rfl) _ s1
  .obtain⟨s1,hb⟩:=hb;exact hk _ _ ⟨rfl,s1,Classical.byContradiction λz=>by cases hb.mpr z⟩
 rintro l' H1 ⟨rfl,s1,hle⟩;have Lb:=HQ.mono s1;refine hid λZZ kZ=>?_;obtain⟨ia,oa,ha,ra,Al,Ap,Aq,hB⟩:=I.cnt.bk;refine kZ ?_;intro ea SX;dsimp only[ay];refine gU SX λH2 s2 e2=>?_;have e2:H2 ea=A? (.dT (kvsOf [])):=e2;have Qi:=s1.trans s2;have EI:=Lb.mono s2;refine⟨_,Dn,_,Dn,b,_,_,_,_,Dn,Qi _ _ hB.bk,_,Dn,EI,λf c' H3 s3 et BU Fu hf=>λH4 trk=>?_⟩;have k23:KT H2 H3:=EI.kt s3
 have DA:∀{a:WS}{o:HO},H2 a=A? o->(∀z,o≠.tbl z)->H3 a=A? o:=λe h2=>s3 _ _ (λz=>by
  rw[z]at e;rcases EI with h|⟨_,h,_⟩ <;> · rw[h]at e;cases e;exact h2 _ rfl) e
 have Lc:=trk.same;have Qj:KT H H4:=((k! Qi).trans k23).trans (k! Lc);have e3:=DA e2 (λz h=>nomatch h);have e4:=Lc _ _ e3;have Ao:CellAt H4 (s.1.1.size+1) (.ref ea):=trk.2.2.2 2 "entries" (.ref ea) _ rfl rfl rfl;obtain⟨h0,ok⟩:=I.cnt.ok0;have J:=I.cnt;refine⟨b,ha,ta,T.g_41.f,f,ins,outs,head,head,t,rows,fu,n6 f c' (s.1.1.size+1),DpP ea,PatS,t.walk,(λz=>z=ea),SIs f c' (s.1.1.size+1) ea (nz ins rows head t.walk t),VRo ins rows head,[],Dn,⟨_,_,_,_,_,_,_,hB.mono Qj⟩,J.gi,λrow hr=>⟨(ok.row row hr).len,J.pat row hr⟩,hB.hd.mono Qj,J.hd,FvOk.of (pQ T) T.g_41.F T.g_41.b,?_,?_,?_,J.tr.mono Qj,J.fit,J.tall,by rw[B!];exact W2 ..,nZ J.gi ok J.le J.size,J.head J.hdf,sX T f c' _,wL,⟨[],e4,⟨Dn,Y1,λi e h=>by simp at h⟩,(λu hu=>by cases hu),(λe he=>by cases he),Fu.mono Lc,BU.mono Lc,Ao⟩,ww J.gi I.cs I.al,λv H5 Ts fr Fs AH hVR=>?_⟩
 .exactλH1 p pa R s hA ok hR=>⟨pa,p,rfl,hA,ok.size,ok.tall,λr d la as kvs H' s' hd er ed KH Ax GB=>hR r d _ kvs H' s' hd er ed ⟨la,as,rfl,KH,Ax,GB,(λz=>by rw[z,s _ _ e4]at hd;cases hd),ok.size⟩⟩
 .exactλH H' p own d kvs k⟨la,as,h1,h2,h3,h4⟩=>⟨la,as,h1,k.lst _ _ h2,h3.mono k.tup,h4⟩
 .exactλH p own d kvs⟨la,as,_,_,_,h,h',_⟩=>⟨h,h'⟩
 refine hid λZZ kZ=>?_;obtain⟨E1,e5,Af,A',FQ,_,_,_⟩:=Fs;obtain⟨p,o',j,hp,ho,rfl,hj⟩:=hVR;refine kZ ?_
 have hph:p=head:=by
  rcases hp with⟨_,h,_⟩|⟨h,_⟩
  .exact h
  .exact g! h (by decide)
 subst hph;rw[rL J.gi ho I.out]at hj;have SY:∀x∈([("entries",s.1.1.size+1)]:List (Xj×WS)).map (·.2),H3 x=none:=trk.1
 have kf:∀{x:WS}{u:HO},H3 x=A? u->x≠ea->fgt (([("entries",s.1.1.size+1)]:List (Xj×WS)).map (·.2)) H5 x=A? u:=λ{x}{u}e n=>by
  rw[bK (λz=>by rw[SY _ z]at e;cases e)];exact fr _ _ n (Lc _ _ e)
 have MN:fgt (([("entries",s.1.1.size+1)]:List (Xj×WS)).map (·.2)) H5 ea=A? (.dT (kvsOf E1)):=by
  rw[bK (λz=>by rw[SY _ z]at e3;cases e3)];exact e5
 refine⟨λx hx=>?_,?_⟩
 .obtain⟨φ,e⟩:=trk.2.2.1 x hx;rw[e,fr _ _ (aA e e4 (λz=>nomatch z)) e]
 dsimp only[ay];refine⟨_,Dn,ea,_,Dn,MN,λl bs hl AO=>?_⟩;dsimp only;generalize fgt (([("entries",s.1.1.size+1)]:List (Xj×WS)).map (·.2)) H5=H6 at kf MN hl AO |-;refine gU hl λH7 s6 e6=>?_
 have KJ:E1.length<=900000:=by
  rw[Af.len];exact X2 (bM Af.nd A') I.al
 refine⟨_,Dn,l,j,bs,E1,Ts,o,Dn,e6,w! (λe' b' h'=>s6 _ _ h') (o7 AO),Af,hj,KJ,FQ,λr' Ld cs To ix H8 s8 h1 h2 h3 h4 h5=>?_⟩;have Qk:=s6.trans s8;have Ar:∀{x:WS}{u:HO},H1 x=A? u->x≠ea:=λe z=>by rw[z,SX]at e;cases e
 refine hq hle r' Ld cs To ix H8 (λx u n e=>Qk _ _ (kf (s3 _ _ n (Qi _ _ e)) (Ar (s1 _ _ e)))) ?_ h1 h2 h3 h4 h5;obtain⟨φ,Ql,Dr⟩:=BU;exact .inr ⟨c',Qk _ _ (kf et (aA et e3 (λz=>nomatch z))),φ,Qk _ _ (kf Ql (aA Ql e3 (λz=>nomatch z))),Dr⟩
inductive gu(vs:List V)(H:Hp)(Q:VK)(_E:XK):Prop
 |mk (a:WS) (t:Th):vs=[.ref a]->At H t a->(∀p∈t.walk,p.isCall=D?)->t.size<=100000->(∀(r tp:WS)(cs:List WS)(To:List (Xj×List Nat))(ix:Nat)(H':Hp),j! H H'->H' r=A? (.tup [.ref tp,.int (ix:Nat)])->H' tp=A? (.tup (cs.map i!))->Xv (EnA H') To cs->Cl To (post t [])->(post t [])[ix]?=A? t->Q (.ref r) H')->gu  vs H Q _E
inductive jj(vs:List V)(H:Hp)(Q:VK)(_E:XK):Prop
 |mk (r tp:WS) (cs:List WS) (To:List (Xj×List Nat)) (Ls:List Th) (ix:Nat) (t:Th):vs=[.ref r]->H r=A? (.tup [.ref tp,.int (ix:Nat)])->H tp=A? (.tup (cs.map i!))->Xv (EnA H) To cs->Cl To Ls->Ls[ix]?=A? t->(∀u∈Ls,∃m ks,u=.knot m ks/\m≠q)->To.length<=100000->(∀e∈To,e.2.length<=100000)->(∀(a:WS)(H':Hp),j! H H'->At H' t a->Q (.ref a) H')->jj  vs H Q _E
theorem u7:∀{ts:List Th}{as:List WS},Xv (At H) ts as->Ats H ts as
 |_,_,.nil=>.nil
 |_,_,.cons h t=>.cons h (u7 t)
theorem lD:FnOk P w K mg base CX0 3 T.g_44.f T.g_44.d ["tree"] gu:=by
 refine T.g_44.F.okA d5 λzZ A outer s H vs Q E hr h=>?_;obtain⟨a,t,rfl,hA,Bv,hsz,q⟩:=h
 refine⟨_,(ag (ao 1 d5.nd dM)
  (ag (ao 2 d5.nd (pcF T.g_42 (kW T) hr (ac (pv 1) (ac (pcF T.g_3 (i4 T) hr (ac (pv 0) ad)) (ac dM ad)))))
  (aj (ax (pcF T.g_43 (jF T) hr (ac (aS (fC rfl) rfl T.n_7 PyProof.Rows.boot_list (ac (pv 1) ad)) (ac (pv 2) ad))))))),?_⟩
 try dsimp only[Ak,zY]
 intro en Iw;dsimp only[ay];refine gU Iw λH1 s1 e1=>?_;have e1:H1 en=A? (.dT (kvsOf [])):=e1;refine⟨_,Dn,_,Dn,a,t,Dn,hA.mono (k! s1),hsz,λr as H2 s2 nr er hw=>?_⟩;intro nu Qm;dsimp only;refine gU Qm λH3 s3 e3=>?_;have E7:=s2.trans s3;have Ar:nu≠en:=λz=>by rw[z,s2 _ _ e1]at Qm;cases Qm
 refine⟨en,r,nu,as,t,[],[],[],A!,t.walk.map (·.fill A!),Dn,E7 _ _ e1,⟨Dn,Y1,λi e h=>by simp at h⟩,(λe he=>by cases he),s3 _ _ er,hw.mono (k! s3),e3,Ar,λs k hm=>(by have:=Bv _ hm;cases this),hsz,(λu hu=>by cases hu),λn ks hm=>Xn.mpr ⟨_,hm,rfl⟩,by rw[WO,t.walk_len];lia,λE Ts at' H4 k4 e4 Af _ A' AI HI=>?_⟩;rw[nF]at AI;have s4:j! H H4:=λb o e=>k4 b o (aq e Iw) (E7 b o (s1 b o e));refine⟨_,Dn,en,_,Dn,e4,λl bs hl AO=>?_⟩;dsimp only;refine gU hl λH5 s5 e5=>?_
 have KJ:E.length<=900000:=by
  rw[Af.len];exact X2 (bM Af.nd A') (by rw[WO,t.walk_len];lia)
 refine⟨_,Dn,l,at',bs,E,Ts,t,Dn,e5,w! (λe' b' h'=>s5 _ _ h') (o7 AO),Af,AI,KJ,HI,λr' tp cs To ix H6 s6 h1 h2 h3 h4 h5=>?_⟩;exact q r' tp cs To ix H6 (s4.trans (s5.trans s6)) h1 h2 h3 h4 h5
theorem oT:FnOk P w K mg base CX0 1 T.g_46.f T.g_46.d ["pair"] jj:=by
 refine T.g_46.F.okA cX λzZ A outer s H vs Q E hr h=>?_;obtain⟨r,tp,cs,To,Ls,ix,t,rfl,er,S0,EF,Af,DD,HR,SQ,hTw,q⟩:=h
 refine⟨_,(ag (de (pv 0) (bh rfl (au (pgN 1 cX.nd) (au (pgN 2 cX.nd) aT))))
  (ag (ao 3 cX.nd (aN ad))
  (ag (br Xw rfl (dJ (pv 1)) (pgN 4 cX.nd) (aj (aM (bD Xb Xp Xo aH (pv 3) (ac (av cP (aX jS (pv 4) bp (bj ai)) (aS aR rfl T.n_14 XX (ac (bZ (N:=["kid","trees"]) (js:=[B?,A? 3]) (g:=(ay 0)) (tt:=bE) (te:=(tOp (yK K) (bt 1) (bt 0))) rfl (cy rfl (by decide +kernel) (by decide +kernel) rfl rfl rfl) (dJ (aX fJ (pv 4) (bj ai) bp)) (λ_ _ _ _ _ _=>(pgN 0 zG)) (aV rfl) (λ_ _ _ _ _ _=>bT) (λ_ _ _ _ _ _=>(aD bd (pv 1) (pv 0) (λ_ _=>rfl)))) ad))) ad)))))
  (aj (ax (aD bd (pv 3) (pv 2) (λ_ _=>rfl))))))),?_⟩
 try dsimp only[Ak,zY]
 have FL:To.length=cs.length:=W9 EF;have DL:=Af.len;refine⟨_,Dn,r,_,Dn,l! er,Dn,_,_,Dn,_,_,Dn,Dn,?_⟩;dsimp only[ay];refine⟨lnE rfl,λtl Ae=>?_⟩;refine⟨_,Dn,tp,Dn,⟨_,l! (am Ae _ _ _ S0)⟩,?_⟩
 refine qV (K:=K) (a:=tp) (xs:=cs.map i!) (λi Y H2=>Ex2 λ(c4:Option V)(as:List WS)=>An4 (Y=[A? (.ref r),A? (.ref tp),A? (.int (ix:Nat)),A? (.ref tl),c4]) (j! H H2) (H2 tl=A? (.lst (as.map i!))) (Ats H2 (Ls.take i) as))
  ⟨B?,[],rfl,am Ae _,ae,by rw[Zm];exact .nil⟩ (λi Y H2 _⟨_,_,_,s2,_,_⟩=>l! (s2 _ _ S0)) ?_ ?_
 .rintro i y Y H2 hy ⟨c4,as,rfl,s2,FO,Bh⟩;refine hid λZZ kZ=>?_;obtain⟨b,rfl,hb⟩:=bq hy;obtain⟨e,he,P0⟩:=C! EF hb;obtain⟨n,ids⟩:=e;have eb:H2 b=A? (.tup (.str n::ids.map nV)):=s2 _ _ P0;obtain⟨kids,MO,CJ⟩:=Af.ent i _ he;refine kZ ?_;dsimp only at MO CJ;have hw:=hTw _ (WT he);dsimp only at hw;have KU:ids.length=kids.length:=W9 CJ;have hi:i<Ls.length:=(glE MO);have Kl:=Bh.length;rw[XC]at Kl;refine⟨_,Dn,.inl ⟨Dn,_,n! FO⟩,_,Dn,1,Dn,b,_,Dn,eb,λp3 H3 s3 e3=>?_⟩;rw[jP]at e3;have eb3:=s3 _ _ eb;refine⟨_,Dn,1,Dn,b,_,Dn,l! eb3,?_,λp4 FH=>?_⟩
  .rintro⟨z,_⟩;rw[W8,show(1:Int)=((1:Nat):Int)by rfl,y!]at z;lia
  dsimp only;rw[dH];refine gU FH λH4 s4 e4=>?_;have E4:=s3.trans s4
  obtain⟨ks,AX⟩:∃ks,Xv (λid k=>as[id]?=A? k) ids ks:=xL λid hid=>by
   obtain⟨u,_,hu⟩:=qe CJ hid;exact⟨_,WQ (by lia)⟩
  have Au:ids.length=ks.length:=W9 AX;refine⟨p4,Dn,⟨_,l! e4⟩,cV (ids.zip ks) (λ_=>C?) (λz=>i! z.2) (l! e4) (by rw[List.length_zip,WO];lia) (by rw[WO];lia) (λi y z Hx R hy hz sx r=>r) (λi y z Hx R hy hz _ sx r=>?_) (λD hD=>?_)⟩
  .obtain⟨h1,h2⟩:=Yu.mp hz;rw[Xd,h1]at hy;cases hy;have hF:=lw AX h1 h2;exact⟨_,Dn,_,Dn,tl,_,_,.ref z.2,Dn,Dn,n! ((E4.trans sx) _ _ FO),at_nonneg (by lia) (by rw[Yj,Xd,hF];rfl),r⟩
  rw[filter_tt]
  have hzk:(ids.zip ks).map (λz=>i! z.2)=ks.map i!:=by
   have:(ids.zip ks).map (λz=>i! z.2)=((ids.zip ks).map (·.2)).map i!:=by rw[Zd];rfl
   rw[this,List.map_snd_zip (by lia)]
  rw[hzk];refine gU hD λH5 s5 e5=>?_;refine⟨D,_,Dn,.inl ⟨n! e5,λp6 K6=>?_⟩⟩;refine gU K6 λH6 s6 e6=>?_;have S3:=s4.trans (s5.trans s6);refine lO (S3 _ _ e3) e6 (by rw[WO];show 1+ks.length<=1000000;lia) λp7 H7 s7 e7=>?_;have MP:=s3.trans (S3.trans s7);have EG:=MP _ _ FO
  have hkA:Ats H2 kids ks:=by
   have hp:Xv (At H2) kids ks:=by
    refine fX (by lia) λj u k hu hk=>?_;obtain⟨id,hid,hf⟩:=C! CJ hu;have h1:=lw AX hid hk;have h2:(Ls.take i)[id]?=A? u:=by rw[List.getElem?_take_of_lt hf.1];exact hf.2
    obtain⟨u',BE,FR⟩:=Bh.get h1;rw[h2]at BE;cases BE;exact FR
   exact u7 hp
  refine hid λZZ kZ=>?_;obtain⟨m,ks',Sb,MQ⟩:=HR _ (WT MO);refine kZ ?_;injection Sb with Jb Se;refine⟨tl,_,_,Dn,Dn,EG,lbE (by lia),?_⟩;have k8:KT H7 (upd H7 tl (.lst (as.map i!++[.ref p7]))):=aY EG;refine⟨_,as++[p7],Dn,aC (s2.trans MP) Ae,uAE,?_⟩;rw[take_snoc MO];refine(Bh.mono ((k! MP).trans k8)).append (.cons ?_ .nil);rw[At];exact⟨by rw[Jb];exact MQ,ks,k8 _ _ e7,hkA.mono ((k! MP).trans k8)⟩
 .rintro Y H2 ⟨c4,as,rfl,s2,FO,Bh⟩;rw[WO,Yi (by lia)]at Bh;obtain⟨a,ha,AI⟩:=Bh.at DD;exact⟨_,Dn,_,Dn,tl,_,_,.ref a,Dn,Dn,n! FO,at_nonneg (by lia) (by rw[Yj,Xd,ha];rfl),q a H2 s2 AI⟩
inductive gj(vs:List V)(H:Hp)(Q:VK)(_E:XK):Prop
 |mk (b ia ra Dj ta:WS) (v2 v3:V) (Al Aq Bs:List WS) (ins:List (Xj×Int)) (st:Int) (j:Nat) (k:Xj×Int):vs=[.ref b,.int st,.str k.1]->H b=A? (.tup [.ref ia,v2,v3,.ref ra])->H ia=A? (.tup (Al.map i!))->KsAt H ins Al->aL ins->H ra=A? (.tup (Aq.map i!))->0<=st->Aq[st.toNat]?=A? Dj->H Dj=A? (.tup (Bs.map i!))->ins[j]?=A? k->Bs[j]?=A? ta->(∀H',j! H H'->Q (.ref ta) H')->gj  vs H Q _E
theorem lH:FnOk P w K mg base CX0 2 T.g_18.f T.g_18.d ["book","state","name"] gj:=by
 refine T.g_18.F.okA gm λzZ A outer s H vs Q E hr h=>?_;obtain⟨b,ia,ra,Dj,ta,v2,v3,Al,Aq,Bs,ins,st,j,k,rfl,eb,S4,FA,g,era,BV,An,HS,hj,BH,q⟩:=h
 refine⟨_,(ag (eU (i:=3) (N:=["kind"]) (js:=[B?]) (g:=(ay 0)) (tt:=bE) (te:=(tOp (nn K) (bt 0) (tC (.int 0)))) gm.nd rfl (Or.inl rfl) rfl (cy rfl (by decide +kernel) (by decide +kernel) rfl rfl rfl) (dJ (pcF T.g_15 (mE T) hr (ac (pv 0) ad))) (λ_ _ _ _ _ _=>(pgN 0 uu)) (aV rfl) (λ_ _ _ _ _ _=>bT) (λ_ _ _ _ _ _=>(aD aE (pv 0) ai (λ_ _=>rfl))))
  (aj (ax (aD aE (aD aE (pcF T.g_17 (jn T) hr (ac (pv 0) ad)) (pv 1) (λ_ _=>rfl)) (bD Xb PySem.F.slot_list_index PySem.F.type_list_index sk (pv 3) (ac (pv 2) ad)) (λ_ _=>rfl))))),?_⟩
 try dsimp only[Ak,zY]
 have BO:ins.length=Al.length:=W9 FA;have Km:=g.le;refine⟨_,Dn,b,_,_,_,_,Dn,eb,ia,Dn,⟨_,l! S4⟩,jm ins (λk=>F! k.1) (l! S4) (by rw[WO];exact BO) (by rw[WO];lia) (λi x z H2 R W' hx hz s2 hR=>?_) (λD H1 hD s1 e1=>?_)⟩
 .obtain⟨ka,rfl,AB⟩:=bq hx;obtain⟨z',Gg,ez⟩:=C! FA AB;rw[hz]at Gg;cases Gg;exact⟨_,Dn,ka,_,0,.str z.1,Dn,Dn,l! (s2 _ _ ez),at0,hR H2 (.refl _)⟩
 have en:ins.map (λk=>F! k.1)=(ins.map (·.1)).map F!:=by rw[Zd];rfl
 rw[en]at e1;refine⟨_,Dn,b,_,_,_,_,Dn,s1 _ _ eb,_,Dn,ra,_,st,.ref Dj,Dn,Dn,l! (s1 _ _ era),at_nonneg BV (gmE An),_,Dn,.inl ⟨Dn,_,n! e1⟩,_,Dn,?_⟩;refine⟨D,ins.map (·.1),k.1,j,Dn,Dn,n! e1,by rw[Xd,hj];rfl,λi hi hz=>?_,by rw[WO];lia,?_⟩
 .rw[Xd]at hz;obtain⟨k',Bw,e⟩:=Yh.mp hz;have:=g.nd i j k' k Bw hj e;lia
 .exact⟨Dj,_,(j:Int),.ref ta,Dn,Dn,l! (s1 _ _ HS),bL (gmE BH),q H1 s1⟩
inductive mT(vs:List V)(H:Hp)(Q:VK)(_E:XK):Prop
 |mk (b ca ka:WS) (ins outs:List (Xj×Int)) (head:Th) (rows:List (List Th)) (s k:Int) (n:Xj) (ks:List Th) (p h:Th):vs=[.ref b,.ref ca,.ref ka]->Bk H ins outs head rows b->aL ins->At H (.call s k) ca->At H (.knot n ks) ka->Step ins rows s k ks p h->(∀(r pa ha:WS)(H':Hp),j! H H'->H' r=A? (.tup [.ref pa,.ref ha])->At H' p pa->At H' h ha->Q (.ref r) H')->mT  vs H Q _E
inductive jv(vs:List V)(H:Hp)(Q:VK)(_E:XK):Prop
 |mk (b pa ka:WS) (ins outs:List (Xj×Int)) (head:Th) (rows:List (List Th)) (p k p' k':Th):vs=[.ref b,.ref pa,.ref ka]->Bk H ins outs head rows b->aL ins->At H p pa->At H k ka->Res ins rows p k p' k'->(∀(r pa ha:WS)(H':Hp),j! H H'->H' r=A? (.tup [.ref pa,.ref ha])->At H' p' pa->At H' k' ha->Q (.ref r) H')->jv  vs H Q _E
theorem sZ:FnOk P w K mg base CX0 3 T.g_21.f T.g_21.d ["book","call","knot"] mT:=by
 refine T.g_21.F.okA fV λzZ A outer s H vs Q E hr h=>?_;obtain⟨b,ca,ka,ins,outs,head,rows,s,k,n,ks,p,h,rfl,hb,g,hc,hk,st,q⟩:=h
 refine⟨_,(ag (de (pcF T.g_11 (fb T) hr (ac (pv 1) ad)) (bh rfl (au (pgN 3 fV.nd) (au (pgN 4 fV.nd) aT))))
  (ag (ao 5 fV.nd (aD aE (pv 2) (av bz (pv 4) ai) (λ_ _=>rfl)))
  (aj (ax (aQ (ac (pcF T.g_18 (lH T) hr (ac (pv 0) (ac (pv 3) (ac (aD aE (pv 5) ai (λ_ _=>rfl)) ad)))) (ac (pv 5) ad))))))),?_⟩
 try dsimp only[Ak,zY]
 refine hid λZZ kZ=>?_;obtain⟨s0,k0,hh,m,hs,c,j,row,rfl,hj,An,hp⟩:=st;refine kZ ?_;refine⟨_,Dn,ca,s,k,Dn,hc,λpr BP=>?_⟩;refine gU BP λH1 s1 e1=>?_;refine⟨pr,_,Dn,l! e1,Dn,_,_,Dn,_,_,Dn,Dn,?_⟩;have CH:=hk.mono (k! s1);rw[At]at CH;refine hid λZZ kZ=>?_;obtain⟨MG,as,AJ,Bh⟩:=CH
 obtain⟨ha,Qn,AI⟩:∃a,as[k.toNat]?=A? a/\At H1 (.knot m hs) a:=by
  have hl:=Bh.length;have Au:=(glE hh);obtain⟨a,ha⟩:∃a,as[k.toNat]?=A? a:=⟨_,WQ (by lia)⟩;obtain⟨t,ht,AI⟩:=Bh.get ha;rw[hh]at ht;cases ht;exact⟨a,ha,AI⟩
 refine kZ ?_;have Qo:atI (F! n::as.map i!) (k+1)=A? (.ref ha):=at_nonneg (by lia) (by rw[show(k+1).toNat=k.toNat+1 by lia,YO,Xd,Qn];rfl);refine⟨_,Dn,_,Dn,_,_,Dn,Dn,ka,_,_,.ref ha,Dn,Dn,l! AJ,Qo,?_⟩;have FR:=AI;rw[At]at FR;refine hid λZZ kZ=>?_;obtain⟨MQ,bs,eha,AO⟩:=FR;obtain⟨ia,oa,Bl,ra,Al,Ap,Aq,bk⟩:=hb.mono (k! s1);obtain⟨Dj,Le,Bs,HS,FJ⟩:=x! bk.rw An
 obtain⟨ta,BH,Qp⟩:∃a,Bs[j]?=A? a/\At H1 p a:=by
  have hl:=FJ.length;have Au:=(glE hp);obtain⟨a,ha⟩:∃a,Bs[j]?=A? a:=⟨_,WQ (by lia)⟩;obtain⟨t,ht,AI⟩:=FJ.get ha;rw[hp]at ht;cases ht;exact⟨a,ha,AI⟩
 refine kZ ?_;refine⟨_,Dn,_,Dn,_,Dn,ha,_,0,.str m,Dn,Dn,l! eha,at0,?_⟩;refine⟨b,ia,ra,Dj,ta,_,_,Al,Aq,Bs,ins,s,j,(m,c),Dn,bk.bk,bk.inE,bk.inK,g,bk.rl,s0,Le,HS,hj,BH,λH2 s2=>?_⟩;refine⟨_,Dn,lnE rfl,λr CI=>?_⟩;have s3:=s2.trans (am CI (.tup [.ref ta,.ref ha]));exact q r ta ha _ (s1.trans s3) ae (Qp.mono (k! s3)) (AI.mono (k! s3))
theorem fy:FnOk P w K mg base CX0 4 T.g_22.f T.g_22.d ["book","part","knot"] jv:=by
 refine T.g_22.F.okA fN λzZ A outer s H vs Q E hr h=>?_;obtain⟨b,pa,ka,ins,outs,head,rows,p,k,p',k',rfl,hb,g,hp,hk,Bz,q⟩:=h
 refine⟨_,(ag (cY Xw (bH (pcF T.g_8 (eF T) hr (ac (pv 1) ad)) (λ_=>rfl)) (aj (de (pcF T.g_21 (sZ T) hr (ac (pv 0) (ac (pv 1) (ac (pv 2) ad)))) (bh rfl (au (pgN 1 fN.nd) (au (pgN 2 fN.nd) aT))))))
  (aj (ax (aQ (ac (pv 1) (ac (pv 2) ad)))))),?_⟩
 try dsimp only[Ak,zY]
 refine⟨λm Y H2=>Ex4 λ(pa ka:WS)(p k:Th)=>An6 (Y=[A? (.ref b),A? (.ref pa),A? (.ref ka)]) (j! H H2) (At H2 p pa) (At H2 k ka) (Res ins rows p k p' k') (m=k.tall),⟨_,pa,ka,p,k,Dn,.refl _,hp,hk,Bz,Dn⟩,?_⟩;rintro m Y H2 ⟨pa,ka,p,k,rfl,s2,hp,hk,Bz,rfl⟩;refine⟨_,Dn,pa,p,Dn,hp,_,Dn,?_⟩;cases Bz with
 | stop n ts _ =>
   refine uy ?_;refine⟨_,Dn,_,Dn,lnE rfl,λr CI=>?_⟩;have s3:=am CI (.tup [.ref pa,.ref ka]);exact q r pa ka _ (s2.trans s3) ae (hp.mono (k! s3)) (hk.mono (k! s3))
 | @step s c n ks p1 h1 _ _ st r =>
   refine qg ?_;refine⟨λl' H'=>∃m',m'<(r! n ks).tall/\Ex4 λ(pa ka:WS)(p k:Th)=>An6 (l'=[A? (.ref b),A? (.ref pa),A? (.ref ka)]) (j! H H') (At H' p pa) (At H' k ka) (Res ins rows p k p' k') (m'=k.tall),λl' H' h=>h,?_⟩;refine⟨_,Dn,_,Dn,_,Dn,b,pa,ka,ins,outs,head,rows,s,c,n,ks,p1,h1,Dn,hb.mono (k! s2),g,hp,hk,st,λr' My Nk H3 s3 er CB Qn=>?_⟩
   have hm:h1∈ks:=by
    obtain⟨_,_,hh,_⟩:=st;exact WT hh
   have Ae:=ce hm;refine⟨r',_,Dn,l! er,Dn,_,_,Dn,_,_,Dn,Dn,h1.tall,?_,My,Nk,p1,h1,Dn,s2.trans s3,CB,Qn,r,Dn⟩;rw[q!];lia
inductive pC(vs:List V)(H:Hp)(Q:VK)(_E:XK):Prop
 |mk (l:WS) (as:List WS) (tops:List Top) (u:Th):vs=[.ref l]->H l=A? (.lst (as.map i!))->Xv (TopAt H) tops as->tops.length<=100000->TopsOk tops->(∀t,Top.th t∈tops->t.size<=100000)->bl tops=[u]->(∀(r:WS)(H':Hp),j! H H'->At H' u r->Q (.ref r) H')->pC  vs H Q _E
theorem uf:FnOk P w K mg base CX0 1 T.g_5.f T.g_5.d ["tops"] pC:=by
 refine T.g_5.F.okA gZ λzZ A outer s H vs Q E hr h=>?_;obtain⟨l,as,tops,u,rfl,el,hT,hlen,hok,Qq,hu,k⟩:=h
 refine⟨_,(ag (ao 1 gZ.nd (aN ad))
  (ag (br Xw rfl (qz rfl T.n_12 (pv 0)) (bh rfl (au (pgN 2 gZ.nd) (au (pgN 3 gZ.nd) aT))) (aj (cb (aI cN (pv 3) ai (aK _)) (aj (aM (bD Xb Xp Xo aH (pv 1) (ac (av cP (pv 2) (aS aR rfl T.n_14 XX (ac (bZ (N:=["number","done"]) (js:=[B?,A? 1]) (g:=(ay 0)) (tt:=bE) (te:=(xq K "list" (xz) (bt 1))) rfl (cy rfl (by decide +kernel) (by decide +kernel) rfl rfl rfl) (cf rfl T.n_11 (ac (pv 3) ad)) (λ_ _ _ _ _ _=>(pgN 0 yB)) (aV rfl) (λ_ _ _ _ _ _=>bT) (λ_ _ _ _ _ _=>(i3 Xb Zp Zo iS (pv 1)))) ad))) ad)))) (aj (aM (bD Xb Xp Xo aH (pv 1) (ac (pv 2) ad)))))))
  (aj (ax (aD bd (pv 1) ai (λ_ _=>rfl)))))),?_⟩
 try dsimp only[Ak,zY]
 have AL:tops.length=as.length:=W9 hT;refine⟨lnE rfl,λdn CS=>?_⟩;refine⟨_,Dn,l,_,Dn,n! (am CS _ _ _ el),?_⟩
 refine m9 (K:=K) (a:=l) (xs:=as.map i!) (λi Y H2=>Ex3 λc2 c3 ds=>An4 (Y=[A? (.ref l),A? (.ref dn),c2,c3]) (j! H H2) (H2 dn=A? (.lst (ds.map i!))) (Ats H2 (bl (tops.drop (tops.length - i))).reverse ds))
  ⟨B?,B?,[],rfl,am CS _,ae,by rw[Nat.sub_zero,List.drop_length];exact .nil⟩ (λi Y H2 _⟨_,_,_,_,s2,_,_⟩=>n! (s2 _ _ el)) ?_ ?_
 .rintro i y Y H2 hi hy ⟨c2,c3,ds,rfl,s2,CT,Bq⟩;rw[WO,<-AL]at hi hy;obtain⟨pr,rfl,BP⟩:=bq hy;obtain⟨x,hx,Qr⟩:=C! hT BP;have S5:=Qr.mono (k! s2);have hn:tops.length - 1 - i<tops.length:=by lia
  have EE:tops.drop (tops.length - 1 - i)=x::tops.drop (tops.length - i):=by
   rw[YE hn,show tops.length - 1 - i+1=tops.length - i by lia];congr 1;rw[WQ hn]at hx;exact Xh hx
  have Cm:=hok.drop (tops.length - 1 - i);rw[EE]at Cm;have B8:tops.length - (i+1)=tops.length - 1 - i:=by lia
  have HJ:(bl (tops.drop (tops.length - i))).length<=100000:=by
   have:=nT (tops.drop (tops.length - i));rw[XJ]at this;lia
  generalize tops.drop (tops.length - i)=S at EE Bq Cm HJ;refine hid λZZ kZ=>?_
  obtain⟨ta,m,xs,Ft,eta,hm,Qs,AS⟩:∃(ta:WS)(m:Nat)(xs:List V),H2 pr=A? (.tup [.ref ta,.int (m:Nat)])/\H2 ta=A? (.tup xs)/\m<=(bl S).length/\xs.length<=200000/\∀(H':Hp)(p:WS)(ks:List WS),KT H2 H'->Ats H' ((bl S).take m) ks->H' p=A? (.tup (xs++ks.map i!))->∃u',bl (x::S)=u'::(bl S).drop m/\At H' u' p:=by
   cases x with
   | nm n m =>
     rw[TopsOk]at Cm;obtain⟨ta,h1,h2,h3⟩:=S5;refine⟨ta,m,_,h1,h3,Cm.1,(by show 1<=200000;decide),λH' p ks kt hk hp=>⟨_,by rw[bl],?_⟩⟩;rw[At];exact⟨h2,ks,hp,hk⟩
   | th t =>
     obtain⟨ta,h1,h2⟩:=S5;obtain⟨n',r',h3⟩:=h2.tup;have hw:=h2.width h3;have AQ:=Qq t (WT hx);refine⟨ta,0,_,h1,h3,XA _,by lia,λH' p ks kt hk hp=>⟨t,by rw[bl,Yw],?_⟩⟩;rw[Zm,Ats]at hk;subst hk;rw[YS,Yx]at hp;exact(h2.mono kt).same (kt _ _ h3) hp
  refine kZ ?_;refine⟨pr,_,Dn,l! Ft,Dn,_,_,Dn,_,_,Dn,Dn,?_⟩;have Qt:=Bq.length;rw[XR]at Qt;refine bN (λb H'=>An2 (H'=H2) (b=decide ((0:Int)<(m:Int)))) (λkk GA=>?_) (λH' hb=>?_) (λH' hb=>?_)
  .exact⟨_,Dn,_,_,Dn,Dn,_,Dn,GA _ _ ⟨Dn,Dn⟩⟩
  rotate_left
  .obtain⟨rfl,hb⟩:=hb
   have BY:m=0:=by
    have:=of_decide_eq_false hb.symm;lia
   subst BY;obtain⟨u',BE,AI⟩:=AS H' ta [] (k! (.refl _)) (by rw[Zm];exact .nil) (by rw[YS,Yx];exact eta);refine⟨_,Dn,.inl ⟨Dn,_,n! CT⟩,_,Dn,dn,_,_,Dn,Dn,CT,lbE (by lia),?_⟩;have k6:KT H' (upd H' dn (.lst (ds.map i!++[.ref ta]))):=aY CT;refine⟨_,_,ds++[ta],Dn,?_,uAE,?_⟩
   .intro b o e;rw[af (aq e CS)];exact s2 b o e
   .rw[B8,EE,BE,XW];rw[Yw];exact(Bq.mono k6).append (.cons (AI.mono k6) .nil)
  obtain⟨rfl,hb⟩:=hb;refine⟨_,Dn,.inl ⟨Dn,_,n! CT⟩,_,Dn,?_⟩;refine⟨_,Dn,(m:Int),Dn,by lia,by lia,λD hD=>?_⟩;have CG:D≠dn:=λz=>by rw[z,CT]at hD;cases hD
  have Dx:((m:Nat):Int).toNat=m:=Yj m
  refine⟨m,λj H3=>An3 (j<=m) ((∀b o,H' b=A? o->b≠dn->H3 b=A? o)) (Ex2 λ(B9 ks:List WS)=>An4 (H3 dn=A? (.lst (B9.map i!))) (H3 D=A? (.lst (ks.map i!))) (Ats H3 ((bl S).drop j).reverse B9) (Ats H3 ((bl S).take j) ks)),
   ⟨XA _,λb o e hb=>?_,ds,[],?_,?_,?_,?_⟩,?_⟩
  .rw[af (aq e hD)];exact e
  .rw[af CG.symm];exact CT
  .rw[ae];rfl
  .rw[Yw];exact Bq.mono (fH hD)
  .rw[Zm];exact .nil
  rintro j H3 ⟨hj,kp,B9,ks,ed,eD,Ea,hd2⟩;by_cases MH:j=m
  .left;refine⟨(by show((m:Nat):Int).toNat<=j;rw[Dx,MH];exact W0 _),?_⟩;subst MH;have Lf:KT H' H3:=λb Ja e=>kp b _ e (aA e CT (by intro z;cases z));refine⟨D,_,Dn,.inl ⟨n! eD,λtp BM=>?_⟩⟩;refine gU BM λH4 s4 e4=>?_;have Au:=hd2.length;refine lO (s4 _ _ (Lf _ _ eta)) e4 (by rw[WO,Au,XC];lia) λp H5 s5 e5=>?_;have E8:=s4.trans s5;have S6:=E8 _ _ ed;have Qu:=Lf.trans (k! E8);obtain⟨u',BE,AI⟩:=AS H5 p ks Qu (hd2.mono (k! E8)) e5;have E3:=Ea.length;rw[XR,XJ]at E3;refine⟨dn,_,_,Dn,Dn,S6,lbE (by lia),?_⟩;have k6:KT H5 (upd H5 dn (.lst (B9.map i!++[.ref p]))):=aY S6;refine⟨_,_,B9++[p],Dn,?_,uAE,?_⟩
   .intro b o e;have hb:b≠dn:=aq e CS;rw[af hb];exact E8 _ _ (kp b o (s2 b o e) hb)
   .rw[B8,EE,BE,XW];exact(Ea.mono ((k! E8).trans k6)).append (.cons (AI.mono k6) .nil)
  .right;have Bb:j<m:=by lia
   refine⟨Bb,(by show j<((m:Nat):Int).toNat;rw[Dx];exact Bb),?_⟩;rintro x' H4 ⟨e1,e2⟩;have C5:H4=H3:=e1;subst C5;have KN:j<(bl S).length:=by lia
   have PU:(bl S).drop j=(bl S)[j]::(bl S).drop (j+1):=YE KN;rw[PU,XW]at Ea
   have Ar:B9≠[]:=by
    intro z;subst z;have:=Ea.length;rw[W4]at this;simp at this
   refine hid λZZ kZ=>?_;obtain⟨DC,b,rfl⟩:∃DC b,B9=DC++[b]:=⟨B9.dropLast,B9.getLast Ar,(YL Ar).symm⟩;obtain⟨Us,x2,e3,hU,hb2⟩:=Ea.snoc_inv;have e4:=List.append_inj' e3 rfl;obtain⟨e5,e6⟩:=e4;refine kZ ?_;cases e6;subst e5;refine⟨_,Dn,.inl ⟨Dn,_,n! ed⟩,dn,_,.ref b,Dn,Dn,ed,by simp,?_⟩;have d1:((DC++[b]).map i!).dropLast=DC.map i!:=by simp
   rw[d1];have MI:(upd H4 dn (.lst (DC.map i!))) D=A? (.lst (ks.map i!)):=by rw[af CG];exact eD
   have k5:KT H4 (upd (upd H4 dn (.lst (DC.map i!))) D (.lst (ks.map i!++[.ref b]))):=(aY ed).trans (aY MI);refine⟨_,MI,bc (by rw[WO,hd2.length,XC];lia),Bb,λb' o e AQ=>?_,DC,ks++[b],?_,?_,hU.mono k5,?_⟩
   .rw[af (aq e hD),af AQ];exact kp b' o e AQ
   .rw[af CG.symm,ae]
   .rw[ae,W5];rfl
   .rw[X5,WQ KN];exact(hd2.mono k5).append (.cons (hb2.mono k5) .nil)
 .rintro Y H2 ⟨c2,c3,ds,rfl,s2,CT,Bq⟩;rw[WO,<-AL,Nat.sub_self,Yw,hu]at Bq;have FN:Ats H2 [u] ds:=Bq;rw[Ats]at FN;obtain⟨b,r,rfl,hb,MR⟩:=FN;exact⟨_,Dn,dn,_,0,.ref b,Dn,Dn,n! CT,at0,k b H2 s2 hb⟩
theorem oE:W6 ""≠q:=by decide +kernel
def RunI(b ha ta tl ah:WS)(ins outs:List (Xj×Int))(rows:List (List Th))(o:Th)(H:Hp)(m:Nat)(Y:St)(H2:Hp):Prop :=
 Ex7 λ(DE as:List WS)(done:List Th)(js:List Job)(c5 c6 c7:Option V)=>An8 (Y=[A? (.ref b),A? (.ref ha),A? (.ref ta),A? (.ref tl),A? (.ref ah),c5,c6,c7]) (j! H H2) (H2 tl=A? (.lst (DE.map i!))) (H2 ah=A? (.lst (as.map i!))) (Xv (TopAt H2) (done.map (cB A!)) DE) (Xv (JAt H2 ins rows) js as) (JInv outs o done js) (m=ar (jos js))
inductive rb(C:WS)(vs:List V)(H:Hp)(Q:VK)(E:XK):Prop
 |mk (b ha ta:WS) (ins outs:List (Xj×Int)) (head:Th) (rows:List (List Th)) (p t o:Th):vs=[.ref b,.ref ha,.ref ta]->Bk H ins outs head rows b->aL ins->aL outs->At H p ha->At H t ta->Out ins rows p (.knot (W6 "") [t]) o->o.Fit outs->((o.size<=2000/\o.tall<=150)->∀(r:WS)(H':Hp),j! H H'->At H' o r->Q (.ref r) H')->(¬(o.size<=2000/\o.tall<=150)->∀H',j! H H'->E (.ref C) B? H')->rb C vs H Q E
theorem rD:FnOk P w K mg base (CX1 P w) 6 T.g_23.f T.g_23.d ["book","head","tree"] (rb T.e_Great):=by
 refine T.g_23.F.ok1 fD (λvs H Q E h=>?_) (λzZ A outer s H vs Q E hr h=>?_)
 .obtain⟨b,ha,ta,ins,outs,head,rows,p,t,o,rfl,_⟩:=h;rfl
 obtain⟨b,ha,ta,ins,outs,head,rows,p,t,o,rfl,hb,gi,go,hp,ht,AU,z8,q,hE⟩:=h
 refine⟨_,(ag (ao 3 fD.nd (aN ad))
  (ag (ao 4 fD.nd (aN (ac (aQ (ac (pv 1) (ac (pcF T.g_19 (kb T) hr (ac (pv 2) ad)) (ac ai ad)))) ad)))
  (ag (cY PassesOwn.leaving (bH (pv 4) (λ_=>rfl)) (ag (de (i3 Xb Zp Zo iS (pv 4)) (bh rfl (au (pgN 5 fD.nd) (au (pgN 6 fD.nd) (au (pgN 7 fD.nd) aT)))))
  (ag (de (pcF T.g_22 (fy T) hr (ac (pv 0) (ac (pv 5) (ac (pv 6) ad)))) (bh rfl (au (pgN 5 fD.nd) (au (pgN 6 fD.nd) aT))))
  (ag (cb (PW.pt (jB (aI gA (az aw rfl T.n_6 Xy (ac (pv 3) ad)) (bY (v:=.int (2000)) rfl T.c_MOST_KNOTS.choose_spec ⟨_,Dn⟩) (aK _)) (gM (aI cN (pv 7) (bY (v:=.int (150)) rfl T.c_TALLEST.choose_spec ⟨_,Dn⟩) (aK _))))) (aj (kL T.X_Great T.x_Great dh)) bx)
  (ag (aM (bD Xb Xp Xo aH (pv 3) (ac (aQ (ac (aX jS (pv 5) bp (bj ai)) (ac (av fP (az aw rfl T.n_6 Xy (ac (pv 5) ad)) ai) ad))) ad)))
  (aj (aM (bD Xb PySem.F.slot_list_extend PySem.F.type_list_extend lT (pv 4) (ac (bZ (N:=["kid","knot","row"]) (js:=[B?,A? 6,A? 7]) (g:=(ay 0)) (tt:=bE) (te:=(qi (bP (bt 0) (bP (bt 1) (bP (tOp (rI0 λi j=>.int (i+j)) (bt 2) (tC (.int 1))) gb))))) rfl (cy rfl (by decide +kernel) (by decide +kernel) rfl rfl rfl) (vV rfl T.n_12 (aX fJ (pv 5) (bj ai) bp)) (λ_ _ _ _ _ _=>(pgN 0 yQ)) (aV rfl) (λ_ _ _ _ _ _=>bT) (λ_ _ _ _ _ _=>(aQ (ac (pv 0) (ac (pv 1) (ac (av bz (pv 2) ai) ad)))))) ad)))))))))
  (aj (ax (pcF T.g_5 (uf T) hr (ac (pv 3) ad))))))),?_⟩
 try dsimp only[Ak,zY]
 refine⟨lnE rfl,λtl Ae=>?_⟩;refine⟨_,Dn,_,Dn,.ref ta,Dn,λab D3=>⟨lnE rfl,λtp BM=>⟨lnE rfl,λah BQ=>?_⟩⟩⟩;have s1:j! H (upd H tl (.lst [])):=am Ae _;have e1:(upd H tl (.lst [])) tl=A? (.lst (([]:List WS).map i!)):=ae;have D9:H ah=none:=s1.free ((am D3 _).free ((am BM _).free BQ));generalize hH1:(upd H tl (.lst []))=H1 at s1 e1 D3 BM BQ |-;have s2:j! H1 (upd H1 ab (.tup [.str (W6 ""),.ref ta])):=am D3 _;have e2:(upd H1 ab (.tup [.str (W6 ""),.ref ta])) ab=A? (.tup [.str (W6 ""),.ref ta]):=ae;generalize(upd H1 ab (.tup [.str (W6 ""),.ref ta]))=H2 at s2 e2 BM BQ |-;have s3:j! H2 (upd H2 tp (.tup [.ref ha,.ref ab,.int 1])):=am BM _;have e3:(upd H2 tp (.tup [.ref ha,.ref ab,.int 1])) tp=A? (.tup [.ref ha,.ref ab,.int 1]):=ae;generalize(upd H2 tp (.tup [.ref ha,.ref ab,.int 1]))=H3 at s3 e3 BQ |-;refine gU BQ λH4 s4 e4=>?_;have e4:H4 ah=A? (.lst ([tp].map i!)):=e4
 have BH:tl≠ah:=λz=>by
  have:=s3 _ _ (s2 _ _ e1);rw[z,BQ]at this;cases this
 have E4:=s3.trans s4;have Lg:=s2.trans E4;have DB:=s1.trans Lg;refine⟨RunI b ha ta tl ah ins outs rows o H,⟨_,[],[tp],[],[⟨p,.knot (W6 "") [t],1,o⟩],B?,B?,B?,Dn,DB,Lg _ _ e1,e4,.nil,.cons ⟨ha,ab,s4 _ _ e3,hp.mono (k! DB),?_,AU⟩ .nil,JInv.start z8,Dn⟩,?_⟩
 .show At H4 (.knot (W6 "") [t]) ab;rw[At];exact⟨oE,[ta],E4 _ _ e2,.cons (ht.mono (k! DB)) .nil⟩
 clear Lg E4 DB s4 e4 s3 e3 s2 e2 s1 e1;rintro m Y H2 ⟨DE,as,done,js,c5,c6,c7,rfl,sm,et,ea,hT,hJ,J,rfl⟩;refine⟨_,Dn,_,.inl ⟨_,n! ea,Dn⟩,?_⟩;refine cq (λc=>?_) (λc=>?_)
 .have Bn:as≠[]:=by intro z;subst z;simp at c
  refine hid λZZ kZ=>?_;obtain⟨Ai,x,rfl⟩:∃Ai x,as=Ai++[x]:=⟨as.dropLast,as.getLast Bn,(YL Bn).symm⟩;obtain⟨Jc,j,rfl,S7,hj⟩:=P2.snoc_inv hJ;obtain⟨jp,jk,jr,jo⟩:=j;obtain⟨pa,ka,ex,CB,AB,S8⟩:=hj;refine kZ ?_;dsimp only at ex CB AB S8;cases S8 with
  | @mk _ _ n ts k' os Bz Bi =>
  have hl:=Bi.length
  have hms:ar (jos (Jc++[⟨jp,jk,jr,.knot n os⟩]))=ar (jos Jc)+(ar os+1):=by
   unfold jos;rw[W5,aO];show _+ar [r! n os]=_;rw[ar,ar,v!]
  refine⟨λl' H'=>∃m',m'<ar (jos (Jc++[⟨jp,jk,jr,.knot n os⟩]))/\RunI b ha ta tl ah ins outs rows o H m' l' H',λl' H' h=>h,?_⟩;refine⟨_,Dn,.inl ⟨Dn,_,n! ea⟩,ah,_,.ref x,Dn,Dn,ea,by simp,?_⟩;have d1:((Ai++[x]).map i!).dropLast=Ai.map i!:=by simp
  rw[d1];have k3:KT H2 (upd H2 ah (.lst (Ai.map i!))):=aY ea;have s3:j! H (upd H2 ah (.lst (Ai.map i!))):=aC sm D9;have e3:(upd H2 ah (.lst (Ai.map i!))) ah=A? (.lst (Ai.map i!)):=ae;have t3:(upd H2 ah (.lst (Ai.map i!))) tl=A? (.lst (DE.map i!)):=by rw[af BH];exact et
  generalize(upd H2 ah (.lst (Ai.map i!)))=H3 at k3 s3 e3 t3 |-;refine⟨x,_,Dn,l! (k3 _ _ ex),Dn,_,_,Dn,_,_,Dn,_,_,Dn,Dn,?_⟩;refine⟨_,Dn,_,Dn,_,Dn,b,pa,ka,ins,outs,head,rows,jp,jk,.knot n ts,k',Dn,hb.mono (k! s3),gi,CB.mono k3,AB.mono k3,Bz,λr GG FU H4 s4 er Dy CH=>?_⟩;refine⟨r,_,Dn,l! er,Dn,_,_,Dn,_,_,Dn,Dn,?_⟩;have t4:=s4 _ _ t3
  have E3:done.length=DE.length:=by
   have:=W9 hT;rw[WO]at this;exact this
  dsimp only[lP];refine bN (λbb H'=>An3 (H4=H') ((bb=C?->done.length=2000\/150<jr)) ((bb=D?->done.length≠2000/\jr<=150))) (λk2 AE=>?_) (λH' hb2=>?_) (λH' hb2=>?_)
  .refine⟨_,Dn,tl,_,Dn,.inl (n! t4),Dn,_,Dn,?_⟩;refine cq (λc1=>AE _ _ ⟨rfl,λ_=>.inl ?_,λz=>by cases z⟩) (λc1=>?_)
   .have c2:=V.int.inj (e! c1);rw[WO]at c2;lia
   .refine⟨_,Dn,_,_,Dn,Dn,_,Dn,AE _ _ ⟨Dn,λz=>.inr ?_,λz=>⟨λz2=>c1 (d! ?_),?_⟩⟩⟩
    .have:=e! z;lia
    .rw[WO,<-E3,z2];rfl
    .have:=of_decide_eq_false z;lia
  .obtain⟨rfl,hb2,_⟩:=hb2;exact hE (J.great (hb2 rfl)) _ (s3.trans s4)
  refine hid λZZ kZ=>?_;obtain⟨rfl,_,hb2⟩:=hb2;obtain⟨Jr,MR⟩:=hb2 rfl;have CS:=J.dn;have Mh:=J.fit ⟨jp,jk,jr,.knot n os⟩ (by simp);have FQ:=mO go Mh;have DK:=J.len;rw[W4]at DK;have aa0:Jc.length=Ai.length:=W9 S7;have Lh:=Dy;rw[At]at Lh;obtain⟨MG,AV,Qv,EA⟩:=Lh;refine kZ ?_;have Au:AV.length=ts.length:=EA.length;have G6:done.length<2000:=by lia
  have a4:=s4 _ _ e3;have DB:=s3.trans s4;have Qw:=k3.trans (k! s4)
  refine⟨_,Dn,.inl ⟨Dn,_,n! t4⟩,_,Dn,1,Dn,GG,_,Dn,Qv,λp2 H5 s5 e5=>?_⟩;rw[jP]at e5;refine⟨_,Dn,GG,_,Dn,.inr (l! (s5 _ _ Qv)),_,_,Dn,Dn,lnE rfl,λE9 Qx=>?_⟩
  have Li:((F! n::AV.map i!).length:Int) - 1=((os.length:Nat):Int):=by
   rw[W8,WO];lia
  dsimp only[gb,rK];rw[Li];refine gU Qx λH6 s6 e6=>?_;have Cp:=s5.trans s6;refine⟨tl,_,_,Dn,Dn,Cp _ _ t4,lbE (by lia),?_⟩;have k7:KT H6 (upd H6 tl (.lst (DE.map i!++[.ref E9]))):=aY (Cp _ _ t4);have s7:j! H (upd H6 tl (.lst (DE.map i!++[.ref E9]))):=aC (DB.trans Cp) Ae;have t7:(upd H6 tl (.lst (DE.map i!++[.ref E9]))) tl=A? (.lst ((DE++[E9]).map i!)):=uAE;have a7:(upd H6 tl (.lst (DE.map i!++[.ref E9]))) ah=A? (.lst (Ai.map i!)):=by rw[af BH.symm];exact Cp _ _ a4
  generalize(upd H6 tl (.lst (DE.map i!++[.ref E9])))=H7 at k7 s7 t7 a7 |-;have Qy:=(k! Cp).trans k7;have S9:=Qw.trans Qy
  have hT7:Xv (TopAt H7) ((done++[r! n os]).map (cB A!)) (DE++[E9]):=by
   rw[W5];exact p! (mR S9 hT) (.cons ⟨p2,k7 _ _ e6,MG,((k! s6).trans k7) _ _ e5⟩ .nil)
  refine⟨_,Dn,.inl ⟨Dn,_,n! a7⟩,_,Dn,1,Dn,GG,_,Dn,l! (Qy _ _ Qv),?_,λp3 DU=>?_⟩
  .rintro⟨z,_⟩;rw[W8,show(1:Int)=((1:Nat):Int)by rfl,y!]at z;lia
  dsimp only;rw[dH];refine gU DU λH8 s8 e8=>?_;have MM:=Qy.trans (k! s8);have Cn:ts.length=os.length:=hl.symm;have Qs:((AV.map i!).reverse).length=os.length:=by rw[XR,WO];lia
  refine⟨p3,_,Dn,l! e8,rQ (F:=λH j a=>JAt H ins rows j a) (xs:=(AV.map i!).reverse) (cm k' (jr+1) ts os).reverse (λH1 H2 z p kt h=>h.mono kt) (by rw[XR,cE Cn,Qs]) (by lia) (λi Hx sx hi=>⟨by rw[XR]at hi;exact hi,_,l! (sx _ _ e8),Dn⟩) (λHx sx=>by rw[XR];rfl) (λi Hx x Hy sx hi hy=>⟨hy.1,?_⟩) (λi x z Hx R W' hx IZ sx hR=>?_) (λD Hx MS hD sx eD Ma=>?_)⟩
  .rw[XR]at hi;rw[List.getElem?_reverse hi];exact hy.2 _ (l! (sx _ _ e8))
  .have Qz:i<(cm k' (jr+1) ts os).length:=by
    rw[cE Cn];have:=(glE hx);lia
   rw[List.getElem?_reverse Qz,cE Cn]at IZ;have RR:i<os.length:=by rw[cE Cn]at Qz;exact Qz
   have Lj:i<(AV.map i!).length:=by rw[WO];lia
   rw[List.getElem?_reverse Lj,WO]at hx;refine hid λZZ kZ=>?_;obtain⟨xa,rfl,He⟩:=bq hx;have DD:AV.length - 1 - i=os.length - 1 - i:=by lia
   rw[DD]at He;obtain⟨u,hu,hau⟩:=EA.get He;obtain⟨ou,Ta⟩:∃ou,os[os.length - 1 - i]?=A? ou:=⟨_,WQ (by lia)⟩;refine kZ ?_;unfold cm at IZ;have QA:(ts.zip os)[os.length - 1 - i]?=A? (u,ou):=Yu.mpr ⟨hu,Ta⟩;rw[Xd,QA]at IZ;cases IZ;refine⟨_,Dn,_,Dn,_,Dn,_,_,Dn,Dn,lnE rfl,λp4 FH=>?_⟩;have s9:=am FH (.tup [.ref xa,.ref FU,.int ((jr:Nat)+1)]);have Tb:=MM.trans (k! (sx.trans s9));refine hR _ p4 s9 ⟨xa,FU,?_,hau.mono Tb,CH.mono Tb,Bi.get _ hu Ta⟩;rw[ae];congr 4
  .have hlD:=W9 Ma;rw[XR,cE Cn]at hlD;refine⟨ah,D,_,_,Dn,Dn,sx _ _ (s8 _ _ a7),eD,ZQ (bc (by rw[WO,WO];lia)),?_⟩;have a9:=sx _ _ (s8 _ _ a7);have k9:KT Hx (upd Hx ah (.lst (Ai.map i!++MS.map i!))):=aY a9;have Tc:=(k! (s8.trans sx)).trans k9;refine⟨ar (jos (Jc++(cm k' (jr+1) ts os).reverse)),?_,DE++[E9],Ai++MS,done++[.knot n os],Jc++(cm k' (jr+1) ts os).reverse,_,_,_,Dn,aC (s7.trans (s8.trans sx)) D9,by rw[af BH];exact sx _ _ (s8 _ _ t7),by rw[ae,W5],mR Tc hT7,p! (w! (λ_ _ e=>e.mono (S9.trans Tc)) S7) (w! (λ_ _ e=>e.mono k9) Ma),J.turn go MR G6 Cn,Dn⟩;rw[hms];have e1:=ja k' (jr+1) ts os Cn;unfold jos at e1 |-;rw[W5,List.map_reverse,e1,aO,li];lia
 .have hz:as=[]:=by
   cases as with
   |nil=>rfl
   |cons y ys=>simp at c
  subst hz;have CU:js=[]:=Ys.mp (W9 hJ);subst CU;obtain⟨Lk,CS⟩:=J.done;subst CS;obtain⟨b1,b2⟩:=r6 A! o;rw[nF]at b1;have hsz:=H! o;refine⟨_,Dn,tl,DE,_,o,Dn,et,hT,by rw[WO];lia,b2,?_,b1,λr H3 s3 QB=>q Lk r H3 (sm.trans s3) QB⟩;intro u hu;obtain⟨x,hx,e⟩:=Xn.mp hu;cases x with
  |knot nm us=>cases e
  | call sn kn =>
    cases e;rw[v!];decide
inductive mh(vs:List V)(H:Hp)(Q:VK)(_E:XK):Prop
 |mk (b ta:WS) (ins outs:List (Xj×Int)) (head:Th) (rows:List (List Th)) (t o:Th):vs=[.ref b,.ref ta]->Bk H ins outs head rows b->aL ins->aL outs->At H t ta->Out ins rows head (.knot (W6 "") [t]) o->o.Fit outs->(o.size<=2000/\o.tall<=150)->(∀(r:WS)(H':Hp),j! H H'->At H' o r->Q (.ref r) H')->mh  vs H Q _E
inductive iq(vs:List V)(H:Hp)(Q:VK)(_E:XK):Prop
 |mk (b ta:WS) (ins outs:List (Xj×Int)) (head:Th) (rows:List (List Th)) (st:Int) (t o:Th):vs=[.ref b,.int st,.ref ta]->Bk H ins outs head rows b->aL ins->aL outs->At H t ta->Out ins rows (.call st 0) (.knot (W6 "") [t]) o->o.Fit outs->(o.size<=2000/\o.tall<=150)->(∀(r:WS)(H':Hp),j! H H'->At H' o r->Q (.ref r) H')->iq  vs H Q _E
inductive kX(C:WS)(vs:List V)(H:Hp)(Q:VK)(E:XK):Prop
 |mk (b ta:WS) (ins outs:List (Xj×Int)) (head:Th) (rows:List (List Th)) (t o:Th):vs=[.ref b,.ref ta]->Bk H ins outs head rows b->aL ins->aL outs->At H t ta->Out ins rows head (.knot (W6 "") [t]) o->o.Fit outs->((o.size<=2000/\o.tall<=150)->∀(r:WS)(H':Hp),j! H H'->At H' o r->Q (.ref r) H')->(¬(o.size<=2000/\o.tall<=150)->∀H',j! H H'->E (.ref C) B? H')->kX C vs H Q E
inductive gD(C:WS)(vs:List V)(H:Hp)(Q:VK)(E:XK):Prop
 |mk (b ta:WS) (ins outs:List (Xj×Int)) (head:Th) (rows:List (List Th)) (st:Int) (t o:Th):vs=[.ref b,.int st,.ref ta]->Bk H ins outs head rows b->aL ins->aL outs->At H t ta->Out ins rows (.call st 0) (.knot (W6 "") [t]) o->o.Fit outs->((o.size<=2000/\o.tall<=150)->∀(r:WS)(H':Hp),j! H H'->At H' o r->Q (.ref r) H')->(¬(o.size<=2000/\o.tall<=150)->∀H',j! H H'->E (.ref C) B? H')->gD C vs H Q E
theorem qt:FnOk P w K mg base (CX1 P w) 7 T.g_24.f T.g_24.d ["book","tree"] (kX T.e_Great):=by
 refine T.g_24.F.ok1 tu (λvs H Q E h=>?_) (λzZ A outer s H vs Q E hr h=>?_)
 .obtain⟨b,ta,ins,outs,head,rows,t,o,rfl,_⟩:=h;rfl
 obtain⟨b,ta,ins,outs,head,rows,t,o,rfl,hb,gi,go,ht,AU,z8,q,hE⟩:=h;refine⟨_,(aj (ax (cg (rD T) (hr.mono (by first|decide|lia)) rfl T.g_23.m T.g_23.F.kp T.g_23.b .nil rM (ac (pv 0) (ac (pcF T.g_16 (dI T) hr (ac (pv 0) ad)) (ac (pv 1) ad)))))),?_⟩
 try dsimp only[Ak,zY]
 refine hid λZZ kZ=>?_;obtain⟨ia,oa,Bl,ra,Al,Ap,Aq,bk⟩:=id hb;refine kZ ?_;exact⟨_,Dn,_,Dn,b,_,_,_,_,Dn,bk.bk,_,Dn,b,Bl,ta,ins,outs,head,rows,head,t,o,Dn,hb,gi,go,bk.hd,ht,AU,z8,q,hE⟩
theorem lK:FnOk P w K mg base (CX1 P w) 7 T.g_25.f T.g_25.d ["book","state","tree"] (gD T.e_Great):=by
 refine T.g_25.F.ok1 nk (λvs H Q E h=>?_) (λzZ A outer s H vs Q E hr h=>?_)
 .obtain⟨b,ta,ins,outs,head,rows,st,t,o,rfl,_⟩:=h;rfl
 obtain⟨b,ta,ins,outs,head,rows,st,t,o,rfl,hb,gi,go,ht,AU,z8,q,hE⟩:=h;refine⟨_,(aj (ax (cg (rD T) (hr.mono (by first|decide|lia)) rfl T.g_23.m T.g_23.F.kp T.g_23.b .nil rM (ac (pv 0) (ac (pcF T.g_20 (qx T) hr (ac (pv 1) ad)) (ac (pv 2) ad)))))),?_⟩
 try dsimp only[Ak,zY]
 refine⟨_,Dn,_,Dn,st,Dn,λca Cj=>?_⟩;have s1:=am Cj (.tup [.str BB.q,.int st,.int 0]);refine⟨_,Dn,b,ca,ta,ins,outs,head,rows,.call st 0,t,o,Dn,hb.mono (k! s1),gi,go,?_,ht.mono (k! s1),AU,z8,λhs r H' s'=>q hs r H' (s1.trans s'),λhn H' s'=>hE hn H' (s1.trans s')⟩;rw[At];exact ae
theorem tK:FnOk P w K mg base CX0 7 T.g_24.f T.g_24.d ["book","tree"] mh :=
 (qt T).x0 λvs H Q E h=>by
  obtain⟨b,ta,ins,outs,head,rows,t,o,rfl,hb,gi,go,ht,AU,z8,Lk,q⟩:=h;exact⟨b,ta,ins,outs,head,rows,t,o,Dn,hb,gi,go,ht,AU,z8,λ_=>q,λhn=>g! Lk hn⟩
theorem nU:FnOk P w K mg base CX0 7 T.g_25.f T.g_25.d ["book","state","tree"] iq :=
 (lK T).x0 λvs H Q E h=>by
  obtain⟨b,ta,ins,outs,head,rows,st,t,o,rfl,hb,gi,go,ht,AU,z8,Lk,q⟩:=h;exact⟨b,ta,ins,outs,head,rows,st,t,o,Dn,hb,gi,go,ht,AU,z8,λ_=>q,λhn=>g! Lk hn⟩
inductive iF(vs:List V)(H:Hp)(Q:VK)(_E:XK):Prop
 |mk (i:Int):vs=[.int i]->Q (.bl C?) H->iF  vs H Q _E
theorem nW:FnOk P w K mg base CX0 1 T.g_0.f T.g_0.d ["thing"] iF:=by
 refine T.g_0.F.okA nY λzZ A outer s H vs Q E hr h=>?_;obtain⟨i,rfl,k⟩:=h;refine⟨_,(aj (ax (qU (az (mf (T:="int")) rfl T.n_5 PyProof.Rows.boot_isinstance (ac (pv 0) (ac (rB (v:=.ty "int") rfl T.n_4 PyProof.Rows.boot_int rfl) ad))) (qk (qh (az (mf (T:="bool")) rfl T.n_5 PyProof.Rows.boot_isinstance (ac (pv 0) (ac (rB (v:=.ty "bool") rfl T.n_1 PyProof.Rows.boot_bool rfl) ad)))))))),?_⟩
 try dsimp only[Ak,zY]
 refine⟨_,Dn,_,_,_,Dn,.int i,xZ,_,Dn,?_⟩;refine qg ?_;exact⟨_,Dn,_,_,_,Dn,.int i,ya,_,Dn,k⟩
inductive jw(vs:List V)(H:Hp)(Q:VK)(_E:XK):Prop
 |mk (i b:Int):vs=[.int i,.int b]->Q (.bl (decide (0<=i/\i<b))) H->jw  vs H Q _E
theorem pq:FnOk P w K mg base CX0 2 T.g_1.f T.g_1.d ["number","bound"] jw:=by
 refine T.g_1.F.okA o8 λzZ A outer s H vs Q E hr h=>?_;obtain⟨i,b,rfl,k⟩:=h;refine⟨_,(aj (ax (qU (pcF T.g_0 (nW T) hr (ac (pv 0) ad)) (qk (uv yJ vn ai (pv 0) (pv 1)))))),?_⟩
 try dsimp only[Ak,zY]
 refine⟨_,Dn,i,Dn,_,Dn,?_⟩;refine qg ?_;refine⟨_,Dn,_,_,Dn,Dn,_,Dn,?_⟩;refine cq (λc=>?_) (λc=>?_)
 .have c':0<=i:=e! c;refine⟨_,Dn,_,_,Dn,Dn,?_⟩;have e:decide (0<=i/\i<b)=decide (i<b):=by simp[c']
  rw[e]at k;exact k
 .have c':¬0<=i:=λz=>c (d! z);have e:decide (0<=i/\i<b)=false:=by simp[c']
  rw[e]at k;exact k
inductive j1(C:WS)(vs:List V)(H:Hp)(Q:VK)(E:XK):Prop
 |mk (a:WS) (t:Th) (i:Int):vs=[.ref a,.int i]->At H t a->(∀(u:Th)(b:WS)(H':Hp),0<=i->t.kids[i.toNat]?=A? u->j! H H'->At H' u b->Q (.ref b) H')->(¬(0<=i/\i<(t.kids.length:Int))->∀H',j! H H'->E (.ref C) B? H')->j1 C vs H Q E
theorem qG:FnOk P w K mg base (CX1 P w) 3 T.g_7.f T.g_7.d ["thing","number"] (j1 T.e_NoPlace):=by
 refine T.g_7.F.ok1 mP (λvs H Q E h=>?_) (λzZ A outer s H vs Q E hr h=>?_)
 .obtain⟨a,t,i,rfl,_⟩:=h;rfl
 obtain⟨a,t,i,rfl,hA,k1,k2⟩:=h
 refine⟨_,(ag (ao 2 mP.nd (pcF T.g_2 (eJ T) hr (ac (pv 0) ad)))
  (ag (cb (uT (bH (pcF T.g_1 (pq T) hr (ac (pv 1) (ac (az aw rfl T.n_6 Xy (ac (pv 2) ad)) ad))) (λ_=>rfl))) (aj (kL T.X_NoPlace T.x_NoPlace dh)) bx)
  (aj (ax (aD aE (pv 2) (pv 1) (λ_ _=>rfl)))))),?_⟩
 try dsimp only[Ak,zY]
 refine⟨_,Dn,a,t,Dn,hA,λr as H1 s1 er AX=>?_⟩;have hl:as.length=t.kids.length:=AX.length;refine⟨_,Dn,_,Dn,r,_,Dn,.inr (l! er),i,_,Dn,_,Dn,?_⟩;rw[WO,hl];refine cq (λc=>?_) (λc=>?_)
 .refine k2 (λz=>?_) H1 s1;rw[d! z]at c;cases c
 .have hz:0<=i/\i<(t.kids.length:Int):=by
   by_cases z:0<=i/\i<(t.kids.length:Int)
   .exact z
   .rw[c! z]at c;exact g! rfl c
  have hi:i.toNat<t.kids.length:=by lia
  have hu:t.kids[i.toNat]?=A? t.kids[i.toNat]:=WQ hi;obtain⟨b,hb,hbt⟩:=AX.at hu;exact⟨_,Dn,_,Dn,r,_,i,.ref b,Dn,Dn,l! er,at_nonneg hz.1 (gmE hb),k1 _ b H1 hz.1 hu s1 hbt⟩
inductive jy(C:WS)(vs:List V)(H:Hp)(Q:VK)(E:XK):Prop
 |mk (b ha ta pa:WS) (ins outs:List (Xj×Int)) (head:Th) (rows:List (List Th)) (p t p1 k1:Th) (place:List Int) (o:Option Xj):vs=[.ref b,.ref ha,.ref ta,.ref pa]->Bk H ins outs head rows b->aL ins->At H p ha->At H t ta->H pa=A? (.tup (place.map o!))->Res ins rows p (.knot (W6 "") [t]) p1 k1->Pk ins rows p1 k1 place o->(∀n,o=A? n->∀H',j! H H'->Q (.str n) H')->(o=B?->∀H',j! H H'->E (.ref C) B? H')->jy C vs H Q E
inductive gG(C:WS)(vs:List V)(H:Hp)(Q:VK)(E:XK):Prop
 |mk (b ta pa:WS) (ins outs:List (Xj×Int)) (head:Th) (rows:List (List Th)) (t p1 k1:Th) (place:List Int) (o:Option Xj):vs=[.ref b,.ref ta,.ref pa]->Bk H ins outs head rows b->aL ins->At H t ta->H pa=A? (.tup (place.map o!))->Res ins rows head (.knot (W6 "") [t]) p1 k1->Pk ins rows p1 k1 place o->(∀n,o=A? n->∀H',j! H H'->Q (.str n) H')->(o=B?->∀H',j! H H'->E (.ref C) B? H')->gG C vs H Q E
inductive jW(vs:List V)(H:Hp)(Q:VK)(_E:XK):Prop
 |mk (b ta pa:WS) (ins outs:List (Xj×Int)) (head:Th) (rows:List (List Th)) (t p1 k1:Th) (place:List Int) (n:Xj):vs=[.ref b,.ref ta,.ref pa]->Bk H ins outs head rows b->aL ins->At H t ta->H pa=A? (.tup (place.map o!))->Res ins rows head (.knot (W6 "") [t]) p1 k1->Pk ins rows p1 k1 place (A? n)->(∀H',j! H H'->Q (.str n) H')->jW  vs H Q _E
theorem vE:W6 ""≠q:=by decide +kernel
theorem pB:FnOk P w K mg base (CX1 P w) 5 T.g_39.f T.g_39.d ["book","head","tree","place"] (jy T.e_NoPlace):=by
 refine T.g_39.F.ok1 cO (λvs H Q E h=>?_) (λzZ A outer s H vs Q E hr h=>?_)
 .obtain⟨b,ha,ta,pa,ins,outs,head,rows,p,t,p1,k1,place,o,rfl,_⟩:=h;rfl
 obtain⟨b,ha,ta,pa,ins,outs,head,rows,p,t,p1,k1,place,o,rfl,hb,g,hp,ht,Bd,Bz,CQ,hq,hE⟩:=h
 refine⟨_,(ag (de (pcF T.g_22 (fy T) hr (ac (pv 0) (ac (pv 1) (ac (pcF T.g_19 (kb T) hr (ac (pv 2) ad)) ad)))) (bh rfl (au (pgN 4 cO.nd) (au (pgN 5 cO.nd) aT))))
  (ag (br PassesOwn.leaving rfl (dJ (pv 3)) (pgN 6 cO.nd) (aj (de (pcF T.g_22 (fy T) hr (ac (pv 0) (ac (cg (qG T) (hr.mono (by first|decide|lia)) rfl T.g_7.m T.g_7.F.kp T.g_7.b .nil rM (ac (pv 4) (ac (pv 6) ad))) (ac (pv 5) ad)))) (bh rfl (au (pgN 4 cO.nd) (au (pgN 5 cO.nd) aT))))))
  (aj (ax (aD aE (pv 4) ai (λ_ _=>rfl)))))),?_⟩
 try dsimp only[Ak,zY]
 refine⟨_,Dn,_,Dn,_,Dn,.ref ta,Dn,λab D3=>?_⟩;refine gU D3 λH1 s1 e1=>?_
 have QC:At H1 (.knot (W6 "") [t]) ab:=by
  rw[At];exact⟨vE,[ta],e1,.cons (ht.mono (k! s1)) .nil⟩
 refine⟨b,ha,ab,ins,outs,head,rows,p,_,p1,k1,Dn,hb.mono (k! s1),g,hp.mono (k! s1),QC,Bz,λr GG ha1 H2 s2 er Dy CH=>?_⟩;have Dk:=s1.trans s2;refine⟨r,_,Dn,l! er,Dn,_,_,Dn,_,_,Dn,Dn,?_⟩;refine⟨_,Dn,pa,Dn,⟨_,l! (Dk _ _ Bd)⟩,?_⟩
 refine qV (K:=K) (a:=pa) (xs:=place.map o!) (λi Y H3=>Ex5 λ(GG FU:WS)(c:Option V)(p2 k2:Th)=>An5 (Y=[A? (.ref b),A? (.ref ha),A? (.ref ta),A? (.ref pa),A? (.ref GG),A? (.ref FU),c]) (j! H H3) (At H3 p2 GG) (At H3 k2 FU) (Pk ins rows p2 k2 (place.drop i) o))
  ⟨GG,ha1,B?,p1,k1,rfl,Dk,Dy,CH,by rw[Yw];exact CQ⟩ (λi Y H3 _⟨_,_,_,_,_,_,s3,_,_,_⟩=>l! (s3 _ _ Bd)) ?_ ?_
 .rintro i x Y H3 hx ⟨MT,Td,c,p2,k2,rfl,s3,Bj,AE,EJ⟩;rw[Xd]at hx;obtain⟨n,hn,rfl⟩:=Yh.mp hx;have hi:i<place.length:=(glE hn)
  have hd:place.drop i=n::place.drop (i+1):=by
   rw[YE hi];congr 1;rw[WQ hi]at hn;exact Xh hn
  rw[hd]at EJ;cases EJ with
  | @bad m ts _ _ _ FV =>
    refine⟨_,Dn,_,Dn,_,Dn,MT,_,n,Dn,Bj,λu bb H4 h0 hu s4 AI=>?_,λ_ H4 s4=>hE rfl H4 (s3.trans s4)⟩;exact g! ⟨h0,by have:=(glE hu);show n<(ts.length:Int);have h2:(r! m ts).kids=ts:=rfl;rw[h2]at this;lia⟩ FV
  | @step m ts _ _ _ u p3 k3 _ h0 hu QB QD =>
    refine⟨_,Dn,_,Dn,_,Dn,MT,_,n,Dn,Bj,λu' bb H4 h0' BE s4 AI=>?_,λFV H4 s4=>?_⟩
    .have h2:(r! m ts).kids=ts:=rfl;rw[h2,hu]at BE;cases BE;refine⟨_,Dn,b,bb,Td,ins,outs,head,rows,u,k2,p3,k3,Dn,hb.mono (k! (s3.trans s4)),g,AI,AE.mono (k! s4),QB,λr4 pa4 ha4 H5 s5 Co Hu hk5=>?_⟩;exact⟨r4,_,Dn,l! Co,Dn,_,_,Dn,_,_,Dn,Dn,pa4,ha4,_,p3,k3,Dn,s3.trans (s4.trans s5),Hu,hk5,QD⟩
    .have h2:(r! m ts).kids=ts:=rfl;have h3:=(glE hu);rw[h2]at FV;exact g! ⟨h0,by lia⟩ FV
 .rintro Y H3 ⟨MT,Td,c,p2,k2,rfl,s3,Bj,AE,EJ⟩;rw[WO,List.drop_length]at EJ;cases EJ with
  | nil n ts _ =>
    have Ll:=Bj;rw[At]at Ll;refine hid λZZ kZ=>?_;obtain⟨_,as,ep,_⟩:=Ll;refine kZ ?_;exact⟨_,Dn,MT,_,0,.str n,Dn,Dn,l! ep,at0,hq n rfl H3 s3⟩
theorem kN:FnOk P w K mg base (CX1 P w) 6 T.g_40.f T.g_40.d ["book","tree","place"] (gG T.e_NoPlace):=by
 refine T.g_40.F.ok1 sr (λvs H Q E h=>?_) (λzZ A outer s H vs Q E hr h=>?_)
 .obtain⟨b,ta,pa,ins,outs,head,rows,t,p1,k1,place,o,rfl,_⟩:=h;rfl
 obtain⟨b,ta,pa,ins,outs,head,rows,t,p1,k1,place,o,rfl,hb,g,ht,Bd,Bz,CQ,hq,hE⟩:=h;refine⟨_,(aj (ax (cg (pB T) (hr.mono (by first|decide|lia)) rfl T.g_39.m T.g_39.F.kp T.g_39.b .nil rM (ac (pv 0) (ac (pcF T.g_16 (dI T) hr (ac (pv 0) ad)) (ac (pv 1) (ac (pv 2) ad))))))),?_⟩
 try dsimp only[Ak,zY]
 refine hid λZZ kZ=>?_;obtain⟨ia,oa,Bl,ra,Al,Ap,Aq,bk⟩:=id hb;refine kZ ?_;exact⟨_,Dn,_,Dn,b,_,_,_,_,Dn,bk.bk,_,Dn,_,Dn,b,Bl,ta,pa,ins,outs,head,rows,head,t,p1,k1,place,o,Dn,hb,g,bk.hd,ht,Bd,Bz,CQ,hq,hE⟩
theorem qu:FnOk P w K mg base CX0 6 T.g_40.f T.g_40.d ["book","tree","place"] jW :=
 (kN T).x0 λvs H Q E h=>by
  obtain⟨b,ta,pa,ins,outs,head,rows,t,p1,k1,place,n,rfl,hb,gi,ht,hp,hr,hk,q⟩:=h;exact⟨b,ta,pa,ins,outs,head,rows,t,p1,k1,place,A? n,Dn,hb,gi,ht,hp,hr,hk,λm hm=>(by cases hm;exact q),λz=>by cases z⟩
inductive gS(K:WW)(vs:List V)(H:Hp)(Q:VK)(_E:XK):Prop
 |mk (a:WS) (ns:List Int) (k:Int):vs=[.ref a,.int k]->SqL K H a (ns.map o!)->0<=k->(∀c:Int,Q (.int c) H)->gS K vs H Q _E
theorem dq:FnOk P w K mg base CX0 1 T.g_47.f T.g_47.d ["script","k"] (gS K):=by
 refine T.g_47.F.okA nC λzZ A outer s H vs Q E hr h=>?_;obtain⟨a,ns,k,rfl,hS,h0,q⟩:=h
 refine⟨_,(ag (cb (aI vn (pv 1) (az aw rfl T.n_6 Xy (ac (pv 0) ad)) (aK _)) (aj (ax (aD bd (pv 0) (pv 1) (λ_ _=>rfl)))) bx)
  (aj (ax ai))),?_⟩
 try dsimp only[Ak,zY]
 refine⟨_,Dn,_,Dn,a,_,Dn,.inl hS,_,_,Dn,Dn,_,Dn,?_⟩;refine cq (λc=>?_) (λc=>q 0);have c':k<(((ns.map o!).length:Nat):Int):=e! c;rw[WO]at c';exact⟨_,Dn,_,Dn,a,_,k,_,Dn,Dn,hS,int_at h0 c',q _⟩
inductive gX(vs:List V)(H:Hp)(Q:VK)(_E:XK):Prop
 |mk (c k:Int):vs=[.int c,.int k]->0<=k->k<=100000->(∀r:Int,0<=r->r<2147483629->Q (.int r) H)->gX  vs H Q _E
theorem bR:FnOk P w K mg base CX0 1 T.g_48.f T.g_48.d ["cell","k"] gX:=by
 refine T.g_48.F.okA eZ λzZ A outer s H vs Q E hr h=>?_;obtain⟨c,k,rfl,h0,h1,q⟩:=h
 refine⟨_,(ag (ao 2 eZ.nd (av bB (av bz (av bz (av bz (pv 0) (av dF (av dF ai (pv 1)) (pv 1))) (av dF ai (pv 1))) ai) ai))
  (ag (ao 2 eZ.nd (av bB (av dF (pv 2) (pv 2)) ai))
  (aj (ax (av bB (av dF (av bz (pv 2) (av dF ai (av bz (pv 1) ai))) ai) ai))))),?_⟩
 try dsimp only[Ak,zY]
 refine⟨_,Dn,_,Dn,_,_,Dn,Dn,.inl ⟨by decide,by decide⟩,_,Dn,_,_,Dn,Dn,.inr ⟨by lia,by lia⟩,_,_,Dn,Dn,_,Dn,_,_,Dn,Dn,.inl ⟨by decide,by decide⟩,_,_,Dn,Dn,_,_,Dn,Dn,_,_,Dn,Dn,(by show(0:Int)<2147483647;decide),?_⟩;have n0:=XQ (c+977 * k * k+31 * k+1) (show(2147483647:Int)≠0 by decide);have n1:=XN (c+977 * k * k+31 * k+1) (show(0:Int)<2147483647 by decide);dsimp only;generalize(c+977 * k * k+31 * k+1)%2147483647=near at n0 n1;refine⟨_,Dn,_,Dn,_,_,Dn,Dn,.inl ⟨by lia,by lia⟩,_,_,Dn,Dn,(by show(0:Int)<2147483647;decide),?_⟩;dsimp only;generalize near * near%2147483647=far;refine⟨_,Dn,_,Dn,_,_,Dn,Dn,_,_,Dn,Dn,.inl ⟨by decide,by decide⟩,_,_,Dn,Dn,_,_,Dn,Dn,.inr ⟨by decide,by decide⟩,_,_,Dn,Dn,(by show(0:Int)<2147483629;decide),q _ (XQ _ (by decide)) (XN _ (by decide))⟩
inductive hV(vs:List V)(H:Hp)(Q:VK)(_E:XK):Prop
 |mk (kr:WS) (AV:List WS) (ks:List (Xj×Int)) (cell:Int):vs=[.ref kr,.int cell]->H kr=A? (.tup (AV.map i!))->KsAt H ks AV->aL ks->(∀(k0:Xj×Int)(ka:WS)(H':Hp),j! H H'->k0∈ks->k0.2=0->KAt H' k0 ka->Q (.ref ka) H')->hV  vs H Q _E
theorem ig:∀{ks:List (Xj×Int)}{as:List WS},KsAt H ks as->∀z∈ks.zip as,z.1∈ks/\KAt H z.1 z.2
 |_,_,.nil,z,hz=>by simp at hz
 | _,_,.cons (a:=k) (b:=a) r t,z,hz=>by
   rw[List.zip_cons_cons]at hz;rcases Xc.mp hz with rfl|hz
   .exact⟨W2 ..,r⟩
   .obtain⟨h1,h2⟩:=ig t z hz;exact⟨WR _ h1,h2⟩
theorem ko{kr:WS}{AV:List WS}{ks:List (Xj×Int)}(p:Xj×Int->Bool)(e:H kr=A? (.tup (AV.map i!)))(AX:KsAt H ks AV)(hl:ks.length<=1000)(hp:∃k∈ks,p k=C?)
 (Fg:∀(z:Xj×Int)(ka:WS)(H2:Hp)(R:Bool->Hp->Prop),j! H H2->KAt H2 z ka->R (p z) H2->tt ((cσ js Y).set 0 (A? (.ref ka))) H2 R)
 (Fh:∀(ka:WS)(H2:Hp)(R:VK),R (.ref ka) H2->te ((cσ js Y).set 0 (A? (.ref ka))) H2 R)
 (q:∀(D:WS)(bs:List ((Xj×Int)×WS))(H':Hp),H D=B?->H'=upd H D (.lst (bs.map λz=>i! z.2))->1<=bs.length->bs.length<=ks.length->(∀z∈bs,z.1∈ks/\p z.1=C?/\KAt H z.1 z.2)->fin D H') :
 ∀D,H D=B?->∃(n:Nat)(W:Nat->Hp->Prop),W 0 (upd H D (.lst []))/\fA js (ay 0) tt te Y (Itt K kr) D n W λH'=>fin D H':=by
 have Au:ks.length=AV.length:=W9 AX;have Fv:(ks.zip AV).length=ks.length:=by rw[List.length_zip];lia
 have Eu:∀(i:Nat)(x:V)(z:(Xj×Int)×WS),(AV.map i!)[i]?=A? x->(ks.zip AV)[i]?=A? z->x=.ref z.2:=λi x z hx hz=>by
  obtain⟨ka,rfl,AB⟩:=bq hx;obtain⟨h1,h2⟩:=Yu.mp hz;rw[AB]at h2;cases h2;rfl
 refine cV (ks.zip AV) (λz=>p z.1) (λz=>.ref z.2) (l! e) (by rw[Fv,WO];exact Au) (by rw[WO];lia) (λi x z H2 R hx hz sm r=>?_) (λi x z H2 R hx hz _ sm r=>?_) (λD hD=>?_)
 .rw[Eu i x z hx hz];have:=(ig AX z (WT hz)).2;exact Fg z.1 z.2 H2 R sm (sm _ _ this) r
 .rw[Eu i x z hx hz];exact Fh z.2 H2 R r
 .refine q D _ _ hD rfl ?_ ?_ ?_
  .obtain⟨k,hk,CQ⟩:=hp;obtain⟨i,hi,rfl⟩:=List.getElem_of_mem hk;have hz:(ks.zip AV)[i]'(by lia)∈(ks.zip AV).filter λz=>p z.1:=ZX.mpr ⟨List.getElem_mem _,by rw[List.getElem_zip];exact CQ⟩;exact List.length_pos_of_mem hz
  .exact X2 (List.length_filter_le _ _) (by lia)
  .intro z hz;obtain⟨h1,h2⟩:=ZX.mp hz;obtain⟨h3,h4⟩:=ig AX z h1;exact⟨h3,h2,h4⟩
theorem eQ:FnOk P w K mg base CX0 1 T.g_50.f T.g_50.d ["kinds","cell"] hV:=by
 refine T.g_50.F.okA iG λzZ A outer s H vs Q E hr h=>?_;obtain⟨kr,AV,ks,cell,rfl,ek,AX,g,k⟩:=h
 refine⟨_,(ag (eU (i:=2) (N:=["kind"]) (js:=[B?]) (g:=(ay 0)) (tt:=(ph (tOp (rEq) (tOp (nn K) (bt 0) (tC (.int 1))) (tC (.int 0))))) (te:=(bt 0)) iG.nd rfl (Or.inl rfl) rfl (cy rfl (by decide +kernel) (by decide +kernel) rfl rfl rfl) (dJ (pv 0)) (λ_ _ _ _ _ _=>(pgN 0 uu)) (aV rfl) (λ_ _ _ _ _ _=>fS (aI gA (aD aE (pv 0) ai (λ_ _=>rfl)) ai (aK _))) (λ_ _ _ _ _ _=>(pv 0)))
  (aj (ax (aD bd (pv 2) (av bB (pv 1) (az aw rfl T.n_6 Xy (ac (pv 2) ad))) (λ_ _=>rfl))))),?_⟩
 try dsimp only[Ak,zY]
 have Te:=g.le;obtain⟨kz,IM,HU⟩:=g.zero;refine⟨_,Dn,kr,Dn,⟨_,l! ek⟩,ko (K:=K) (λk=>decide (o! k.2=o! 0)) ek AX (by lia) ⟨kz,IM,by rw[HU];rfl⟩ (λz ka H2 R sm hz r=>?_) (λka H2 R r=>⟨_,Dn,r⟩) (λD bs H' hD e' hb1 Tf AO=>?_)⟩
 .exact⟨_,Dn,ka,_,1,_,Dn,Dn,l! hz,at1,Dn,_,Dn,r⟩
 subst e';have Fu:0<((bs.map λz=>i! z.2).length:Int):=by rw[WO];lia
 have Tg:=XQ cell (Int.ne_of_gt Fu);have hy1:=XN cell Fu;refine hid λZZ kZ=>?_;obtain⟨z,hz⟩:∃z,bs[(cell%((bs.map λz=>i! z.2).length:Int)).toNat]?=A? z:=⟨_,WQ (by rw[WO]at Tg hy1 |-;lia)⟩;obtain⟨g1,g2,g3⟩:=AO z (WT hz);refine kZ ?_;refine⟨_,Dn,_,Dn,_,Dn,D,_,Dn,.inl (n! ae),_,_,Dn,Dn,Fu,D,_,_,.ref z.2,Dn,Dn,n! ae,at_nonneg Tg (gmE hz),?_⟩;exact k z.1 z.2 _ (am hD _) g1 (V.int.inj (e! g2)) (am hD _ _ _ g3)
inductive gB(vs:List V)(H:Hp)(Q:VK)(_E:XK):Prop
 |mk (cell:Int) (lt:Xj):vs=[.int cell,.str lt]->pO lt->(∀(r:WS)(as:List WS)(ks:List (Xj×Int))(H':Hp),j! H H'->H' r=A? (.tup (as.map i!))->KsAt H' ks as->aL ks->Q (.ref r) H')->gB  vs H Q _E
theorem yh{a':Nat}{L:List Nat}(hs:stem.length<=7)(ha:a'<=stem.length){p:Nat}(hp:p<8):(kC begun c0 stem (a':Int) L p).length<=8:=by
 unfold kC;cases begun with
 | true =>
   simp only[if_true];rw[ij];lia
 | false =>
   simp only[YX,if_false];have h1:=(iO (z:=stem) ha).2
   have h2:(cA stem (A? (a':Int)) B?).length=stem.length - a':=by
    show(cA stem (A? (a':Int)) B?).cps.size=_;rw[<-Xr];show((jK stem.cps.toList (A? (a':Int)) B?).toArray.toList).length=_;rw[List.toList_toArray];unfold jK;have hz:stem.cps.toList.length=stem.length:=Xr;rw[y!,L!,hz,Nat.min_eq_left ha,XC,XJ,hz];lia
   rw[strLen_append,strLen_append,h1,h2];show a'+1+(stem.length - a')<=8;lia
theorem uA{x:Int}(h0:0<=x)(h1:x<4):1<=1+x/\1+x<=8:=by lia
theorem rX{x:Int}(h0:0<=x)(h1:x<4):1<=5+x/\5+x<=8:=by lia
theorem xR{t:Int}(hi:i<4)(hj:j<4)(h:(3 * (i:Int)+t)%4=(3 * (j:Int)+t)%4):i=j:=by lia
theorem xn{t:Int}(hi:i<8)(hj:j<8)(h:(3 * (i:Int)+t)%8=(3 * (j:Int)+t)%8):i=j:=by lia
theorem rZ{x:Int}{m:Nat}(h0:0<=x)(h1:x<(m:Int)):x.toNat<m:=by lia
def KInv(nm:Nat->Xj)(turn leaf:Int)(m:Nat)(ks:List (Xj×Int)):Prop :=
 ∀(j:Nat)(k:Xj×Int),ks[j]?=A? k->k.1=nm ((3 * (j:Int)+turn)%(m:Int)).toNat/\0<=k.2/\k.2<=3/\((j:Int)=leaf->k.2=0)
theorem KInv.good{nm:Nat->Xj}{turn leaf:Int}{m:Nat}{ks:List (Xj×Int)}(h:KInv nm turn leaf m ks)(h1:1<=ks.length)(hm:(m=4/\ks.length<=4)\/(m=8/\ks.length<=8))(ht:0<=turn)(Dl:0<=leaf/\leaf<(ks.length:Int))
 (CA:∀p,p<m->Low (nm p)/\(nm p).length<=8) (Fw:∀p r,p<m->r<m->nm p=nm r->p=r):aL ks:=by
 have BY:(0:Int)<(m:Int):=by rcases hm with⟨rfl,_⟩|⟨rfl,_⟩ <;> decide
 have hb:∀j:Nat,((3 * (j:Int)+turn)%(m:Int)).toNat<m:=λj=>by
  exact rZ (XQ _ (Int.ne_of_gt BY)) (XN _ BY)
 refine⟨h1,(by rcases hm with⟨_,h⟩|⟨_,h⟩;exact X2 h (by decide);exact h),λk hk=>?_,λk hk=>?_,?_,λi j k l hk hl e=>?_⟩
 .obtain⟨i,hi⟩:=Xk.mp hk;rw[(h i k hi).1];exact CA _ (hb i)
 .obtain⟨i,hi⟩:=Xk.mp hk;exact⟨(h i k hi).2.1,(h i k hi).2.2.1⟩
 .have hl:leaf.toNat<ks.length:=rZ Dl.1 Dl.2;exact⟨ks[leaf.toNat],List.getElem_mem hl,(h leaf.toNat _ (WQ hl)).2.2.2 (YA Dl.1)⟩
 .have Ce:i<ks.length:=(glE hk);have Bb:j<ks.length:=(glE hl);rw[(h i k hk).1,(h j l hl).1]at e;have e2:=Fw _ _ (hb i) (hb j) e;have e3:(3 * (i:Int)+turn)%(m:Int)=(3 * (j:Int)+turn)%(m:Int):=by rw[<-YA (XQ (3 * (i:Int)+turn) (Int.ne_of_gt BY)),e2,YA (XQ (3 * (j:Int)+turn) (Int.ne_of_gt BY))]
  rcases hm with⟨rfl,hm⟩|⟨rfl,hm⟩
  .exact xR (Xz Ce hm) (Xz Bb hm) e3
  .exact xn (Xz Ce hm) (Xz Bb hm) e3
theorem gz:FnOk P w K mg base CX0 2 T.g_49.f T.g_49.d ["cell","letters"] gB:=by
 refine T.g_49.F.okA aF λzZ A outer s H vs Q E hr h=>?_;obtain⟨cell,lt,rfl,pk,q⟩:=h
 refine⟨_,(ag (ao 2 aF.nd (pcF T.g_48 (bR T) hr (ac (pv 0) (ac ai ad))))
  (ag (ao 3 aF.nd (av bz ai (av bB (pv 2) ai)))
  (ag (cb (aI gA (av bB (av bU (pv 2) ai) ai) ai (aK _)) (aj (ao 3 aF.nd (av bz ai (av bB (av bU (pv 2) ai) ai)))) bx)
  (ag (ao 4 aF.nd (aX n8 (av gK (pv 1) dh) bp (bj (av bz ai (av dF ai (aS iU rfl T.n_4 PyProof.Rows.boot_int (ac (eT cN (pv 3) ai (aK _)) ad)))))))
  (ag (ao 5 aF.nd (aX n8 dh bp (bj (av bB (av bU (pv 2) ai) ai))))
  (ag (ao 6 aF.nd (av bB (av bU (pv 2) ai) (av bz (az iw rfl T.n_6 Xy (ac (pv 5) ad)) ai)))
  (ag (ao 7 aF.nd (av bB (av bU (pv 2) ai) (pv 3)))
  (ag (ao 8 aF.nd (av bB (av bU (pv 2) ai) ai))
  (ag (ao 9 aF.nd (eT gA (av bB (av bU (pv 2) ai) ai) ai (aK _)))
  (ag (ao 10 aF.nd (aN ad))
  (ag (br Xw rfl (cf rfl T.n_11 (ac (pv 3) ad)) (pgN 11 aF.nd) (ag (ao 2 aF.nd (pcF T.g_48 (bR T) hr (ac (pv 2) (ac (av bz (pv 11) ai) ad))))
  (ag (ao 12 aF.nd (av dF (aD bd (aN (ac ai (ac ai (ac ai (ac ai (ac ai ad)))))) (av bB (pv 2) ai) (λ_ _=>rfl)) (aS iU rfl T.n_4 PyProof.Rows.boot_int (ac (eT ml (pv 11) (pv 7) (aK _)) ad))))
  (ag (ao 13 aF.nd (av bB (av bz (av dF ai (pv 11)) (pv 8)) (az iw rfl T.n_6 Xy (ac (pv 4) ad))))
  (ag (ao 14 aF.nd (av gK (av gK (aX n8 (pv 5) bp (bj (pv 6))) (aD vh (pv 4) (pv 13) (λ_ _=>rfl))) (aX n8 (pv 5) (bj (pv 6)) bp)))
  (ag (cb (bH (pv 9) (λ_=>rfl)) (aj (ao 14 aF.nd (av v5 (aD vh (pv 1) ai (λ_ _=>rfl)) (av bz ai (pv 13))))) bx)
  (aj (aM (bD Xb Xp Xo aH (pv 10) (ac (aQ (ac (pv 14) (ac (pv 12) ad))) ad))))))))))
  (aj (ax (aS aR rfl T.n_14 XX (ac (pv 10) ad))))))))))))))),?_⟩
 try dsimp only[Ak,zY]
 refine⟨_,Dn,_,_,Dn,by decide,by decide,λrest r0 r1=>?_⟩;have z0:=XQ rest (show(4:Int)≠0 by decide);have z1:=XN rest (show(0:Int)<4 by decide);refine⟨_,Dn,_,_,Dn,Dn,(by show(0:Int)<4;decide),_,_,Dn,Dn,?_⟩;dsimp only[ay];refine ck (λl' H'=>An2 (H=H') (Ex1 λ(size:Int)=>An3 (1<=size) (size<=8) (l'=[A? (.int cell),A? (.str lt),A? (.int rest),A? (.int size),B?,B?,B?,B?,B?,B?,B?,B?,B?,B?,B?]))) (λkk hk=>?_) ?_
 .refine⟨_,Dn,_,_,Dn,Dn,⟨by decide,by decide⟩,_,_,Dn,Dn,(by show(0:Int)<4;decide),Dn,_,Dn,?_⟩;refine cq (λ_=>?_) (λ_=>hk _ _ ⟨rfl,_,(uA z0 z1).1,(uA z0 z1).2,rfl⟩);have y0:=XQ (rest / 55296) (show(4:Int)≠0 by decide);have y1:=XN (rest / 55296) (show(0:Int)<4 by decide);exact⟨_,Dn,_,_,Dn,Dn,⟨by decide,by decide⟩,_,_,Dn,Dn,(by show(0:Int)<4;decide),_,_,Dn,Dn,hk _ _ ⟨Dn,_,(rX y0 y1).1,(rX y0 y1).2,Dn⟩⟩
 rintro l' H' ⟨rfl,size,sz1,sz8,rfl⟩
 have Ti:=pk.len;have Hn:(lt++dA).length=8:=by rw[strLen_append,Ti];rfl
 have HV:(0:Int)<size:=sz1
 obtain⟨m,hm,hm4⟩:∃m:Nat,(4+4 * (if decide ((4:Int)<size)then 1 else 0):Int)=(m:Int)/\((m=4/\size<=4)\/(m=8/\size<=8)):=by
  by_cases c:(4:Int)<size
  .exact⟨8,by rw[d! c];rfl,.inr ⟨Dn,sz8⟩⟩
  .exact⟨4,by rw[c! c];rfl,.inl ⟨Dn,Int.not_lt.mp c⟩⟩
 refine⟨_,Dn,_,_,Dn,Dn,ba (by rw[Ti];decide +kernel),_,Dn,_,_,Dn,Dn,.inr ⟨_,Dn,?_⟩⟩;refine⟨_,_,Dn,Dn,.inl ⟨by decide,by decide⟩,_,_,Dn,Dn,_,Dn,_,Dn,ba (by show(lt++dA).length<=1000000;rw[Hn];decide),?_⟩;have Tj:m<=(lt++dA).length:=by rw[Hn];rcases hm4 with⟨rfl,_⟩|⟨rfl,_⟩ <;> decide
 generalize(4+4 * (if decide ((4:Int)<size)=C? then 1 else 0):Int)=x4 at hm |-;subst hm;obtain⟨cl,cn⟩:(cA (lt++W6 "aeio") B? (A? (m:Int))).cps.toList=(lt++dA).cps.toList.take m/\(cA (lt++W6 "aeio") B? (A? (m:Int))).length=m:=iO (z:=lt++dA) (n:=m) Tj
 have GH:∀p:Nat,p<m->(lt++dA).cps.toList[p]?=A? ((lt++dA).cps.toList.getD p 0)/\(cA (lt++W6 "aeio") B? (A? (m:Int))).cps.toList[p]?=A? ((lt++dA).cps.toList.getD p 0):=λp hp=>by
  have AF:p<(lt++dA).cps.toList.length:=by rw[Xr];exact Xz hp Tj
  have h1:(lt++dA).cps.toList[p]?=A? ((lt++dA).cps.toList.getD p 0):=by rw[List.getD,WQ AF];rfl
  refine⟨h1,?_⟩;rw[cl,List.getElem?_take_of_lt hp];exact h1
 generalize cA (lt++W6 "aeio") B? (A? (m:Int))=more at cn GH cl |-
 have y0:=XQ (rest / 4) (show(8:Int)≠0 by decide);have y1:=XN (rest / 4) (show(0:Int)<8 by decide);refine⟨_,Dn,_,_,Dn,Dn,⟨by decide,by decide⟩,_,_,Dn,Dn,(by show(0:Int)<8;decide),_,Dn,_,Dn,ba (by decide +kernel),?_⟩;generalize rest / 4%8=x8 at y0 y1 |-;obtain⟨sn,rfl⟩:∃n:Nat,x8=(n:Int):=⟨_,(YA y0).symm⟩
 have JJ:(cA (W6 "gumleafs") B? (A? (sn:Int))).length<=7:=by
  show(cA gum B? (A? (sn:Int))).length<=7;rw[(iO (z:=gum) (n:=sn) (by show sn<=8;lia)).2];lia
 have LY:Low (cA (W6 "gumleafs") B? (A? (sn:Int))):=nL wv _ _;generalize cA (W6 "gumleafs") B? (A? (sn:Int))=stem at JJ LY |-
 have HW:(0:Int)<(stem.length:Int)+1:=Int.lt_add_one_of_le (Int.natCast_nonneg _);have x0:=XQ (rest / 32) (Int.ne_of_gt HW);have x1:=XN (rest / 32) HW;refine⟨_,Dn,_,_,Dn,Dn,⟨by decide,by decide⟩,_,Dn,_,Dn,ba (X2 JJ (by decide)),_,_,Dn,Dn,_,_,Dn,Dn,HW,?_⟩;generalize rest / 32%((stem.length:Int)+1)=xa at x0 x1 |-;obtain⟨a',rfl⟩:∃n:Nat,xa=(n:Int):=⟨_,(YA x0).symm⟩;have QE:a'<=stem.length:=by lia
 have l0:=XQ (rest / 288) (Int.ne_of_gt HV);have l1:=XN (rest / 288) HV;refine⟨_,Dn,_,_,Dn,Dn,⟨by decide,by decide⟩,_,Dn,_,_,Dn,Dn,HV,?_⟩;generalize rest / 288%size=leaf at l0 l1 |-;have t0:=XQ (rest / 1152) (show(4:Int)≠0 by decide);refine⟨_,Dn,_,_,Dn,Dn,⟨by decide,by decide⟩,_,_,Dn,Dn,(by show(0:Int)<4;decide),?_⟩;generalize rest / 1152%4=turn at t0 |-;refine⟨_,Dn,_,_,Dn,Dn,⟨by decide,by decide⟩,_,_,Dn,Dn,(by show(0:Int)<3;decide),Dn,?_⟩;generalize decide (o! (rest / 4608%3)=o! 1)=bg;refine⟨lnE rfl,λkl Au=>?_⟩;obtain⟨c0,MU⟩:∃c0,lt.cps.toList[0]?=A? c0:=⟨_,WQ (by rw[Xr];show 0<lt.length;lia)⟩
 have QF:97<=c0/\c0<=122:=pk.low c0 (by
  show c0∈(lt.cps++dA.cps).toList;rw[ZG];exact Xg _ (WT MU))
 refine⟨_,Dn,size,Dn,by lia,by lia,?_⟩
 refine cj (n:=size.toNat) (λi Y H2=>Ex7 λ(Ca:Int)(kv mv pv nv:Option V)(as:List WS)(ks:List (Xj×Int))=>An6 (Y=[A? (.int cell),A? (.str lt),A? (.int Ca),A? (.int size),A? (.str more),A? (.str stem),A? (.int (a':Int)),A? (.int leaf),A? (.int turn),A? (.bl bg),A? (.ref kl),kv,mv,pv,nv]) (j! H H2) (H2 kl=A? (.lst (as.map i!))) (KsAt H2 ks as) (ks.length=i) (KInv (kC bg c0 stem (a':Int) (lt++dA).cps.toList) turn leaf m ks))
  ⟨rest,B?,B?,B?,B?,[],[],rfl,am Au _,ae,.nil,rfl,λj k hj=>by simp at hj⟩ ?_ ?_
 .rintro i Y H2 hi ⟨Ca,kv,mv,pv,nv,as,ks,rfl,sm,e,hp,HR,hinv⟩;have Km:i<size.toNat:=hi;have hl:ks.length=as.length:=W9 hp;refine⟨_,Dn,_,Dn,_,_,Dn,Dn,_,_,Dn,by lia,by lia,λAZ _ _=>?_⟩;have v0:=XQ AZ (show(5:Int)≠0 by decide);have v1:=XN AZ (show(0:Int)<5 by decide);refine hid λZZ kZ=>?_
  obtain⟨v,hv,hv0,hv3⟩:∃v:Int,atI [o! 0,o! 2,o! 1,o! 3,o! 2] (AZ%5)=A? (.int v)/\0<=v/\v<=3:=by
   rcases(by lia:AZ%5=0\/AZ%5=1\/AZ%5=2\/AZ%5=3\/AZ%5=4)with z|z|z|z|z <;> rw[z]
   .exact⟨0,Dn,by decide,by decide⟩
   .exact⟨2,Dn,by decide,by decide⟩
   .exact⟨1,Dn,by decide,by decide⟩
   .exact⟨3,Dn,by decide,by decide⟩
   .exact⟨2,Dn,by decide,by decide⟩
  refine kZ ?_;refine⟨lnE rfl,λll DL=>?_⟩;refine⟨_,Dn,_,_,Dn,Dn,(by show(0:Int)<5;decide),ll,_,_,.int v,Dn,Dn,n! ae,hv,_,Dn,_,Dn,Dn,.inr ⟨_,Dn,_,_,Dn,Dn,.inl ⟨by lia,by lia⟩,?_⟩⟩;refine gU DL λH3 s3 _=>?_;have e3:=s3 _ _ e;have DU:=hp.mono (k! s3);have Tn:=sm.trans s3
  have Lm:0<=(v * (if(!decide (o! (0+(i:Int))=o! leaf))=C? then 1 else 0):Int)/\(v * (if(!decide (o! (0+(i:Int))=o! leaf))=C? then 1 else 0):Int)<=3/\((i:Int)=leaf->(v * (if(!decide (o! (0+(i:Int))=o! leaf))=C? then 1 else 0):Int)=0):=by
   by_cases c:(i:Int)=leaf
   .have:(!decide (o! (0+(i:Int))=o! leaf))=false:=by rw[Int.zero_add,c,d! rfl];rfl
    rw[this];simp
   .have:(!decide (o! (0+(i:Int))=o! leaf))=true:=by
     rw[Int.zero_add,c! (λz=>c (V.int.inj z))];rfl
    rw[this];simp;exact⟨hv0,hv3,λz=>g! z c⟩
  generalize(v * (if(!decide (o! (0+(i:Int))=o! leaf))=C? then 1 else 0):Int)=QG at Lm |-;obtain⟨BY,hm3,hmz⟩:=Lm;have p0:=XQ (3 * (0+(i:Int))+turn) (show(more.length:Int)≠0 by lia);have p1:=XN (3 * (0+(i:Int))+turn) (show(0:Int)<(more.length:Int)by lia);refine⟨_,Dn,_,_,Dn,Dn,.inl ⟨by decide,by decide⟩,_,Dn,_,_,Dn,Dn,_,Dn,_,Dn,ba (by lia),_,_,Dn,Dn,(by show(0:Int)<(more.length:Int);lia),?_⟩;generalize hpc:(3 * (0+(i:Int))+turn)%(more.length:Int)=xp at p0 p1 |-;obtain⟨pc,rfl⟩:∃n:Nat,xp=(n:Int):=⟨_,(YA p0).symm⟩
  have QH:((3 * (i:Int)+turn)%(m:Int)).toNat=pc:=by
   rw[cn,Int.zero_add]at hpc;lia
  have hpm:pc<m:=by lia
  obtain⟨GX,Nw⟩:=GH pc hpm;have Ql:=(fK stem B? (A? (a':Int)));have Dr:=(fK stem (A? (a':Int)) B?);refine⟨_,Dn,_,Dn,_,Dn,_,Dn,ba (by lia),_,Dn,_,Dn,_,_,_,Dn,Dn,ba (by lia),bL Nw,_,_,Dn,Dn,ba (by show(cA stem B? (A? (a':Int))).length+1<=1000000;lia),_,Dn,_,Dn,_,Dn,_,Dn,ba (by lia),_,_,Dn,Dn,ba (by rw[strLen_append];show(cA stem B? (A? (a':Int))).length+1+(cA stem (A? (a':Int)) B?).length<=1000000;lia),?_⟩;dsimp only[ay];refine ck (λl' H'=>An2 (H3=H') (l'=[A? (.int cell),A? (.str lt),A? (.int AZ),A? (.int size),A? (.str more),A? (.str stem),A? (.int (a':Int)),A? (.int leaf),A? (.int turn),A? (.bl bg),A? (.ref kl),A? (.int (0+(i:Int))),A? (.int QG),A? (.int (pc:Int)),A? (.str (kC bg c0 stem (a':Int) (lt++dA).cps.toList pc))])) (λkk hk=>?_) ?_
  .refine⟨_,Dn,bg,Dn,?_⟩;cases bg with
   |false=>exact uy (hk _ _ ⟨rfl,rfl⟩)
   | true =>
     refine qg ⟨_,rfl,_,_,c0,rfl,rfl,ba (by lia),bL (j:=0) MU,_,rfl,_,_,rfl,rfl,c0,_,rfl,rfl,by lia,by lia,hk _ _ ⟨rfl,?_⟩⟩;have:(1+(pc:Int)).toNat=1+pc:=by lia
     rw[this];rfl
  rintro l' H' ⟨rfl,rfl⟩;refine⟨_,Dn,.inl ⟨Dn,_,n! e3⟩,_,Dn,_,Dn,lnE rfl,λp C6=>?_⟩;have CQ:kl≠p:=aq e3 C6;refine⟨kl,_,_,Dn,Dn,by rw[af CQ];exact e3,lbE (by lia),?_⟩;refine⟨AZ,_,_,_,_,as++[p],ks++[(kC bg c0 stem (a':Int) (lt++dA).cps.toList pc,QG)],Dn,aC (aC Tn (Tn.free C6)) Au,?_,?_,?_,?_⟩
  .rw[ae,W5];rfl
  .have kt:KT H3 (upd (upd H3 p (.tup [.str (kC bg c0 stem (a':Int) (lt++dA).cps.toList pc),.int QG])) kl (.lst (as.map i!++[.ref p]))):=(fH C6).trans (aY (xs:=as.map i!) (by rw[af CQ];exact e3));refine p! (DU.mono kt) (.cons ?_ .nil);show(upd (upd H3 p _) kl _) p=_;rw[af CQ.symm,ae]
  .rw[W4,HR];rfl
  .intro j k hj;by_cases Gy:j<ks.length
   .rw[XB Gy]at hj;exact hinv j k hj
   .rw[X0 (by lia)]at hj
    have CU:j - ks.length=0:=by
     have:=(glE hj);simp at this;lia
    rw[CU]at hj;cases hj;have QI:j=i:=by lia
    subst QI;exact⟨by rw[QH],BY,hm3,hmz⟩
 .rintro Y H2 ⟨Ca,kv,mv,pv,nv,as,ks,rfl,sm,e,hp,HR,hinv⟩;refine⟨_,Dn,kl,_,Dn,.inl ⟨n! e,λtp BM=>?_⟩⟩;have s3:=am BM (.tup (as.map i!));refine q tp as ks _ (sm.trans s3) ae (hp.mono (k! s3)) ?_;refine hinv.good (by lia) (by lia) t0 ⟨l0,by lia⟩ (λp C6=>⟨xm QF LY (λc hc=>pk.low c hc) (by rw[Xr];show p<(lt++dA).length;lia),yh JJ QE (by lia)⟩) (λp r C6 CI e'=>xO (λp r c h1 h2=>pk.inj p r c h1 h2) (by rw[Xr];show p<(lt++dA).length;lia) (by rw[Xr];show r<(lt++dA).length;lia) e')
inductive gy(vs:List V)(H:Hp)(Q:VK)(_E:XK):Prop
 |mk (l:WS) (x m:Int):vs=[.ref l,.int m]->H l=A? (.lst [.int x])->0<m->m<1000000->(∀d x':Int,0<=d->d<m->Q (.int d) (upd H l (.lst [.int x'])))->gy  vs H Q _E
theorem cR:FnOk P w K mg base CX0 1 T.g_52.f T.g_52.d ["left","many"] gy:=by
 refine T.g_52.F.okA gC λzZ A outer s H vs Q E hr h=>?_;obtain⟨l,x,m,rfl,e,h0,h1,q⟩:=h
 refine⟨_,(ag (ao 2 gC.nd (av bB (aD bd (pv 0) ai (λ_ _=>rfl)) (pv 1)))
  (ag (de (av bU (aD bd (pv 0) ai (λ_ _=>rfl)) (pv 1)) (xB (pv 0) ai set_list))
  (aj (ax (pv 2))))),?_⟩
 try dsimp only[Ak,zY]
 refine⟨_,Dn,l,_,0,.int x,Dn,Dn,n! e,at0,_,Dn,_,_,Dn,Dn,h0,?_⟩;refine⟨_,Dn,l,_,0,.int x,Dn,Dn,n! e,at0,_,Dn,_,_,Dn,Dn,⟨h0,by lia⟩,?_⟩;refine⟨_,Dn,l,_,0,0,Dn,Dn,e,Dn,?_⟩;exact⟨_,Dn,q _ _ (XQ _ (by lia)) (XN _ h0)⟩
inductive fo(n:Nat)(vs:List V)(H:Hp)(Q:VK)(_E:XK):Prop
 |mk (cell:Int) (oa:WS) (Ap:List WS) (outs:List (Xj×Int)) (S C deep:Int):vs=[.int cell,.ref oa,.int S,.int C,.int deep]->H oa=A? (.tup (Ap.map i!))->KsAt H outs Ap->aL outs->0<=deep->deep<(n:Int)->(∀(t:Th)(r:WS)(H':Hp),j! H H'->At H' t r->t.FitS outs S C->t.tall<=deep.toNat+1->Q (.ref r) H')->fo n vs H Q _E
theorem db:∀n:Nat,FnOk P w K mg base CX0 (n+2) T.g_51.f T.g_51.d ["cell","outs","states","kids","deep"] (fo n)
 |0=>⟨λ_ _ _ _ h=>by obtain⟨_,_,_,_,_,_,_,_,_,_,_,h1,h2,_⟩:=h;lia,λ_ _ _ _ _ _ _ _ _ _ _ _ _ h=>by obtain⟨_,_,_,_,_,_,_,_,_,_,_,h1,h2,_⟩:=h;lia⟩
 | n+1=>by
   have ih:=db n;refine T.g_51.F.okA bG λzZ A outer s H vs Q E hr h=>?_;obtain⟨cell,oa,Ap,outs,S,C,deep,rfl,eo,AX,g,d0,d1,q⟩:=h
   refine⟨_,(ag (ao 5 bG.nd (pcF T.g_48 (bR T) hr (ac (pv 0) (ac ai ad))))
    (ag (cb (PW.pt (iY (aI cN (pv 2) ai (aK _)) (iY (aI cN (pv 3) ai (aK _)) (jR (aI vn (av bB (pv 5) ai) ai (aK _)))))) (aj (ax (aQ (ac dh (ac (av bB (av bU (pv 5) ai) (pv 2)) (ac (av bB (av bU (pv 5) ai) (pv 3)) ad)))))) bx)
    (ag (ao 6 bG.nd (aD aE (pv 1) (av bB (av bU (pv 5) ai) (az aw rfl T.n_6 Xy (ac (pv 1) ad))) (λ_ _=>rfl)))
    (ag (cb (PW.pt (iY (aI gA (pv 4) ai (aK _)) (jR (aI cN (aD aE (pv 6) ai (λ_ _=>rfl)) ai (aK _))))) (aj (ao 6 bG.nd (pcF T.g_50 (eQ T) hr (ac (pv 1) (ac (av bU (pv 5) ai) ad))))) bx)
    (ag (ao 7 bG.nd (aN ad))
    (ag (br Xw rfl (cf rfl T.n_11 (ac (aD aE (pv 6) ai (λ_ _=>rfl)) ad)) (pgN 8 bG.nd) (aj (aM (bD Xb Xp Xo aH (pv 7) (ac (cg (ih) (hr.mono (W0 _)) rfl T.g_51.m T.g_51.F.kp T.g_51.b .nil dk (ac (pcF T.g_48 (bR T) hr (ac (pv 5) (ac (av bz (pv 8) ai) ad))) (ac (pv 1) (ac (pv 2) (ac (pv 3) (ac (av fP (pv 4) ai) ad)))))) ad)))))
    (aj (ax (av cP (aQ (ac (aD aE (pv 6) ai (λ_ _=>rfl)) ad)) (aS aR rfl T.n_14 XX (ac (pv 7) ad))))))))))),?_⟩
   try dsimp only[Ak,zY]
   have Au:outs.length=Ap.length:=W9 AX;have Te:=g.le;have CH:=g.ne;refine⟨_,Dn,_,_,Dn,by decide,by decide,λrest r0 r1=>?_⟩;dsimp only[ay];refine ck (λl' H'=>An2 (H=H') (l'=[A? (.int cell),A? (.ref oa),A? (.int S),A? (.int C),A? (.int deep),A? (.int rest),B?,B?,B?])) (λkk hk=>?_) ?_
   .refine bN (λb H'=>An2 (H=H') ((b=C?->0<S/\0<C))) (λk2 AE=>?_) (λH' hb=>?_) (λH' hb=>?_)
    .refine⟨_,Dn,_,_,Dn,Dn,_,Dn,?_⟩;refine cq (λc1=>?_) (λc1=>AE _ _ ⟨rfl,λz=>by cases z⟩);refine⟨_,Dn,_,_,Dn,Dn,_,Dn,?_⟩;refine cq (λc2=>?_) (λc2=>AE _ _ ⟨rfl,λz=>by cases z⟩);exact⟨_,Dn,_,_,Dn,Dn,(by show(0:Int)<5;decide),_,_,Dn,Dn,_,Dn,AE _ _ ⟨Dn,λ_=>⟨e! c1,e! c2⟩⟩⟩
    .obtain⟨rfl,hb⟩:=hb;obtain⟨hS,hC⟩:=hb rfl;refine⟨_,Dn,_,_,Dn,Dn,⟨by decide,by decide⟩,_,Dn,_,_,Dn,Dn,hS,_,Dn,_,_,Dn,Dn,⟨by decide,by decide⟩,_,Dn,_,_,Dn,Dn,hC,lnE rfl,λca Cj=>?_⟩;refine q (.call (rest / 5%S) (rest / 97%C)) ca _ (am Cj _) ?_ ?_ ?_
     .rw[At];exact ae
     .rw[G!];exact⟨XQ _ (by lia),XN _ hS,XQ _ (by lia),XN _ hC⟩
     .rw[q!];lia
    .obtain⟨rfl,_⟩:=hb;exact hk _ _ ⟨rfl,rfl⟩
   rintro l' H' ⟨rfl,rfl⟩;have m0:=XQ (rest / 5) (show((Ap.map i!).length:Int)≠0 by rw[WO];lia);have m1:=XN (rest / 5) (show(0:Int)<((Ap.map i!).length:Int)by rw[WO];lia);refine hid λZZ kZ=>?_;obtain⟨k0,DF⟩:∃k0,outs[(rest / 5%((Ap.map i!).length:Int)).toNat]?=A? k0:=⟨_,WQ (by rw[WO]at m0 m1 |-;lia)⟩;obtain⟨ka,AB,AJ⟩:=x! AX DF;refine kZ ?_;refine⟨_,Dn,_,Dn,_,_,Dn,Dn,⟨by decide,by decide⟩,_,Dn,oa,_,Dn,.inr (l! eo),_,_,Dn,Dn,(by show(0:Int)<((Ap.map i!).length:Int);rw[WO];lia),oa,_,_,.ref ka,Dn,Dn,l! eo,at_nonneg m0 (gmE AB),?_⟩;dsimp only[ay];refine ck (λl' H'=>Ex2 λ(k0:Xj×Int)(ka:WS)=>An5 (k0∈outs) (KAt H' k0 ka) ((deep=0->k0.2=0)) (j! H H') (l'=[A? (.int cell),A? (.ref oa),A? (.int S),A? (.int C),A? (.int deep),A? (.int rest),A? (.ref ka),B?,B?])) (λkk hk=>?_) ?_
   .refine bN (λb H'=>An2 (H=H') ((b=D?->deep=0->k0.2=0))) (λk2 AE=>?_) (λH' hb=>?_) (λH' hb=>?_)
    .refine⟨_,Dn,Dn,_,Dn,?_⟩;refine cq (λc1=>?_) (λc1=>AE _ _ ⟨rfl,λ_ z=>g! (d! (h! o! z)) c1⟩);refine⟨_,Dn,ka,_,1,_,Dn,Dn,l! AJ,at1,_,_,Dn,Dn,_,Dn,AE _ _ ⟨Dn,λz _=>?_⟩⟩;have z':¬0<k0.2:=of_decide_eq_false z;have:=(g.num k0 (WT DF)).1;lia
    .obtain⟨rfl,_⟩:=hb;refine⟨_,Dn,_,Dn,_,_,Dn,Dn,⟨by decide,by decide⟩,oa,Ap,outs,_,Dn,eo,AX,g,λk1 FU H1 s1 Jb QJ e1=>?_⟩;exact hk _ _ ⟨k1,FU,Jb,e1,λ_=>QJ,s1,rfl⟩
    .obtain⟨rfl,hb⟩:=hb;exact hk _ _ ⟨k0,ka,WT DF,AJ,hb rfl,.refl _,rfl⟩
   rintro l' H1 ⟨k0,ka,Ba,AJ,hz,s1,rfl⟩;have Di:=g.num k0 Ba;refine⟨lnE rfl,λpl AF=>?_⟩;refine gU AF λH2 s2 e2=>?_;have Ln:=s2 _ _ AJ;refine⟨_,Dn,ka,_,1,_,Dn,Dn,l! Ln,at1,k0.2,Dn,by lia,by lia,?_⟩
   refine cj (n:=k0.2.toNat) (λi Y H3=>Ex3 λ(kv:Option V)(bs:List WS)(ts:List Th)=>An6 (Y=[A? (.int cell),A? (.ref oa),A? (.int S),A? (.int C),A? (.int deep),A? (.int rest),A? (.ref ka),A? (.ref pl),kv]) ((∀b o,b≠pl->H2 b=A? o->H3 b=A? o)) (H3 pl=A? (.lst (bs.map i!))) (Ats H3 ts bs) (ts.length=i) (∀t∈ts,t.FitS outs S C/\t.tall<=(deep - 1).toNat+1))
    ⟨B?,[],[],rfl,λ_ _ _ e=>e,e2,.nil,rfl,λt ht=>by cases ht⟩ ?_ ?_
   .rintro i Y H3 hi ⟨kv,bs,ts,rfl,s3,e3,BL,Ae,z9⟩;have Lj:i<k0.2.toNat:=hi;have sB:∀b o,H b=A? o->H3 b=A? o:=λb o e=>s3 b o (aq (s1 _ _ e) AF) (s2 _ _ (s1 _ _ e))
    have EK:1<=deep:=by
     by_cases z:deep=0
     .have:=hz z;lia
     .lia
    refine⟨_,Dn,.inl ⟨Dn,_,n! e3⟩,_,Dn,_,Dn,_,_,Dn,Dn,_,_,Dn,by lia,by lia,λr2 _ _=>?_⟩;refine⟨_,Dn,_,Dn,_,Dn,_,Dn,_,_,Dn,Dn,r2,oa,Ap,outs,S,C,deep - 1,Dn,sB _ _ eo,AX.mono (λb ys e=>sB b _ e),g,by lia,by lia,λt r H4 s4 AI z8 Av=>?_⟩;have e4:=s4 _ _ e3;have Bm:bs.length=ts.length:=BL.length;refine⟨pl,_,_,Dn,Dn,e4,lbE (by lia),?_⟩;have kt:KT H4 (upd H4 pl (.lst (bs.map i!++[.ref r]))):=aY e4;refine⟨_,bs++[r],ts++[t],Dn,λb o hb e=>?_,?_,?_,?_,?_⟩
    .rw[af hb];exact s4 _ _ (s3 b o hb e)
    .rw[ae,W5];rfl
    .exact(BL.mono ((k! s4).trans kt)).append (.cons (AI.mono kt) .nil)
    .rw[W4,Ae];rfl
    .intro u hu;rcases W7.mp hu with hu|hu
     .exact z9 u hu
     .rw[WY.mp hu];exact⟨z8,Av⟩
   .rintro Y H3 ⟨kv,bs,ts,rfl,s3,e3,BL,Ae,z9⟩;have sH:j! H H3:=λb o e=>s3 b o (aq (s1 _ _ e) AF) (s2 _ _ (s1 _ _ e));have BZ:H3 ka=A? (.tup [.str k0.1,.int k0.2]):=s3 ka _ (aq AJ AF) Ln;have Bm:bs.length=ts.length:=BL.length;refine⟨_,Dn,ka,_,0,.str k0.1,Dn,Dn,l! BZ,at0,lnE rfl,λp1 Dy=>?_⟩;refine gU Dy λH4 s4 e4=>?_;refine⟨_,Dn,pl,_,Dn,.inl ⟨n! (s4 _ _ e3),λtp BM=>?_⟩⟩;refine gU BM λH5 s5 e5=>?_;refine lO (s5 _ _ e4) e5 (by rw[WO];show 1+bs.length<=1000000;lia) λp H6 s6 e6=>?_;have CA:=(g.low k0 Ba).1;refine q (.knot k0.1 ts) p H6 (sH.trans (s4.trans (s5.trans s6))) ?_ ?_ ?_
    .rw[At];exact⟨lB CA,bs,e6,BL.mono (k! (s4.trans (s5.trans s6)))⟩
    .rw[G!];refine⟨?_,FitSs.of λt ht=>(z9 t ht).1⟩
     have:(k0.1,(ts.length:Int))=k0:=by
      rw[Ae];exact Prod.ext rfl (by show((k0.2.toNat:Nat):Int)=k0.2;lia)
     rw[this];exact Ba
    .rw[q!];by_cases z:deep=0
     .have AE:=hz z;have:ts=[]:=Ys.mp (by lia);subst this;rw[aB];lia
     .have:=iL (n:=(deep - 1).toNat+1) λt ht=>(z9 t ht).2;lia
inductive dY(n:Nat)(vs:List V)(H:Hp)(Q:VK)(_E:XK):Prop
 |mk (l:WS) (x:Int) (oa:WS) (Ap:List WS) (outs:List (Xj×Int)) (S C deep:Int):vs=[.ref l,.ref oa,.int S,.int C,.int deep]->H l=A? (.lst [.int x])->H oa=A? (.tup (Ap.map i!))->KsAt H outs Ap->aL outs->S<1000000->C<1000000->0<=deep->deep<(n:Int)->(∀(t:Th)(r:WS)(x':Int)(H':Hp),SameB l H H'->H' l=A? (.lst [.int x'])->At H' t r->t.FitS outs S C->t.tall<=deep.toNat+1->Q (.ref r) H')->dY n vs H Q _E
theorem cL:∀n:Nat,FnOk P w K mg base CX0 (n+2) T.g_53.f T.g_53.d ["left","outs","states","kids","deep"] (dY n)
 |0=>⟨λ_ _ _ _ h=>by obtain⟨_,_,_,_,_,_,_,_,_,_,_,_,_,_,_,h1,h2,_⟩:=h;lia,λ_ _ _ _ _ _ _ _ _ _ _ _ _ h=>by obtain⟨_,_,_,_,_,_,_,_,_,_,_,_,_,_,_,h1,h2,_⟩:=h;lia⟩
 | n+1=>by
   have ih:=cL n;refine T.g_53.F.okA bu λzZ A outer s H vs Q E hr h=>?_;obtain⟨l,x,oa,Ap,outs,S,C,deep,rfl,el,eo,AX,g,Tp,Tq,d0,d1,q⟩:=h
   refine⟨_,(ag (cb (PW.pt (iY (aI cN (pv 2) ai (aK _)) (iY (aI cN (pv 3) ai (aK _)) (jR (aI gA (pcF T.g_52 (cR T) hr (ac (pv 0) (ac ai ad))) ai (aK _)))))) (ag (ao 5 bu.nd (pcF T.g_52 (cR T) hr (ac (pv 0) (ac (pv 2) ad))))
    (aj (ax (aQ (ac dh (ac (pv 5) (ac (pcF T.g_52 (cR T) hr (ac (pv 0) (ac (pv 3) ad))) ad))))))) bx)
    (ag (eU (i:=6) (N:=["kind","deep"]) (js:=[B?,A? 4]) (g:=(ay 0)) (tt:=(tOr (ph (tOp (rEq) (tOp (nn K) (bt 0) (tC (.int 1))) (tC (.int 0)))) (ph (tOp (rI0 λi j=>.bl (decide (j<i))) (bt 1) (tC (.int 0)))))) (te:=(bt 0)) bu.nd rfl (Or.inl rfl) rfl (cy rfl (by decide +kernel) (by decide +kernel) rfl rfl rfl) (dJ (pv 1)) (λ_ _ _ _ _ _=>(pgN 0 yO)) (aV rfl) (λ_ _ _ _ _ _=>fS (PW.pt (jB (aI gA (aD aE (pv 0) ai (λ_ _=>rfl)) ai (aK _)) (gM (aI cN (pv 1) ai (aK _)))))) (λ_ _ _ _ _ _=>(pv 0)))
    (ag (ao 7 bu.nd (aD bd (pv 6) (pcF T.g_52 (cR T) hr (ac (pv 0) (ac (az aw rfl T.n_6 Xy (ac (pv 6) ad)) ad))) (λ_ _=>rfl)))
    (ag (ao 8 bu.nd (aN ad))
    (ag (br Xw rfl (cf rfl T.n_11 (ac (aD aE (pv 7) ai (λ_ _=>rfl)) ad)) (pgN 9 bu.nd) (aj (aM (bD Xb Xp Xo aH (pv 8) (ac (cg (ih) (hr.mono (W0 _)) rfl T.g_53.m T.g_53.F.kp T.g_53.b .nil dk (ac (pv 0) (ac (pv 1) (ac (pv 2) (ac (pv 3) (ac (av fP (pv 4) ai) ad)))))) ad)))))
    (aj (ax (av cP (aQ (ac (aD aE (pv 7) ai (λ_ _=>rfl)) ad)) (aS aR rfl T.n_14 XX (ac (pv 8) ad)))))))))),?_⟩
   try dsimp only[Ak,zY]
   have Au:outs.length=Ap.length:=W9 AX;have Te:=g.le;have CH:=g.ne;refine ck (λl' H'=>(∃x',SameB l H H'/\H' l=A? (.lst [.int x']))/\l'=[A? (.ref l),A? (.ref oa),A? (.int S),A? (.int C),A? (.int deep),B?,B?,B?,B?,B?]) (λkk hk=>?_) ?_
   .refine bN (λb H'=>(∃x',SameB l H H'/\H' l=A? (.lst [.int x']))/\(b=C?->0<S/\0<C)) (λk2 AE=>?_) (λH' hb=>?_) (λH' hb=>?_)
    .refine⟨_,Dn,_,_,Dn,Dn,_,Dn,?_⟩;refine cq (λc1=>?_) (λc1=>AE _ _ ⟨⟨x,.refl,el⟩,λz=>by cases z⟩);refine⟨_,Dn,_,_,Dn,Dn,_,Dn,?_⟩;refine cq (λc2=>?_) (λc2=>AE _ _ ⟨⟨x,.refl,el⟩,λz=>by cases z⟩);exact⟨_,Dn,l,x,_,Dn,el,by decide,by decide,λd x' _ _=>⟨Dn,_,Dn,AE _ _ ⟨⟨x',.set,ae⟩,λ_=>⟨e! c1,e! c2⟩⟩⟩⟩
    .refine hid λZZ kZ=>?_;obtain⟨⟨x1,s1,e1⟩,hb⟩:=hb;obtain⟨hS,hC⟩:=hb rfl;refine kZ ?_;refine⟨_,Dn,_,Dn,l,x1,_,Dn,e1,hS,Tp,λd x2 QK QL=>?_⟩;refine⟨_,Dn,_,Dn,_,Dn,l,x2,_,Dn,ae,hC,Tq,λc x3 c0' LZ=>?_⟩;refine⟨lnE rfl,λca Cj=>?_⟩;have Af:l≠ca:=λz=>by rw[<-z,ae]at Cj;cases Cj
     refine q (.call d c) ca x3 _ (s1.trans (SameB.set.trans (SameB.set.trans (.of (am Cj _))))) (by rw[af Af];exact ae) ?_ ?_ ?_
     .rw[At];exact ae
     .rw[G!];exact⟨QK,QL,c0',LZ⟩
     .rw[q!];lia
    .obtain⟨h1,_⟩:=hb;exact hk _ _ ⟨h1,rfl⟩
   rintro l' H1 ⟨⟨x1,s1,e1⟩,rfl⟩;have QM:H1 oa=A? (.tup (Ap.map i!)):=s1 _ _ (aA eo el (by intro z;cases z)) eo;have kt1:KT H H1:=s1.kt el;have Lo:=AX.mono kt1;obtain⟨kz,IM,HU⟩:=g.zero;refine⟨_,Dn,oa,Dn,⟨_,l! QM⟩,ko (K:=K) (λk=>decide (o! k.2=o! 0) ||decide (0<deep)) QM Lo (by lia) ⟨kz,IM,by rw[HU];rfl⟩ (λz ka H2 R sm hz r=>?_) (λka H2 R r=>⟨_,Dn,r⟩) (λD bs H2 hD e' hb1 Tf AO=>?_)⟩
   .refine⟨_,Dn,ka,_,1,_,Dn,Dn,l! hz,at1,Dn,_,Dn,?_⟩;refine cq (λc=>?_) (λc=>?_)
    .rw[c]at r;exact r
    .rw[Bool.eq_false_iff.mpr c]at r;exact⟨_,Dn,_,_,Dn,Dn,_,Dn,r⟩
   have s2:j! H1 H2:=by rw[e'];exact am hD _
   have eD:H2 D=A? (.lst (bs.map λz=>i! z.2)):=by rw[e'];exact ae
   have hDl:D≠l:=λz=>by rw[z,e1]at hD;cases hD
   have Tr:=s2 _ _ e1;clear e';have Fu:0<((bs.map λz=>i! z.2).length:Int):=by rw[WO];lia
   refine⟨_,Dn,_,Dn,_,Dn,D,_,Dn,.inl (n! eD),l,x1,_,Dn,Tr,Fu,(by rw[WO];lia),λd x2 QK QL=>?_⟩;have s3:SameB l H2 (upd H2 l (.lst [.int x2])):=.set;have Fb:(upd H2 l (.lst [.int x2])) l=A? (.lst [.int x2]):=ae;generalize(upd H2 l (.lst [.int x2]))=H3 at s3 Fb |-;refine hid λZZ kZ=>?_;obtain⟨z,hz⟩:∃z,bs[d.toNat]?=A? z:=⟨_,WQ (by rw[WO]at QL;lia)⟩;obtain⟨Ba,gp,AJ⟩:=AO z (WT hz);obtain⟨k0,ka⟩:=z;refine kZ ?_;dsimp only at Ba gp AJ hz;have QN:KT H2 H3:=s3.kt Tr;have BZ:H3 ka=A? (.tup [.str k0.1,.int k0.2]):=QN _ _ (s2 _ _ AJ);have E7:SameB l H H3:=s1.trans ((SameB.of s2).trans s3);have eo3:H3 oa=A? (.tup (Ap.map i!)):=QN _ _ (s2 _ _ QM);have QO:=Lo.mono ((k! s2).trans QN)
   have Ff:deep=0->k0.2=0:=λz=>by
    rw[z]at gp;have:decide (o! k0.2=o! 0)=true:=by simpa using gp
    exact V.int.inj (e! this)
   refine⟨D,_,d,.ref ka,Dn,Dn,n! (s3 _ _ hDl eD),at_nonneg QK (gmE hz),?_⟩;have Di:=g.num k0 Ba;refine⟨lnE rfl,λpl AF=>?_⟩;have Lp:pl≠l:=λz=>by rw[z,Fb]at AF;cases AF
   refine gU AF λH4 s4 e4=>?_;have Lq:=s4 _ _ BZ;have QP:=s4 _ _ Fb;have eo4:=s4 _ _ eo3;refine⟨_,Dn,ka,_,1,_,Dn,Dn,l! Lq,at1,k0.2,Dn,by lia,by lia,?_⟩
   refine cj (n:=k0.2.toNat) (λi Y H5=>Ex4 λ(kv:Option V)(bs:List WS)(ts:List Th)(x':Int)=>An7 (Y=[A? (.ref l),A? (.ref oa),A? (.int S),A? (.int C),A? (.int deep),B?,A? (.ref D),A? (.ref ka),A? (.ref pl),kv]) ((∀b o,b≠pl->b≠l->H4 b=A? o->H5 b=A? o)) (H5 l=A? (.lst [.int x'])) (H5 pl=A? (.lst (bs.map i!))) (Ats H5 ts bs) (ts.length=i) (∀t∈ts,t.FitS outs S C/\t.tall<=(deep - 1).toNat+1))
    ⟨B?,[],[],x2,rfl,λ_ _ _ _ e=>e,QP,e4,.nil,rfl,λt ht=>by cases ht⟩ ?_ ?_
   .rintro i Y H5 hi ⟨kv,HX,ts,x',rfl,s5,FW,e5,BL,Ae,z9⟩;have Lj:i<k0.2.toNat:=hi;have Ec:KT H4 H5:=λb ys e=>s5 b _ (aA e e4 (by intro z;cases z)) (aA e QP (by intro z;cases z)) e
    have EK:1<=deep:=by
     by_cases z:deep=0
     .have:=Ff z;lia
     .lia
    refine⟨_,Dn,.inl ⟨Dn,_,n! e5⟩,_,Dn,_,Dn,_,Dn,_,Dn,_,Dn,_,_,Dn,Dn,l,x',oa,Ap,outs,S,C,deep - 1,Dn,FW,Ec _ _ eo4,QO.mono ((k! s4).trans Ec),g,Tp,Tq,by lia,by lia,λt r x6 H6 s6 MV AI z8 Av=>?_⟩;have e6:=s6 _ _ Lp e5;have EL:KT H5 H6:=s6.kt FW;have Bm:HX.length=ts.length:=BL.length;refine⟨pl,_,_,Dn,Dn,e6,lbE (by lia),?_⟩;have kt:KT H6 (upd H6 pl (.lst (HX.map i!++[.ref r]))):=aY e6;refine⟨_,HX++[r],ts++[t],x6,Dn,λb o hb hb2 e=>?_,?_,?_,?_,?_,?_⟩
    .rw[af hb];exact s6 _ _ hb2 (s5 b o hb hb2 e)
    .rw[af Lp.symm];exact MV
    .rw[ae,W5];rfl
    .exact(BL.mono (EL.trans kt)).append (.cons (AI.mono kt) .nil)
    .rw[W4,Ae];rfl
    .intro u hu;rcases W7.mp hu with hu|hu
     .exact z9 u hu
     .rw[WY.mp hu];exact⟨z8,Av⟩
   .rintro Y H5 ⟨kv,HX,ts,x',rfl,s5,FW,e5,BL,Ae,z9⟩;have hpH:H pl=none:=E7.free Fb AF;have sH:SameB l H H5:=λb o hb e=>s5 b o (aq e hpH) hb (s4 _ _ (E7 b o hb e));have Ec:KT H4 H5:=λb ys e=>s5 b _ (aA e e4 (by intro z;cases z)) (aA e QP (by intro z;cases z)) e;have QQ:H5 ka=A? (.tup [.str k0.1,.int k0.2]):=Ec _ _ Lq;have Bm:HX.length=ts.length:=BL.length;refine⟨_,Dn,ka,_,0,.str k0.1,Dn,Dn,l! QQ,at0,lnE rfl,λp1 Dy=>?_⟩;refine gU Dy λH6 s6 e6=>?_;refine⟨_,Dn,pl,_,Dn,.inl ⟨n! (s6 _ _ e5),λtp BM=>?_⟩⟩;refine gU BM λH7 s7 e7=>?_;refine lO (s7 _ _ e6) e7 (by rw[WO];show 1+HX.length<=1000000;lia) λp H8 s8 e8=>?_;have D':=s6.trans (s7.trans s8);have CA:=(g.low k0 Ba).1;refine q (.knot k0.1 ts) p x' H8 (sH.trans (.of D')) (D' _ _ FW) ?_ ?_ ?_
    .rw[At];exact⟨lB CA,HX,e8,BL.mono (k! D')⟩
    .rw[G!];refine⟨?_,FitSs.of λt ht=>(z9 t ht).1⟩
     have:(k0.1,(ts.length:Int))=k0:=by
      rw[Ae];exact Prod.ext rfl (by show((k0.2.toNat:Nat):Int)=k0.2;lia)
     rw[this];exact Ba
    .rw[q!];by_cases z:deep=0
     .have AE:=Ff z;have:ts=[]:=Ys.mp (by lia);subst this;rw[aB];lia
     .have:=iL (n:=(deep - 1).toNat+1) λt ht=>(z9 t ht).2;lia
inductive cG(vs:List V)(H:Hp)(Q:VK)(_E:XK):Prop
 |mk (cell:Int) (ia:WS) (Al:List WS) (ins:List (Xj×Int)) (oa:WS) (Ap:List WS) (outs:List (Xj×Int)) (S deep:Int):vs=[.int cell,.ref ia,.ref oa,.int S,.int deep]->H ia=A? (.tup (Al.map i!))->KsAt H ins Al->aL ins->H oa=A? (.tup (Ap.map i!))->KsAt H outs Ap->aL outs->0<=S->S<=1000->0<=deep->deep<5->(∀(r ha ra:WS)(Aq:List WS)(head:Th)(rows:List (List Th))(H':Hp),j! H H'->BookAt H' ins outs head rows r ia oa ha ra Al Ap Aq->fw ins outs S deep.toNat head rows->Q (.ref r) H')->cG  vs H Q _E
theorem eG:FnOk P w K mg base CX0 8 T.g_54.f T.g_54.d ["cell","ins","outs","states","deep"] cG:=by
 refine T.g_54.F.okA aW λzZ A outer s H vs Q E hr h=>?_;obtain⟨cell,ia,Al,ins,oa,Ap,outs,S,deep,rfl,ei,CV,gi,eo,Fc,go,Tt,Tu,d0,d1,q⟩:=h
 refine⟨_,(ag (ao 5 aW.nd (aN (ac (pv 0) ad)))
  (ag (ao 6 aW.nd (aN ad))
  (ag (br Xw rfl (cf rfl T.n_11 (ac (pv 3) ad)) (pgN 7 aW.nd) (ag (ao 8 aW.nd (aN ad))
  (ag (br Xw rfl (cf rfl T.n_11 (ac (az aw rfl T.n_6 Xy (ac (pv 1) ad)) ad)) (pgN 9 aW.nd) (aj (aM (bD Xb Xp Xo aH (pv 8) (ac (pcF T.g_53 (cL T 5) hr (ac (pv 5) (ac (pv 2) (ac (pv 3) (ac (aD aE (aD aE (pv 1) (pv 9) (λ_ _=>rfl)) ai (λ_ _=>rfl)) (ac (pv 4) ad)))))) ad)))))
  (aj (aM (bD Xb Xp Xo aH (pv 6) (ac (aS aR rfl T.n_14 XX (ac (pv 8) ad)) ad)))))))
  (aj (ax (aQ (ac (pv 1) (ac (pv 2) (ac (pcF T.g_53 (cL T 5) hr (ac (pv 5) (ac (pv 2) (ac (pv 3) (ac ai (ac ai ad)))))) (ac (aS aR rfl T.n_14 XX (ac (pv 6) ad)) ad)))))))))),?_⟩
 try dsimp only[Ak,zY]
 have BO:ins.length=Al.length:=W9 CV;have Km:=gi.le;have II:((Al.map i!).length:Int)=(ins.length:Int):=by rw[WO,BO]
 refine⟨_,Dn,lnE rfl,λlf Dl=>?_⟩;refine⟨lnE rfl,λrl FY=>?_⟩;have FZ:rl≠lf:=λz=>by rw[z,ae]at FY;cases FY
 have F0:H rl=none:=(am Dl _).free FY;have Gw:j! H (upd (upd H lf (.lst [.int cell])) rl (.lst [])):=(am Dl _).trans (am FY _);have Tv:(upd (upd H lf (.lst [.int cell])) rl (.lst [])) lf=A? (.lst [.int cell]):=by rw[af FZ.symm,ae]
 have MW:(upd (upd H lf (.lst [.int cell])) rl (.lst [])) rl=A? (.lst []):=ae;generalize(upd (upd H lf (.lst [.int cell])) rl (.lst []))=H1 at Gw Tv MW |-;refine⟨_,Dn,S,Dn,by lia,by lia,?_⟩
 refine cj (n:=S.toNat) (λi Y H3=>Ex6 λ(sv rv kv:Option V)(Aq:List WS)(rows:List (List Th))(x:Int)=>An7 (Y=[A? (.int cell),A? (.ref ia),A? (.ref oa),A? (.int S),A? (.int deep),A? (.ref lf),A? (.ref rl),sv,rv,kv]) (j! H H3) (H3 lf=A? (.lst [.int x])) (H3 rl=A? (.lst (Aq.map i!))) (Xv (RowAt H3) rows Aq) (rows.length=i) (∀row∈rows,tZ ins outs S deep.toNat row))
  ⟨B?,B?,B?,[],[],cell,rfl,Gw,Tv,MW,.nil,rfl,λt ht=>by cases ht⟩ ?_ ?_
 .rintro i Y H3 hi ⟨sv,rv,kv,Aq,rows,x,rfl,s3,Fb,Ck,Ay,HY,z9⟩;have Lj:i<S.toNat:=hi;have EM:rows.length=Aq.length:=W9 Ay;refine⟨lnE rfl,λAz CW=>?_⟩;have HZ:H Az=none:=s3.free CW;have Ia:Az≠rl:=λz=>by rw[z,Ck]at CW;cases CW
  have Lr:Az≠lf:=λz=>by rw[z,Fb]at CW;cases CW
  refine gU CW λH4 s4 Hr=>?_;refine⟨_,Dn,ia,_,Dn,.inr (l! (s4 _ _ (s3 _ _ ei))),_,Dn,by lia,by lia,?_⟩
  refine cj (n:=((Al.map i!).length:Int).toNat) (λj Y H5=>Ex4 λ(kv:Option V)(bs:List WS)(ts:List Th)(x:Int)=>An9 (Y=[A? (.int cell),A? (.ref ia),A? (.ref oa),A? (.int S),A? (.int deep),A? (.ref lf),A? (.ref rl),A? (.int (0+(i:Int))),A? (.ref Az),kv]) (j! H H5) (H5 lf=A? (.lst [.int x])) (H5 rl=A? (.lst (Aq.map i!))) (KT H4 H5) (H5 Az=A? (.lst (bs.map i!))) (Ats H5 ts bs) (ts.length=j) (∀(j:Nat)(t:Th)(k:Xj×Int),ts[j]?=A? t->ins[j]?=A? k->t.FitS outs S k.2/\t.tall<=deep.toNat+1))
   ⟨kv,[],[],x,rfl,s3.trans s4,s4 _ _ Fb,s4 _ _ Ck,λ_ _ e=>e,Hr,.nil,rfl,λj t k h=>by simp at h⟩ ?_ ?_
  .rintro j Y H5 hj ⟨kv,bs,ts,x5,rfl,s5,FW,Co,Ec,DT,BL,Ae,BN⟩
   have QR:j<ins.length:=by
    have:j<((Al.map i!).length:Int).toNat:=hj;lia
   refine hid λZZ kZ=>?_;obtain⟨k0,DF⟩:∃k0,ins[j]?=A? k0:=⟨_,WQ QR⟩;obtain⟨ka,AB,AJ⟩:=x! CV DF;refine kZ ?_;have Di:=gi.num k0 (WT DF);have AI:atI (Al.map i!) (0+(j:Int))=A? (.ref ka):=at_nonneg (by lia) (by rw[show(0+(j:Int)).toNat=j by lia,Xd,AB];rfl);refine⟨_,Dn,.inl ⟨Dn,_,n! DT⟩,_,Dn,_,Dn,_,Dn,_,Dn,_,Dn,ia,_,_,.ref ka,Dn,Dn,l! (s5 _ _ ei),AI,ka,_,1,_,Dn,Dn,l! (s5 _ _ AJ),at1,_,Dn,lf,x5,oa,Ap,outs,S,k0.2,deep,Dn,FW,s5 _ _ eo,Fc.mono (k! s5),go,by lia,by lia,d0,by lia,λt r x6 H6 s6 MV AI z8 Av=>?_⟩;have Lu:=s6 _ _ Lr DT;have DX:=s6 _ _ FZ Co;have EL:KT H5 H6:=s6.kt FW;have Ib:j! H H6:=λb o e=>s6 b o (aq e Dl) (s5 b o e);have Bm:bs.length=ts.length:=BL.length;refine⟨Az,_,_,Dn,Dn,Lu,lbE (by lia),?_⟩;have kt:KT H6 (upd H6 Az (.lst (bs.map i!++[.ref r]))):=aY Lu;refine⟨_,bs++[r],ts++[t],x6,Dn,aC Ib HZ,by rw[af Lr.symm];exact MV,by rw[af Ia.symm];exact DX,Ec.trans (EL.trans kt),?_,?_,?_,?_⟩
   .rw[ae,W5];rfl
   .exact(BL.mono (EL.trans kt)).append (.cons (AI.mono kt) .nil)
   .rw[W4,Ae];rfl
   .intro j' t' k' DY Bw;by_cases Gy:j'<ts.length
    .rw[XB Gy]at DY;exact BN j' t' k' DY Bw
    .rw[X0 (by lia)]at DY
     have CU:j' - ts.length=0:=by
      have:=(Xu.mp DY).1;simp at this;lia
     rw[CU]at DY;cases DY;have:j'=j:=by lia
     subst this;rw[DF]at Bw;cases Bw;exact⟨z8,Av⟩
  .rintro Y H5 ⟨kv,bs,ts,x5,rfl,s5,FW,Co,Ec,DT,BL,Ae,BN⟩;refine⟨_,Dn,.inl ⟨Dn,_,n! Co⟩,_,Dn,Az,_,Dn,.inl ⟨n! DT,λtp BM=>?_⟩⟩;refine gU BM λH6 s6 e6=>?_;have DX:=s6 _ _ Co;refine⟨rl,_,_,Dn,Dn,DX,lbE (by lia),?_⟩;have kt:KT H6 (upd H6 rl (.lst (Aq.map i!++[.ref tp]))):=aY DX;have QS:KT H3 (upd H6 rl (.lst (Aq.map i!++[.ref tp]))):=(k! s4).trans (Ec.trans ((k! s6).trans kt));refine⟨_,_,_,Aq++[tp],rows++[ts],x5,Dn,aC (s5.trans s6) F0,by rw[af FZ.symm];exact s6 _ _ FW,?_,?_,?_,?_⟩
   .rw[ae,W5];rfl
   .exact p! (w! (λ_ _ e=>RowAt.mono QS e) Ay) (.cons ⟨bs,kt _ _ e6,BL.mono ((k! s6).trans kt)⟩ .nil)
   .rw[W4,HY];rfl
   .intro row An;rcases W7.mp An with An|An
    .exact z9 row An
    .rw[WY.mp An];exact⟨by rw[Ae];lia,BN⟩
 .rintro Y H3 ⟨sv,rv,kv,Aq,rows,x,rfl,s3,Fb,Ck,Ay,HY,z9⟩;have EM:rows.length=Aq.length:=W9 Ay;refine⟨_,Dn,_,Dn,_,Dn,_,Dn,_,Dn,lf,x,oa,Ap,outs,S,1,1,Dn,Fb,s3 _ _ eo,Fc.mono (k! s3),go,by lia,by decide,by decide,by decide,λt ha x6 H6 s6 MV AI z8 Av=>?_⟩;have DX:=s6 _ _ FZ Ck;have EL:KT H3 H6:=s6.kt Fb;have Ib:j! H H6:=λb o e=>s6 b o (aq e Dl) (s3 b o e);refine⟨_,Dn,rl,_,Dn,.inl ⟨n! DX,λra QT=>?_⟩⟩;refine gU QT λH7 s7 e7=>?_;refine⟨lnE rfl,λr CI=>?_⟩;have s8:j! H7 (upd H7 r (.tup [.ref ia,.ref oa,.ref ha,.ref ra])):=am CI _;have sA:=Ib.trans (s7.trans s8);refine q r ha ra Aq t rows _ sA ⟨ae,sA _ _ ei,CV.mono (k! sA),sA _ _ eo,Fc.mono (k! sA),AI.mono (k! (s7.trans s8)),s8 _ _ e7,w! (λ_ _ e=>RowAt.mono (EL.trans (k! (s7.trans s8))) e) Ay⟩ ⟨by rw[HY];lia,z9,z8,Av⟩
inductive ii(vs:List V)(H:Hp)(Q:VK)(_E:XK):Prop
 |mk (cell:Int) (ia:WS) (Al:List WS) (ins:List (Xj×Int)) (oa:WS) (Ap:List WS) (outs:List (Xj×Int)) (S deep:Int):vs=[.int cell,.ref ia,.ref oa,.int S,.int deep]->H ia=A? (.tup (Al.map i!))->KsAt H ins Al->aL ins->H oa=A? (.tup (Ap.map i!))->KsAt H outs Ap->aL outs->0<=S->S<=1000->0<=deep->deep<5->(∀(r ha ra:WS)(Aq:List WS)(head:Th)(rows:List (List Th))(H':Hp),j! H H'->BookAt H' ins outs head rows r ia oa ha ra Al Ap Aq->fw ins outs S deep.toNat head rows->Q (.ref r) H')->ii  vs H Q _E
theorem nN:FnOk P w K mg base CX0 9 T.g_55.f T.g_55.d ["cell","ins","outs","states","deep"] ii:=by
 refine T.g_55.F.okA cI λzZ A outer s H vs Q E hr h=>?_;obtain⟨cell,ia,Al,ins,oa,Ap,outs,S,deep,rfl,ei,CV,gi,eo,Fc,go,Tt,Tu,d0,d1,q⟩:=h
 refine⟨_,(ag (cb (aI yT (pv 0) ai (aK _)) (aj (ax (pcF T.g_54 (eG T) hr (ac (av uo (pv 0) ai) (ac (pv 1) (ac (pv 2) (ac (pv 3) (ac (pv 4) ad)))))))) bx)
  (ag (ao 5 cI.nd (aN ad))
  (ag (br Xw rfl (cf rfl T.n_11 (ac (pv 3) ad)) (pgN 6 cI.nd) (ag (ao 7 cI.nd (aN ad))
  (ag (br Xw rfl (cf rfl T.n_11 (ac (az aw rfl T.n_6 Xy (ac (pv 1) ad)) ad)) (pgN 8 cI.nd) (aj (aM (bD Xb Xp Xo aH (pv 7) (ac (pcF T.g_51 (db T 5) hr (ac (pcF T.g_48 (bR T) hr (ac (pv 0) (ac (av bz (av bz (av dF ai (pv 6)) (pv 8)) ai) ad))) (ac (pv 2) (ac (pv 3) (ac (aD aE (aD aE (pv 1) (pv 8) (λ_ _=>rfl)) ai (λ_ _=>rfl)) (ac (pv 4) ad)))))) ad)))))
  (aj (aM (bD Xb Xp Xo aH (pv 5) (ac (aS aR rfl T.n_14 XX (ac (pv 7) ad)) ad)))))))
  (aj (ax (aQ (ac (pv 1) (ac (pv 2) (ac (pcF T.g_51 (db T 5) hr (ac (pcF T.g_48 (bR T) hr (ac (pv 0) (ac ai ad))) (ac (pv 2) (ac (pv 3) (ac ai (ac ai ad)))))) (ac (aS aR rfl T.n_14 XX (ac (pv 5) ad)) ad)))))))))),?_⟩
 try dsimp only[Ak,zY]
 have BO:ins.length=Al.length:=W9 CV;have Km:=gi.le;have II:((Al.map i!).length:Int)=(ins.length:Int):=by rw[WO,BO]
 refine ck (λl' H'=>An2 (H=H') (l'=[A? (.int cell),A? (.ref ia),A? (.ref oa),A? (.int S),A? (.int deep),B?,B?,B?,B?])) (λkk hk=>?_) ?_
 .refine⟨_,Dn,_,_,Dn,Dn,_,Dn,?_⟩;refine cq (λc1=>?_) (λc1=>hk _ _ ⟨rfl,rfl⟩);exact⟨_,Dn,_,_,Dn,Dn,⟨by decide,by decide⟩,_,Dn,_,Dn,_,Dn,_,Dn,_,ia,Al,ins,oa,Ap,outs,S,deep,Dn,ei,CV,gi,eo,Fc,go,Tt,Tu,d0,d1,λr ha ra Aq head rows H' s1 b1 b2=>q r ha ra Aq head rows H' s1 b1 b2⟩
 rintro l' H' ⟨rfl,rfl⟩;refine⟨lnE rfl,λrl F0=>?_⟩;refine gU F0 λH1 Gw MW=>?_;refine⟨_,Dn,S,Dn,by lia,by lia,?_⟩
 refine cj (n:=S.toNat) (λi Y H3=>Ex5 λ(sv rv kv:Option V)(Aq:List WS)(rows:List (List Th))=>An6 (Y=[A? (.int cell),A? (.ref ia),A? (.ref oa),A? (.int S),A? (.int deep),A? (.ref rl),sv,rv,kv]) (j! H H3) (H3 rl=A? (.lst (Aq.map i!))) (Xv (RowAt H3) rows Aq) (rows.length=i) (∀row∈rows,tZ ins outs S deep.toNat row))
  ⟨B?,B?,B?,[],[],rfl,Gw,MW,.nil,rfl,λt ht=>by cases ht⟩ ?_ ?_
 .rintro i Y H3 hi ⟨sv,rv,kv,Aq,rows,rfl,s3,Ck,Ay,HY,z9⟩;have Lj:i<S.toNat:=hi;have EM:rows.length=Aq.length:=W9 Ay;refine⟨lnE rfl,λAz CW=>?_⟩;have HZ:H Az=none:=s3.free CW;have Ia:Az≠rl:=λz=>by rw[z,Ck]at CW;cases CW
  refine gU CW λH4 s4 Hr=>?_;refine⟨_,Dn,ia,_,Dn,.inr (l! (s4 _ _ (s3 _ _ ei))),_,Dn,by lia,by lia,?_⟩
  refine cj (n:=((Al.map i!).length:Int).toNat) (λj Y H5=>Ex3 λ(kv:Option V)(bs:List WS)(ts:List Th)=>An8 (Y=[A? (.int cell),A? (.ref ia),A? (.ref oa),A? (.int S),A? (.int deep),A? (.ref rl),A? (.int (0+(i:Int))),A? (.ref Az),kv]) (j! H H5) (H5 rl=A? (.lst (Aq.map i!))) (KT H4 H5) (H5 Az=A? (.lst (bs.map i!))) (Ats H5 ts bs) (ts.length=j) (∀(j:Nat)(t:Th)(k:Xj×Int),ts[j]?=A? t->ins[j]?=A? k->t.FitS outs S k.2/\t.tall<=deep.toNat+1))
   ⟨kv,[],[],rfl,s3.trans s4,s4 _ _ Ck,λ_ _ e=>e,Hr,.nil,rfl,λj t k h=>by simp at h⟩ ?_ ?_
  .rintro j Y H5 hj ⟨kv,bs,ts,rfl,s5,Co,Ec,DT,BL,Ae,BN⟩
   have QR:j<ins.length:=by
    have:j<((Al.map i!).length:Int).toNat:=hj;lia
   refine hid λZZ kZ=>?_;obtain⟨k0,DF⟩:∃k0,ins[j]?=A? k0:=⟨_,WQ QR⟩;obtain⟨ka,AB,AJ⟩:=x! CV DF;refine kZ ?_;have Di:=gi.num k0 (WT DF);have AI:atI (Al.map i!) (0+(j:Int))=A? (.ref ka):=at_nonneg (by lia) (by rw[show(0+(j:Int)).toNat=j by lia,Xd,AB];rfl);refine⟨_,Dn,.inl ⟨Dn,_,n! DT⟩,_,Dn,_,Dn,_,_,Dn,Dn,.inl ⟨by decide,by decide⟩,_,Dn,_,_,Dn,Dn,_,_,Dn,Dn,_,_,Dn,by lia,by lia,λr2 _ _=>?_⟩;refine⟨_,Dn,_,Dn,_,Dn,_,Dn,ia,_,_,.ref ka,Dn,Dn,l! (s5 _ _ ei),AI,ka,_,1,_,Dn,Dn,l! (s5 _ _ AJ),at1,_,Dn,r2,oa,Ap,outs,S,k0.2,deep,Dn,s5 _ _ eo,Fc.mono (k! s5),go,d0,by lia,λt r H6 s6 AI z8 Av=>?_⟩;have Lu:=s6 _ _ DT;have DX:=s6 _ _ Co;have EL:KT H5 H6:=k! s6;have Ib:j! H H6:=s5.trans s6;have Bm:bs.length=ts.length:=BL.length;refine⟨Az,_,_,Dn,Dn,Lu,lbE (by lia),?_⟩;have kt:KT H6 (upd H6 Az (.lst (bs.map i!++[.ref r]))):=aY Lu;refine⟨_,bs++[r],ts++[t],Dn,aC Ib HZ,by rw[af Ia.symm];exact DX,Ec.trans (EL.trans kt),?_,?_,?_,?_⟩
   .rw[ae,W5];rfl
   .exact(BL.mono (EL.trans kt)).append (.cons (AI.mono kt) .nil)
   .rw[W4,Ae];rfl
   .intro j' t' k' DY Bw;by_cases Gy:j'<ts.length
    .rw[XB Gy]at DY;exact BN j' t' k' DY Bw
    .rw[X0 (by lia)]at DY
     have CU:j' - ts.length=0:=by
      have:=(Xu.mp DY).1;simp at this;lia
     rw[CU]at DY;cases DY;have:j'=j:=by lia
     subst this;rw[DF]at Bw;cases Bw;exact⟨z8,Av⟩
  .rintro Y H5 ⟨kv,bs,ts,rfl,s5,Co,Ec,DT,BL,Ae,BN⟩;refine⟨_,Dn,.inl ⟨Dn,_,n! Co⟩,_,Dn,Az,_,Dn,.inl ⟨n! DT,λtp BM=>?_⟩⟩;refine gU BM λH6 s6 e6=>?_;have DX:=s6 _ _ Co;refine⟨rl,_,_,Dn,Dn,DX,lbE (by lia),?_⟩;have kt:KT H6 (upd H6 rl (.lst (Aq.map i!++[.ref tp]))):=aY DX;have QS:KT H3 (upd H6 rl (.lst (Aq.map i!++[.ref tp]))):=(k! s4).trans (Ec.trans ((k! s6).trans kt));refine⟨_,_,_,Aq++[tp],rows++[ts],Dn,aC (s5.trans s6) F0,?_,?_,?_,?_⟩
   .rw[ae,W5];rfl
   .exact p! (w! (λ_ _ e=>RowAt.mono QS e) Ay) (.cons ⟨bs,kt _ _ e6,BL.mono ((k! s6).trans kt)⟩ .nil)
   .rw[W4,HY];rfl
   .intro row An;rcases W7.mp An with An|An
    .exact z9 row An
    .rw[WY.mp An];exact⟨by rw[Ae];lia,BN⟩
 .rintro Y H3 ⟨sv,rv,kv,Aq,rows,rfl,s3,Ck,Ay,HY,z9⟩;have EM:rows.length=Aq.length:=W9 Ay;refine⟨_,Dn,_,Dn,_,Dn,_,_,Dn,by decide,by decide,λr2 _ _=>?_⟩;refine⟨_,Dn,_,Dn,r2,oa,Ap,outs,S,1,1,Dn,s3 _ _ eo,Fc.mono (k! s3),go,by decide,by decide,λt ha H6 s6 AI z8 Av=>?_⟩;have DX:=s6 _ _ Ck;have EL:KT H3 H6:=k! s6;have Ib:j! H H6:=s3.trans s6;refine⟨_,Dn,rl,_,Dn,.inl ⟨n! DX,λra QT=>?_⟩⟩;refine gU QT λH7 s7 e7=>?_;refine⟨lnE rfl,λr CI=>?_⟩;have s8:j! H7 (upd H7 r (.tup [.ref ia,.ref oa,.ref ha,.ref ra])):=am CI _;have sA:=Ib.trans (s7.trans s8);refine q r ha ra Aq t rows _ sA ⟨ae,sA _ _ ei,CV.mono (k! sA),sA _ _ eo,Fc.mono (k! sA),AI.mono (k! (s7.trans s8)),s8 _ _ e7,w! (λ_ _ e=>RowAt.mono (EL.trans (k! (s7.trans s8))) e) Ay⟩ ⟨by rw[HY];lia,z9,z8,Av⟩
def EH(H:Hp)(t:Th)(a:WS):Prop:=∃ta,H a=A? (.tup [.ref ta,.int (t.tall:Nat)])/\At H t ta
theorem EH.mono(k:KT H H'){t:Th}(h:EH H t a):EH H' t a:=by
 obtain⟨ta,h1,h2⟩:=h;exact⟨ta,k _ _ h1,h2.mono k⟩
theorem oi:∀{ts:List Th}{es:List WS},Xv (EH H) ts es->∃Bs:List WS,Ats H ts Bs/\Bs.length=es.length/\∀(i:Nat)(e:WS),es[i]?=A? e->∃ta t,Bs[i]?=A? ta/\ts[i]?=A? t/\H e=A? (.tup [.ref ta,.int (t.tall:Nat)])
 |_,_,.nil=>⟨[],.nil,rfl,λi e h=>by simp at h⟩
 | _,_,.cons (a:=t) (b:=e) r h=>by
   refine hid λZZ kZ=>?_;obtain⟨ta,h1,h2⟩:=r;obtain⟨Bs,g1,g2,g3⟩:=oi h;refine kZ ?_;refine⟨ta::Bs,.cons h2 g1,by rw[W8,W8,g2],λi e' he=>?_⟩;cases i with
   | zero =>
     simp at he;subst he;exact⟨ta,t,Dn,Dn,h1⟩
   | succ i =>
     refine hid λZZ kZ=>?_;obtain⟨ta',t',q1,q2,q3⟩:=g3 i e' (by simpa using he);refine kZ ?_;exact⟨ta',t',by simpa using q1,by simpa using q2,q3⟩
theorem lC{M:Int}(h1:M∈(ts.map λt:Th=>((t.tall:Nat):Int))++[0])(h2:∀a∈(ts.map λt:Th=>((t.tall:Nat):Int))++[0],a<=M):M=((aB ts:Nat):Int):=by
 by_cases h:ts=[]
 .subst h;have:M=0:=by simpa using h1
  rw[this,aB];rfl
 .have h0:=h2 0 (by simp);obtain⟨t,ht,he⟩:=i6 h;have h3:=h2 _ (Xg _ (List.mem_map_of_mem (f:=λt:Th=>((t.tall:Nat):Int)) ht));rcases W7.mp h1 with h1|h1
  .obtain⟨u,hu,e⟩:=Xn.mp h1;have:=ce hu;lia
  .have h4:M=0:=WY.mp h1;have h5:t.tall=0:=by lia
   cases t with
   |knot n ks=>rw[q!]at h5;lia
   |call a b=>rw[q!]at h5;lia
inductive iz(vs:List V)(H:Hp)(Q:VK)(_E:XK):Prop
 |mk (ka kl:WS) (k0:Xj×Int) (es:List WS) (ts:List Th):vs=[.ref ka,.ref kl]->KAt H k0 ka->k0.1≠q->H kl=A? (.lst (es.map i!))->Xv (EH H) ts es->ts.length<=1000->(∀(r:WS)(H':Hp),j! H H'->EH H' (.knot k0.1 ts) r->Q (.ref r) H')->iz  vs H Q _E
theorem dw:FnOk P w K mg base CX0 1 T.g_56.f T.g_56.d ["kind","kids"] iz:=by
 refine T.g_56.F.okA g9 λzZ A outer s H vs Q E hr h=>?_;obtain⟨ka,kl,k0,es,ts,rfl,AJ,hq,QU,AR,hlen,q⟩:=h
 refine⟨_,(ag (ao 2 g9.nd (av bz ai (az (iI rfl) rfl T.n_8 Zq (ac (av gI (bZ (N:=["kid"]) (js:=[B?]) (g:=(ay 0)) (tt:=bE) (te:=(tOp (nn K) (bt 0) (tC (.int 1)))) rfl (cy rfl (by decide +kernel) (by decide +kernel) rfl rfl rfl) (cT (pv 1)) (λ_ _ _ _ _ _=>(pgN 0 uY)) (aV rfl) (λ_ _ _ _ _ _=>bT) (λ_ _ _ _ _ _=>(aD aE (pv 0) ai (λ_ _=>rfl)))) (aN (ac ai ad))) ad))))
  (aj (ax (aQ (ac (av cP (aQ (ac (aD aE (pv 0) ai (λ_ _=>rfl)) ad)) (aS aR rfl T.n_14 XX (ac (bZ (N:=["kid"]) (js:=[B?]) (g:=(ay 0)) (tt:=bE) (te:=(tOp (nn K) (bt 0) (tC (.int 0)))) rfl (cy rfl (by decide +kernel) (by decide +kernel) rfl rfl rfl) (cT (pv 1)) (λ_ _ _ _ _ _=>(pgN 0 uY)) (aV rfl) (λ_ _ _ _ _ _=>bT) (λ_ _ _ _ _ _=>(aD aE (pv 0) ai (λ_ _=>rfl)))) ad))) (ac (pv 2) ad)))))),?_⟩
 try dsimp only[Ak,zY]
 have EY:ts.length=es.length:=W9 AR;refine⟨_,Dn,kl,Dn,⟨_,n! QU⟩,ip ts (λt:Th=>o! (t.tall:Nat)) (n! QU) (by rw[WO];exact EY) (by rw[WO];lia) (λi x z H2 R W' hx hz s2 hR=>?_) (λD H1 hD s1 e1=>?_)⟩
 .refine hid λZZ kZ=>?_;obtain⟨e,rfl,he⟩:=bq hx;obtain⟨t,ht,ta,h1,_⟩:=C! AR he;refine kZ ?_;rw[hz]at ht;cases ht;exact⟨_,Dn,e,_,1,.int (z.tall:Nat),Dn,Dn,l! (s2 _ _ h1),at1,hR H2 (.refl _)⟩
 refine⟨lnE rfl,λzl Fv=>?_⟩;have s2:=am Fv (.lst [.int 0]);refine⟨D,zl,_,_,Dn,Dn,s2 _ _ e1,ae,ba (by rw[WO];show ts.length+1<=1000000;lia),λcl Af=>?_⟩;have s3:j! H _:=s1.trans (s2.trans (am Af (.lst (ts.map (λt:Th=>o! (t.tall:Nat))++[.int 0]))))
 have e3:(upd (upd H1 zl (.lst [.int 0])) cl (.lst (ts.map (λt:Th=>o! (t.tall:Nat))++[.int 0]))) cl=A? (.lst (((ts.map λt:Th=>((t.tall:Nat):Int))++[0]).map o!)):=by
  rw[ae,W5,Zd];rfl
 generalize(upd (upd H1 zl (.lst [.int 0])) cl (.lst (ts.map (λt:Th=>o! (t.tall:Nat))++[.int 0])))=H3 at s3 e3 |-;refine⟨cl,(ts.map λt:Th=>((t.tall:Nat):Int))++[0],Dn,n! e3,by simp,λM hM Ic=>⟨_,_,Dn,Dn,?_⟩⟩;have QV:=lC hM Ic;subst QV;have BZ:=s3 _ _ AJ;refine⟨_,Dn,ka,_,0,.str k0.1,Dn,Dn,l! BZ,at0,lnE rfl,λp1 Dy=>?_⟩;have s4:=s3.trans (am Dy (.tup [.str k0.1]));have e4:(upd H3 p1 (.tup [.str k0.1])) p1=A? (.tup [.str k0.1]):=ae;generalize(upd H3 p1 (.tup [.str k0.1]))=H4 at s4 e4 |-;refine hid λZZ kZ=>?_;obtain⟨Bs,Bh,Ae,QW⟩:=oi (w! (λ_ _ e=>EH.mono (k! s4) e) AR);refine kZ ?_;have Lw:=s4 _ _ QU;refine⟨_,Dn,kl,Dn,⟨_,n! Lw⟩,ip Bs i! (n! Lw) (by rw[WO];exact Ae) (by rw[WO];lia) (λi x z H5 R W' hx hz s5 hR=>?_) (λD5 H5 hD5 s5 e5=>?_)⟩
 .refine hid λZZ kZ=>?_;obtain⟨e,rfl,he⟩:=bq hx;obtain⟨ta,t,g1,_,g3⟩:=QW i e he;refine kZ ?_;rw[hz]at g1;cases g1;exact⟨_,Dn,e,_,0,.ref z,Dn,Dn,l! (s5 _ _ g3),at0,hR H5 (.refl _)⟩
 refine⟨D5,_,Dn,.inl ⟨n! e5,λtp BM=>?_⟩⟩;refine gU BM λH6 s6 e6=>?_;refine lO (s6 _ _ (s5 _ _ e4)) e6 (by rw[WO];show 1+Bs.length<=1000000;lia) λp H7 s7 e7=>?_;refine⟨_,Dn,lnE rfl,λr CI=>?_⟩;have s8:=am CI (.tup [.ref p,.int (1+((aB ts:Nat):Int))]);have Hv:=s5.trans (s6.trans (s7.trans s8));refine q r _ (s4.trans Hv) ⟨p,?_,?_⟩
 .rw[ae,q!];congr 4;simp;lia
 .rw[At];exact⟨hq,Bs,s8 _ _ e7,Bh.mono (k! Hv)⟩
theorem ul{c:TT}{K:Bool->Hp->Prop}(R:Bool->Hp->Prop)(h1:∀k:Bool->Hp->Prop,(∀b H',R b H'->k b H')->c Y H k)(h2:∀b H',R b H'->K b H'):c Y H K:=h1 K h2
theorem oS{kr:WS}{AV:List WS}{ks:List (Xj×Int)}(p:Xj×Int->Bool)(e:H kr=A? (.tup (AV.map i!)))(AX:KsAt H ks AV)(hl:ks.length<=1000)
 (Fg:∀(z:Xj×Int)(ka:WS)(H2:Hp)(R:Bool->Hp->Prop),j! H H2->KAt H2 z ka->R (p z) H2->tt ((cσ js Y).set 0 (A? (.ref ka))) H2 R)
 (Fh:∀(ka:WS)(H2:Hp)(R:VK),R (.ref ka) H2->te ((cσ js Y).set 0 (A? (.ref ka))) H2 R)
 (q:∀(D:WS)(bs:List ((Xj×Int)×WS))(H':Hp),H D=B?->H'=upd H D (.lst (bs.map λz=>i! z.2))->bs.length<=ks.length->(∀z∈bs,z.1∈ks/\p z.1=C?/\KAt H z.1 z.2)->fin D H') :
 ∀D,H D=B?->∃(n:Nat)(W:Nat->Hp->Prop),W 0 (upd H D (.lst []))/\fA js (ay 0) tt te Y (Itt K kr) D n W λH'=>fin D H':=by
 have Au:ks.length=AV.length:=W9 AX;have Fv:(ks.zip AV).length=ks.length:=by rw[List.length_zip];lia
 have Eu:∀(i:Nat)(x:V)(z:(Xj×Int)×WS),(AV.map i!)[i]?=A? x->(ks.zip AV)[i]?=A? z->x=.ref z.2:=λi x z hx hz=>by
  obtain⟨ka,rfl,AB⟩:=bq hx;obtain⟨h1,h2⟩:=Yu.mp hz;rw[AB]at h2;cases h2;rfl
 refine cV (ks.zip AV) (λz=>p z.1) (λz=>.ref z.2) (l! e) (by rw[Fv,WO];exact Au) (by rw[WO];lia) (λi x z H2 R hx hz sm r=>?_) (λi x z H2 R hx hz _ sm r=>?_) (λD hD=>?_)
 .rw[Eu i x z hx hz];have:=(ig AX z (WT hz)).2;exact Fg z.1 z.2 H2 R sm (sm _ _ this) r
 .rw[Eu i x z hx hz];exact Fh z.2 H2 R r
 .refine q D _ _ hD rfl ?_ ?_
  .exact X2 (List.length_filter_le _ _) (by lia)
  .intro z hz;obtain⟨h1,h2⟩:=ZX.mp hz;obtain⟨h3,h4⟩:=ig AX z h1;exact⟨h3,h2,h4⟩
theorem rE(h:n<=xs.length):cH xs B? (A? (n:Int))=xs.take n:=by
 unfold cH;rw[y!,L!,Nat.min_eq_left h,Nat.sub_zero,Yw]
theorem mQ(n:Nat)(ts:List Th):ar (ts.take n)+ar (ts.drop n)=ar ts:=by rw[<-aO,List.take_append_drop]
inductive iD(K:WW)(vs:List V)(H:Hp)(Q:VK)(_E:XK):Prop
 |mk (cl ia:WS) (xs:List V) (Al:List WS) (ins:List (Xj×Int)):vs=[.ref cl,.ref ia]->H cl=A? (.lst xs)->(∀v∈xs,∃z,v=.int z)->xs.length<=60->H ia=A? (.tup (Al.map i!))->KsAt H ins Al->aL ins->(∀(t:Th)(r:WS)(H':Hp),j! H H'->At H' t r->t.Fit ins->t.tall<=79->t.size<=300->Q (.ref r) H')->iD K vs H Q _E
theorem nJ:FnOk P w K mg base CX0 2 T.g_57.f T.g_57.d ["cells","ins"] (iD K):=by
 refine T.g_57.F.okA be λzZ A outer s H vs Q E hr h=>?_;obtain⟨cl,ia,xs,Al,ins,rfl,Tw,hint,Qs,ei,CV,gi,q⟩:=h
 refine⟨_,(ag (ao 2 be.nd (pcF T.g_56 (dw T) hr (ac (pcF T.g_50 (eQ T) hr (ac (pv 1) (ac (az aw rfl T.n_6 Xy (ac (pv 0) ad)) ad))) (ac (aN ad) ad))))
  (ag (eU (i:=3) (N:=["kind"]) (js:=[B?]) (g:=(ay 0)) (tt:=(ph (tOp (rI0 λi j=>.bl (decide (j<i))) (tOp (nn K) (bt 0) (tC (.int 1))) (tC (.int 1))))) (te:=(bt 0)) be.nd rfl (Or.inl rfl) rfl (cy rfl (by decide +kernel) (by decide +kernel) rfl rfl rfl) (dJ (pv 1)) (λ_ _ _ _ _ _=>(pgN 0 uu)) (aV rfl) (λ_ _ _ _ _ _=>fS (aI cN (aD aE (pv 0) ai (λ_ _=>rfl)) ai (aK _))) (λ_ _ _ _ _ _=>(pv 0)))
  (ag (ao 4 be.nd (aN ad))
  (ag (br Xw rfl (cT (aX fU (pv 0) bp (bj ai))) (pgN 5 be.nd) (ag (ao 6 be.nd (pcF T.g_48 (bR T) hr (ac (pv 5) (ac (az aw rfl T.n_6 Xy (ac (pv 4) ad)) ad))))
  (ag (ao 7 be.nd (aD aE (pv 1) (av bB (pv 6) (az aw rfl T.n_6 Xy (ac (pv 1) ad))) (λ_ _=>rfl)))
  (ag (ao 8 be.nd (pcF T.g_56 (dw T) hr (ac (pv 7) (ac (av xx (aX fU (pv 4) (bj (az (iR rfl) rfl T.n_8 Zq (ac ai (ac (av fP (az aw rfl T.n_6 Xy (ac (pv 4) ad)) (aD aE (pv 7) ai (λ_ _=>rfl))) ad)))) bp) (aS iU rfl T.n_4 PyProof.Rows.boot_int (ac (eT cN (aD aE (pv 7) ai (λ_ _=>rfl)) ai (aK _)) ad))) ad))))
  (aj (cb (PW.pt (jB (aI cN (aD aE (pv 7) ai (λ_ _=>rfl)) (az aw rfl T.n_6 Xy (ac (pv 4) ad)) (aK _)) (gM (aI cN (aD aE (pv 8) ai (λ_ _=>rfl)) ai (aK _))))) (aj (aM (bD Xb Xp Xo aH (pv 4) (ac (pcF T.g_56 (dw T) hr (ac (pcF T.g_50 (eQ T) hr (ac (pv 1) (ac (av bU (pv 6) ai) ad))) (ac (aN ad) ad))) ad)))) (aj (ao 4 be.nd (av gI (aX fU (pv 4) bp (bj (av fP (az aw rfl T.n_6 Xy (ac (pv 4) ad)) (aD aE (pv 7) ai (λ_ _=>rfl))))) (aN (ac (pv 8) ad)))))))))))
  (ag (cY Xw (PW.pt (iY (aI cN (az aw rfl T.n_6 Xy (ac (pv 4) ad)) ai (aK _)) (jR (aI cN (az aw rfl T.n_6 Xy (ac (pv 3) ad)) ai (aK _))))) (ag (ao 7 be.nd (aD bd (pv 3) (av bB (az aw rfl T.n_6 Xy (ac (pv 4) ad)) (az aw rfl T.n_6 Xy (ac (pv 3) ad))) (λ_ _=>rfl)))
  (aj (ao 4 be.nd (av gI (aX fU (pv 4) (bj (aD aE (pv 7) ai (λ_ _=>rfl))) bp) (aN (ac (pcF T.g_56 (dw T) hr (ac (pv 7) (ac (aX fU (av gI (pv 4) (aN (ac (pv 2) (ac (pv 2) ad)))) bp (bj (aD aE (pv 7) ai (λ_ _=>rfl)))) ad))) ad)))))))
  (aj (ax (aD aE (aD bd (av gI (pv 4) (aN (ac (pv 2) ad))) (az (iR rfl) rfl T.n_8 Zq (ac ai (ac (av fP (az aw rfl T.n_6 Xy (ac (pv 4) ad)) ai) ad))) (λ_ _=>rfl)) ai (λ_ _=>rfl))))))))),?_⟩
 try dsimp only[Ak,zY]
 have BO:ins.length=Al.length:=W9 CV;have Km:=gi.le;have hi1:=gi.ne
 have DG:∀k0:Xj×Int,k0∈ins->k0.2=0->(r! k0.1 []).Fit ins:=λk0 hm hz=>by
  rw[z!,Fits];refine⟨?_,trivial⟩;have:(k0.1,((([]:List Th).length:Nat):Int))=k0:=Prod.ext rfl hz.symm;rw[this];exact hm
 refine⟨_,Dn,_,Dn,cl,_,Dn,.inl (n! Tw),ia,Al,ins,_,Dn,ei,CV,gi,λk0 ka H1 s1 BY Ff AJ=>?_⟩;refine⟨lnE rfl,λel EY=>?_⟩;have s2:=s1.trans (am EY (.lst []));refine⟨ka,el,k0,[],[],Dn,am EY _ _ _ AJ,lB (gi.low k0 BY).1,ae,.nil,XA _,λlf H2 Tx Dl=>?_⟩;have Dk:j! H H2:=s2.trans Tx;have EN:=DG k0 BY Ff;have QX:(r! k0.1 []).tall<=1:=by rw[q!,aB];exact W0 _
 have QY:(r! k0.1 []).size<=1:=by rw[v!,ar];exact W0 _
 generalize r! k0.1 []=Cq at Dl EN QX QY;clear s2 Tx AJ BY Ff s1 EY
 have QZ:=Dk _ _ ei;have Lx:=CV.mono (k! Dk);refine⟨_,Dn,ia,Dn,⟨_,l! QZ⟩,oS (K:=K) (λk=>decide (1<k.2)) QZ Lx (by lia) (λz ka H2 R sm hz r=>⟨_,Dn,ka,_,1,_,Dn,Dn,l! hz,at1,_,_,Dn,Dn,_,Dn,r⟩) (λka H2 R r=>⟨_,Dn,r⟩) (λwd bs H3 hD e' Tf AO=>?_)⟩;have s3:j! H2 H3:=by rw[e'];exact am hD _
 have ewd:H3 wd=A? (.lst (bs.map λz=>i! z.2)):=by rw[e'];exact ae
 clear e';refine⟨lnE rfl,λGI Ly=>?_⟩;have Q0:=s3 _ _ (Dk _ _ Tw);have s4:j! H3 (upd H3 GI (.lst [])):=am Ly _;refine⟨_,Dn,_,Dn,cl,_,Dn,n! (s4 _ _ Q0),λcc EU=>?_⟩;have Tz:GI≠cc:=λz=>by rw[<-z,ae]at EU;cases EU
 have s5:j! H3 (upd (upd H3 GI (.lst [])) cc (.lst (cH xs B? (A? 96)))):=s4.trans (am EU _);have Co:(upd (upd H3 GI (.lst [])) cc (.lst (cH xs B? (A? 96)))) GI=A? (.lst []):=by rw[af Tz,ae]
 have MX:(upd (upd H3 GI (.lst [])) cc (.lst (cH xs B? (A? 96)))) cc=A? (.lst (cH xs B? (A? 96))):=ae;generalize(upd (upd H3 GI (.lst [])) cc (.lst (cH xs B? (A? 96))))=H5 at s5 Co MX |-;have GJ:∀v∈cH xs B? (A? 96),∃z,v=.int z:=λv hv=>hint v (Zz (Y2 hv));have Af:=dZ xs B? (A? 96);generalize cH xs B? (A? 96)=ys at MX GJ Af |-;have Q1:=Dl.mono (k! s3);have sb:j! H H3:=Dk.trans s3;have MY:=sb _ _ ei;have F1:=CV.mono (k! sb)
 have Q2:∀z∈bs,z.1∈ins/\1<z.1.2/\KAt H3 z.1 z.2:=λz hz=>by
  obtain⟨h1,h2,h3⟩:=AO z hz;exact⟨h1,e! h2,s3 _ _ h3⟩
 clear AO Dl Lx QZ s4;refine⟨cc,Dn,⟨_,n! MX⟩,?_⟩
 refine fL (K:=K) (a:=cc) (xs:=ys) (λi Y H6=>Ex7 λ(Az:WS)(es:List WS)(ts:List Th)(c5 c6 c7 c8:Option V)=>ze (Y=[A? (.ref cl),A? (.ref ia),A? (.ref lf),A? (.ref wd),A? (.ref Az),c5,c6,c7,c8]) (j! H3 H6) (H3 Az=B?) (Az≠cc) (H6 cc=A? (.lst ys)) (H6 Az=A? (.lst (es.map i!))) (Xv (EH H6) ts es) ((∀t∈ts,t.Fit ins)) ((∀t∈ts,t.tall<=20)) (ts.length<=i) (ar ts<=i))
  ⟨GI,[],[],B?,B?,B?,B?,rfl,s5,Ly,Tz,MX,Co,.nil,(λt ht=>by cases ht),(λt ht=>by cases ht),W0 _,W0 _⟩ (λi Y H6 _⟨_,_,_,_,_,_,_,_,_,_,_,h,_,_,_,_,_,_⟩=>n! h) ?_ ?_
 .rintro i x Y H6 hx ⟨Az,es,ts,c5,c6,c7,c8,rfl,s6,CW,F2,Hf,erw,AR,z8,Lz,TB,hsz⟩;obtain⟨c,rfl⟩:=GJ x (WT hx);have DD:i<ys.length:=(glE hx);have EY:ts.length=es.length:=W9 AR;have Q3:((es.map i!).length:Int)=(es.length:Int):=by rw[WO]
  refine⟨_,Dn,_,Dn,Az,_,Dn,.inl (n! erw),_,_,Dn,by lia,by lia,λrest r0 r1=>?_⟩;have TC:=s6 _ _ MY;have m0:=XQ rest (show((Al.map i!).length:Int)≠0 by rw[WO];lia);have m1:=XN rest (show(0:Int)<((Al.map i!).length:Int)by rw[WO];lia);refine hid λZZ kZ=>?_;obtain⟨k0,DF⟩:∃k0,ins[(rest%((Al.map i!).length:Int)).toNat]?=A? k0:=⟨_,WQ (by rw[WO]at m0 m1 |-;lia)⟩;obtain⟨ka,AB,BZ⟩:=x! F1 DF;refine kZ ?_;have BY:=WT DF;have Di:=gi.num k0 BY;have AJ:=s6 _ _ BZ;refine⟨_,Dn,_,Dn,_,Dn,ia,_,Dn,.inr (l! TC),_,_,Dn,Dn,(by show(0:Int)<((Al.map i!).length:Int);rw[WO];lia),ia,_,_,.ref ka,Dn,Dn,l! TC,at_nonneg m0 (gmE AB),?_⟩
  obtain⟨lo,RD,aa1⟩:∃lo:Nat,(if((es.map i!).length:Int) - k0.2 > 0 then((es.map i!).length:Int) - k0.2 else 0)=(lo:Int)/\lo=es.length - k0.2.toNat:=by
   refine⟨es.length - k0.2.toNat,?_,Dn⟩;rw[Q3];split <;> lia
  have EO:cH (es.map i!) (A? (lo:Int)) B?=(es.drop lo).map i!:=by rw[iT (by rw[WO];lia),List.map_drop]
  refine⟨_,Dn,_,Dn,_,Dn,Az,_,Dn,.inl (n! erw),_,Dn,ka,_,1,_,Dn,Dn,l! AJ,at1,_,_,Dn,Dn,_,_,Dn,_,Dn,Az,_,Dn,n! erw,λs1l NC=>?_⟩;dsimp only;rw[RD,EO];refine gU NC λH7 sA eA=>?_
  have Q4:(XU (if decide ((0:Int)<k0.2)=C? then(1:Int)else 0).toNat ((es.drop lo).map i!)).flatten=(es.drop lo).map i!:=by
   by_cases hc:(0:Int)<k0.2
   .rw[d! hc];simp
   .have:es.drop lo=[]:=List.drop_eq_nil_of_le (by lia);rw[this];simp
  have Q5:(if decide ((0:Int)<k0.2)=C? then(1:Int)else 0)=0\/(if decide ((0:Int)<k0.2)=C? then(1:Int)else 0)=1:=by split <;> simp
  refine⟨_,Dn,ka,_,1,_,Dn,Dn,l! (sA _ _ AJ),at1,_,_,Dn,Dn,.inr ⟨_,Dn,s1l,_,_,Dn,Dn,eA,by lia,by lia,ba ?_,λrp hrp=>?_⟩⟩
  .have:((es.drop lo).map i!).length<=1000:=by rw[WO,XJ];lia
   rcases Q5 with z|z <;> rw[z] <;> simp <;> lia
  dsimp only;rw[Q4];have sB:=sA.trans (am hrp (.lst ((es.drop lo).map i!)));have eB:(upd H7 rp (.lst ((es.drop lo).map i!))) rp=A? (.lst ((es.drop lo).map i!)):=ae;generalize(upd H7 rp (.lst ((es.drop lo).map i!)))=H8 at sB eB |-;refine⟨ka,rp,k0,es.drop lo,ts.drop lo,Dn,sB _ _ AJ,lB (gi.low k0 BY).1,eB,w! (λ_ _ e=>EH.mono (k! sB) e) (P2.drop lo AR),by rw[XJ];lia,λmd H9 s9 Gu=>?_⟩;have LA:j! H6 H9:=sB.trans s9;have DZ:=LA _ _ erw;have Ie:=LA _ _ Hf;have LB:=LA _ _ AJ;have F3:=w! (λ_ _ e=>EH.mono (k! LA) e) AR;have LC:=s6.trans LA;obtain⟨mta,emd,hmA⟩:=id Gu;dsimp only[ay];refine bN (λb H'=>An2 (H9=H') ((b=D?->k0.2<=(es.length:Int)/\(r! k0.1 (ts.drop lo)).tall<=20))) (λk2 AE=>?_) (λH' hb=>?_) (λH' hb=>?_)
  .refine⟨_,Dn,ka,_,1,_,Dn,Dn,l! LB,at1,_,Dn,Az,_,Dn,.inl (n! DZ),_,_,Dn,Dn,_,Dn,?_⟩;refine cq (λc1=>AE _ _ ⟨rfl,λz=>by cases z⟩) (λc1=>?_);refine⟨_,Dn,md,_,1,_,Dn,Dn,l! emd,at1,_,_,Dn,Dn,_,Dn,AE _ _ ⟨Dn,λz2=>⟨?_,?_⟩⟩⟩
   .have:¬((es.map i!).length:Int)<k0.2:=λz=>c1 (d! z);lia
   .have:=of_decide_eq_false z2;lia
  .obtain⟨rfl,_⟩:=hb;refine⟨_,Dn,.inl ⟨Dn,_,n! DZ⟩,_,Dn,_,Dn,_,_,Dn,Dn,⟨by decide,by decide⟩,ia,Al,ins,_,Dn,LC _ _ MY,F1.mono (k! LC),gi,λk1 FU Cv BD Jb QJ Q6=>?_⟩;refine⟨lnE rfl,λel LD=>?_⟩;refine⟨FU,el,k1,[],[],Dn,am LD _ _ _ Q6,lB (gi.low k1 Jb).1,ae,.nil,XA _,λl2 GW C9 BC=>?_⟩;have sC:j! H9 GW:=BD.trans ((am LD _).trans C9);refine⟨Az,_,_,Dn,Dn,sC _ _ DZ,lbE (by lia),?_⟩;have kt:KT GW (upd GW Az (.lst (es.map i!++[.ref l2]))):=aY (sC _ _ DZ);refine⟨Az,es++[l2],ts++[.knot k1.1 []],_,_,_,_,Dn,aC (LC.trans sC) CW,CW,F2,by rw[af F2.symm];exact sC _ _ Ie,uAE,p! (w! (λ_ _ e=>EH.mono ((k! sC).trans kt) e) F3) (.cons (BC.mono kt) .nil),λt ht=>?_,λt ht=>?_,by rw[W4];show ts.length+1<=i+1;lia,by rw[aO,ar,ar,v!,ar];lia⟩
   rotate_left
   .rcases W7.mp ht with ht|ht
    .exact Lz t ht
    .rw[WY.mp ht,q!,aB];decide
   rcases W7.mp ht with ht|ht
   .exact z8 t ht
   .rw[WY.mp ht];exact DG k1 Jb QJ
  .obtain⟨rfl,hb⟩:=hb;obtain⟨hle,Dx⟩:=hb rfl;have hn:(((es.map i!).length:Int) - k0.2)=(lo:Int):=by rw[Q3];lia
   refine⟨_,Dn,_,Dn,Az,_,Dn,.inl (n! DZ),_,Dn,ka,_,1,_,Dn,Dn,l! LB,at1,_,_,Dn,Dn,_,Dn,Az,_,Dn,n! DZ,λs2l EV=>?_⟩;dsimp only;rw[hn,rE (by rw[WO];lia)];refine gU EV λCv sC eC=>?_;refine⟨_,Dn,lnE rfl,λQ7 F4=>?_⟩;have sD:=sC.trans (am F4 (.lst [.ref md]));refine⟨s2l,Q7,_,_,Dn,Dn,am F4 _ _ _ eC,ae,ba (by rw[XC,WO];show min lo es.length+1<=1000000;lia),λnr MZ=>?_⟩;have sE:=sD.trans (am MZ (.lst ((es.map i!).take lo++[.ref md])));have Ig:H9 nr=none:=sD.free MZ;refine⟨nr,es.take lo++[md],ts.take lo++[.knot k0.1 (ts.drop lo)],_,_,_,_,Dn,LC.trans sE,LC.free Ig,(λz=>by rw[z,Ie]at Ig;cases Ig),sE _ _ Ie,by rw[ae,W5,List.map_take];rfl,p! (w! (λ_ _ e=>EH.mono (k! sE) e) (P2.take lo F3)) (.cons (Gu.mono (k! sE)) .nil),λt ht=>?_,λt ht=>?_,by rw[W4,XC];show min lo ts.length+1<=i+1;lia,by rw[aO,ar,ar,v!];have:=mQ lo ts;lia⟩
   rotate_left
   .rcases W7.mp ht with ht|ht
    .exact Lz t (Y2 ht)
    .rw[WY.mp ht];exact Dx
   rcases W7.mp ht with ht|ht
   .exact z8 t (Y2 ht)
   .rw[WY.mp ht,z!];refine⟨?_,Fits.of λu hu=>z8 u (Zz hu)⟩;have:(k0.1,((ts.drop lo).length:Int))=k0:=Prod.ext rfl (by show(((ts.drop lo).length:Nat):Int)=k0.2;rw[XJ];lia);rw[this];exact BY
 .rintro Y H6 ⟨Az,es,ts,c5,c6,c7,c8,rfl,s6,CW,F2,Hf,erw,AR,z8,Lz,TB,hsz⟩;have Ih:ts.length<=1000:=by lia
  have Q8:ts.length=es.length:=W9 AR
  have Jd:∀t∈ts,t.tall+es.length<=80:=λt ht=>by
   have:=Lz t ht;lia
  have ER:es.length<=60:=by lia
  have CC:ar ts+3 * es.length<=260:=by lia
  clear TB Hf F2 Lz Q8;refine⟨λm Y H6=>Ex7 λ(Az:WS)(es:List WS)(ts:List Th)(c5 c6 c7 c8:Option V)=>yl (Y=[A? (.ref cl),A? (.ref ia),A? (.ref lf),A? (.ref wd),A? (.ref Az),c5,c6,c7,c8]) (j! H3 H6) (H6 Az=A? (.lst (es.map i!))) (Xv (EH H6) ts es) ((∀t∈ts,t.Fit ins)) ((∀t∈ts,t.tall+es.length<=80)) (es.length<=60) (ts.length<=1000) (ar ts+3 * es.length<=260) (m=es.length),⟨_,Az,es,ts,c5,c6,c7,c8,Dn,s6,erw,AR,z8,Jd,ER,Ih,CC,Dn⟩,?_⟩;clear s6 CW erw AR z8 Ih Jd ER CC hsz;rintro m Y H6 ⟨Az,es,ts,c5,c6,c7,c8,rfl,s6,erw,AR,z8,Jd,ER,Ih,CC,rfl⟩;have EY:ts.length=es.length:=W9 AR;have Q3:((es.map i!).length:Int)=(es.length:Int):=by rw[WO]
  have Ii:=s6 _ _ ewd;have Ds:((bs.map λz=>i! z.2).length:Int)=(bs.length:Int):=by rw[WO]
  have Dl:=Q1;refine ul (λb H'=>An2 (H6=H') ((b=C?->(1:Int)<((es.map i!).length:Int)/\(0:Int)<((bs.map λz=>i! z.2).length:Int)))) (λk2 AE=>?_) (λb H' hb=>?_)
  .refine⟨_,Dn,Az,_,Dn,.inl (n! erw),_,_,Dn,Dn,_,Dn,?_⟩;refine cq (λc1=>?_) (λc1=>AE _ _ ⟨rfl,λz=>g! z Xq⟩);exact⟨_,Dn,wd,_,Dn,.inl (n! Ii),_,_,Dn,Dn,_,Dn,AE _ _ ⟨Dn,λz=>⟨e! c1,e! z⟩⟩⟩
  obtain⟨rfl,hb⟩:=hb;cases b with
  | true =>
    obtain⟨LZ,TF⟩:=hb rfl;refine qg ?_;refine⟨λl' H'=>∃m',m'<es.length/\Ex7 λ(Az:WS)(es:List WS)(ts:List Th)(c5 c6 c7 c8:Option V)=>yl (l'=[A? (.ref cl),A? (.ref ia),A? (.ref lf),A? (.ref wd),A? (.ref Az),c5,c6,c7,c8]) (j! H3 H') (H' Az=A? (.lst (es.map i!))) (Xv (EH H') ts es) ((∀t∈ts,t.Fit ins)) ((∀t∈ts,t.tall+es.length<=80)) (es.length<=60) (ts.length<=1000) (ar ts+3 * es.length<=260) (m'=es.length),λl' H' h=>h,?_⟩;have m0:=XQ ((es.map i!).length:Int) (show((bs.map λz=>i! z.2).length:Int)≠0 by lia);have m1:=XN ((es.map i!).length:Int) TF;refine hid λZZ kZ=>?_;obtain⟨z,hz⟩:∃z,bs[(((es.map i!).length:Int)%((bs.map λz=>i! z.2).length:Int)).toNat]?=A? z:=⟨_,WQ (by lia)⟩;obtain⟨BY,CH,BZ⟩:=Q2 z (WT hz);obtain⟨k0,ka⟩:=z;refine kZ ?_;dsimp only at BY CH BZ hz;have Di:=gi.num k0 BY;have AJ:=s6 _ _ BZ;refine⟨_,Dn,_,Dn,Az,_,Dn,.inl (n! erw),_,Dn,wd,_,Dn,.inl (n! Ii),_,_,Dn,Dn,TF,wd,_,_,.ref ka,Dn,Dn,n! Ii,at_nonneg m0 (gmE hz),?_⟩;obtain⟨kn,HR⟩:∃kn:Nat,k0.2=(kn:Int):=⟨k0.2.toNat,by lia⟩
    have EO:cH (es.map i!) (A? (kn:Int)) B?=(es.drop kn).map i!:=by
     by_cases hc:kn<=es.length
     .rw[iT (by rw[WO];exact hc),List.map_drop]
     .have h1:es.drop kn=[]:=List.drop_eq_nil_of_le (by lia);have h2:t! (es.map i!).length 0 (A? (kn:Int))=(es.map i!).length:=by rw[y!,WO];lia
      unfold cH;rw[h1,h2,List.drop_length];simp
    refine⟨_,Dn,_,Dn,ka,_,1,_,Dn,Dn,l! AJ,at1,_,Dn,Az,_,Dn,n! erw,λdl E3=>?_⟩;dsimp only;rw[HR,EO];refine gU E3 λH7 sA eA=>?_;refine⟨_,Dn,_,Dn,_,Dn,_,Dn,lnE rfl,λll DL=>?_⟩;have TH:=am DL (.lst [.ref lf,.ref lf]);have sB:=sA.trans TH;refine⟨Az,ll,_,_,Dn,Dn,sB _ _ erw,ae,ba (by rw[WO];show es.length+2<=1000000;lia),λM0 Cd=>?_⟩;have Q9:=TH.trans (am Cd (.lst (es.map i!++[.ref lf,.ref lf])));have eC:(upd (upd H7 ll (.lst [.ref lf,.ref lf])) M0 (.lst (es.map i!++[.ref lf,.ref lf]))) M0=A? (.lst ((es++[lf,lf]).map i!)):=by rw[ae,W5];exact rfl
    generalize(upd (upd H7 ll (.lst [.ref lf,.ref lf])) M0 (.lst (es.map i!++[.ref lf,.ref lf])))=H8 at Q9 eC |-;have sC:=sA.trans Q9;refine⟨_,Dn,ka,_,1,_,Dn,Dn,l! (sC _ _ AJ),at1,_,Dn,M0,_,Dn,n! eC,λtl Ae=>?_⟩;have aa2:(es++[lf,lf]).length=es.length+2:=by rw[W4];rfl
    dsimp only;rw[HR,rE (by rw[WO];lia),<-List.map_take];have Ra:=Q9.trans (am Ae (.lst (((es++[lf,lf]).take kn).map i!)));have eD:(upd H8 tl (.lst (((es++[lf,lf]).take kn).map i!))) tl=A? (.lst (((es++[lf,lf]).take kn).map i!)):=ae;generalize(upd H8 tl (.lst (((es++[lf,lf]).take kn).map i!)))=H9 at Ra eD |-;have sD:=sA.trans Ra;have LF:=Dl.mono (k! (s6.trans sD));have F3:Xv (EH H9) (ts++[Cq,Cq]) (es++[lf,lf]):=p! (w! (λ_ _ e=>EH.mono (k! sD) e) AR) (.cons LF (.cons LF .nil));refine⟨ka,tl,k0,(es++[lf,lf]).take kn,(ts++[Cq,Cq]).take kn,Dn,sD _ _ AJ,lB (gi.low k0 BY).1,eD,P2.take kn F3,by rw[XC,W4];show min kn (ts.length+2)<=1000;lia,λmd Cv BD Gu=>?_⟩;have sE:=sD.trans BD;have Rb:=BD _ _ (Ra _ _ eA);refine⟨lnE rfl,λQ7 F4=>?_⟩;have sF:=am F4 (.lst [.ref md]);refine⟨dl,Q7,_,_,Dn,Dn,sF _ _ Rb,ae,ba (by rw[WO,XJ];show es.length - kn+1<=1000000;lia),λnr MZ=>?_⟩;have sG:=sF.trans (am MZ (.lst ((es.drop kn).map i!++[.ref md])));have sH:=sE.trans sG;refine⟨(es.drop kn++[md]).length,?_,nr,es.drop kn++[md],ts.drop kn++[.knot k0.1 ((ts++[Cq,Cq]).take kn)],_,_,_,_,Dn,s6.trans sH,uAE,p! (w! (λ_ _ e=>EH.mono (k! sH) e) (P2.drop kn AR)) (.cons (Gu.mono (k! sG)) .nil),λt ht=>?_,λt ht=>?_,by rw[W4,XJ];show es.length - kn+1<=60;lia,by rw[W4,XJ];show ts.length - kn+1<=1000;lia,?_,Dn⟩
    .rw[W4,XJ];show es.length - kn+1<es.length;lia
    rotate_left 2
    .have BC:(es.drop kn++[md]).length=es.length - kn+1:=by rw[W4,XJ];rfl
     rw[BC,aO,ar,ar,v!,List.take_append,aO];have h1:=mQ kn ts;have h2:=gP (kn - ts.length) [Cq,Cq];have h3:ar [Cq,Cq]<=2:=by rw[ar,ar,ar];lia
     lia
    rotate_left
    .have BC:(es.drop kn++[md]).length=es.length - kn+1:=by rw[W4,XJ];rfl
     rw[BC];rcases W7.mp ht with ht|ht
     .have:=Jd t (Zz ht);lia
     .rw[WY.mp ht,q!]
      have h1:aB ((ts++[Cq,Cq]).take kn)<=80 - es.length:=iL λu hu=>by
       rcases W7.mp (Y2 hu)with hu|hu
       .have:=Jd u hu;lia
       .have:u=Cq:=by
         rcases Xc.mp hu with h|h
         .exact h
         .exact WY.mp h
        rw[this];lia
      lia
    .rcases W7.mp ht with ht|ht
     .exact z8 t (Zz ht)
     .rw[WY.mp ht,z!];refine⟨?_,Fits.of λu hu=>?_⟩
      .have:(k0.1,(((ts++[Cq,Cq]).take kn).length:Int))=k0:=Prod.ext rfl (by
        show((((ts++[Cq,Cq]).take kn).length:Nat):Int)=k0.2;rw[XC,W4];show((min kn (ts.length+2):Nat):Int)=k0.2;lia)
       rw[this];exact BY
      .rcases W7.mp (Y2 hu)with hu|hu
       .exact z8 u hu
       .have:u=Cq:=by
         rcases Xc.mp hu with h|h
         .exact h
         .exact WY.mp h
        rw[this];exact EN
  | false =>
    refine uy ?_;refine⟨_,Dn,_,Dn,lnE rfl,λl1 Dt=>?_⟩;have s7:=am Dt (.lst [.ref lf]);refine⟨Az,l1,_,_,Dn,Dn,s7 _ _ erw,ae,ba (by rw[WO];show es.length+1<=1000000;lia),λcr NY=>?_⟩;have s8:=s7.trans (am NY (.lst (es.map i!++[.ref lf])));have Rc:=s8 _ _ erw;refine hid λZZ kZ=>?_
    obtain⟨e0,t0,Iv,Rf,hF0,hT0,hZ0⟩:∃e0 t0,(es++[lf])[es.length - 1]?=A? e0/\EH H6 t0 e0/\t0.Fit ins/\t0.tall<=79/\t0.size<=300:=by
     by_cases hz:es.length=0
     .refine⟨lf,_,?_,Dl.mono (k! s6),EN,by lia,by lia⟩;rw[Ys.mp hz];rfl
     .obtain⟨e0,Iv⟩:∃e0,es[es.length - 1]?=A? e0:=⟨_,WQ (by lia)⟩;obtain⟨t0,Rg,Rf⟩:=C! AR Iv;exact⟨e0,t0,by rw[XB (by lia)];exact Iv,Rf,z8 t0 (WT Rg),by have:=Jd t0 (WT Rg);lia,by have:=fY (WT Rg);lia⟩
    obtain⟨TJ,ee0,E5⟩:=Rf;refine kZ ?_
    have DD:atI (es.map i!++[.ref lf]) (if((es.map i!).length:Int) - 1 > 0 then((es.map i!).length:Int) - 1 else 0)=A? (.ref e0):=by
     have hi:(if((es.map i!).length:Int) - 1 > 0 then((es.map i!).length:Int) - 1 else 0)=((es.length - 1:Nat):Int):=by
      rw[WO];split <;> lia
     rw[hi];refine bL ?_;have:es.map i!++[i! lf]=(es++[lf]).map i!:=by rw[W5];rfl
     rw[this,Xd,Iv];rfl
    refine⟨_,Dn,Az,_,Dn,.inl (n! Rc),_,_,Dn,Dn,_,_,Dn,cr,_,_,.ref e0,Dn,Dn,n! ae,DD,e0,_,0,.ref TJ,Dn,Dn,l! (s8 _ _ ee0),at0,?_⟩;exact q t0 TJ _ ((sb.trans s6).trans s8) (E5.mono (k! s8)) hF0 hT0 hZ0
inductive fq(K:WW)(vs:List V)(H:Hp)(Q:VK)(_E:XK):Prop
 |mk (a:WS) (ns:List Int) (most deep:Int):vs=[.ref a,.int most,.int deep]->SqL K H a (ns.map o!)->ns.length<=63->0<=most->most<=100->0<=deep->deep<=2->(∀(r b ta:WS)(ins outs:List (Xj×Int))(head:Th)(rows:List (List Th))(S:Int)(t:Th)(H':Hp),j! H H'->H' r=A? (.tup [.ref b,.ref ta])->Bk H' ins outs head rows b->aL ins->aL outs->fw ins outs S deep.toNat head rows->S<=most->(∀row∈rows,∀p∈row,p.size<=13)->head.size<=13->At H' t ta->t.Fit ins->t.tall<=79->t.size<=300->Q (.ref r) H')->fq K vs H Q _E
theorem jI:FnOk P w K mg base CX0 10 T.g_58.f T.g_58.d ["script","most","deep"] (fq K):=by
 refine T.g_58.F.okA bV λzZ A outer s H vs Q E hr h=>?_;obtain⟨a,ns,most,deep,rfl,hS,C4,m0,m1,d0,d1,q⟩:=h
 refine⟨_,(ag (ao 3 bV.nd (pcF T.g_49 (gz T) hr (ac (pcF T.g_47 (dq T) hr (ac (pv 0) (ac ai ad))) (ac dh ad))))
  (ag (ao 4 bV.nd (pcF T.g_49 (gz T) hr (ac (pcF T.g_47 (dq T) hr (ac (pv 0) (ac ai ad))) (ac (aD bd (aN (ac dh (ac dh ad))) (av bB (av bU (pcF T.g_47 (dq T) hr (ac (pv 0) (ac ai ad))) ai) ai) (λ_ _=>rfl)) ad))))
  (ag (ao 5 bV.nd (pcF T.g_47 (dq T) hr (ac (pv 0) (ac ai ad))))
  (ag (ao 6 bV.nd (pcF T.g_55 (nN T) hr (ac (pv 5) (ac (pv 3) (ac (pv 4) (ac (av bB (av bU (pv 5) ai) (av bz (pv 1) ai)) (ac (pv 2) ad)))))))
  (aj (ax (aQ (ac (pv 6) (ac (pcF T.g_57 (nJ T) hr (ac (aX fU (pv 0) (bj ai) bp) (ac (pv 3) ad))) ad))))))))),?_⟩
 try dsimp only[Ak,zY]
 refine⟨_,Dn,a,ns,0,Dn,hS,by decide,λc=>⟨c,_,Dn,rF,λia Al ins H1 s1 ei CV gi=>?_⟩⟩;refine⟨_,Dn,a,ns,1,Dn,s1.seq hS,by decide,λc1=>?_⟩;refine⟨lnE rfl,λll DL=>?_⟩;have sl:=am DL (.lst [.str (W6 "npwz"),.str (W6 "bdhk")]);refine⟨_,Dn,a,ns,1,Dn,(s1.trans sl).seq hS,by decide,λc2=>?_⟩
 obtain⟨lt,Ad,CQ⟩:∃lt,atI [F! (W6 "npwz"),F! (W6 "bdhk")] (c2 / 3%2)=A? (.str lt)/\pO lt:=by
  have z0:=XQ (c2 / 3) (show(2:Int)≠0 by decide);have z1:=XN (c2 / 3) (show(0:Int)<2 by decide);rcases(by lia:c2 / 3%2=0\/c2 / 3%2=1)with z|z <;> rw[z]
  .exact⟨_,Dn,wc⟩
  .exact⟨_,Dn,rF⟩
 refine⟨_,_,Dn,Dn,⟨by decide,by decide⟩,_,_,Dn,Dn,(by show(0:Int)<2;decide),ll,_,_,.str lt,Dn,Dn,n! ae,Ad,?_⟩;refine⟨c1,lt,Dn,CQ,λoa Ap outs H2 s2 eo Fc go=>?_⟩;have Dk:j! H1 H2:=sl.trans s2;have TL:=s1.trans Dk;refine⟨_,Dn,a,ns,2,Dn,TL.seq hS,by decide,λcell=>?_⟩;have z0:=XQ (cell / 7) (show(most+1)≠0 by lia);have z1:=XN (cell / 7) (show(0:Int)<most+1 by lia);refine⟨_,Dn,_,Dn,_,Dn,_,Dn,_,_,Dn,Dn,⟨by decide,by decide⟩,_,Dn,_,_,Dn,Dn,_,_,Dn,Dn,(by show(0:Int)<most+1;lia),_,Dn,cell,ia,Al,ins,oa,Ap,outs,_,deep,Dn,Dk _ _ ei,CV.mono (k! Dk),gi,eo,Fc,go,z0,by lia,d0,by lia,λr ha ra Aq head rows H3 s3 b3 bo=>?_⟩;have TM:=TL.trans s3
 have hrz:∀row∈rows,∀p∈row,p.size<=13:=λrow hr p hp=>by
  obtain⟨j,hj⟩:=Xk.mp hp;have Gh:=bo.row row hr;have DK:=(glE hj);obtain⟨k,hk⟩:∃k,ins[j]?=A? k:=⟨_,WQ (by rw[<-Gh.len];exact DK)⟩;obtain⟨h1,h2⟩:=Gh.fit j p k hj hk;have h3:=(f8 go p h1).1;have h4:3 ^ p.tall<=3 ^ 3:=Zy (by decide) (by lia);have h5:3 ^ 3=27:=rfl;lia
 have hhz:head.size<=13:=by
  have h3:=(f8 go head bo.hdf).1;have h2:=bo.hdt;have h4:3 ^ head.tall<=3 ^ 3:=Zy (by decide) (by lia);have h5:3 ^ 3=27:=rfl;lia
 have E7:=Dk.trans s3;have MY:=E7 _ _ ei;have F1:=CV.mono (k! E7);have HJ:cell / 7%(most+1)<=most:=by lia
 generalize cell / 7%(most+1)=S at bo HJ;refine⟨_,Dn,_,Dn,_,Dn,a,_,Dn,TM.seq hS,λsc hsc=>?_⟩;have s6:=am hsc (.lst (cH (ns.map o!) (A? 3) B?))
 have EO:(cH (ns.map o!) (A? 3) B?).length<=60:=by
  by_cases h3:3<=ns.length
  .rw[show(A? (3:Int))=A? ((3:Nat):Int)from rfl,iT (by rw[WO];exact h3),XJ,WO];lia
  .have Af:=dZ (ns.map o!) (A? 3) B?;rw[WO]at Af;lia
 refine⟨_,Dn,sc,ia,_,Al,ins,Dn,ae,(λv hv=>?_),EO,s6 _ _ MY,F1.mono (k! s6),gi,λt ta H7 s7 hA hF hT hZ=>?_⟩
 .obtain⟨z,_,rfl⟩:=Xn.mp (Zz (Y2 hv));exact⟨z,Dn⟩
 refine⟨lnE rfl,λrr M1=>?_⟩;have s8:=am M1 (.tup [.ref r,.ref ta]);have D':=s6.trans (s7.trans s8);exact q rr r ta ins outs head rows S t _ (TM.trans D') ae ⟨_,_,_,_,_,_,_,b3.mono (k! D')⟩ gi go bo HJ hrz hhz (hA.mono (k! s8)) hF hT hZ
def PlAt(H:Hp)(x:List Int×Th)(a:WS):Prop:=∃pa ua:WS,H a=A? (.tup [.ref pa,.ref ua])/\H pa=A? (.tup (x.1.map o!))/\At H x.2 ua
theorem PlAt.mono(k:KT H H'){x:List Int×Th}(h:PlAt H x a):PlAt H' x a:=by
 obtain⟨pa,ua,h1,h2,h3⟩:=h;exact⟨pa,ua,k _ _ h1,k _ _ h2,h3.mono k⟩
def lq:Nat->Sp
 |0=>λ_ _ _ _=>False
 |n+1=>λvs H Q _=>∃(a pa fd:WS)(t:Th)(outs:List (Xj×Int))(pre:List Int)(as:List WS),vs=[.ref a,.ref pa,.ref fd]/\At H t a/\t.Fit outs/\H pa=A? (.tup (pre.map o!))/\pre.length+t.tall<=100000/\as.length+t.size<=100000/\t.tall<=n+1/\H fd=A? (.lst (as.map i!))/\∀(bs:List WS)(H':Hp),(∀b o,b≠fd->H b=A? o->H' b=A? o)->H' fd=A? (.lst ((as++bs).map i!))->Xv (PlAt H') (t.pl pre) bs->Q .non H'
def hX:Nat->Sp
 |0=>λ_ _ _ _=>False
 |n+1=>λvs H Q _=>∃(a:WS)(t:Th)(outs:List (Xj×Int)),vs=[.ref a]/\At H t a/\t.Fit outs/\t.size<=100000/\t.tall<=n+1/\∀H',j! H H'->Q (.int (t.tall:Nat)) H'
theorem eX{ks:List (Xj×Int)}:∀{ts:List Th},Fits ks ts->∀t∈ts,t.Fit ks
 | t::ts,h,u,hu=>by
   rw[Fits]at h;rcases Xc.mp hu with rfl|hu
   .exact h.1
   .exact eX h.2 u hu
theorem fG:∀n:Nat,FnOk P w K mg base CX0 n T.g_59.f T.g_59.d ["tree","place","found"] (lq n)
 |0=>⟨λ_ _ _ _ h=>h.elim,λ_ _ _ _ _ _ _ _ _ _ _ _ _ h=>h.elim⟩
 | n+1=>by
   have ih:=fG n;refine T.g_59.F.ok fF (λvs H Q E h=>?_) (λzZ A outer s H vs Q E hr h=>?_)
   .obtain⟨a,pa,fd,t,outs,pre,as,rfl,_⟩:=h;rfl
   obtain⟨a,pa,fd,t,outs,pre,as,rfl,hA,hF,Bd,AF,hsz,Ae,Rh,k⟩:=h
   refine⟨_,(ag (aM (bD Xb Xp Xo aH (pv 2) (ac (aQ (ac (pv 1) (ac (pv 0) ad))) ad)))
    (aj (br Xw rfl (lR rfl T.n_11 (ac ai (ac (az aw rfl T.n_6 Xy (ac (pv 0) ad)) ad))) (pgN 3 fF.nd) (aj (aM (cg (ih) (hr.mono (W0 _)) rfl T.g_59.m T.g_59.F.kp T.g_59.b .nil dk (ac (aD aE (pv 0) (pv 3) (λ_ _=>rfl)) (ac (av cP (pv 1) (aQ (ac (av fP (pv 3) ai) ad))) (ac (pv 2) ad))))))))),?_⟩
   try dsimp only[Ak,zY]
   cases t with
   |call sn kn=>rw[z!]at hF;exact hF.elim
   |knot nm ks =>
   rw[z!]at hF;rw[q!]at AF Ae;rw[v!]at hsz;have E5:=hA;rw[At]at E5;refine hid λZZ kZ=>?_;obtain⟨CL,ka,ea,AB⟩:=E5;refine kZ ?_;have Au:ka.length=ks.length:=AB.length;have IM:=bO ks;refine⟨_,Dn,.inl ⟨Dn,_,n! Rh⟩,_,Dn,_,Dn,lnE rfl,λp1 Dy=>?_⟩;refine gU Dy λH1 s1 e1=>?_;have LG:=s1 _ _ Rh;refine⟨fd,_,_,Dn,Dn,LG,lbE (by lia),?_⟩;have k2:KT H1 (upd H1 fd (.lst (as.map i!++[.ref p1]))):=aY LG
   have f2:∀b o,b≠fd->H b=A? o->(upd H1 fd (.lst (as.map i!++[.ref p1]))) b=A? o:=λb o hb e=>by
    rw[af hb];exact s1 _ _ e
   have e2:(upd H1 fd (.lst (as.map i!++[.ref p1]))) fd=A? (.lst ((as++[p1]).map i!)):=uAE;have Bj:PlAt (upd H1 fd (.lst (as.map i!++[.ref p1]))) (pre,.knot nm ks) p1:=PlAt.mono k2 ⟨pa,a,e1,s1 _ _ Bd,hA.mono (k! s1)⟩;generalize(upd H1 fd (.lst (as.map i!++[.ref p1])))=H2 at f2 e2 Bj |-;have DA:∀{b:WS}{xs:List V},H b=A? (.tup xs)->b≠fd:=λe=>aA e Rh (λz=>nomatch z);refine⟨_,Dn,a,_,Dn,.inr (l! (f2 _ _ (DA ea) ea)),_,_,Dn,⟨by decide,by decide,by lia,?_⟩,?_⟩
   .rw[W8,WO];lia
   refine cj (λi Y H3=>Ex2 λ(c:Option V)(bs:List WS)=>An4 (Y=[A? (.ref a),A? (.ref pa),A? (.ref fd),c]) ((∀b o,b≠fd->H b=A? o->H3 b=A? o)) (H3 fd=A? (.lst ((as++bs).map i!))) (Xv (PlAt H3) ((pre,r! nm ks)::pls pre 0 (ks.take i)) bs)) ⟨B?,[p1],rfl,f2,e2,?_⟩ ?_ ?_
   .rw[Zm,pls];exact .cons Bj .nil
   .rintro i Y H3 hi ⟨c,bs,rfl,f3,e3,DU⟩
    have Ce:i<ks.length:=by
     rw[W8,WO,Au]at hi;lia
    refine hid λZZ kZ=>?_;obtain⟨u,hu⟩:∃u,ks[i]?=A? u:=⟨_,WQ Ce⟩;obtain⟨ua,M3,atu⟩:=AB.at hu;refine kZ ?_;have TN:u∈ks:=WT hu;have htu:=ce TN;have k3:KT H H3:=λb xs e=>f3 _ _ (DA e) e
    have Bm:bs.length=1+ar (ks.take i):=by
     have:=W9 DU;rw[W8,nM]at this;lia
    have BV:ar (ks.take i)+u.size<=ar ks:=by
     have h1:ar (ks.take (i+1))<=ar ks:=gP _ _;rw[X5,hu]at h1
     have h2:ar (ks.take i++[u])=ar (ks.take i)+u.size:=by
      have h3:∀l:List Th,ar (l++[u])=ar l+u.size:=λl=>by
       induction l with
       |nil=>simp[ar]
       |cons x l ih=>rw[YC,ar,ar,ih];lia
      exact h3 _
     have h3:(Option.some u).toList=[u]:=rfl;rw[h3,h2]at h1;exact h1
    cases n with
    | zero =>
      have:=u.tall_eq;lia
    |succ n =>
    refine⟨_,Dn,_,Dn,a,_,_,.ref ua,Dn,Dn,l! (k3 _ _ ea),at_nonneg (by lia) (by rw[show(1+(i:Int)).toNat=i+1 by lia,YO,Xd,M3];rfl),?_⟩;refine⟨_,Dn,_,Dn,_,_,Dn,Dn,lnE rfl,λn1 Ke=>?_⟩;refine gU Ke λH4 s4 e4=>?_;refine lO (s4 _ _ (k3 _ _ Bd)) e4 (by rw[WO];show pre.length+1<=1000000;lia) λn2 H5 s5 e5=>?_
    have MN:H5 n2=A? (.tup ((pre++[(i:Int)]).map o!)):=by
     rw[e5,W5,show 1+(i:Int) - 1=(i:Int)by lia];rfl
    have E8:=s4.trans s5;refine⟨_,Dn,ua,n2,fd,u,outs,pre++[(i:Int)],as++bs,Dn,atu.mono (k3.trans (k! E8)),eX hF.2 u TN,MN,by rw[W4];show pre.length+1+u.tall<=100000;lia,by rw[W4];lia,by lia,E8 _ _ e3,λcs H6 f6 e6 K6=>?_⟩;have k6:KT H3 H6:=λb xs e=>f6 _ _ (aA e e3 (λz=>nomatch z)) (E8 _ _ e);refine⟨_,bs++cs,Dn,λb o hb e=>f6 _ _ hb (E8 _ _ (f3 _ _ hb e)),by rw[<-X7];exact e6,?_⟩;rw[X5,hu];show Xv (PlAt H6) ((pre,r! nm ks)::pls pre 0 (ks.take i++[u])) _;rw[pj,XC,Nat.min_eq_left (by lia),Int.zero_add,<-YC];exact p! (w! (λ_ _ e=>PlAt.mono k6 e) DU) K6
   .rintro Y H3 ⟨c,bs,rfl,f3,e3,DU⟩;refine k bs H3 f3 e3 ?_;rw[Th.pl]
    have e:ks.take ((((F! nm::ka.map i!).length:Nat):Int) - 1).toNat=ks:=by
     rw[W8,WO,Au];exact Yi (by lia)
    rw[e]at DU;exact DU
theorem iE:∀n:Nat,FnOk P w K mg base CX0 n T.g_60.f T.g_60.d ["tree"] (hX n)
 |0=>⟨λ_ _ _ _ h=>h.elim,λ_ _ _ _ _ _ _ _ _ _ _ _ _ h=>h.elim⟩
 | n+1=>by
   have ih:=iE n;refine T.g_60.F.ok nh (λvs H Q E h=>?_) (λzZ A outer s H vs Q E hr h=>?_)
   .obtain⟨a,t,outs,rfl,_⟩:=h;rfl
   obtain⟨a,t,outs,rfl,hA,hF,hsz,Ae,k⟩:=h;refine⟨_,(aj (ax (av bz ai (az (iI rfl) rfl T.n_8 Zq (ac (av gI (bZ (N:=["kid"]) (js:=[B?]) (g:=(ay 0)) (tt:=bE) (te:=(kF (hX _) [] E0 (bP (bt 0) gb))) rfl (cy rfl (by decide +kernel) (by decide +kernel) rfl rfl rfl) (dJ (aX fJ (pv 0) (bj ai) bp)) (λ_ _ _ _ _ _=>(pgN 0 uY)) (aV rfl) (λ_ _ _ _ _ _=>bT) (λ_ _ _ _ _ _=>(cg (ih) (hr.mono (W0 _)) rfl T.g_60.m T.g_60.F.kp T.g_60.b .nil dk (ac (pv 0) ad)))) (aN (ac ai ad))) ad))))),?_⟩
   try dsimp only[Ak,zY]
   cases t with
   |call sn kn=>rw[z!]at hF;exact hF.elim
   |knot nm ks =>
   rw[z!]at hF;rw[q!]at Ae;rw[v!]at hsz;rw[At]at hA;refine hid λZZ kZ=>?_;obtain⟨CL,Bs,ea,BH⟩:=hA;refine kZ ?_;have DV:Bs.length=ks.length:=BH.length;have IM:=bO ks;refine⟨_,Dn,1,Dn,a,_,Dn,l! ea,?_,λp2 Bj=>?_⟩
   .rintro⟨z,_⟩;rw[W8,show(1:Int)=((1:Nat):Int)by rfl,y!]at z;lia
   dsimp only;rw[dH];refine gU Bj λH1 s1 e1=>?_;refine⟨p2,Dn,⟨_,l! e1⟩,jm ks (λo:Th=>o! (o.tall:Nat)) (l! e1) (by rw[WO];exact DV.symm) (by rw[WO];lia) (λi x z Hx R W' hx hz sx hR=>?_) (λD4 H4 hD4 s4 e4=>?_)⟩
   .obtain⟨e,rfl,he⟩:=bq hx;obtain⟨u,hu,hAu⟩:=BH.get he;rw[hz]at hu;cases hu;have Ri:=WT hz;have hzt:=ce Ri;have Gj:=fY Ri;cases n with
    |zero=>have:=z.tall_eq;lia
    |succ n =>
    exact⟨_,Dn,e,z,outs,Dn,hAu.mono (k! (s1.trans sx)),eX hF.2 z Ri,by lia,by lia,λH5 s5=>hR H5 s5⟩
   refine⟨lnE rfl,λzl Fv=>?_⟩;have s5:=am Fv (.lst [.int 0]);refine⟨D4,zl,_,_,Dn,Dn,s5 _ _ e4,ae,ba (by rw[WO];show ks.length+1<=1000000;lia),λcl Af=>?_⟩;have s6:j! H _:=s1.trans (s4.trans (s5.trans (am Af (.lst (ks.map (λt:Th=>o! (t.tall:Nat))++[.int 0])))))
   have e6:(upd (upd H4 zl (.lst [.int 0])) cl (.lst (ks.map (λt:Th=>o! (t.tall:Nat))++[.int 0]))) cl=A? (.lst (((ks.map λt:Th=>((t.tall:Nat):Int))++[0]).map o!)):=by
    rw[ae,W5,Zd];rfl
   generalize(upd (upd H4 zl (.lst [.int 0])) cl (.lst (ks.map (λt:Th=>o! (t.tall:Nat))++[.int 0])))=H6 at s6 e6 |-;refine⟨cl,(ks.map λt:Th=>((t.tall:Nat):Int))++[0],Dn,n! e6,by simp,λM hM Ic=>⟨_,_,Dn,Dn,?_⟩⟩;have QV:=lC hM Ic;subst QV;have:=k H6 s6;rw[q!]at this;rw[show(1:Int)+((aB ks:Nat):Int)=((aB ks+1:Nat):Int)by lia];exact this
inductive iu(K:WW)(vs:List V)(H:Hp)(Q:VK)(_E:XK):Prop
 |mk (b ta pa:WS) (ins outs:List (Xj×Int)) (head:Th) (rows:List (List Th)) (t p1 k1:Th) (place:List Int):vs=[.ref b,.ref ta,.ref pa]->Bk H ins outs head rows b->aL ins->At H t ta->H pa=A? (.tup (place.map o!))->Res ins rows head (.knot (W6 "") [t]) p1 k1->Pk ins rows p1 k1 place B?->(∀H',j! H H'->Q (.bl C?) H')->iu K vs H Q _E
def dj:Nat->Sp
 |0=>λ_ _ _ _=>False
 |n+1=>λvs H Q _=>∃(b ta pa oa:WS)(ins outs:List (Xj×Int))(S:Int)(head:Th)(rows:List (List Th))(t p o:Th),vs=[.ref b,.ref ta,.ref pa,.ref oa]/\Bk H ins outs head rows b/\aL ins/\aL outs/\At H t ta/\At H p pa/\At H o oa/\p.FitS outs S 1/\Out ins rows p (.knot (W6 "") [t]) o/\o.Fit outs/\o.size<=2000/\o.tall<=150/\p.tall+7<=n+1/\∀H',j! H H'->Q (.bl C?) H'
theorem uw:∀(r:List Int)(p k o u:Th),Out ins rows p k o->o.sub r=A? u->∃p1 k1 n us,Res ins rows p k p1 k1/\u=.knot n us/\Pk ins rows p1 k1 r (A? n)/\Pk ins rows p1 k1 (r++[(us.length:Int)]) B?
 | [],p,k,o,u,ho,hs=>by
   rw[nI]at hs;cases hs;cases ho with
   |mk r os=>exact⟨_,_,_,_,r,Dn,.nil _ _ _,.bad (by rw[os.length];lia)⟩
 | i::r,p,k,o,u,ho,hs=>by
   rw[Th.sub]at hs;split at hs
   .rename_i h0
    cases ho with
    | mk rs os =>
      rename_i Dq
      split at hs
      .rename_i v hv
       have hl:=os.length;have hj:=(glE hv);have Bb:i.toNat<_:=hj;rw[Th.kids,hl]at Bb;have hg:=WQ Bb;refine hid λZZ kZ=>?_;obtain⟨p1,k1,n,us,h1,h2,h3,h4⟩:=uw r _ _ _ u (os.get i.toNat hg hv) hs;refine kZ ?_;exact⟨_,_,n,us,rs,h2,.step h0 hg h1 h3,.step h0 hg h1 h4⟩
      .cases hs
   .cases hs
theorem nO:FnOk P w K mg base CX0 7 T.g_61.f T.g_61.d ["book","tree","place"] (iu K):=by
 refine T.g_61.F.okA eI λzZ A outer s H vs Q E hr h=>?_;obtain⟨b,ta,pa,ins,outs,head,rows,t,p1,k1,place,rfl,hb,gi,ht,hp,hr1,hk,q⟩:=h
 refine⟨_,(ag (ao 3 eI.nd ji)
  (ag (wj (Ch:=T.e_NoPlace) (tb:=λR=>(w9 (uK (gG T.e_NoPlace) [] R (bP (bt 0) (bP (bt 1) (bP (bt 2) gb)))))) (ts:=(sR (tC (.bl C?)) (ay 3))) (λZ R=>(aj (aM (vc (kN T) (hr.mono (by first|decide|lia)) rfl T.g_40.m T.g_40.F.kp T.g_40.b .nil (ac (pv 0) (ac (pv 1) (ac (pv 2) ad))))))) (λea oe=>(aj (ao 3 eI.nd ji))) rfl rfl rfl T.x_NoPlace)
  (aj (ax (pv 3))))),?_⟩
 try dsimp only[Ak,zY]
 dsimp only[sR,tC,ay,lP];refine pY (λAA c H2=>An3 (AA=[A? (.ref b),A? (.ref ta),A? (.ref pa),A? (.bl D?)]) (c=.ref T.e_NoPlace) (j! H H2)) (λR' hR=>?_) ?_
 .exact⟨_,Dn,_,Dn,_,Dn,b,ta,pa,ins,outs,head,rows,t,p1,k1,place,B?,Dn,hb,gi,ht,hp,hr1,hk,λn z=>(by cases z),λ_ H2 s2=>hR _ _ _ ⟨rfl,rfl,s2⟩⟩
 .rintro AA c H2 ⟨rfl,rfl,s2⟩;refine⟨_,Dn,⟨T.X_NoPlace,T.hit_NoPlace_NoPlace⟩,?_⟩;exact⟨_,Dn,q H2 s2⟩
theorem di:∀n:Nat,FnOk P w K mg base CX0 n T.g_62.f T.g_62.d ["book","tree","pattern","outcome"] (dj n)
 |0=>⟨λ_ _ _ _ h=>h.elim,λ_ _ _ _ _ _ _ _ _ _ _ _ _ h=>h.elim⟩
 | n+1=>by
   have ih:=di n;refine T.g_62.F.ok gg (λvs H Q E h=>?_) (λzZ A outer s H vs Q E hr h=>?_)
   .obtain⟨b,ta,pa,oa,ins,outs,S,head,rows,t,p,o,rfl,_⟩:=h;rfl
   obtain⟨b,ta,pa,oa,ins,outs,S,head,rows,t,p,o,rfl,hb,gi,go,ht,hA,hO,hf,AU,LH,hsz,Ae,hn,k⟩:=h;have hn7:7<=n:=by have:=p.tall_eq;lia
   refine⟨_,(ag (cb (aI gA (aD aE (pv 2) ai (λ_ _=>rfl)) dh (aK _)) (aj (ax (eT (x9 (B:=150) (eh hr)) (cg (nU T) (hr.mono (hn7)) rfl T.g_25.m T.g_25.F.kp T.g_25.b .nil dk (ac (pv 0) (ac (aD aE (pv 2) ai (λ_ _=>rfl)) (ac (pv 1) ad)))) (pv 3) (aK _)))) bx)
    (ag (cb (PW.pt (jB (aI ml (aD aE (pv 2) ai (λ_ _=>rfl)) (aD aE (pv 3) ai (λ_ _=>rfl)) (aK _)) (gM (aI ml (az aw rfl T.n_6 Xy (ac (pv 2) ad)) (az aw rfl T.n_6 Xy (ac (pv 3) ad)) (aK _))))) (aj (ax ji)) bx)
    (aj (ax (az (vi rfl) rfl T.n_0 PyProof.Rows.boot_all (ac (bZ (N:=["k","book","tree","pattern","outcome"]) (js:=[B?,A? 0,A? 1,A? 2,A? 3]) (g:=(ay 0)) (tt:=bE) (te:=(kF (dj _) [] E0 (bP (bt 1) (bP (bt 2) (bP (tOp (nn K) (bt 3) (bt 0)) (bP (tOp (nn K) (bt 4) (bt 0)) gb)))))) rfl (cy rfl (by decide +kernel) (by decide +kernel) rfl rfl rfl) (lR rfl T.n_11 (ac ai (ac (az aw rfl T.n_6 Xy (ac (pv 2) ad)) ad))) (λ_ _ _ _ _ _=>(pgN 0 zf)) (aV rfl) (λ_ _ _ _ _ _=>bT) (λ_ _ _ _ _ _=>(cg (ih) (hr.mono (W0 _)) rfl T.g_62.m T.g_62.F.kp T.g_62.b .nil dk (ac (pv 1) (ac (pv 2) (ac (aD aE (pv 3) (pv 0) (λ_ _=>rfl)) (ac (aD aE (pv 4) (pv 0) (λ_ _=>rfl)) ad))))))) ad)))))),?_⟩
   try dsimp only[Ak,zY]
   cases p with
   | call sn cn =>
     rw[G!]at hf;have MU:cn=0:=by lia
     subst MU;rw[At]at hA;refine⟨_,Dn,pa,_,0,.str q,Dn,Dn,l! hA,at0,Dn,_,Dn,?_⟩;refine cq (λ_=>?_) (λc=>g! (d! rfl) c);refine⟨_,Dn,_,Dn,pa,_,1,.int sn,Dn,Dn,l! hA,at1,_,Dn,b,ta,ins,outs,head,rows,sn,t,o,Dn,hb,gi,go,ht,AU,LH,⟨hsz,Ae⟩,λr H2 s2 MR=>?_⟩
     obtain⟨m,os,rfl⟩:∃m os,o=.knot m os:=by
      cases o with
      |knot m os=>exact⟨m,os,Dn⟩
      |call a b=>rw[z!]at LH;exact LH.elim
     have d1:=MR.dv;have d2:=(hO.mono (k! s2)).dv;rw[M!]at d1 d2
     have EK:bw (.str m::dvs os)<=150:=by
      have h4:=fz os;rw[q!]at Ae;rw[bw,I!];lia
     refine⟨_,Dn,_,_,d1,d2,EK,λbb G'=>?_⟩;have e:bb=true:=G'.mpr rfl;subst e;exact k H2 s2
   | knot m ts =>
     refine hid λZZ kZ=>?_;obtain⟨os,rfl,Bi⟩:=AU.unknot;have hol:=Bi.length;rw[G!]at hf;rw[q!]at hn;have Mt:=hA;rw[At]at Mt;obtain⟨MQ,Bs,ea,BH⟩:=Mt;have TQ:=hO;rw[At]at TQ;obtain⟨_,Ap,eo,TR⟩:=TQ;refine kZ ?_;have DV:Bs.length=ts.length:=BH.length;have Rj:Ap.length=os.length:=TR.length;rw[z!]at LH;rw[v!]at hsz;rw[q!]at Ae;have hoz:=bO os;refine⟨_,Dn,pa,_,0,.str m,Dn,Dn,l! ea,at0,Dn,_,Dn,?_⟩;refine cq (λc=>g! (e! c) (λz=>MQ (V.str.inj z))) (λ_=>?_);refine⟨_,Dn,pa,_,0,.str m,Dn,Dn,l! ea,at0,_,Dn,oa,_,0,.str m,Dn,Dn,l! eo,at0,Dn,_,Dn,?_⟩;refine cq (λc=>by simp at c) (λ_=>?_);refine⟨_,Dn,pa,_,Dn,.inr (l! ea),_,Dn,oa,_,Dn,.inr (l! eo),Dn,_,Dn,?_⟩;refine cq (λc=>?_) (λ_=>?_)
     .rw[W8,W8,WO,WO,DV,Rj,hol]at c;simp at c
     refine⟨_,Dn,pa,_,Dn,.inr (l! ea),_,_,Dn,⟨by decide,by decide,by lia,by rw[W8,WO];lia⟩,?_⟩;intro D hD;have TU:(((F! m::Bs.map i!).length:Int) - 1).toNat=ts.length:=by rw[W8,WO,DV];lia
     refine⟨ts.length,λj H3=>An3 (j<=ts.length) (j! H H3) (H3 D=A? (.lst ((XU j C?).map V.bl))),⟨XA _,am hD _,ae⟩,?_⟩;rintro j H3 ⟨hj,s3,eD⟩;by_cases Dw:j=ts.length
     .left;refine⟨(by show(((F! m::Bs.map i!).length:Int) - 1).toNat<=j;rw[TU,Dw];exact W0 _),?_⟩;refine⟨D,XU j C?,Dn,n! eD,?_⟩;have hk:=k H3 s3;rw[show(XU j C?).all id=C? by simp];exact hk
     .right;have Bb:j<ts.length:=by lia
      refine⟨Bb,(by show j<(((F! m::Bs.map i!).length:Int) - 1).toNat;rw[TU];exact Bb),?_⟩;rintro x' H4 ⟨e1,e2⟩;have F9:H4=H3:=e1;subst F9;refine hid λZZ kZ=>?_;obtain⟨f,B5⟩:∃f,ts[j]?=A? f:=⟨_,WQ Bb⟩;obtain⟨g,hg⟩:∃g,os[j]?=A? g:=⟨_,WQ (by lia)⟩;obtain⟨fa,KP,atf⟩:=BH.at B5;obtain⟨ga,hga,atg⟩:=TR.at hg;refine kZ ?_;have TV:f∈ts:=WT B5;have IU:g∈os:=WT hg;have h1:=ce TV;have h2:=fY IU;have h3:=ce IU;have C5:x'=o! (1+(j:Int)):=e2;subst C5;cases n with
      |zero=>lia
      |succ n =>
      refine⟨_,Dn,_,Dn,_,Dn,_,Dn,pa,_,_,.ref fa,Dn,Dn,l! (s3 _ _ ea),at_nonneg (by lia) (by rw[show(1+(j:Int)).toNat=j+1 by lia,YO,Xd,KP];rfl),?_⟩;refine⟨_,Dn,_,Dn,oa,_,_,.ref ga,Dn,Dn,l! (s3 _ _ eo),at_nonneg (by lia) (by rw[show(1+(j:Int)).toNat=j+1 by lia,YO,Xd,hga];rfl),?_⟩;refine⟨b,ta,fa,ga,ins,outs,S,head,rows,t,f,g,Dn,hb.mono (k! s3),gi,go,ht.mono (k! s3),atf.mono (k! s3),atg.mono (k! s3),mW hf.2 f TV,Bi.get j B5 hg,eX LH.2 g IU,by lia,by lia,by lia,λH5 s5=>?_⟩;have eD5:=s5 _ _ eD;refine⟨_,eD5,bc (by rw[WO,List.length_replicate];lia),Bb,aC (s3.trans s5) hD,?_⟩;rw[ae,List.replicate_succ',W5];rfl
theorem oG{ks:List (Xj×Int)}{C:Int}(g:aL ks):∀n:Nat,(∀t:Th,t.size<=n->t.FitS ks S C->(t.walk.filter D!).length=t.kn)/\(∀ts:List Th,ar ts<=n->FitSs ks S C ts->((walks ts).filter D!).length=kns ts):=by
 intro n;induction n with
 | zero =>
   refine⟨λt h=>?_,λts h _=>?_⟩
   .have:=size_pos t;lia
   .cases ts with
    |nil=>rw[walks,kns];rfl
    | cons t ts =>
      rw[ar]at h;have:=size_pos t;lia
 | succ n ih =>
   have one:∀t:Th,t.size<=n+1->t.FitS ks S C->(t.walk.filter D!).length=t.kn:=λt hn h=>by
    cases t with
    |call s k=>rw[Th.walk,Th.kn];rfl
    | knot nm ts =>
      rw[G!]at h;rw[v!]at hn;have hs:nm≠star:=uC (g.low _ h.1).1
      have e:(r! nm ts).isKnot=true:=by
       show(!false && !(decide (nm=star/\ts=[])))=C?;rw[c! (λz=>hs z.1)];rfl
      rw[Th.walk,List.filter_cons,b! e,W8,ih.2 ts (by lia) h.2,Th.kn]
   refine⟨one,λts=>?_⟩;induction ts with
   |nil=>intro _ _;rw[walks,kns];rfl
   | cons t ts ih2 =>
     intro h hf;rw[ar]at h;rw[FitSs]at hf;rw[walks,kns,List.filter_append,W4,one t (by lia) hf.1,ih2 (by lia) hf.2]
theorem rR{ks:List (Xj×Int)}{C:Int}(g:aL ks)(h:p.FitS ks S C)(hz:p.size<=10000)(ht:p.tall<=150):PatS p:=⟨hz,ht,(oG g _).1 p (W0 _) h⟩
inductive qA(K:WW)(tp:WS)(vs:List V)(H:Hp)(Q:VK)(_E:XK):Prop
 |mk (a:WS) (ns:List Int):vs=[.ref a]->SqL K H a (ns.map o!)->ns.length<=63->H tp=A? (.tbl #[])->(∀H',Q (.bl C?) H')->qA K tp vs H Q _E
def qB(e:Xj×List Nat):Dv:=.tup (.str e.1::e.2.map λ(i:Nat)=>Dv.int (i:Nat))
theorem rW:∀ns:List Nat,DAts H (ns.map λ(i:Nat)=>Dv.int (i:Nat)) (ns.map nV)
 | []=>.nil
 |n::ns=>.cons (by rw[DAt];rfl) (rW ns)
theorem nw:∀{To:List (Xj×List Nat)}{cs:List WS},Xv (EnA H) To cs->DAts H (To.map qB) (cs.map i!)
 |_,_,.nil=>.nil
 |_,_,.cons (a:=e) (b:=b) h t=>.cons (by unfold qB;rw[DAt];exact⟨b,_,Dn,h,.cons (by rw[DAt]) (rW e.2)⟩) (nw t)
theorem mI:∀ns:List Nat,bw (ns.map λ(i:Nat)=>Dv.int (i:Nat))=0
 | []=>by rw[YS,bw]
 |n::ns=>by rw[XG,bw,mI ns,I!];rfl
theorem mC:∀To:List (Xj×List Nat),bw (To.map qB)<=1
 | []=>by rw[YS,bw];lia
 | e::To=>by
   have:=mC To;rw[XG,bw];unfold qB;rw[I!,bw,mI,I!];unfold qB at this;lia
mutual
theorem eE{ks:List (Xj×Int)}:∀{t:Th},t.Fit ks->∀p∈t.walk,∃m us,p=.knot m us/\∃i,(m,i)∈ks
 |.call _ _,h,_,_=>by rw[z!]at h;exact h.elim
 | .knot n ts,h,p,hp=>by
   rw[z!]at h;rw[Th.walk]at hp;rcases Xc.mp hp with rfl|hp
   .exact⟨n,ts,Dn,_,h.1⟩
   .exact jA h.2 p hp
theorem jA{ks:List (Xj×Int)}:∀{ts:List Th},Fits ks ts->∀p∈walks ts,∃m us,p=.knot m us/\∃i,(m,i)∈ks
 | [],_,p,hp=>by rw[walks]at hp;cases hp
 | t::ts,h,p,hp=>by
   rw[Fits]at h;rw[walks]at hp;rcases W7.mp hp with hp|hp
   .exact eE h.1 p hp
   .exact jA h.2 p hp
end
inductive kI(tp:WS)(vs:List V)(H:Hp)(Q:VK)(_E:XK):Prop
 |mk (b ta:WS) (ins outs:List (Xj×Int)) (S:Int) (dp:Nat) (head:Th) (rows:List (List Th)) (t o:Th):vs=[.ref b,.ref ta]->ShI H ins outs S dp head rows t b ta o->TabSt H tp (i5 aP) lL->o.tall<=150->(∀(r ra:WS)(cs:List WS)(To:List (Xj×List Nat))(ix:Nat)(H':Hp),SameT tp H H'->TabSt H' tp (i5 aP) lL->H' r=A? (.tup [.ref ra,.int (ix:Nat)])->H' ra=A? (.tup (cs.map i!))->Xv (EnA H') To cs->Cl To (post o [])->(post o [])[ix]?=A? o->Q (.ref r) H')->kI tp vs H Q _E
theorem ShI.mv{dp:Nat}{head:Th}{t o:Th}(h:ShI H ins outs S dp head rows t b ta o)(k:KT H H'):ShI H' ins outs S dp head rows t b ta o:=by
 have c:=h.cnt;exact⟨⟨c.bk.mono k,c.gi,c.ok0,c.hdf,c.le,c.pat,c.hd,c.tr.mono k,c.fit,c.tall,c.size⟩,h.out,h.al,h.cs⟩
theorem yg{E F:List (Xj×List Nat)}(h:Cl E Ts)(g:Cl F Ts):E=F:=by
 refine List.ext_getElem? λi=>?_;by_cases hi:i<E.length
 .have hj:i<F.length:=by rw[g.len,<-h.len];exact hi
  rw[WQ hi,WQ hj];refine hid λZZ kZ=>?_;obtain⟨k1,a1,b1⟩:=h.ent i _ (WQ hi);obtain⟨k2,a2,b2⟩:=g.ent i _ (WQ hj);refine kZ ?_;rw[a1]at a2;injection a2 with a2;injection a2 with a3 a4;subst a4;exact h! A? (Prod.ext a3 (ny h.nd (w! (λ_ _ z=>z.2) b1) (w! (λ_ _ z=>z.2) b2)))
 .rw[Yb (by lia),Yb (by rw[g.len,<-h.len];lia)]
theorem mr(t:Th):t∈t.walk:=by rw[B!];exact W2 ..
theorem lG:∀(n:Nat),(∀(t:Th)(L:List Th),t.size<=n->∀u∈post t L,u∈L\/u∈t.walk)/\(∀(ts:List Th)(L:List Th),ar ts<=n->∀u∈bf ts L,u∈L\/u∈walks ts):=by
 intro n;induction n with
 | zero =>
   refine⟨λt L h=>?_,λts L h=>?_⟩
   .have:0<t.size:=by cases t <;> (rw[v!];lia)
    lia
   .cases ts with
    |nil=>intro u hu;rw[bf]at hu;exact .inl hu
    |cons t ts=>rw[ar]at h;have:0<t.size:=by{cases t <;> (rw[v!];lia)};lia
 | succ n ih =>
   have h1:∀(t:Th)(L:List Th),t.size<=n+1->∀u∈post t L,u∈L\/u∈t.walk:=λt L h u hu=>by
    have hk:ar t.kids<=n:=by
     cases t with
     |call s k=>rw[Th.kids,ar];lia
     |knot m ks=>rw[v!]at h;rw[Th.kids];lia
    have hw:u∈bf t.kids L\/u=t:=by
     rw[post_eq]at hu;split at hu
     .exact .inl hu
     .rcases W7.mp hu with hu|hu
      .exact .inl hu
      .exact .inr (WY.mp hu)
    rcases hw with hw|rfl
    .rcases ih.2 _ L hk u hw with h|h
     .exact .inl h
     .exact .inr (by rw[B!];exact WR _ h)
    .exact .inr (mr _)
   refine⟨h1,λts=>?_⟩;induction ts with
   |nil=>intro L _ u hu;rw[bf]at hu;exact .inl hu
   | cons t ts NG =>
     intro L h u hu;rw[ar]at h;rw[bf]at hu;rw[walks];rcases NG _ (by lia) u hu with h2|h2
     .rcases h1 t L (by lia) u h2 with h3|h3
      .exact .inl h3
      .exact .inr (Xg _ h3)
     .exact .inr (Xl _ h2)
theorem tS{t u:Th}(h:u∈post t []):u∈t.walk:=by
 rcases(lG t.size).1 t [] (W0 _) u h with h|h
 .cases h
 .exact h
theorem sM{p0:Th}(h:p∈p0.walk):p.size<=p0.size:=by
 obtain⟨i,hi⟩:=Xk.mp h;have e:walks [p0]=p0.walk:=by simp[walks]
 obtain⟨r,hr⟩:=fZ _ [p0] (W0 _) i p (by rw[e];exact hi);have:=h! Y3 hr;rw[e,XJ,W4,p0.walk_len,p.walk_len]at this;lia
theorem uV{E:List (Xj×List Nat)}(c:Cl E Ts){N:Nat}(h:∀u∈Ts,u.size<=N):∀e∈E,e.2.length<=N:=λe he=>by
 refine hid λZZ kZ=>?_;obtain⟨i,hi⟩:=Xk.mp he;obtain⟨kids,h1,h2⟩:=c.ent i e hi;refine kZ ?_;have h3:=h _ (WT h1);rw[v!]at h3;have h4:=bO kids;have h5:e.2.length=kids.length:=W9 h2;lia
theorem j8(L:Lam mg base T.g_45.tc T.g_45.tp):FnOk P w K mg base CX0 9 T.g_45.f T.g_45.d ["book","tree"] (kI T.g_45.tp) :=
 (sf T L).x0 λvs H Q E h=>by
  obtain⟨b,ta,ins,outs,S,dp,head,rows,t,o,rfl,I,HQ,hle,q⟩:=h;exact⟨b,ta,ins,outs,S,dp,head,rows,t,o,Dn,I,HQ,λ_=>q,λhn=>g! hle hn⟩
theorem xJ(L:Lam mg base T.g_45.tc T.g_45.tp):FnOk P w K mg base CX0 170 T.g_63.f T.g_63.d ["script"] (qA K T.g_45.tp):=by
 refine T.g_63.F.okA eO λzZ A outer s H vs Q E hr h=>?_;obtain⟨a,ns,rfl,hS,C4,BM,k⟩:=h
 refine⟨_,(ag (de (pcF T.g_58 (jI T) hr (ac (pv 0) (ac ai (ac ai ad)))) (bh rfl (au (pgN 1 eO.nd) (au (pgN 2 eO.nd) aT))))
  (ag (ao 3 eO.nd (pcF T.g_37 (oI T) hr (ac (pv 1) (ac (pv 2) ad))))
  (ag (ao 4 eO.nd (pcF T.g_38 (ir T) hr (ac (pv 1) (ac (pv 2) ad))))
  (ag (cb (PW.pt (jB (aI cN (pv 3) ai (aK _)) (gM (aI cN (pv 4) ai (aK _))))) (aj (ax ji)) bx)
  (ag (ao 5 eO.nd (pcF T.g_24 (tK T) hr (ac (pv 1) (ac (pv 2) ad))))
  (ag (ao 6 eO.nd (aN ad))
  (ag (aM (pcF T.g_59 (fG T 150) hr (ac (pv 5) (ac (aQ ad) (ac (pv 6) ad)))))
  (ag (cb (PW.pt (jB (aI ml (az aw rfl T.n_6 Xy (ac (pv 6) ad)) (pv 3) (aK _)) (jB (aI ml (pcF T.g_60 (iE T 150) hr (ac (pv 5) ad)) (pv 4) (aK _)) (gM (aI (tV (B:=150) (eh hr)) (pcF T.g_45.1 (j8 T L) hr (ac (pv 1) (ac (pv 2) ad))) (pcF T.g_44 (lD T) hr (ac (pv 5) ad)) (aK _)))))) (aj (ax ji)) bx)
  (ag (cb (aI (tV (B:=150) (eh hr)) (pcF T.g_46 (oT T) hr (ac (pcF T.g_45.1 (j8 T L) hr (ac (pv 1) (ac (pv 2) ad))) ad)) (pv 5) (aK _)) (aj (ax ji)) bx)
  (ag (br Xw rfl (cT (pv 6)) (bh rfl (au (pgN 7 eO.nd) (au (pgN 8 eO.nd) aT))) (aj (cb (PW.pt (jB (aI ml (pcF T.g_40 (qu T) hr (ac (pv 1) (ac (pv 2) (ac (pv 7) ad)))) (aD aE (pv 8) ai (λ_ _=>rfl)) (aK _)) (gM (uT (bH (pcF T.g_61 (nO T) hr (ac (pv 1) (ac (pv 2) (ac (av cP (pv 7) (aQ (ac (av fP (az aw rfl T.n_6 Xy (ac (pv 8) ad)) ai) ad))) ad)))) (λ_=>rfl)))))) (aj (ax ji)) bx)))
  (aj (ax (pcF T.g_62 (di T 30) hr (ac (pv 1) (ac (pv 2) (ac (aD aE (pv 1) ai (λ_ _=>rfl)) (ac (pv 5) ad))))))))))))))))),?_⟩
 try dsimp only[Ak,zY]
 refine⟨_,Dn,a,ns,3,2,Dn,hS,C4,by decide,by decide,by decide,by decide,λr b ta ins outs head rows S t H1 s1 er bk gi go bo HJ TY hzh hA hF hT hZ=>?_⟩;refine⟨r,_,Dn,l! er,Dn,_,_,Dn,_,_,Dn,Dn,?_⟩;have hd:((2:Int).toNat)=2:=rfl;rw[hd]at bo;have hht:=bo.hdt
 have Fz:∀row∈rows,∀p∈row,∃C,p.FitS outs S C/\p.tall<=21:=λrow hr p hp=>by
  obtain⟨j,hj⟩:=Xk.mp hp;have Gh:=bo.row row hr;have DK:=(glE hj);obtain⟨kk,hk⟩:∃kk,ins[j]?=A? kk:=⟨_,WQ (by rw[<-Gh.len];exact DK)⟩;obtain⟨h1,h2⟩:=Gh.fit j p kk hj hk;exact⟨_,h1,by lia⟩
 have hR:∀s u p,dQ ins rows head s u p->∃C,p.FitS outs S C:=λs u p hp=>by
  rcases hp with⟨_,rfl,_⟩|⟨_,m,hs,c,j,row,h1,h2,h3,h4⟩
  .exact⟨_,bo.hdf⟩
  .exact(Fz row (WT h3) p (WT h4)).imp λ_ h=>h.1
 have II:rows.length<=3:=by have:=bo.len;lia
 have Ds:=t.walk_len
 have AL:(nz ins rows head t.walk t).length<=900000:=by
  have h1:=wH (ins:=ins) (W:=t.walk) (t:=t) (N:=13) hzh (by decide) TY;have h2:(t.walk.length+1) * ((rows.length+1) * 13)<=301 * (4 * 13):=Nat.mul_le_mul (by lia) (Nat.mul_le_mul (by lia) (W0 _));lia
 have LI:∀h∈[t],h.Fit ins:=λh hh=>by rw[WY.mp hh];exact hF
 obtain⟨o,ho,Ij⟩:=xu bo _ YU [t] (W0 _) LI _ head (W0 _) bo.hdf
 have I1:ShI H1 ins outs S 2 head rows t b ta o:=⟨⟨bk,gi,⟨head,bo⟩,bo.hdf,by lia,λrow hr p hp=>by
  obtain⟨C,h1,h2⟩:=Fz row hr p hp;exact rR go h1 (by have:=TY row hr p hp;lia) (by lia),rR go bo.hdf (by lia) (by lia),hA,hF,by lia,by lia⟩,ho,AL,λs u p hp c hc=>by
  obtain⟨C,h1⟩:=hR s u p hp;have:=fT p [] h1 c hc;exact⟨this.1,this.2.2.1⟩⟩
 have DI:Out ins rows head (.knot (W6 "") [t]) o:=ho;have LJ:=s1 _ _ BM;dsimp only[ay,lP];refine⟨_,Dn,_,Dn,b,ta,ins,outs,S,2,head,rows,t,Dn,I1.cnt,λv1 H2 s2 IY=>?_⟩;have e1:=IY head o (.inl ⟨rfl,rfl,t,rfl⟩) ho;have I2:=I1.mv (k! s2);refine⟨_,Dn,_,Dn,b,ta,ins,outs,S,2,head,rows,t,Dn,I2.cnt,λv2 H3 s3 HE=>?_⟩;have e2:=HE head o (.inl ⟨rfl,rfl,t,rfl⟩) ho;have I3:=I2.mv (k! s3);have LK:=s3 _ _ (s2 _ _ LJ);subst e1;subst e2;clear I1 I2 bk hA IY HE BM LJ s1 s2 s3 er;dsimp only[ay,lP];refine bN (λz H'=>An2 (H3=H') ((z=D?->o.size<=300/\o.tall<=150))) (λk2 AE=>?_) (λH' hb2=>k _) (λH' hb2=>?_)
 .refine⟨_,Dn,_,_,Dn,Dn,_,Dn,?_⟩;refine cq (λc1=>AE _ _ ⟨rfl,λz=>by cases z⟩) (λc1=>?_);have LZ:¬(300:Int)<((o.size:Nat):Int):=λz=>c1 (d! z);refine⟨_,Dn,_,_,Dn,Dn,_,Dn,AE _ _ ⟨Dn,λz=>?_⟩⟩;have:=of_decide_eq_false z;lia
 obtain⟨rfl,hb2⟩:=hb2;obtain⟨Bi,Ik⟩:=hb2 rfl;refine⟨_,Dn,_,Dn,b,ta,ins,outs,head,rows,t,o,Dn,I3.cnt.bk,gi,go,I3.cnt.tr,DI,Ij,⟨by lia,Ik⟩,λoa H4 s4 hO=>?_⟩;have I4:=I3.mv (k! s4);have LL:=s4 _ _ LK;dsimp only[ay,lP];refine⟨lnE rfl,λfd Rk=>?_⟩;dsimp only[ay];refine gU Rk λH5 s5 e5=>?_;have e5:H5 fd=A? (.lst (([]:List WS).map i!)):=e5;refine⟨_,Dn,lnE rfl,λpe TZ=>?_⟩;refine gU TZ λH6 s6 e6=>?_;have e6:H6 pe=A? (.tup (([]:List Int).map o!)):=e6;refine⟨_,Dn,oa,pe,fd,o,outs,[],[],Dn,hO.mono (k! (s5.trans s6)),Ij,e6,(by show 0+o.tall<=100000;lia),(by show 0+o.size<=100000;lia),Ik,s6 _ _ e5,λbs H7 f7 e7 GF=>?_⟩;have s7:j! H4 H7:=λb o e=>f7 _ _ (aq e Rk) (s6 _ _ (s5 _ _ e));have I7:=I4.mv (k! s7);have ES:=s7 _ _ LL;have M4:=hO.mono (k! s7)
 have hnc:∀p∈o.walk,p.isCall=false:=λp hp=>by
  obtain⟨m,us,rfl,_⟩:=eE Ij p hp;rfl
 have Bm:bs.length=o.size:=by rw[<-W9 GF,J!]
 clear I3 I4 s4 s5 s6 e5 e6 f7 hO LK LL Rk TZ s7;dsimp only[ay,lP];refine bN (λz H'=>An3 (z=D?) (SameT T.g_45.tp H7 H') (TabSt H' T.g_45.tp (i5 aP) lL)) (λk2 AE=>?_) (λH' hb=>by cases hb.1) (λH8 hb=>?_)
 .refine⟨_,Dn,fd,_,Dn,.inl (n! e7),_,Dn,Dn,_,Dn,?_⟩;refine cq (λc=>?_) (λ_=>?_)
  .simp[Bm]at c
  refine⟨_,Dn,oa,o,outs,Dn,M4,Ij,by lia,Ik,λH8 s8=>?_⟩;refine⟨_,Dn,Dn,_,Dn,cq (λc=>by simp at c) (λ_=>?_)⟩;refine⟨_,Dn,_,Dn,b,ta,ins,outs,S,2,head,rows,t,o,Dn,I7.mv (k! s8),.inl (s8 _ _ ES),Ik,λr' Ld cs To ix H9 s9 T1 Rl Il EF Dm DD=>?_⟩;have Je:=s9.kt (s8 _ _ ES);refine⟨_,Dn,oa,o,Dn,(M4.mono (k! s8)).mono Je,hnc,by lia,λr2 E9 cs2 To2 ix2 Cv BD Rm LM Rn LN LO=>?_⟩;have hE:=yg Dm LN;subst hE;have hj:=gE Dm.nd DD LO;subst hj;have d1:DAts Cv [.tup (To.map qB),.int (ix:Nat)] [.ref Ld,.int (ix:Nat)]:=.cons (by rw[DAt];exact⟨_,_,Dn,BD _ _ Il,nw (w! (λ_ _ h=>BD _ _ h) EF)⟩) (.cons (by rw[DAt]) .nil);have d2:DAts Cv [.tup (To.map qB),.int (ix:Nat)] [.ref E9,.int (ix:Nat)]:=.cons (by rw[DAt];exact⟨_,_,Dn,LM,nw Rn⟩) (.cons (by rw[DAt]) .nil);refine⟨r',r2,_,_,_,_,Dn,Dn,l! (BD _ _ Rl),l! Rm,d1,d2,?_,λbb G'=>?_⟩
  .have:=mC To;rw[bw,I!,bw,I!,bw];lia
  have e:bb=false:=by
   cases bb with
   |false=>rfl
   |true=>exact g! rfl (G'.mp rfl)
  subst e;exact⟨_,Dn,AE _ _ ⟨Dn,(Same.t s8 _).trans (s9.trans (Same.t BD _)),TabSt.mono BD T1⟩⟩
 obtain⟨_,Ro,M5⟩:=hb;have M6:=Ro.kt ES;have I8:=I7.mv M6;have Im:fd≠T.g_45.tp:=λz=>by rw[z,ES]at e7;cases e7
 have e8:=Ro _ _ Im e7;have Rp:=M4.mono M6;have T2:=w! (λ_ _ h=>PlAt.mono M6 h) GF;dsimp only[vj,lP];refine bN (λz H'=>An2 (z=D?) (SameT T.g_45.tp H8 H')) (λk2 AE=>?_) (λH' hb=>by cases hb.1) (λH9 hb=>?_)
 .refine⟨_,Dn,_,Dn,b,ta,ins,outs,S,2,head,rows,t,o,Dn,I8,M5,Ik,λr' Ld cs To ix H9 s9 T1 Rl Il EF Dm DD=>?_⟩;have FP:∀u∈post o [],u∈o.walk:=λu hu=>tS hu;have AF:=bM Dm.nd FP;rw[o.walk_len]at AF;have Af:=Dm.len;refine⟨r',Ld,cs,To,post o [],ix,o,Dn,Rl,Il,EF,Dm,DD,λu hu=>?_,by lia,λe he=>?_,λa2 Cv BD Rq=>?_⟩
  .obtain⟨m,us,rfl,i,hi⟩:=eE Ij u (FP u hu);exact⟨m,us,Dn,lB (go.low _ hi).1⟩
  .exact uV Dm (λu hu=>by have:=sM (FP u hu);lia) e he
  refine hid λZZ kZ=>?_
  obtain⟨m,os,T3⟩:∃m os,o=.knot m os:=by
   obtain⟨m,us,h,_⟩:=eE Ij o (mr o);exact⟨m,us,h⟩
  have LP:=(Rp.mono (M5.kt s9)).mono (k! BD);rw[T3]at Rq LP;rw[At]at Rq LP;obtain⟨_,as1,ea1,Rr⟩:=Rq;obtain⟨_,MS,Kd,Rt⟩:=LP;refine kZ ?_;have d1:DAts Cv (.str m::dvs os) (.str m::as1.map i!):=.cons (by rw[DAt]) Rr.dvs;have d2:DAts Cv (.str m::dvs os) (.str m::MS.map i!):=.cons (by rw[DAt]) Rt.dvs;refine⟨_,Dn,a2,oa,_,_,_,_,Dn,Dn,l! ea1,l! Kd,d1,d2,?_,λbb G'=>?_⟩
  .have h4:=fz os;have h5:=Ik;rw[T3,q!]at h5;rw[bw,I!];lia
  have e:bb=false:=by
   cases bb with
   |false=>rfl
   |true=>exact g! rfl (G'.mp rfl)
  subst e;exact⟨_,Dn,AE _ _ ⟨Dn,s9.trans (Same.t BD _)⟩⟩
 obtain⟨_,Ru⟩:=hb;have Je:=M5.kt Ru;have I9:=I8.mv Je;have e9:H9 fd=A? (.lst (bs.map i!)):=Ru _ _ Im e8;have LP:=Rp.mono Je;have hp9:=w! (λ_ _ h=>PlAt.mono Je h) T2;clear I7 I8 e7 e8 M4 Rp GF T2 ES M5 Im Je Ru M6 Ro;dsimp only[vj,lP];refine⟨_,Dn,fd,Dn,⟨_,n! e9⟩,?_⟩;refine fL (K:=K) (a:=fd) (xs:=bs.map i!) (λi Y H2=>Ex2 λc7 c8=>An2 (Y=[A? (.ref a),A? (.ref b),A? (.ref ta),A? (.int (o.size:Nat)),A? (.int (o.tall:Nat)),A? (.ref oa),A? (.ref fd),c7,c8]) (j! H9 H2)) ⟨B?,B?,rfl,.refl _⟩ (λi Y H2 _⟨_,_,_,s⟩=>n! (s _ _ e9)) ?_ ?_
 .rintro i y Y Cv hy ⟨c7,c8,rfl,BD⟩;refine hid λZZ kZ=>?_;obtain⟨pr,rfl,hb⟩:=bq hy;obtain⟨x,hx,hpx⟩:=C! hp9 hb;obtain⟨pa,ua,Ft,Bd,M3⟩:=PlAt.mono (k! BD) hpx;obtain⟨pl,u⟩:=x;have hxm:=WT hx;obtain⟨rr,M1,A',hdp,C2⟩:=uM o [] pl u hxm;refine kZ ?_;rw[ZV]at M1;subst M1;refine hid λZZ kZ=>?_;obtain⟨p1,k1,n,us,Bz,rfl,CH,AE⟩:=uw pl _ _ _ u DI A';refine kZ ?_;refine⟨_,_,Dn,l! Ft,Dn,_,_,Dn,_,_,Dn,Dn,?_⟩;rw[At]at M3;refine hid λZZ kZ=>?_;obtain⟨MG,uas,eu,Rv⟩:=M3;refine kZ ?_;have Pt:us.length=uas.length:=Rv.length.symm;have huz:=bO us;rw[v!]at C2;rw[q!]at hdp;have GV:=I9.mv (k! BD);have B7:=GV.cnt;dsimp only;refine bN (λz H'=>An2 (z=D?) (j! H9 H')) (λk2 Rw=>?_) (λH' hb=>by cases hb.1) (λGW hb=>?_)
  .refine⟨_,Dn,_,Dn,_,Dn,b,ta,pa,ins,outs,head,rows,t,p1,k1,pl,n,Dn,B7.bk,gi,B7.tr,Bd,Bz,CH,λGW C9=>?_⟩;refine⟨_,Dn,ua,_,0,.str n,Dn,Dn,l! (C9 _ _ eu),at0,Dn,_,Dn,?_⟩;refine cq (λc=>by simp at c) (λ_=>?_);refine⟨_,Dn,_,Dn,_,Dn,_,Dn,ua,_,Dn,.inr (l! (C9 _ _ eu)),_,_,Dn,Dn,lnE rfl,λn1 Ke=>?_⟩;refine gU Ke λH12 Dk e12=>?_;refine lO (Dk _ _ (C9 _ _ Bd)) e12 (by rw[WO];show pl.length+1<=1000000;lia) λn2 H13 E7 e13=>?_
   have Rx:H13 n2=A? (.tup ((pl++[(us.length:Int)]).map o!)):=by
    rw[e13,W5,W8,WO,<-Pt,show(((us.length+1:Nat):Int) - 1)=(us.length:Int)by lia];rfl
   have GK:=C9.trans (Dk.trans E7);have GL:=k! GK;refine⟨b,ta,n2,ins,outs,head,rows,t,p1,k1,_,Dn,B7.bk.mono GL,gi,B7.tr.mono GL,Rx,Bz,AE,λH14 Lg=>?_⟩;exact⟨C?,Dn,Rw _ _ ⟨Dn,BD.trans (GK.trans Lg)⟩⟩
  obtain⟨_,C9⟩:=hb;exact⟨_,_,Dn,C9⟩
 .rintro Y Cv ⟨c7,c8,rfl,BD⟩;have GV:=I9.mv (k! BD);refine hid λZZ kZ=>?_;obtain⟨ia,oa',Bl,ra,Al,Ap,Aq,T4⟩:=id GV.cnt.bk;refine kZ ?_;refine⟨_,Dn,_,Dn,_,Dn,b,_,2,.ref Bl,Dn,Dn,l! T4.bk,at2,_,Dn,b,ta,Bl,oa,ins,outs,S,head,rows,t,head,o,Dn,GV.cnt.bk,gi,go,GV.cnt.tr,T4.hd,LP.mono (k! BD),bo.hdf,DI,Ij,by lia,Ik,(by show head.tall+7<=30;lia),λGW C9=>k _⟩
end
theorem walk{l:PySem.W.OpenLaw}{q:Xm}{d dt:DefRec}{K:Params->WW}(hn:l.most=A? 63)(hdf:d.params.defaults=[])(hd:d.name="law")(hq:(PyProof.Rows.recsOf q).find? (λe=>e.name == ("shared":Xj))=A? dt)(hY:∀(w:XD)(h:X3),YP w h->(K w.params).In h)
 (F:∀(w:XD)(mg:Xj->Option WV)(h:X3),(K w.params).In h->h.Ns X8 mg->TX (K w.params) mg):PySem.W.WalkO q loose XP YP l.row.toRowW d [] (λf vs=>PySem.call f vs) :=
 L2.uh (n:=63) (k:=170) (x:="script") (tn:="shared") (CX:=λ_=>CX0) (sp:=λw T=>qA (K w.params) T) hn (by decide) hdf ⟨rfl,by decide,by decide⟩ hq hY (λw mg fa h KX G hm=>by
  have T:=F w mg h KX G;obtain⟨_,_,_,_,_,_,_,_,_,e,_⟩:=T.g_63.F.ex;rw[hd]at hm;have e2:T.g_63.f=fa:=(Value.ref.inj (Xh (hm.symm.trans T.g_63.m))).symm;subst e2;exact⟨_,_,_,λs v=>by rw[e];exact .of_eq rfl,T.g_45.t,T.g_45.u,λbase _ _ L=>xJ T L⟩) (λ_ _ _ a ns hl hS hT=>⟨a,ns,rfl,hS,hl,hT,λ_=>rfl⟩) λ_ _ _ _ _ z=>z
end LAW
open PySem PySem.W PyProof.Rows
set_option maxRecDepth 100000 in
theorem PySem.Challenge.cw_boughbook_k27_whole_four_tellings_holds : PySem.Challenge.rw_boughbook_k27_whole_four_tellings.Holds := by
 w_on;(refine holds_law LAW.ws λaa3=>?_);(refine holds_open (q:=LAW.vw) (N:=90000) (loose:=[]) (XP:=XL LAW.vw []) (Yf:=Hook.obs (kHook LAW.d0.heap_1 LAW.ks LAW.ke)) (Ya:=Hook.val (kHook LAW.d0.heap_1 LAW.ks LAW.ke)) (YP:=Hook.says (kHook LAW.d0.heap_1 LAW.ks LAW.ke)) (Xt:=LAW.xt) (HD.sK (by kernel_rfl) (by kernel_rfl) (λ_=>by kernel_rfl) LAW.lk0 LAW.lk1 LAW.lk2 LAW.lk3 LAW.lk4 LAW.lk5 (HD.Pc.k LAW.kp)) (Hook.of (kHook LAW.d0.heap_1 LAW.ks LAW.ke)) (Hook.keeps (kHook LAW.d0.heap_1 LAW.ks LAW.ke)) (λs e=>xl_of s (Bool.and_eq_true_iff.mp e).1) XL.keeps (by rfl) (by rfl) (by rfl) (λs e=>recFacts_of (Bool.and_eq_true_iff.mp e).2) (by rfl) (by assumption) (by decide +kernel) ⟨rfl,rfl,rfl,rfl,rfl,by decide +kernel⟩ ?_ ?_);w_witness2
 k_fill
 exact LAW.walk (l:=PySem.Challenge.rw_boughbook_k27_whole_four_tellings) rfl rfl rfl (by rfl) (λw h Y=>PySem.W.kIn_of Y) λw mg h x g=>by constructor <;> first|exact LAW.fx x g|exact LAW.bn x g|exact by k_is|exact LAW.gn x g|exact LAW.ci x g|exact LAW.na|k_exc|kts_exm|exact LAW.fm|exact LAW.cs x g|exact LAW.ck1 x g|exact LAW.ft x g|exact⟨by k_is,by k_is,by k_is,by k_is⟩|exact⟨by k_is,by k_is⟩
