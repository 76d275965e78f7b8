import PyProof.Rows.All
import Wide.All
import OpenK.AllK
import Wide.FinOn
import Lean
import PyProof.EqAt
import PyProof.EqKinds
import PyProof.TupleCall
import KE.KRevIter
import PyProof.ListNew
import PyProof.Draws
import PyProof.EnumMake
import PyProof.Rows.EnumRows
import PyProof.ZipIter
import PyProof.ConsumeWalk
import KE.LcSums
import PyProof.AttrMissHeap
import KE.KDictOf
import PyProof.DictWalks
import PyProof.ListMulRoad
import PyProof.FactsAll.tuple
import PyProof.NeKinds
import KE.RegKTryMore
import KE.RegKIsAll
import PyProof.StrWalks
import PyProof.Rows.SetFrom
import PyProof.FString5
import Wide.Txt
import PyProof.Rows.SeqMore
import PyProof.StrOps2
import KE.KEqDict
import PyProof.CollectIter
import PyProof.JoinWalk
import PyProof.CallStr
import PyProof.DictRoadsH
import PyProof.MeetsDictList
import PyProof.DictTruth
import PyProof.StrLawsChain
import PyProof.StrCalls6
import PyProof.ToksMono
import PyProof.StrCalls2
import KE.KWords
import PyProof.MeetsStr2
import KE.KLam
import KE.KDictLaws
import PyProof.DictItems
import PyProof.DictValues
import PyProof.DictItemsLoops
import PyProof.ListRange
import PySem.Challenge.RW_boughbook_k64_early_books_shaped
set_option maxHeartbeats 0
set_option Elab.async false
set_option linter.all false
set_option maxRecDepth 100000
set_option genInjectivity false
set_option genSizeOf false
open List renaming length_map->WN,getElem?_eq_getElem->WS,mem_of_getElem?->WT,getElem?_map->WZ,length_cons->W2,size_toArray->W4,mem_cons->W7,map_append->W8,mem_cons_of_mem->Xb,mem_singleton->Xc,length_append->Xd,mem_cons_self->Xe,mem_iff_getElem?->Xi,length_range->Xj,range->Xq,append_nil->Xs,map_cons->Xx,mem_map->Xy,mem_append->XA,mem_append_right->XE,append_assoc->XJ,mem_append_left->XM,length_take->XS,take_add_one->XU,getElem?_range->XY,filter_cons->X0,reverse_cons->X8,take_length->Yh,length_eq_zero_iff->Yi,take_of_length_le->Yn,cons_append->Yo,length_reverse->Yt,getElem?_append_left->Yw,map_map->YA,reverse_append->YD,getElem?_eq_some_iff->YI,lookup_cons->YL,map_nil->YS,getElem?_eq_none->YX,mem_range->YZ,mem_filter->Y0,dropLast_concat_getLast->Y1,reverse_reverse->Y4,getElem?_append_right->Y9,nil_append->Zc,getElem?_zip_eq_some->Zd,take_append_drop->Zf,take_zero->Zk,length->Zu,zip_cons_cons->Zz,filter_append->ZA,length_filter_le->ZE,of_mem_zip->ZL,nodup_cons->ZM,find?_cons->ZN,lookup->ZT,filterMap_cons->Z3,not_mem_nil->Z7,getElem?_cons_succ->Z8,drop_zero->Z9
open PySem renaming wpAny_bind->WO,Addr->WR,Value->WU,wpAny_pure->WX,Shared->WY,Program->W6,wpAny->W9,sizeLine->Xg,Str->Xk,World->Xo,Paired->Xp,model->Xu,boot_len->XD,starEach->XF,Around->XG,wpAny_field->XX,wpAny_callSpecial?_slot->X2,wpAny_Call_Name_kw->X5,wpAny_call_entry->X6,Expr->X7,Heap->Yd,wpAny_newObj_type->Ye,mem_of_lookup->Yl,mainGlobals->Ym,wpAny_specialOf->Yr,builtinLookup_eq_fast->Yv,wpAny_holding->Yy,wpAny_seqItems->YC,cLine->YJ,sysModules->YO,wpAny_updateSeq->YU,tupleKeyHash->YW,eval->YY,typeLookup_type->Y5,wpAny_mono->Y6,rawInt->Y7,Obj->Zb,IsPair->Zi,Builtin->Zq,compareOp->Zt,wpAny_rule->Zw,NameKind->Zy,wpAny_typeOf->ZF,wpAny_isInstance->ZI,wpAny_setField_rec->ZP,wpAny_pyIter_tuple->ZQ,FuncData->ZU,backTo->Z0,Pos->Z2,wpAny_truthy_bool->Z4,Scope->Z5
open PySem.W renaming Frag->WQ,kia_one->YQ,emptyDict->Y8,findIn->Zj,instObj->ZJ,boot_heap->ZR,kitOne->Z6
open PySem.Heap renaming get?_push_of_some->WV,get?_push_size->W5,lt_size->Xa,get?_update_self->XR,get?_update_other->XW,size_push->X3,SameBut->YG
open Nat renaming le_refl->WW,zero_le->Xh,ne_of_lt->XB,le_trans->XC,lt_of_lt_of_le->XO,lt_irrefl->Ys,mul_le_mul_right->Y3,le_add_right->Zh,not_lt_zero->ZK,le_of_lt->ZS
open Bool renaming false_ne_true->W0,and_eq_true->X4,false_eq_true->Yc,eq_false_iff->Yj
open PySem.Paired renaming length->W3
open PySem.F renaming plainAttrs_list->Xf,type_list_append->Xv,slot_list_append->Xw,plain_extend_loop->YH,slot_dict_setdefault->Zn,slot_tuple_hash->Zv,slot_dict_keyiterator_next->Zx,type_list_pop->ZC,slot_list_pop->ZD,type_list_extend->ZW,slot_list_extend->ZX
open PySem.Value renaming ref->Xl,none->Yp,type->Zl
open Option.some renaming inj->Xm
open Sum renaming inl->Xn,inr->Zs
open PySem.PassesOwn renaming never->Xr
open PySem.Str renaming ofString->Xz
open Int renaming toNat_natCast->XH,zero_add->Yq,toNat_of_nonneg->Yu,emod_nonneg->Yx,emod_lt_of_pos->YB
open Option renaming map_eq_some_iff->XI,isSome_iff_exists->ZY
open Array renaming length_toList->XN,getElem?_eq_getElem->Ze
open PyProof.Rows renaming callWith_type1->XQ,slot_tuple_getitem->XT,boot_tuple->XZ,boot_isinstance->Yk
open PySem.Builtin.SmallTypes renaming nextOf->X1,ownedTupleIsFree->X9
open PySem.Builtin.Tuple renaming tupleHashOf->Yb,tupleExact->YN,tupleItemsOf->ZV
open PySem.Obj renaming mapSeq->Yg,data_mapFields->Zm
open PySem.NameKind renaming free->Yz
open PySem.Calls renaming spliced_cons->YE,spliced_nil->Y2
open False renaming elim->YF
open PySem.Builtin.Slice renaming slicePlaces->YK,sliceAdjust->Z1
open Sum.inl renaming inj->YM
open Ne renaming symm->YR
open PySem.Value.type renaming inj->YT
open True renaming intro->YV
open PySem.Builtin.List renaming listExtendWith->Za,listTooLong->Zo,listSameRef->Zp,listLengthHint->ZG,listItems->ZH
open PySem.Heap.SameBut renaming update->Zg
open PySem.AutoSeq1 renaming wpAny_loadPart'->Zr
open ForInStep renaming yield->ZO
open Option renaming some->A?,none->B?
open Bool renaming true->C?,false->CV
theorem D?.{u}{α:Sort u}{a:α}:a=a:=rfl
variable{p a f b it c sl d I z tp l1 l2 i1 i2 ia oa ha ra la:WR}{w:Xo}{m M ns pre:List Int}{h base h':Yd}{α β γ:Type}{loose N ps:List Xk}{as ch fp Ag AE:List WR}{K:WQ}{e tg iter elt:X7}{i t' j n B W:Nat}{x qual p1 p2 p3:Xk}{us its:List WU}{u oc vl vu:WU}{F:α->β->Prop}{P prog:W6}{A:XG}{E Q:WU->WY->Prop}{s:WY}{pos pos':Z2}{pins:List (WR×Zb)}{op:CmpOp}{es ifs elts:List X7}{body:List Stmt}{lo hi:Option Int}{C S S' C':Int}{kw:List (Xk×WU)}{env:Env}{mg:Xk->Option WU}{fd:ZU}{kindOf:Xk->Option Zy}{sc scope:Z5}{params:Arguments}{od:Option WR}{items ys:Array WU}{XP:(Xk->Option WU)->Yd->Prop}{YP:Xo->Yd->Prop}{js:List (Option Nat)}{cl:List (Xk×WR)}{ins outs BX:List (Xk×Int)}
def a!:=@if_neg
def b!:=@if_pos
def c!:=@decide_eq_false
def d!:=@decide_eq_true
def e!:=@of_decide_eq_true
def g!:=@absurd
def h!:=@congrArg
namespace HD
open PySem PySem.W PySem.Calls PyProof.Rows
def kQ(tb:String->Option Zq)(p:W6)(w:Xo)(m:Nat)(ann:Option WU):Nat->SharedT->Thread->Option SharedT
 |0,_,_=>B?
 | n+1,s,t=>match through t with
   |true=>A? s
   | false=>match stepOk m ann t with
     |false=>B?
     | true=>match stepT (denote tb) p w s t with
       |some (s',t')=>kQ tb p w m ann n s' t'
       |none=>B?
theorem lM{tb:String->Option Zq}{p:W6}{m:Nat}{ann:Option WU}:∀{n:Nat}{s s':SharedT}{t:Thread},kQ tb p w m ann n s t=A? s'->topRun tb p w m ann n s.abs t=A? s'.abs
 |0,_,_,_,h=>by cases h
 | n+1,s,s',t,h=>by
   unfold kQ at h;unfold topRun;cases he:through t with
   |true=>rw[he]at h;cases h;rfl
   | false =>
     rw[he]at h;cases hk:stepOk m ann t with
     |false=>rw[hk]at h;cases h
     | true =>
       rw[hk]at h;cases hs:stepT (denote tb) p w s t with
       |none=>rw[hs]at h;cases h
       | some r =>
         obtain⟨s2,t2⟩:=r;rw[hs]at h;rw[stepT_spec hs];exact lM h
def xg:List Zb->Nat->BT->BT
 | [],_,t=>t
 |o::l,n,t=>xg l (n+1) (t.ins n o)
def zb:List Zb->Nat->BT->Bool
 | [],_,_=>C?
 |o::l,n,t=>((t.ins n o).get n).isSome && zb l (n+1) (t.ins n o)
theorem nv:∀(l:List Zb)(n:Nat)(t:BT),zb l n t=C?->(xg l n t).list (n+l.length)=t.list n++l
 | [],n,t,_=>by rw[Xs];rfl
 | o::l,n,t,h=>by
   obtain⟨h1,h2⟩:=Bool.and_eq_true_iff.mp h;have e:=absHeap_ins (life:=default) h1
   have e2:(t.ins n o).list (n+1)=t.list n++[o]:=by
    have:=h! (λx:Yd=>x.objs.toList) e;simpa[absHeap,Heap.push]using this
   have ih:=nv l (n+1) (t.ins n o) h2;rw[e2,XJ]at ih;rw[W2,show n+(l.length+1)=n+1+l.length by lia];exact ih
theorem zY(ok:zb h.objs.toList 0 .nil=C?):absHeap (xg h.objs.toList 0 .nil) h.objs.size h.life=h:=by
 have e:=nv _ _ _ ok;rw[Nat.zero_add]at e;unfold absHeap;rw[<-XN,e];rfl
noncomputable abbrev ox(p:W6)(N:Nat)(w:Xo)(os:OsState):Option SharedT :=
 kQ treeTable p w 11 (A? (.ref 6)) N ⟨xg (ZR w.params).objs.toList 0 .nil,11,(ZR w.params).life,Array.mk [],boot_drawn,boot_toks,os⟩ (topStub p)
theorem yl(P:Params):(zb (ZR P).objs.toList 0 .nil,(ZR P).isNs Ym,(ZR P).objs.size,(ZR P).nsMap Ym "__annotations__")=(C?,C?,11,A? (.ref 6)):=by kernel_rfl
theorem map_some{o:Option α}{a:α}{f:α->β}{b:β}(h:o=A? a)(e:o.map f=A? b):f a=b:=by rw[h]at e;exact Xm e
abbrev Tr0(p q:W6)(loose:List Xk)(Xt:WY->Bool)(N:Nat)(g0:Bool):Prop:=∀(w:Xo)(os:OsState),((ox p N w os).map λs=>(staticsOk (importedModules p.main.body) (ZR w.params) s.abs.heap && namesBound p s.abs.heap && gensDone s.abs && laidKept (ZR w.params) s.abs.heap,s.abs.heap.bltView,pinSeenD q (drecsOf q) s.abs,plainSeenD q loose s.abs,clsSeenW q loose s.abs,(s.abs.heap.accountedOkI (importedModules p.main.body),s.abs.heap.isNs Ym,s.abs.heap.isNs builtinsNs,tablesOk q s.abs.heap,Xt s.abs,(if g0 then s.abs.gens.size == 0 else !leftWithCleanup s.abs.gens))))=A? (C?,bltViewBooted,pinGoodD (drecsOf q),plainGoodD q loose,clsGoodW q loose,(C?,C?,C?,C?,C?,C?))
abbrev Tr1(p q:W6)(N:Nat):Prop:=∀(w:Xo)(os:OsState),((ox p N w os).map λs=>seen ((recsOf q).map (·.name)) (ownsOf q) [] {s.abs with gens:=#[]})=A? (expectedOf q)
abbrev Tr2(p q:W6)(loose:List Xk)(N:Nat):Prop:=∀(w:Xo)(os:OsState),((ox p N w os).map λs=>s.abs.heap.keysOk (looseW q loose) ((recsOf q).map (·.name)) ((litsOf q).map (·.1)) ((clssOf q (looseW q loose)).map (·.name)))=A? C?
abbrev Tr3(p q:W6)(N:Nat):Prop:=∀(w:Xo)(os:OsState),((ox p N w os).map λs=>tabsOk q s.abs)=A? C?
abbrev Tr4(p q:W6)(loose:List Xk)(N:Nat):Prop:=∀(w:Xo)(os:OsState),((ox p N w os).map λs=>plainSeenE q (looseW q loose) s.abs)=A? (plainGoodE q (looseW q loose))
abbrev Tr5(p q:W6)(N:Nat):Prop:=∀(w:Xo)(os:OsState),((ox p N w os).map λs=>wideSeen q s.abs)=A? (wideGood q)
theorem vh{p q:W6}{Xt:WY->Bool}{Yf:WY->α}{Ya:Xo->α}{N:Nat}{g0:Bool}
 (e:opening p=plainProg p.main.scope.names) (hN:Nat.ble 600 N=C?) (f:∀s,fenceModules? p s=A? s)
 (r0:Tr0 p q loose Xt N g0)
 (r1:Tr1 p q N)
 (r2:Tr2 p q loose N)
 (r3:Tr3 p q N)
 (r4:Tr4 p q loose N)
 (r5:Tr5 p q N)
 (rY:∀(w:Xo)(os:OsState),((ox p N w os).map λs=>Yf s.abs)=A? (Ya w)) :
 LeftO p q loose Xt Yf Ya N g0:=λw=>by
 obtain⟨⟨h,gs,d,k,os⟩,e1,e'⟩:=XI.mp (boot_open e hN f w);obtain⟨rfl,rfl,rfl,rfl⟩:h=ZR w.params/\gs=Array.mk []/\d=boot_drawn/\k=boot_toks:=by simpa using e'
 have Ly:=yl w.params;have z0:=h! Prod.fst Ly;have z1:=h! (λx=>x.2.1) Ly;have z2:=h! (λx=>x.2.2.1) Ly;have z3:=h! (λx=>x.2.2.2) Ly;dsimp only at z0 z1 z2 z3;obtain⟨s1,Gz,hY⟩:=XI.mp (rY w os);have q0:=map_some Gz (r0 w os);have q1:=map_some Gz (r1 w os);have q2:=map_some Gz (r2 w os);have q3:=map_some Gz (r3 w os);have q4:=map_some Gz (r4 w os);have q5:=map_some Gz (r5 w os);have rr:=lM Gz
 have MF:SharedT.abs ⟨xg (ZR w.params).objs.toList 0 .nil,11,(ZR w.params).life,Array.mk [],boot_drawn,boot_toks,os⟩=⟨ZR w.params,Array.mk [],boot_drawn,boot_toks,os⟩:=by
  unfold SharedT.abs;dsimp only;rw[<-z2,zY z0]
 rw[MF]at rr;have a0:=h! Prod.fst q0;have a1:=h! (λx=>x.2.1) q0;have a2:=h! (λx=>x.2.2.1) q0;have a3:=h! (λx=>x.2.2.2.1) q0;have a4:=h! (λx=>x.2.2.2.2.1) q0;have b0:=h! (λx=>x.2.2.2.2.2.1) q0;have b1:=h! (λx=>x.2.2.2.2.2.2.1) q0;have b2:=h! (λx=>x.2.2.2.2.2.2.2.1) q0;have b3:=h! (λx=>x.2.2.2.2.2.2.2.2.1) q0;have b4:=h! (λx=>x.2.2.2.2.2.2.2.2.2.1) q0;have b5:=h! (λx=>x.2.2.2.2.2.2.2.2.2.2) q0;dsimp only at a0 a1 a2 a3 a4 b0 b1 b2 b3 b4 b5
 have l2:openSeen q loose (importedModules p.main.body) Xt g0 s1.abs=openGood q loose:=by
  unfold openSeen openGood;rw[q1,a1,q2,b0,b1,b2,b3,b4,b5,q3,a2,q4,a3,q5,a4];rfl
 have t:topFrom treeTable p w N ⟨ZR w.params,Array.mk [],boot_drawn,boot_toks,os⟩=A? s1.abs:=by
  unfold topFrom;dsimp only;rw[z1,z2,z3,rr];show(match staticsOk (importedModules p.main.body) (ZR w.params) s1.abs.heap && namesBound p s1.abs.heap && gensDone s1.abs && laidKept (ZR w.params) s1.abs.heap with|true=>_|false=>_)=_;rw[a0]
 unfold openEnds;rw[e1];show(topFrom treeTable p w N _).map _=_;rw[t];exact h! A? (Prod.ext l2 hY)
def p0:Params:={strHash:=λ_=>0,shareClass:=λ_=>0,mergeTok:=λt=>t,idOf:=λ_=>0,idOfShared:=λ_ _=>0,followText:=λ_=>CV,idOfImm:=λ_=>0}
structure Pc(p:W6)(N:Nat)(as:List WR)(vs:Xo->List (Option Zb)):Prop where
 out:∀(w:Xo)(os:OsState),((ox p N w os).map λs=>as.map s.abs.heap.get?)=A? (vs w)
theorem Pc.cut{p:W6}{N:Nat}{vs:Xo->List (Option Zb)}(n:Nat)(h1:Pc p N (as.take n) λw=>(vs w).take n)(h2:Pc p N (as.drop n) λw=>(vs w).drop n):Pc p N as vs:=⟨λw os=>by
 obtain⟨s,e,a1⟩:=XI.mp (h1.out w os);have a2:=map_some e (h2.out w os);rw[e];refine h! A? ?_;have:=congr (h! HAppend.hAppend a1) a2;rw[<-W8,Zf,Zf]at this;exact this⟩
theorem Pc.k{p:W6}{N:Nat}{K:Params->Frag}{e:∀P,as=(K P).map (·.1)}(h:Pc p N as λw=>(K w.params).map λp=>A? p.2):∀(w:Xo)(os:OsState),((ox p N w os).map λs=>(kHook K as e).obs s.abs)=A? ((kHook K as e).val w):=h.out
end HD
section
open PySem PySem.W PyProof.Rows
def LAW.vw:W6:=PySem.W.view PySem.Challenge.pw_boughbook_k64_early_books_shaped [1,2,3,4,6,7,8,9,10,11,12,13,14,15,16,18,19,20,21,22,23,24,25,26,27,28,29,30,31,32,34,35,36,37,38,39,40,41,42,43,44,46,47,48,49,50,51,52,53,54,56,57,59,60,61,63,64,65,66,67,68,69,70,71,72,73,74,75,76]
def LAW.xt(s:WY):Bool:=xlAt LAW.vw [] s && recOk (RowW.records (OpenRow.toRowW (OpenLaw.row PySem.Challenge.rw_boughbook_k64_early_books_shaped))) s
theorem LAW.ws:OpenLaw.wellSaid PySem.Challenge.rw_boughbook_k64_early_books_shaped=true:=by kernel_rfl
theorem LAW.lk0:HD.Tr0 PySem.Challenge.pw_boughbook_k64_early_books_shaped LAW.vw [] LAW.xt 90000 true:=λ_ _=>by kernel_rfl
theorem LAW.lk1:HD.Tr1 PySem.Challenge.pw_boughbook_k64_early_books_shaped LAW.vw 90000:=λ_ _=>by kernel_rfl
theorem LAW.lk2:HD.Tr2 PySem.Challenge.pw_boughbook_k64_early_books_shaped LAW.vw [] 90000:=λ_ _=>by kernel_rfl
theorem LAW.lk3:HD.Tr3 PySem.Challenge.pw_boughbook_k64_early_books_shaped LAW.vw 90000:=λ_ _=>by kernel_rfl
theorem LAW.lk4:HD.Tr4 PySem.Challenge.pw_boughbook_k64_early_books_shaped LAW.vw [] 90000:=λ_ _=>by kernel_rfl
theorem LAW.lk5:HD.Tr5 PySem.Challenge.pw_boughbook_k64_early_books_shaped LAW.vw 90000:=λ_ _=>by kernel_rfl
section
local macro_rules | `(tactic| o_head $_H) => `(tactic| assumption)
theorem LAW.d0(h:OpenRow.Holds (OpenLaw.row PySem.Challenge.rw_boughbook_k64_early_books_shaped)):OpenRow.Holds (OpenLaw.row PySem.Challenge.rw_boughbook_k64_early_books_shaped):=by
 k_head
end
noncomputable def LAW.ks:List WR:=(LAW.d0.heap_1 HD.p0).map (·.1)
theorem LAW.ke:∀P,LAW.ks=(LAW.d0.heap_1 P).map (·.1):=λ_=>by kernel_rfl
theorem LAW.kp:HD.Pc PySem.Challenge.pw_boughbook_k64_early_books_shaped 90000 LAW.ks λw=>(LAW.d0.heap_1 w.params).map λp=>A? p.2:=⟨λ_ _=>by kernel_rfl⟩
end
namespace L2
open PySem PySem.Spec PyProof.Rows
theorem gmE{f:α->β}{l:List α}{x:α}(h:l[i]?=A? x):(l.map f)[i]?=A? (f x):=by rw[WZ,h];rfl
theorem glE{l:List α}{x:α}(h:l[i]?=A? x):i<l.length:=(YI.mp h).1
abbrev Key:=Sum Int Xk
def iu:Key->WU->Bool
 |.inl k,v=>Value.isInt k v
 |.inr x,v=>Value.isStrOf x v
def ab6(w:Xo):Key->Int
 |.inl k=>hashInt k
 |.inr x=>hashStr w x
theorem bo:∀{k:Key}{v:WU},iu k v=C?->(∃i t,k=Xn i/\v=Value.int i t)\/(∃x t,k=Zs x/\v=Value.str x t)
 | .inl i,v,h=>by
   obtain⟨t,e⟩:=Value.isInt_shape (k:=i) (v:=v) h;exact .inl ⟨i,t,rfl,e⟩
 | .inr x,v,h=>by
   obtain⟨t,e⟩:=Value.isStrOf_shape (x:=x) (v:=v) h;exact .inr ⟨x,t,rfl,e⟩
theorem vc(i:Int)(t:Tok):iu (.inl i) (.int i t)=true:=by simp[iu,Value.isInt]
theorem uO(x:Xk)(t:Tok):iu (.inr x) (.str x t)=true:=by simp[iu,Value.isStrOf]
theorem zZ(a b:Int):decide ((Xn a:Key)=Xn b)=(a == b):=by
 by_cases e:a=b
 .subst e;simp
 .have h:¬(Xn a:Key)=Xn b:=λq=>e (YM q);rw[c! h];exact(beq_eq_false_iff_ne.mpr e).symm
theorem aaz(a b:Xk):decide ((Zs a:Key)=Zs b)=decide (a=b):=by
 by_cases e:a=b
 .subst e;simp
 .have h:¬(Zs a:Key)=Zs b:=λq=>e (Sum.inr.inj q);rw[c! h,c! e]
theorem aar(a:Int)(b:Xk):decide ((Xn a:Key)=Zs b)=false:=c! (λq=>nomatch q)
theorem zU(a:Xk)(b:Int):decide ((Zs a:Key)=Xn b)=false:=c! (λq=>nomatch q)
def au(prog:W6)(w:Xo):PySem.KeyKind prog w Key where
 is:=iu
 hash:=ab6 w
 inj:=λv a b ha hb=>by
  rcases bo ha with⟨i,t,rfl,rfl⟩|⟨x,t,rfl,rfl⟩
  .rcases bo hb with⟨j,u,rfl,e⟩|⟨y,u,rfl,e⟩
   .injection e with e1 _;rw[e1]
   .exact nomatch e
  .rcases bo hb with⟨j,u,rfl,e⟩|⟨y,u,rfl,e⟩
   .exact nomatch e
   .injection e with e1 _;rw[e1]
 byValue:=λk v h=>by
  rcases bo h with⟨i,t,rfl,rfl⟩|⟨x,t,rfl,rfl⟩ <;> rfl
 pyHash:=λhv h=>by
  rcases bo hv with⟨i,t,rfl,rfl⟩|⟨x,t,rfl,rfl⟩
  .exact wpAny_pyHash_int h
  .exact wpAny_pyHash_str h
 eqBool:=λhu hv h=>by
  rcases bo hu with⟨i,t,rfl,rfl⟩|⟨x,t,rfl,rfl⟩
  .rcases bo hv with⟨j,u,rfl,rfl⟩|⟨y,u,rfl,rfl⟩
   .rw[zZ]at h;exact wpAny_eqBool_int h
   .rw[aar]at h;exact SeqAt.EqAt.int_str i t y u _ _ _ _ h
  .rcases bo hv with⟨j,u,rfl,rfl⟩|⟨y,u,rfl,rfl⟩
   .rw[zU]at h;exact SeqAt.EqAt.str_int x t j u _ _ _ _ h
   .rw[aaz]at h;exact wpAny_eqBool_str h
 «strs»:=λk x t v h=>by
  rcases bo h with⟨i,u,rfl,e⟩|⟨y,u,rfl,e⟩
  .exact nomatch e
  .injection e with e1 _;subst e1;cases v <;> rfl
theorem pU(prog:W6)(w:Xo)(i:Int)(t:Tok):(au prog w).is (.inl i) (.int i t)=true:=vc i t
theorem qG(prog:W6)(w:Xo)(x:Xk)(t:Tok):(au prog w).is (.inr x) (.str x t)=true:=uO x t
set_option genInjectivity true in
inductive V where
 |non|bl (b:Bool)|int (i:Int)|str (x:Xk)|byt (b:Array UInt8)|flt (b:UInt64)|ref (a:WR)|ty (n:String)
 deriving DecidableEq
def RelV:V->WU->Prop
 |.non,u=>u=Yp
 |.bl b,u=>u=Value.bool b
 |.int i,u=>∃t,u=Value.int i t
 |.str x,u=>∃t,u=Value.str x t
 |.byt b,u=>∃t,u=Value.bytes b t
 |.flt b,u=>∃t,u=Value.float b t
 |.ref a,u=>u=Xl a
 |.ty n,u=>u=Zl n
abbrev Vals:List V->List WU->Prop:=Xp RelV
theorem Vals.length{xs:List V}(r:Vals xs us):xs.length=us.length:=W3 r
theorem Vals.get:∀{xs:List V}{us:List WU}{i:Nat}{x:V},Vals xs us->xs[i]?=A? x->∃u,us[i]?=A? u/\RelV x u
 |_,_,_,_,.nil,e=>by simp at e
 |_,_,0,_,.cons r _,e=>by simp at e;subst e;exact⟨_,D?,r⟩
 | _,_,i+1,x,.cons _ t,e=>by
   obtain⟨u,h1,h2⟩:=Vals.get (i:=i) (x:=x) t (by simpa using e);exact⟨u,by simpa using h1,h2⟩
theorem Vals.set{x:V}(r:RelV x u):∀{xs:List V}{us:List WU}(i:Nat),Vals xs us->Vals (xs.set i x) (us.set i u)
 |_,_,_,.nil=>.nil
 |_,_,0,.cons _ t=>.cons r t
 |_,_,i+1,.cons q t=>.cons q (Vals.set r i t)
theorem Vals.append:∀{xs ys:List V}{us ws:List WU},Vals xs us->Vals ys ws->Vals (xs++ys) (us++ws)
 |_,_,_,_,.nil,s=>s
 |_,_,_,_,.cons r t,s=>.cons r (Vals.append t s)
theorem Vals.take:∀{xs:List V}{us:List WU}(n:Nat),Vals xs us->Vals (xs.take n) (us.take n)
 |_,_,0,_=>.nil
 |_,_,_+1,.nil=>.nil
 |_,_,n+1,.cons r t=>.cons r (Vals.take n t)
theorem Vals.drop:∀{xs:List V}{us:List WU}(n:Nat),Vals xs us->Vals (xs.drop n) (us.drop n)
 |_,_,0,r=>r
 |_,_,_+1,.nil=>.nil
 |_,_,n+1,.cons _ t=>Vals.drop n t
def RelO:Option V->Option WU->Prop
 |some v,A? u=>RelV v u
 |none,B?=>True
 |_,_=>False
def KV{κ:Type}:List (κ×V)->List (κ×WU)->Prop:=Xp λ(p:κ×V)(q:κ×WU)=>p.1=q.1/\RelV p.2 q.2
def kV:Key->V
 |.inl i=>.int i
 |.inr x=>.str x
inductive HO where
 |lst (xs:List V)
 |tup (xs:List V)
 |dK (f':List (Key×V))|dT (f':List (List Key×V))
 |set (S:Int->Bool) (n:Nat)
 |ins (C dx:WR) (fs:List (Xk×V))
 |own (x:WR)
 |xd (fs:List (Xk×V))
 |met (f x:WR)
 |rng (lo hi:Int)
 |frz (o:Zb) (u:HO)
 |tbl (ps:Array WU)
 |ext (φ:Yd->Prop)
abbrev Hp:=WR->Option HO
def upd(H:Hp)(a:WR)(o:HO):Hp:=λb=>if b=a then A? o else H b
theorem ac{H:Hp}{o:HO}:upd H a o a=A? o:=by unfold upd;rw[b! rfl]
theorem ai{H:Hp}{o:HO}(h:b≠a):upd H a o b=H b:=by unfold upd;rw[a! h]
theorem kK{H:Hp}{o u:HO}:upd (upd H a o) a u=upd H a u:=by
 funext b;unfold upd;split <;> rfl
theorem eY{H:Hp}{o u:HO}(h:H a=A? o)(h':H b=A? u)(d:o≠u):a≠b:=by
 intro e;subst e;rw[h]at h';exact d (Xm h')
theorem az{H:Hp}{o:HO}(h:H a=A? o)(h':H b=B?):a≠b:=by
 intro e;subst e;rw[h]at h';cases h'
section
variable(P:W6)(w:Xo)
def ObjOk(H:Hp)(h:Yd)(a:WR):HO->Prop
 |.lst xs=>xs.length<=Xg/\∃(its:List WU)(n:Nat),Vals xs its/\h.get? a=A? {cls:=.type "list",data:=.seq its.toArray n}
 |.tup xs=>xs.length<=Xg/\∃(its:List WU)(n:Nat),Vals xs its/\h.get? a=A? {cls:=.type "tuple",data:=.seq its.toArray n}
 |.dK f'=>f'.length<=Xg/\(a == YO)=CV/\∃vs,KV f' vs/\h.DictOf (au P w) a vs
 |.dT f'=>f'.length<=Xg/\(a == YO)=CV/\∃xs:List (List Key×WR×WU),
  Xp (λ(p:List Key×V)(q:List Key×WR×WU)=>p.1=q.1/\H q.2.1=A? (.tup (p.1.map kV))/\RelV p.2 q.2.2) f' xs /\
  ∃o es ep,h.get? a=A? o/\o.ExactDict/\o.data=.dict es ep/\es.toList=xs.map (entryOfKey (tupleKind (au P w)))/\(xs.map (·.1)).Nodup
 |.set S n=>h.SetOf (intKind P w) a S n
 |.ins C dx fs=>H dx=A? (.own a)/\fs.length<=1000/\dx≠a/\h.get? a=A? (ZJ C dx) /\
  ∃mA,h.Ns1 dx mA/\(∀f,RelO (fs.lookup f) (mA f))/\PySem.Within mA (fs.map (·.1))
 |.own _=>∃o,h.get? a=A? o
 |.xd fs=>∃mA,h.Ns1 a mA/\∀f,RelO (fs.lookup f) (mA f)
 |.rng lo hi=>∃t u v,h.get? a=A? {cls:=.type "range",data:=.fields #[.int lo t,.int hi u,.int 1 v]}
 |.frz o u=>h.get? a=A? o/\ObjOk H h a u
 |.tbl ps=>h.get? a=A? {cls:=.none,data:=.fields ps}
 |.met f x=>h.get? a=A? (PySem.W.methodObj (.ref f) (.ref x))
 |.ext φ=>φ h/\(∃o,h.get? a=A? o)/\∀h1 h2:Yd,φ h1->(∀o,h1.get? a=A? o->h2.get? a=A? o)->φ h2
def HOk(H:Hp)(h:Yd):Prop:=∀a o,H a=A? o->ObjOk P w H h a o
end
section
variable{H H':Hp}{o:HO}
theorem ObjOk.lt(x:ObjOk P w H h a o):a<h.objs.size:=by
 cases o with
 |lst xs=>obtain⟨_,_,_,_,e⟩:=x;exact Xa e
 |tup xs=>obtain⟨_,_,_,_,e⟩:=x;exact Xa e
 |dK f'=>obtain⟨_,_,_,_,o,_,_,e,_⟩:=x;exact Xa e
 |dT f'=>obtain⟨_,_,_,_,o,_,_,e,_⟩:=x;exact Xa e
 |set S n=>obtain⟨o,_,_,_,e,_⟩:=x;exact Xa e
 |ins C dx fs=>obtain⟨_,_,_,e,_⟩:=x;exact Xa e
 |own y=>obtain⟨_,e⟩:=x;exact Xa e
 |xd fs=>obtain⟨_,⟨_,_,_,e,_⟩,_⟩:=x;exact Xa e
 |rng lo hi=>obtain⟨_,_,_,e⟩:=x;exact Xa e
 |frz ob u=>obtain⟨e,_⟩:=x;exact Xa e
 |tbl ps=>exact Xa (show h.get? a=A? _ from x)
 |met f y=>exact Xa (show h.get? a=A? _ from x)
 |ext φ=>obtain⟨_,⟨_,e⟩,_⟩:=x;exact Xa e
theorem Xp.mapP{G:α->β->Prop}:∀{IH:List α}{II:List β},Xp F IH II->(∀a b,F a b->G a b)->Xp G IH II
 |_,_,.nil,_=>.nil
 |_,_,.cons r t,f=>.cons (f _ _ r) (Xp.mapP t f)
theorem ObjOk.stay(x:ObjOk P w H h a o)(k:∀b u,(b=a\/H b=A? (.own a))->h.get? b=A? u->h'.get? b=A? u)
 (ho:∀b,H b=A? (.own a)->H' b=A? (.own a)) (ht:∀b xs,H b=A? (.tup xs)->H' b=A? (.tup xs)):ObjOk P w H' h' a o:=by
 induction o with
 |lst xs=>obtain⟨z,its,n,r,e⟩:=x;exact⟨z,its,n,r,k _ _ (.inl rfl) e⟩
 |tup xs=>obtain⟨z,its,n,r,e⟩:=x;exact⟨z,its,n,r,k _ _ (.inl rfl) e⟩
 |dK f'=>obtain⟨z,y,vs,r,ob,es,ep,e,c⟩:=x;exact⟨z,y,vs,r,ob,es,ep,k _ _ (.inl rfl) e,c⟩
 | dT f' =>
   obtain⟨z,y,xs,r,ob,es,ep,e,c⟩:=x;exact⟨z,y,xs,Xp.mapP r λp q z=>⟨z.1,ht _ _ z.2.1,z.2.2⟩,ob,es,ep,k _ _ (.inl rfl) e,c⟩
 |set S n=>obtain⟨ob,es,ep,t,e,c⟩:=x;exact⟨ob,es,ep,t,k _ _ (.inl rfl) e,c⟩
 | ins C dx fs =>
   obtain⟨d,z,ne,e,mA,⟨od,es,ep,e2,c⟩,r⟩:=x;exact⟨ho _ d,z,ne,k _ _ (.inl rfl) e,mA,⟨od,es,ep,k _ _ (.inr d) e2,c⟩,r⟩
 |own y=>obtain⟨ob,e⟩:=x;exact⟨ob,k _ _ (.inl rfl) e⟩
 |xd fs=>obtain⟨mA,⟨od,es,ep,e,c⟩,r⟩:=x;exact⟨mA,⟨od,es,ep,k _ _ (.inl rfl) e,c⟩,r⟩
 |rng lo hi=>obtain⟨t,u,v,e⟩:=x;exact⟨t,u,v,k _ _ (.inl rfl) e⟩
 |frz ob u ih=>obtain⟨e,q⟩:=x;exact⟨k _ _ (.inl rfl) e,ih q⟩
 | tbl ps =>
   have e:h.get? a=A? {cls:=.none,data:=.fields ps}:=x;show h'.get? a=A? {cls:=.none,data:=.fields ps};exact k a _ (.inl rfl) e
 | met f y =>
   have e:h.get? a=A? (PySem.W.methodObj (.ref f) (.ref y)):=x;show h'.get? a=A? (PySem.W.methodObj (.ref f) (.ref y));exact k a _ (.inl rfl) e
 |ext φ=>obtain⟨p,⟨o,e⟩,st⟩:=x;exact⟨st _ _ p λo q=>k _ _ (.inl rfl) q,⟨o,k _ _ (.inl rfl) e⟩,st⟩
theorem HOk.lt(x:HOk P w H h)(e:H a=A? o):a<h.objs.size:=(x a o e).lt
theorem HOk.fresh(x:HOk P w H h)(e:h.objs.size<=a):H a=none:=by
 cases q:H a with
 |none=>rfl
 |some u=>exact g! (XO (x.lt q) e) (Ys _)
theorem HOk.kept(x:HOk P w H h)(k:∀b u,h.get? b=A? u->h'.get? b=A? u):HOk P w H h':=λa o e =>
 (x a o e).stay (λb u _ q=>k b u q) (λ_ q=>q) λ_ _ q=>q
theorem HOk.laid(x:HOk P w H h)(k:∀b u,h.get? b=A? u->h'.get? b=A? u)(hp:h.objs.size<=a)(new:ObjOk P w (upd H a o) h' a o):HOk P w (upd H a o) h':=λb u e=>by
 have hn:=x.fresh hp;by_cases hb:b=a
 .subst hb;rw[ac]at e;cases e;exact new
 .rw[ai hb]at e;exact(x b u e).stay (λc v _ q=>k c v q) (λc q=>by rw[ai (az q hn)];exact q) λc xs q=>by rw[ai (az q hn)];exact q
end
def Rd(H:Hp)(a:WR)(u:HO):Prop:=H a=A? u\/∃o,H a=A? (.frz o u)
theorem Rd.ok{H:Hp}{u:HO}(r:Rd H a u)(x:HOk P w H h):ObjOk P w H h a u:=by
 rcases r with r|⟨o,r⟩
 .exact x a u r
 .obtain⟨_,q⟩:=x a _ r;exact q
def Mut:Option HO->Prop
 |some (.lst _)=>True
 |some (.dK _)=>True
 |some (.dT _)=>True
 |some (.set _ _)=>True
 |some (.ins _ _ _)=>True
 |some (.ext _)=>True
 |_=>False
section
variable{H:Hp}{x e:WR}{o':HO}
theorem HOk.write(ok:HOk P w H h)(mu:Mut (H x))(he:e=x\/H e=A? (.own x))(k:∀b u,b≠e->h.get? b=A? u->h'.get? b=A? u)(HW:∃u,h'.get? e=A? u)
 (new:ObjOk P w (upd H x o') h' x o'):HOk P w (upd H x o') h':=λb u q=>by
 have IJ:∀c y,H c=A? (.own y)->c≠x:=λc y r z=>by subst z;rw[r]at mu;exact mu
 have MG:∀c xs,H c=A? (.tup xs)->c≠x:=λc xs r z=>by subst z;rw[r]at mu;exact mu
 by_cases hb:b=x
 .subst hb;rw[ac]at q;cases q;exact new
 .rw[ai hb]at q;by_cases Dx:b=e
  .have q':H b=A? (.own x):=by
    rcases he with z|z
    .exact g! (Dx.trans z) hb
    .rw[Dx];exact z
   rw[q]at q';cases q';obtain⟨v,hv⟩:=HW;exact⟨v,by rw[Dx];exact hv⟩
  .refine(ok b u q).stay (λc v hc r=>k c v ?_ r) (λc r=>by rw[ai (IJ c b r)];exact r) λc xs r=>by rw[ai (MG c xs r)];exact r
   rcases hc with rfl|hc
   .exact Dx
   .rintro rfl;rcases he with z|z
    .exact IJ c b hc z
    .rw[hc]at z;cases z;exact hb rfl
end
structure Un(fs ex:List WR)(H H':Hp)(h h':Yd):Prop where
 keep:∀b o,h.get? b=A? o->H b=B?->b∉fs->b∉ex->h'.get? b=A? o
 slot:∀b o,h.get? b=A? o->H b=B?->b∈fs->b∉ex->∃sl,h'.get? b=A? {o with slots:=sl}
 free:∀b o,h.get? b=A? o->H b=B?->b∉ex->H' b=B?
 there:∀b o,h.get? b=A? o->b∉ex->∃o',h'.get? b=A? o'
 tups:∀b xs,H b=A? (.tup xs)->H' b=A? (.tup xs)
 frzs:∀b o u,H b=A? (.frz o u)->H' b=A? (.frz o u)
 tbls:∀b ps,H b=A? (.tbl ps)->∃more,H' b=A? (.tbl (ps++more))
section
variable{fs HX ex Lz:List WR}{H H1 H2:Hp}{h1 h2:Yd}{x e:WR}{o:HO}
theorem Un.any(u:Un fs ex H H1 h h1){ob:Zb}(q:h.get? b=A? ob)(n:H b=B?)(hx:b∉ex):∃sl,h1.get? b=A? {ob with slots:=sl}:=by
 by_cases hb:b∈fs
 .exact u.slot b ob q n hb hx
 .exact⟨ob.slots,u.keep b ob q n hb hx⟩
theorem Un.kept(k:∀b u,h.get? b=A? u->h'.get? b=A? u):Un fs ex H H h h' :=
 ⟨λb ob q _ _ _=>k b ob q,λb ob q _ _ _=>⟨ob.slots,k b ob q⟩,λ_ _ _ n _=>n,λb ob q _=>⟨ob,k b ob q⟩,λ_ _ q=>q,λ_ _ _ q=>q,λ_ ps q=>⟨#[],by rw[q];simp⟩⟩
theorem Un.refl:Un fs ex H H h h:=Un.kept λ_ _ q=>q
theorem Un.laid(k:∀b u,h.get? b=A? u->h'.get? b=A? u)(hp:h.objs.size<=a)(hn:H a=B?):Un fs ex H (upd H a o) h h' where
 keep:=λb u q _ _ _=>k b u q
 slot:=λb u q _ _ _=>⟨u.slots,k b u q⟩
 free:=λb u q n _=>by rw[ai (XB (XO (Xa q) hp))];exact n
 there:=λb u q _=>⟨u,k b u q⟩
 tups:=λb xs q=>by rw[ai (az q hn)];exact q
 frzs:=λb u xs q=>by rw[ai (az q hn)];exact q
 tbls:=λb ps q=>⟨#[],by rw[ai (az q hn),q];simp⟩
theorem Un.write(mu:Mut (H x))(he:e=x\/H e=A? (.own x))(k:∀b u,b≠e->h.get? b=A? u->h'.get? b=A? u)(HW:∃u,h'.get? e=A? u):Un fs ex H (upd H x o) h h':=by
 have hx:∀b,H b=B?->b≠x:=λb n z=>by subst z;rw[n]at mu;exact mu
 have hb:∀b,H b=B?->b≠e:=λb n z=>by
  subst z;rcases he with r|r
  .exact hx b n r
  .rw[n]at r;cases r
 have hm:∀b u,H b=A? u->¬Mut (A? u)->b≠x:=λb u q nm z=>by subst z;rw[q]at mu;exact nm mu
 refine⟨λb u q n _ _=>k b u (hb b n) q,λb u q n _ _=>⟨u.slots,k b u (hb b n) q⟩,λb u q n _=>by rw[ai (hx b n)];exact n,λb u q _=>?_,
  λb xs q=>by rw[ai (hm b _ q λz=>z)];exact q,λb u xs q=>by rw[ai (hm b _ q λz=>z)];exact q,λb ps q=>⟨#[],by rw[ai (hm b _ q λz=>z),q];simp⟩⟩
 by_cases Dx:b=e
 .subst Dx;exact HW
 .exact⟨u,k b u Dx q⟩
end
def trk(h:Yd)(H:Hp):List WR:=(Xq h.objs.size).filter λa=>(H a).isSome
def mM(h:Yd)(H:Hp):Yd:=PySem.W.hideAll h (trk h H)
theorem vg(h:Yd)(H:Hp):(mM h H).objs.size=h.objs.size:=PySem.W.hideAll_size _ _
theorem w9{H:Hp}{o:Zb}(e:h.get? b=A? o)(n:H b=B?):(mM h H).get? b=A? o :=
 PySem.W.hideAll_get _ e λhm=>by
  have q:(H b).isSome=true:=(Y0.mp hm).2;rw[n]at q;simp at q
theorem yP{H:Hp}{o:Zb}(e:(mM h H).get? b=A? o):h.get? b=A? o/\H b=none:=by
 have e':h.get? b=A? o:=PySem.W.of_hideAll (trk h H) e;refine⟨e',?_⟩;cases q:H b with
 |none=>rfl
 | some x =>
   have hm:b∈trk h H:=Y0.mpr ⟨YZ.mpr (Xa e'),by simp[q]⟩;have z:(mM h H).get? b=none:=PySem.W.hideAll_none (trk h H) hm;rw[z]at e;cases e
end L2
open L2.V renaming ref->i!,int->p!,str->L!
variable{o:L2.HO}{vs xs:List L2.V}{H H' H1 H2:L2.Hp}{v y:L2.V}{fin:WR->L2.Hp->Prop}
namespace L2
open PySem PySem.Spec PyProof.Rows
structure Mod(K:WQ)(mg:Xk->Option WU)(base:Yd):Prop where
 kin:K.In base
 glob:base.Ns Ym mg
 blt:∃mb,base.Ns builtinsNs mb/\∀x:Xk,x≠"__name__"->mb x=bootBuiltins x
 nolimit:base.NoLimit
set_option genInjectivity true in
structure Cx where
 prog:W6
 w:Xo
 K:WQ
 mg:Xk->Option WU
 base:Yd
 A:XG
 N:List Xk
 s₀:WY
 H₀:Hp
 env:Env
 outer:List Env
 stack:List Env
 ex:List WR
 fn:Xk->Bool
 calm:Bool
 pn:List (WR×Zb)
 xe:WU->WY->Prop
def frs(l:List Env):List WR:=l.filterMap (·.frame)
abbrev Cx.fs(X:Cx):List WR:=frs X.outer
def Vis(sc:Z5)(x:Xk):Prop:=sc.names.lookup x=A? .local\/sc.names.lookup x=A? .cell\/sc.names.lookup x=A? .free
def Loc(sc:Z5)(x:Xk):Prop:=sc.names.lookup x=A? .local\/sc.names.lookup x=A? .cell
def Look(env:Env)(h:Yd)(m:Xk->Option WU)(x:Xk)(u:WU):Prop :=
 (env.kindOf x=A? .local/\m x=A? u)\/((env.kindOf x=A? .cell\/env.kindOf x=A? .free)/\∃c,env.cells.lookup x=A? c/\h.IsCell c (A? u))
structure Cx.Ok(X:Cx):Prop where
 mod:Mod X.K X.mg X.base
 kind:X.env.scope.kind=.function
 glob:X.env.globals=Ym
 blt:X.env.builtins=builtinsNs
 above:X.s₀.heap.1.size<=X.env.locals
 inj:∀x y c,X.env.cells.lookup x=A? c->X.env.cells.lookup y=A? c->x=y
 has:∀x,(X.env.kindOf x=A? .cell\/X.env.kindOf x=A? .free)->∃c,X.env.cells.lookup x=A? c
 cab:∀x c,X.fn x=C?->X.env.cells.lookup x=A? c->X.s₀.heap.1.size<=c
 hd:X.calm=C?->X.A.handled=B?
 frames:X.A.frames=A? X.stack
 stk:X.stack=X.outer\/(X.stack=X.env::X.outer/\X.env.frame=A? X.env.locals)
 exf:∀b∈X.ex,b≠X.env.locals/\∀x c,X.env.cells.lookup x=A? c->c≠b
 bs:∀b o,X.base.get? b=A? o->X.s₀.heap.get? b=A? o/\X.H₀ b=B?
 bsz:X.base.objs.size<=X.s₀.heap.1.size
 noex:∀b o,X.base.get? b=A? o->b∉X.ex
 exfs:∀b∈X.ex,b∉X.fs
 funs:X.s₀.heap.FunFrames X.base X.outer
 frf:∀b∈X.fs,X.H₀ b=B?
structure Inv(X:Cx)(U:List (WR×Zb))(Z:List (Option V))(H:Hp)(s:WY):Prop where
 ok:X.Ok
 os:s.os=X.s₀.os
 bare:AllBare s.gens
 base:Un X.fs X.ex X.H₀ H X.s₀.heap s.1
 loc:∃m,s.1.Ns X.env.locals m/\∀(i:Nat)(x:Xk)(v:V),X.N[i]?=A? x->Z[i]?=A? (A? v)->Vis X.env.scope x->∃u,RelV v u/\Look X.env s.1 m x u
 cell:∀x c,X.env.cells.lookup x=A? c->∃v,s.1.IsCell c v
 free:H X.env.locals=B?
 freeC:∀x c,X.env.cells.lookup x=A? c->H c=B?
 pin:∀p∈X.pn++U,s.1.get? p.1=A? p.2/\H p.1=B?/\p.1≠X.env.locals/\p.1∉X.fs/\∀v,p.2.data≠.cell v
 hok:HOk X.prog X.w H s.1
 len:Z.length=X.N.length
section
variable{X:Cx}{Z:List (Option V)}
theorem Cx.Ok.nofr(ok:X.Ok){o:Zb}(e:X.base.get? b=A? o):b∉X.fs:=λhb=>by
 have:=(ok.funs.mem hb).1;rw[e]at this;cases this
theorem Inv.bs(I:Inv X U Z H s):∀b o,X.base.get? b=A? o->s.1.get? b=A? o/\H b=none:=λb o e =>
 ⟨I.base.keep b o (I.ok.bs b o e).1 (I.ok.bs b o e).2 (I.ok.nofr e) (I.ok.noex b o e),I.base.free b o (I.ok.bs b o e).1 (I.ok.bs b o e).2 (I.ok.noex b o e)⟩
theorem Inv.bk(I:Inv X U Z H s):∀b o,X.base.get? b=A? o->s.1.get? b=A? o:=λb o e=>(I.bs b o e).1
theorem Inv.mod(I:Inv X U Z H s):Mod X.K X.mg X.base:=I.ok.mod
theorem Inv.kIn(I:Inv X U Z H s):X.K.In s.1:=I.ok.mod.kin.keeps I.bk
theorem Inv.lt(I:Inv X U Z H s):X.env.locals<s.1.1.size:=let⟨_,hn,_⟩:=I.loc;hn.lt
theorem Inv.sz(I:Inv X U Z H s):X.s₀.heap.1.size<=s.1.1.size:=XC I.ok.above (ZS I.lt)
theorem Inv.nofs(I:Inv X U Z H s)(h:s.1.1.size<=a):a∉X.fs:=λhb=>by
 obtain⟨_,o,ho,_⟩:=I.ok.funs.mem hb;exact g! (XO (Xa ho) (XC I.sz h)) (Ys _)
theorem Inv.cne(I:Inv X U Z H s):∀x c,X.env.cells.lookup x=A? c->c≠X.env.locals:=λx c e z=>by
 obtain⟨v,o,ho,hd⟩:=I.cell x c e;obtain⟨m,⟨o',es,ep,Bw,Bx,_⟩,_⟩:=I.loc;rw[z,Bw]at ho;cases ho;rw[Bx]at hd;cases hd
theorem Inv.funs(I:Inv X U Z H s):s.1.FunFrames X.base X.outer:=by
 have all:∀(l:List Env),(∀b∈frs l,b∈X.fs)->X.s₀.heap.FunFrames X.base l->s.1.FunFrames X.base l:=by
  intro l;induction l with
  |nil=>intro _ _;trivial
  | cons env r ih =>
    intro hs hl;obtain⟨hk,⟨L,o,hf,hn,ho,hd⟩,hr⟩:=hl;have hL:L∈X.fs:=hs L (by unfold frs;rw[Z3,hf];exact Xe);obtain⟨sl,e⟩:=I.base.slot L o ho (I.ok.frf L hL) hL λz=>I.ok.exfs L z hL;exact⟨hk,⟨L,_,hf,hn,e,hd⟩,ih (λb hb=>hs b (by unfold frs;rw[Z3,hf];exact Xb _ hb)) hr⟩
 exact all X.outer (λ_ hb=>hb) I.ok.funs
theorem Inv.stack(I:Inv X U Z H s):s.1.FunFrames X.base X.stack:=by
 rcases I.ok.stk with e|⟨e,hf⟩
 .rw[e];exact I.funs
 .rw[e];obtain⟨m,hn,_⟩:=I.loc;refine .cons (by rw[I.ok.kind];decide) hf hn ?_ I.funs;exact Heap.get?_none_of_le (XC I.ok.bsz I.ok.above)
theorem Inv.stkSub(I:Inv X U Z H s):∀b∈frs X.stack,b∈X.env.locals::X.fs:=λb hb=>by
 rcases I.ok.stk with e|⟨e,hf⟩
 .rw[e]at hb;exact Xb _ hb
 .rw[e]at hb;unfold frs at hb;rw[Z3,hf]at hb;exact hb
theorem Inv.stkFree(I:Inv X U Z H s):∀b∈frs X.stack,H b=none:=λb hb=>by
 rcases W7.mp (I.stkSub b hb)with e|hb
 .rw[e];exact I.free
 .obtain⟨_,o,ho,_⟩:=I.ok.funs.mem hb;exact I.base.free b o ho (I.ok.frf b hb) λz=>I.ok.exfs b z hb
theorem Inv.step{g':Array GenState}{d':Drawn}(I:Inv X U Z H s)
 (EI:∀b∈ch,(b∈X.ex\/X.s₀.heap.1.size<=b)/\b≠X.env.locals/\(∀x c,X.env.cells.lookup x=A? c->c≠b)/\∀p∈X.pn++U,p.1≠b)
 (keep:∀b o,b≠X.env.locals->b∉X.fs->b∉ch->s.1.get? b=A? o->H b=B?->h'.get? b=A? o)
 (slot:∀b o,b≠X.env.locals->b∈X.fs->b∉ch->s.1.get? b=A? o->H b=B?->∃sl,h'.get? b=A? {o with slots:=sl}) (free:∀b o,b∉ch->s.1.get? b=A? o->H b=B?->H' b=B?)
 (there:∀b o,b∉ch->s.1.get? b=A? o->∃o',h'.get? b=A? o')
 (tups:∀b xs,H b=A? (.tup xs)->H' b=A? (.tup xs)) (frzs:∀b o u,H b=A? (.frz o u)->H' b=A? (.frz o u)) (tbls:∀b ps,H b=A? (.tbl ps)->∃more,H' b=A? (.tbl (ps++more)))
 (ns:∀m,s.1.Ns X.env.locals m->h'.Ns X.env.locals m) (hok:HOk X.prog X.w H' h') (hg:AllBare g') :
 Inv X U Z H' {s with heap:=h',gens:=g',drawn:=d',toks:=t'}:=by
 have Qk:∀b o,X.s₀.heap.get? b=A? o->b≠X.env.locals:=λb o e=>XB (XO (Xa e) I.ok.above)
 have LA:∀b o,X.s₀.heap.get? b=A? o->b∉X.ex->b∉ch:=λb o e hx hb=>by
  rcases(EI b hb).1 with z|z
  .exact hx z
  .exact g! (XO (Xa e) z) (Ys _)
 have cellK:∀x c,X.env.cells.lookup x=A? c->∀v,s.1.IsCell c v->h'.IsCell c v:=λx c e v⟨o,ho,hd⟩=>by
  have IK:c∉ch:=λz=>(EI c z).2.2.1 x c e rfl;by_cases hc:c∈X.fs
  .obtain⟨sl,q⟩:=slot c o (I.cne x c e) hc IK ho (I.freeC x c e);exact⟨_,q,hd⟩
  .exact⟨o,keep c o (I.cne x c e) hc IK ho (I.freeC x c e),hd⟩
 refine⟨I.ok,I.os,hg,⟨λb o e n hb hx=>?_,λb o e n hb hx=>?_,λb o e n hx=>?_,λb o e hx=>?_,λb xs e=>tups b xs (I.base.tups b xs e),λb o xs e=>frzs b o xs (I.base.frzs b o xs e),λb ps e=>?_⟩,?_,λx c e=>?_,?_,λx c e=>?_,λp hp=>?_,hok,I.len⟩
 .exact keep b o (Qk b o e) hb (LA b o e hx) (I.base.keep b o e n hb hx) (I.base.free b o e n hx)
 .obtain⟨sl,e1⟩:=I.base.slot b o e n hb hx;obtain⟨Sy,e2⟩:=slot b _ (Qk b o e) hb (LA b o e hx) e1 (I.base.free b o e n hx);exact⟨Sy,e2⟩
 .obtain⟨o',e1⟩:=I.base.there b o e hx;exact free b o' (LA b o e hx) e1 (I.base.free b o e n hx)
 .obtain⟨o',e1⟩:=I.base.there b o e hx;exact there b o' (LA b o e hx) e1
 .obtain⟨m1,e1⟩:=I.base.tbls b ps e;obtain⟨m2,e2⟩:=tbls b _ e1;exact⟨m1++m2,by rw[e2,Array.append_assoc]⟩
 .obtain⟨m,hn,hl⟩:=I.loc;refine⟨m,ns m hn,λi x v e1 e2 e3=>?_⟩;obtain⟨u,r,l⟩:=hl i x v e1 e2 e3;refine⟨u,r,?_⟩;rcases l with l|⟨k,c,e,z⟩
  .exact .inl l
  .exact .inr ⟨k,c,e,cellK x c e _ z⟩
 .obtain⟨v,z⟩:=I.cell x c e;exact⟨v,cellK x c e v z⟩
 .obtain⟨m,⟨o,_,_,ho,_⟩,_⟩:=I.loc;exact free _ o (λz=>(EI _ z).2.1 rfl) ho I.free
 .obtain⟨v,o,ho,hd⟩:=I.cell x c e;exact free c o (λz=>(EI c z).2.2.1 x c e rfl) ho (I.freeC x c e)
 .obtain⟨e,n,ne,nf,d⟩:=I.pin p hp;have IK:p.1∉ch:=λz=>(EI p.1 z).2.2.2 p hp rfl;exact⟨keep p.1 p.2 ne nf IK e n,free p.1 p.2 IK e n,ne,nf,d⟩
theorem Inv.un(I:Inv X U Z H s)(u:Un X.fs [] H H' s.1 h')(hok:HOk X.prog X.w H' h'):Inv X U Z H' {s with heap:=h',toks:=t'}:=by
 obtain⟨m,⟨o,es,ep,ho,r⟩,_⟩:=id I.loc;obtain⟨sl,hL⟩:=u.any ho I.free (by simp)
 exact I.step (g':=s.gens) (d':=s.drawn) (ch:=[]) (λ_ z=>nomatch z) (λb o _ hb _ e n=>u.keep b o e n hb (by simp)) (λb o _ hb _ e n=>u.slot b o e n hb (by simp)) (λb o _ e n=>u.free b o e n (by simp)) (λb o _ e=>u.there b o e (by simp)) u.tups u.frzs u.tbls (λm' hm=>by
  obtain⟨o',MH,MI,Bw,r'⟩:=hm;rw[ho]at Bw;cases Bw;exact⟨_,MH,MI,hL,r'⟩) hok I.bare
theorem Inv.call{g':Array GenState}{d':Drawn}(I:Inv X U Z H s)(u:Un (frs X.stack) ch H H' s.1 h')(hok:HOk X.prog X.w H' h')(hg:AllBare g')
 (EI:∀b∈ch,(b∈X.ex\/X.s₀.heap.1.size<=b)/\b≠X.env.locals/\(∀x c,X.env.cells.lookup x=A? c->c≠b)/\∀p∈X.pn++U,p.1≠b) :
 Inv X U Z H' {s with heap:=h',gens:=g',drawn:=d',toks:=t'}:=by
 obtain⟨m,⟨o,es,ep,ho,r⟩,_⟩:=id I.loc;obtain⟨sl,hL⟩:=u.any ho I.free λz=>(EI _ z).2.1 rfl
 exact I.step (ch:=ch) EI (λb o hL hb hc e n=>u.keep b o e n (λz=>(W7.mp (I.stkSub b z)).elim hL hb) hc) (λb o _ _ hc e n=>u.any e n hc) (λb o hc e n=>u.free b o e n hc) (λb o hc e=>u.there b o e hc) u.tups u.frzs u.tbls (λm' hm=>by
  obtain⟨o',MH,MI,Bw,r'⟩:=hm;rw[ho]at Bw;cases Bw;exact⟨_,MH,MI,hL,r'⟩) hok hg
theorem Inv.turned(I:Inv X U Z H s)(k:∀b o,b≠it->s.1.get? b=A? o->h'.get? b=A? o)(hn:H it=B?)(hL:it≠X.env.locals)
 (h1:it∈X.ex\/X.s₀.heap.1.size<=it) (h2:∀x c,X.env.cells.lookup x=A? c->c≠it) (h3:∀p∈X.pn++U,p.1≠it):Inv X U Z H {s with heap:=h',toks:=t'}:=by
 have IL:∀b u,H b=A? u->b≠it:=λb u e z=>by rw[z,hn]at e;cases e
 refine I.step (g':=s.gens) (d':=s.drawn) (ch:=[it]) (λb hb=>?_) (λb o _ _ hc e _=>k b o (λz=>hc (by simp[z])) e) (λb o _ _ hc e _=>⟨o.slots,k b o (λz=>hc (by simp[z])) e⟩) (λ_ _ _ _ n=>n)
  (λb o hc e=>⟨o,k b o (λz=>hc (by simp[z])) e⟩) (λ_ _ e=>e) (λ_ _ _ e=>e) (λb ps e=>⟨#[],by rw[e];simp⟩) (λm hm=>?_) (λb u e=>?_) I.bare
 .have e:b=it:=by simpa using hb
  subst e;exact⟨h1,hL,h2,h3⟩
 .obtain⟨o,es,ep,ho,r⟩:=hm;exact⟨o,es,ep,k _ o (YR hL) ho,r⟩
 .refine(I.hok b u e).stay (λc v hc q=>k c v ?_ q) (λ_ q=>q) λ_ _ q=>q;rcases hc with z|z
  .rw[z];exact IL b u e
  .exact IL c _ z
theorem Inv.tok(I:Inv X U Z H s)(t:Nat):Inv X U Z H {s with toks:=t}:=I.un (h':=s.1) (t':=t) Un.refl I.hok
theorem Inv.kept(I:Inv X U Z H s)(k:∀b u,s.1.get? b=A? u->h'.get? b=A? u):Inv X U Z H {s with heap:=h',toks:=t'}:=I.un (Un.kept k) (I.hok.kept k)
theorem Inv.laid(I:Inv X U Z H s)(k:∀b u,s.1.get? b=A? u->h'.get? b=A? u)(hp:s.1.1.size<=a)(new:ObjOk X.prog X.w (upd H a o) h' a o) :
 Inv X U Z (upd H a o) {s with heap:=h',toks:=t'}:=I.un (Un.laid k hp (I.hok.fresh hp)) (I.hok.laid k hp new)
theorem Inv.write{x e:WR}(I:Inv X U Z H s)(mu:Mut (H x))(he:e=x\/H e=A? (.own x))(k:∀b u,b≠e->s.1.get? b=A? u->h'.get? b=A? u)(HW:∃u,h'.get? e=A? u)
 (new:ObjOk X.prog X.w (upd H x o) h' x o):Inv X U Z (upd H x o) {s with heap:=h',toks:=t'}:=I.un (Un.write mu he k HW) (I.hok.write mu he k HW new)
theorem Inv.weak{Aa:List (Option V)}(I:Inv X U Z H s)(hl:Aa.length=Z.length)(w:∀(i:Nat)v,Aa[i]?=A? (A? v)->Z[i]?=A? (A? v)):Inv X U Aa H s :=
 ⟨I.ok,I.os,I.bare,I.base,let⟨m,hn,GA⟩:=I.loc;⟨m,hn,λi x v e1 e2 e3=>GA i x v e1 (w i v e2) e3⟩,I.cell,I.free,I.freeC,I.pin,I.hok,hl.trans I.len⟩
theorem Inv.pins_of{FV:List (WR×Zb)}(I:Inv X U Z H s)(h:∀p∈FV,s.1.get? p.1=A? p.2/\H p.1=B?/\p.1≠X.env.locals/\p.1∉X.fs/\∀v,p.2.data≠.cell v):Inv X FV Z H s :=
 ⟨I.ok,I.os,I.bare,I.base,I.loc,I.cell,I.free,I.freeC,λp hp=>(XA.mp hp).elim (λz=>I.pin p (XM _ z)) (h p),I.hok,I.len⟩
theorem qN(hN:N.Nodup)(a:N[i]?=A? x)(b:N[j]?=A? x):i=j:=by
 obtain⟨h1,e1⟩:=YI.mp a;obtain⟨h2,e2⟩:=YI.mp b;exact(List.getElem_inj hN).mp (e1.trans e2.symm)
theorem nV{M:Model}{Q:Unit->WY->Prop}(I:Inv X U Z H s)(hN:X.N.Nodup)(hi:X.N[i]?=A? x)(hx:Loc X.env.scope x)(r:RelV v u)
 (h:∀s',Inv X U (Z.set i (A? v)) H s'->(∃a,YG a s.1 s'.1/\(a=X.env.locals\/X.env.cells.lookup x=A? a))->Q () s') (hf:X.fn x=C?\/X.env.scope.names.lookup x=A? .local:=by first|exact .inl rfl|exact .inr rfl|assumption):W9 M A (storeName X.env x u) Q E s:=by
 obtain⟨m,hn,hl⟩:=id I.loc;have MJ:(X.env.scope.kind == .class ||(X.env.scope.kind == .module && X.env.locals != X.env.globals))=false:=by rw[I.ok.kind];rfl
 have IM:i<Z.length:=by rw[I.len];exact(glE hi)
 have cne:=I.cne
 have tracked:∀{a:WR}{h':Yd},(∃o,s.1.get? a=A? o/\H a=B?)->YG a s.1 h'->HOk X.prog X.w H h':=λ{a h'}ha hs b ob e=>by
  obtain⟨_,_,Cs⟩:=ha;refine(I.hok b ob e).stay (λc w' hc q=>(hs.2 c ?_).trans q) (λ_ q=>q) λ_ _ q=>q;rintro rfl;rcases hc with rfl|hc
  .rw[Cs]at e;cases e
  .rw[Cs]at hc;cases hc
 rcases hx with hk|hk
 .refine wpAny_storeName_local hk hn (λh' Sz hs=>?_) MJ;obtain⟨oL,_,_,SD,_⟩:=id hn;refine h _ ⟨I.ok,I.os,I.bare,⟨λb o e n hb hx=>?_,λb o e n hb hx=>?_,I.base.free,λb o e hx=>?_,I.base.tups,I.base.frzs,I.base.tbls⟩,⟨_,Sz,λj y v' e1 e2 e3=>?_⟩,λy c e=>?_,I.free,I.freeC,λp hp=>?_,tracked ⟨oL,SD,I.free⟩ hs,by simpa using I.len⟩ ⟨_,hs,.inl rfl⟩
  .exact(hs.2 b (XB (XO (Xa e) I.ok.above))).trans (I.base.keep b o e n hb hx)
  .obtain⟨sl,e1⟩:=I.base.slot b o e n hb hx;exact⟨sl,(hs.2 b (XB (XO (Xa e) I.ok.above))).trans e1⟩
  .obtain⟨o',e1⟩:=I.base.there b o e hx;exact⟨o',(hs.2 b (XB (XO (Xa e) I.ok.above))).trans e1⟩
  .by_cases hj:j=i
   .subst hj;rw[hi]at e1;cases e1;rw[List.getElem?_set_self IM]at e2;cases e2;exact⟨u,r,.inl ⟨hk,by simp⟩⟩
   .rw[List.getElem?_set_ne (YR hj)]at e2;obtain⟨u',r',q⟩:=hl j y v' e1 e2 e3;refine⟨u',r',?_⟩;rcases q with⟨k,e⟩|⟨k,c,e,z⟩
    .refine .inl ⟨k,?_⟩;have:y≠x:=λe=>hj (qN hN e1 (e ▸ hi));simp[this,e]
    .exact .inr ⟨k,c,e,z.sameBut hs (cne y c e)⟩
  .obtain⟨w',z⟩:=I.cell y c e;exact⟨w',z.sameBut hs (cne y c e)⟩
  .obtain⟨e,n,ne,nf,d⟩:=I.pin p hp;exact⟨(hs.2 p.1 ne).trans e,n,ne,nf,d⟩
 .have MK:X.fn x=true:=by
   rcases hf with z|z
   .exact z
   .rw[z]at hk;cases hk
  obtain⟨c,hc⟩:=I.ok.has x (.inl hk);obtain⟨w',z⟩:=I.cell x c hc;refine wpAny_storeName_cell I.ok.kind hk hc z (λh' AO hs=>?_);obtain⟨oc,Ql,ML⟩:=id z;refine h {s with heap:=h'} ⟨I.ok,I.os,I.bare,⟨λb o e n hb hx=>?_,λb o e n hb hx=>?_,I.base.free,λb o e hx=>?_,I.base.tups,I.base.frzs,I.base.tbls⟩,⟨m,hn.sameBut hs (YR (cne x c hc)),λj y v' e1 e2 e3=>?_⟩,λy c' e=>?_,I.free,I.freeC,λp hp=>?_,tracked ⟨oc,Ql,I.freeC x c hc⟩ hs,by simpa using I.len⟩ ⟨c,hs,.inr hc⟩
  .exact(hs.2 b (XB (XO (Xa e) (I.ok.cab x c MK hc)))).trans (I.base.keep b o e n hb hx)
  .obtain⟨sl,e1⟩:=I.base.slot b o e n hb hx;exact⟨sl,(hs.2 b (XB (XO (Xa e) (I.ok.cab x c MK hc)))).trans e1⟩
  .obtain⟨o',e1⟩:=I.base.there b o e hx;exact⟨o',(hs.2 b (XB (XO (Xa e) (I.ok.cab x c MK hc)))).trans e1⟩
  .by_cases hj:j=i
   .subst hj;rw[hi]at e1;cases e1;rw[List.getElem?_set_self IM]at e2;cases e2;exact⟨u,r,.inr ⟨.inl hk,c,hc,AO⟩⟩
   .rw[List.getElem?_set_ne (YR hj)]at e2;obtain⟨u',r',q⟩:=hl j y v' e1 e2 e3;refine⟨u',r',?_⟩;rcases q with q|⟨k,c',e,z'⟩
    .exact .inl q
    .refine .inr ⟨k,c',e,z'.sameBut hs ?_⟩;rintro rfl;exact hj (qN hN e1 (I.ok.inj _ _ _ e hc ▸ hi))
  .by_cases CW:c'=c
   .subst CW;exact⟨_,AO⟩
   .obtain⟨w2,z2⟩:=I.cell y c' e;exact⟨w2,z2.sameBut hs CW⟩
  .obtain⟨e,n,ne,nf,d⟩:=I.pin p hp;refine⟨(hs.2 p.1 ?_).trans e,n,ne,nf,d⟩;intro q;rw[q,Ql]at e;have q':oc=p.2:=Xm e;exact d w' (by rw[<-q'];exact ML)
theorem gF{M:Model}{Q:Unit->WY->Prop}(I:Inv X U Z H s)(hN:X.N.Nodup)(hi:X.N[i]?=A? x)(hx:Loc X.env.scope x)(r:RelV v u)
 (h:∀s',Inv X U (Z.set i (A? v)) H s'->Q () s') (hf:X.fn x=C?\/X.env.scope.names.lookup x=A? .local:=by first|exact .inl rfl|exact .inr rfl|assumption):W9 M A (storeName X.env x u) Q E s :=
 nV I hN hi hx r (λs' I' _=>h s' I') hf
theorem Inv.call'{s':WY}(I:Inv X U Z H s)(ho:s'.os=s.os)(u:Un (frs X.stack) ch H H' s.1 s'.1)(hok:HOk X.prog X.w H' s'.1)(hg:AllBare s'.gens)
 (EI:∀b∈ch,(b∈X.ex\/X.s₀.heap.1.size<=b)/\b≠X.env.locals/\(∀x c,X.env.cells.lookup x=A? c->c≠b)/\∀p∈X.pn++U,p.1≠b):Inv X U Z H' s':=by
 obtain⟨h',g',d',t',o'⟩:=s';have e:o'=s.os:=ho;subst e;exact I.call (g':=g') (t':=t') (d':=d') u hok hg EI
end
abbrev XK:=WU->Option WR->Hp->Prop
abbrev St:=List (Option V)
abbrev VK:=V->Hp->Prop
abbrev TE:=St->Hp->VK->Prop
abbrev TT:=St->Hp->(Bool->Hp->Prop)->Prop
abbrev TA:=St->Hp->(List V->Hp->Prop)->Prop
structure Ends where
 nx:St->Hp->Prop
 rt:VK
 bk:St->Hp->Prop:=λ_ _=>False
 ct:St->Hp->Prop:=λ_ _=>False
abbrev TS:=Ends->St->Hp->Prop
def EP(X:Cx)(U:List (WR×Zb))(Z:St)(Q:VK)(u:WU)(s':WY):Prop:=∃v H',Inv X U Z H' s'/\RelV v u/\Q v H'
def TP(X:Cx)(U:List (WR×Zb))(Z:St)(Q:Bool->Hp->Prop)(b:Bool)(s':WY):Prop:=∃H',Inv X U Z H' s'/\Q b H'
def AP(X:Cx)(U:List (WR×Zb))(Z:St)(Q:List V->Hp->Prop)(us:List WU)(s':WY):Prop:=∃vs H',Inv X U Z H' s'/\Vals vs us/\Q vs H'
def SP(X:Cx)(U:List (WR×Zb))(D:Ends)(f:Flow)(s':WY):Prop :=
 match f with
 |.next=>∃Aa H',Inv X U Aa H' s'/\D.nx Aa H'
 |.brk=>∃Aa H',Inv X U Aa H' s'/\D.bk Aa H'
 |.cont=>∃Aa H',Inv X U Aa H' s'/\D.ct Aa H'
 |.ret u=>∃v Aa H',Inv X U Aa H' s'/\RelV v u/\D.rt v H'
def PE(X:Cx)(e:X7)(t:TE):Prop :=
 ∀(U:List (WR×Zb))(s:WY)(Z:St)(H:Hp)(Q:VK),Inv X U Z H s->t Z H Q->W9 (Xu X.prog X.w) X.A (YY e X.env) (EP X U Z Q) X.xe s
def PT(X:Cx)(e:X7)(t:TT):Prop :=
 ∀(U:List (WR×Zb))(s:WY)(Z:St)(H:Hp)(Q:Bool->Hp->Prop),Inv X U Z H s->t Z H Q->W9 (Xu X.prog X.w) X.A (isTrue e X.env (YY e X.env)) (TP X U Z Q) X.xe s
def PW(X:Cx)(e:X7)(t:TT):Prop :=
 ∀(whole:Sem WU)(U:List (WR×Zb))(s:WY)(Z:St)(H:Hp)(Q:Bool->Hp->Prop),Inv X U Z H s->t Z H Q->W9 (Xu X.prog X.w) X.A (isTrue e X.env whole) (TP X U Z Q) X.xe s
theorem PW.pt{X:Cx}{t:TT}(h:PW X e t):PT X e t:=h _
def PA(X:Cx)(es:List X7)(t:TA):Prop :=
 ∀(pos:Z2)(U:List (WR×Zb))(s:WY)(Z:St)(H:Hp)(Q:List V->Hp->Prop),Inv X U Z H s->t Z H Q->W9 (Xu X.prog X.w) X.A (spliced (Z0 pos (XF es X.env))) (AP X U Z Q) X.xe s
def PS(X:Cx)(st:Stmt)(t:TS):Prop :=
 ∀(U:List (WR×Zb))(s:WY)(Z:St)(H:Hp)(D:Ends),Inv X U Z H s->t D Z H->W9 (Xu X.prog X.w) X.A (exec st X.env) (SP X U D) X.xe s
def PSs(X:Cx)(st:List Stmt)(t:TS):Prop :=
 ∀(U:List (WR×Zb))(s:WY)(Z:St)(H:Hp)(D:Ends),Inv X U Z H s->t D Z H->W9 (Xu X.prog X.w) X.A (execs st X.env) (SP X U D) X.xe s
theorem thn{t:Sem α}{Q Q':α->WY->Prop}{M:Model}(h:W9 M A t Q E s)(hQ:∀a s,Q a s->Q' a s):W9 M A t Q' E s:=Y6 h hQ λ_ _ x=>x
end L2
variable{tb:L2.TS}{Z:L2.St}{D:L2.Ends}{te tl:L2.TE}{tt:L2.TT}
namespace L2
open PySem PySem.Spec PyProof.Rows
section
variable{X:Cx}
inductive zw(i:Nat)(Z:St)(H:Hp)(Q:VK):Prop
 |mk (v:_) (Cg:Z[i]?=A? (A? v)) (Ci:Q v H):zw i Z H Q
def bi(i:Nat):TE:=zw i
def tC(v:V):TE:=λ_ H Q=>Q v H
theorem wZ(hN:X.N[i]?=A? x)(hv:Vis X.env.scope x)(hd:(x == ("__debug__":Xk))=false:=by decide)(B4:(x == ("__classdict__":Xk))=false:=by decide):PE X (.Name x pos) (bi i):=by
 intro U s Z H Q I h;obtain⟨v,e,h⟩:=h;obtain⟨m,hn,hl⟩:=I.loc;obtain⟨u,r,l⟩:=hl i x v hN e hv;have fin:EP X U Z Q u s:=⟨v,H,I,r,h⟩;rcases l with⟨hk,hm⟩|⟨hk,c,hc,Bi⟩
 .exact wpAny_Name (wpAny_loadName_local I.ok.kind hk hn hm fin) hd
 .rcases hk with hk|hk
  .exact wpAny_Name (wpAny_loadName_cell I.ok.kind hk hc Bi fin) hd
  .exact wpAny_Name (wpAny_loadName_free I.ok.kind hk hc Bi fin B4) hd
theorem ag{i j pos}:PE X (.Constant (.int i) j pos) (tC (.int i)):=λ_ _ _ H _ I h=>wpAny_Constant_int ⟨.int i,H,I.tok _,⟨_,rfl⟩,h⟩
theorem gG{b j pos}:PE X (.Constant (.bool b) j pos) (tC (.bl b)):=λ_ _ _ H _ I h=>Constant_bool ⟨.bl b,H,I,rfl,h⟩
theorem gH{x j pos}:PE X (.Constant (.str x) j pos) (tC (.str x)):=λ_ _ _ H _ I h=>Calls.Constant_str ⟨.str x,H,I.tok _,⟨_,rfl⟩,h⟩
def Gl(X:Cx)(x:Xk):Prop:=X.env.kindOf x=A? .globalImplicit
theorem kN(I:Inv X U Z H s)(hg:Gl X x)(hm:X.mg x=A? u)(h:Q u s)
 (hd:(x == ("__debug__":Xk))=false:=by decide):W9 (Xu X.prog X.w) X.A (YY (.Name x pos) X.env) Q E s :=
 Calls.Name_function_global I.ok.kind hg (Calls.loadGlobal_global (by rw[I.ok.glob];exact I.mod.glob.keeps I.bk) hm h) hd
theorem cJ(I:Inv X U Z H s)(hg:Gl X x)(hm:X.mg x=B?)(hv:bootBuiltins x=A? u)(h:Q u s)
 (hn:x≠"__name__":=by decide) (hd:(x == ("__debug__":Xk))=false:=by decide):W9 (Xu X.prog X.w) X.A (YY (.Name x pos) X.env) Q E s:=by
 obtain⟨mb,h1,h2⟩:=I.mod.blt;exact Calls.Name_function_global I.ok.kind hg (Calls.loadGlobal_builtin (by rw[I.ok.glob];exact I.mod.glob.keeps I.bk) hm (by rw[I.ok.blt];exact h1.keeps I.bk) ((h2 x hn).trans hv) h) hd
theorem cC(hg:Gl X x)(hm:X.mg x=A? u)(r:RelV v u)(hd:(x == ("__debug__":Xk))=false:=by decide):PE X (.Name x pos) (tC v) :=
 λ_ _ _ H _ I h=>kN I hg hm ⟨v,H,I,r,h⟩ hd
theorem dW(hg:Gl X x)(hm:X.mg x=B?)(hv:bootBuiltins x=A? u)(r:RelV v u)(hn:x≠"__name__":=by decide)(hd:(x == ("__debug__":Xk))=false:=by decide):PE X (.Name x pos) (tC v) :=
 λ_ _ _ H _ I h=>cJ I hg hm hv ⟨v,H,I,r,h⟩ hn hd
variable{a b:X7}{ta tb:TE}
def PC(X:Cx)(op:CmpOp)(a b:X7)(t:TE):Prop :=
 ∀(U:List (WR×Zb))(s:WY)(Z:St)(H:Hp)(Q:VK),Inv X U Z H s->t Z H Q ->
   W9 (Xu X.prog X.w) X.A (YY a X.env) (λv Ab=>W9 (Xu X.prog X.w) X.A (YY b X.env) (λu AH=>W9 (Xu X.prog X.w) X.A (Zt op v u) (EP X U Z Q) X.xe AH) X.xe Ab) X.xe s
def tB(t:TE):TT:=λZ H Q=>t Z H λx H1=>∃c,x=.bl c/\Q c H1
theorem sG{t:TE}(h:PC X op a b t)(h1:behindInMarks op b=false:=by first|exact IP _ (by decide) (by decide)|rfl):PT X (.Compare a [op] [b] pos) (tB t):=by
 intro U s Z H Q I hw;refine wpAny_isTrue_Compare1 (thn (h U s Z H _ I hw) λv s1 h1=>thn h1 λu s2 h2=>thn h2 λc s3⟨x,H1,I1,r1,q1⟩=>?_) h1;obtain⟨d,rfl,q⟩:=q1;cases r1;exact Z4 ⟨H1,I1,q⟩
variable{tA LB:TT}{rest:List X7}
def abQ(t u:TT):TT:=λZ H Q=>t Z H λc H1=>if c=C? then u Z H1 Q else Q CV H1
def tOr(t u:TT):TT:=λZ H Q=>t Z H λc H1=>if c=C? then Q C? H1 else u Z H1 Q
def ab3(t:TT):TT:=λZ H Q=>t Z H λc H1=>Q (!c) H1
theorem yj(ha:PT X a tA):PW X (.BoolOp .And [a] pos) tA:=by
 intro wh U s Z H Q I h;refine isTrue_and (thn (ha U s Z H Q I h) λc s1 e=>?_);cases c with
 |true=>exact isTrue_and_nil e
 |false=>exact e
theorem fD(ha:PT X a tA):PW X (.BoolOp .Or [a] pos) tA:=by
 intro wh U s Z H Q I h;refine isTrue_or (thn (ha U s Z H Q I h) λc s1 e=>?_);cases c with
 |false=>exact isTrue_or_nil e
 |true=>exact e
theorem aab(ha:PT X a tA)(hb:PW X (.BoolOp .And (b::rest) pos) LB):PW X (.BoolOp .And (a::b::rest) pos) (abQ tA LB):=by
 intro wh U s Z H Q I h;refine isTrue_and (thn (ha U s Z H _ I h) λc s1⟨H1,I1,q1⟩=>?_);cases c with
 |true=>exact hb wh U s1 Z H1 Q I1 q1
 |false=>exact⟨H1,I1,q1⟩
theorem fj(ha:PT X a tA)(hb:PW X (.BoolOp .Or (b::rest) pos) LB):PW X (.BoolOp .Or (a::b::rest) pos) (tOr tA LB):=by
 intro wh U s Z H Q I h;refine isTrue_or (thn (ha U s Z H _ I h) λc s1⟨H1,I1,q1⟩=>?_);cases c with
 |true=>exact⟨H1,I1,q1⟩
 |false=>exact hb wh U s1 Z H1 Q I1 q1
theorem cR(ha:PT X a tA):PT X (.UnaryOp .Not a pos) (ab3 tA):=by
 intro U s Z H Q I h;exact isTrue_not (ha U s Z H (λc H1=>Q (!c) H1) I h)
def abe(ta tb:TE):TE:=λZ H Q=>ta Z H λx H1=>∃c,x=.bl c/\if c=C? then tb Z H1 Q else Q (.bl CV) H1
def abo(ta:TE):TE:=λZ H Q=>ta Z H λx H1=>∃c,x=.bl c/\Q (.bl (!c)) H1
theorem gJ{op}{t:TE}(h:PE X a t):PE X (.BoolOp op [a] pos) t:=λU s Z H Q I hw=>BoolOp_one (h U s Z H Q I hw)
theorem fA(ha:PE X a ta)(hb:PE X (.BoolOp .And (b::rest) pos) tb):PE X (.BoolOp .And (a::b::rest) pos) (abe ta tb):=by
 intro U s Z H Q I h;refine BoolOp_and (thn (ha U s Z H _ I h) λv s1⟨x,H1,I1,r1,q1⟩=>?_);obtain⟨c,rfl,q1⟩:=q1;cases r1;refine Z4 ?_;cases c with
 |true=>exact hb U s1 Z H1 Q I1 q1
 |false=>exact⟨.bl CV,H1,I1,D?,q1⟩
theorem oU(ha:PE X a ta):PE X (.UnaryOp .Not a pos) (abo ta):=by
 intro U s Z H Q I h;refine UnaryOp_ (thn (ha U s Z H _ I h) λv s1⟨x,H1,I1,r1,q1⟩=>?_);obtain⟨c,rfl,q1⟩:=q1;cases r1;exact not_of (Z4 ⟨.bl (!c),H1,I1,rfl,q1⟩)
end
def SqL(K:WQ)(H:Hp)(a:WR)(xs:List V):Prop :=
 Rd H a (.lst xs) \/
  ∃(o:Zb)(its:Array WU)(n:Nat),K.lookup a=A? o/\o.cls=.type "list"/\o.dict=B?/\o.data=.seq its n/\its.size<=Xg/\Vals xs its.toList
def SqT(K:WQ)(H:Hp)(a:WR)(xs:List V):Prop :=
 Rd H a (.tup xs) \/
  ∃(o:Zb)(its:Array WU)(n:Nat),K.lookup a=A? o/\o.cls=.type "tuple"/\o.data=.seq its n/\its.size<=Xg/\Vals xs its.toList
def abV:WU->Option V
 |.none=>A? .non
 |.bool b=>A? (.bl b)
 |.int i _=>A? (.int i)
 |.str x _=>A? (.str x)
 |.bytes b _=>A? (.byt b)
 |.float b _=>A? (.flt b)
 |.ref a=>A? (.ref a)
 |.type n=>A? (.ty n)
 |_=>B?
theorem RelV.abs{x:V}(r:RelV x u):abV u=A? x:=by
 cases x with
 |non=>cases r;rfl
 |bl _=>cases r;rfl
 |int _=>obtain⟨t,rfl⟩:=r;rfl
 |str _=>obtain⟨t,rfl⟩:=r;rfl
 |byt _=>obtain⟨t,rfl⟩:=r;rfl
 |flt _=>obtain⟨t,rfl⟩:=r;rfl
 |ref _=>cases r;rfl
 |ty _=>cases r;rfl
theorem RelV.inj{x:V}(r:RelV x u)(q:RelV y u):x=y:=Xm (r.abs.symm.trans q.abs)
theorem Vals.inj:∀{xs ys:List V}{us:List WU},Vals xs us->Vals ys us->xs=ys
 |_,_,_,.nil,.nil=>rfl
 |_,_,_,.cons r t,.cons r' t'=>by rw[r.inj r',Vals.inj t t']
section
variable{X:Cx}{ys:List V}
theorem SqL.of(h:H a=A? (.lst xs)):SqL K H a xs:=.inl (.inl h)
theorem SqT.of(h:H a=A? (.tup xs)):SqT K H a xs:=.inl (.inl h)
theorem Inv.list(I:Inv X U Z H s)(h:SqL X.K H a xs):∃its:List WU,Vals xs its/\PlainL s.1 a its.toArray/\xs.length<=Xg:=by
 rcases h with h|⟨o,its,n,hk,hc,hd,hs,hz,r⟩
 .obtain⟨z,its,n,r,e⟩:=h.ok I.hok;exact⟨its,r,⟨_,n,e,D?,D?,D?⟩,z⟩
 .refine⟨its.toList,r,⟨o,n,I.kIn a o hk,hc,hd,by simpa using hs⟩,?_⟩;have e:=r.length;simp only[XN]at e;lia
theorem Inv.tuple(I:Inv X U Z H s)(h:SqT X.K H a xs):∃its:List WU,Vals xs its/\IsTup s.1 a its.toArray/\xs.length<=Xg:=by
 rcases h with h|⟨o,its,n,hk,hc,hs,hz,r⟩
 .obtain⟨z,its,n,r,p⟩:=h.ok I.hok;exact⟨its,r,⟨_,p,D?,n,D?⟩,z⟩
 .refine⟨its.toList,r,⟨o,I.kIn a o hk,hc,n,by simpa using hs⟩,?_⟩;have e:=r.length;simp only[XN]at e;lia
theorem Inv.list_inj(I:Inv X U Z H s)(h:SqL X.K H a xs)(h':SqL X.K H a ys):xs=ys:=by
 obtain⟨its,r,⟨o,n,e,_,_,d⟩,_⟩:=I.list h;obtain⟨its',r',⟨o',n',e',_,_,d'⟩,_⟩:=I.list h';rw[e]at e';cases e';rw[d]at d';injection d' with d1 _;have:its=its':=by simpa using h! Array.toList d1
 subst this;exact r.inj r'
theorem Inv.tuple_inj(I:Inv X U Z H s)(h:SqT X.K H a xs)(h':SqT X.K H a ys):xs=ys:=by
 obtain⟨its,r,⟨o,e,_,n,d⟩,_⟩:=I.tuple h;obtain⟨its',r',⟨o',e',_,n',d'⟩,_⟩:=I.tuple h';rw[e]at e';cases e';rw[d]at d';injection d' with d1 _;have:its=its':=by simpa using h! Array.toList d1
 subst this;exact r.inj r'
end
abbrev Cx.wish(X:Cx)(E:WU->WY->Prop):Cx:={X with xe:=E}
abbrev Cx.nox(X:Cx):Cx:=X.wish λ_ _=>False
theorem Cx.Ok.wish{X:Cx}(ok:X.Ok)(E:WU->WY->Prop):(X.wish E).Ok :=
 ⟨ok.mod,ok.kind,ok.glob,ok.blt,ok.above,ok.inj,ok.has,ok.cab,ok.hd,ok.frames,ok.stk,ok.exf,ok.bs,ok.bsz,ok.noex,ok.exfs,ok.funs,ok.frf⟩
theorem Cx.Ok.unwish{X:Cx}(ok:(X.wish E).Ok):X.Ok :=
 ⟨ok.mod,ok.kind,ok.glob,ok.blt,ok.above,ok.inj,ok.has,ok.cab,ok.hd,ok.frames,ok.stk,ok.exf,ok.bs,ok.bsz,ok.noex,ok.exfs,ok.funs,ok.frf⟩
section
variable{X:Cx}
theorem Inv.wish(I:Inv X U Z H s)(E:WU->WY->Prop):Inv (X.wish E) U Z H s:=⟨I.ok.wish E,I.os,I.bare,I.base,I.loc,I.cell,I.free,I.freeC,I.pin,I.hok,I.len⟩
theorem Inv.unwish(I:Inv (X.wish E) U Z H s):Inv X U Z H s:=⟨I.ok.unwish,I.os,I.bare,I.base,I.loc,I.cell,I.free,I.freeC,I.pin,I.hok,I.len⟩
theorem SP.unwish{f:Flow}{s':WY}(h:SP (X.wish E) U D f s'):SP X U D f s':=by
 cases f with
 |next=>obtain⟨Aa,H',I,q⟩:=h;exact⟨Aa,H',I.unwish,q⟩
 |brk=>obtain⟨Aa,H',I,q⟩:=h;exact⟨Aa,H',I.unwish,q⟩
 |cont=>obtain⟨Aa,H',I,q⟩:=h;exact⟨Aa,H',I.unwish,q⟩
 |ret u=>obtain⟨v,Aa,H',I,r,q⟩:=h;exact⟨v,Aa,H',I.unwish,r,q⟩
theorem PSs.nox{st:List Stmt}{t:TS}(h:PSs X.nox st t):PSs X st t:=λU s Z H D I hw =>
 Y6 (h U s Z H D (I.wish _) hw) (λ_ _ q=>q.unwish) λ_ _ z=>YF z
end
section
variable{X:Cx}{st:Stmt}{rest:List Stmt}{t u:TS}
def zG:TS:=λD Z H=>D.nx Z H
def abg(t u:TS):TS:=λD Z H=>t {D with nx:=u D} Z H
theorem bh:PSs X [] zG:=λ_ _ Z H _ I h=>wpAny_execs_nil ⟨Z,H,I,h⟩
theorem ad(h1:PS X st t)(h2:PSs X rest u):PSs X (st::rest) (abg t u):=by
 intro U s Z H D I h;refine wpAny_execs_cons (thn (h1 U s Z H {D with nx:=u D} I h) λf s1 q=>?_);cases f with
 | next =>
   obtain⟨Aa,H',I',q⟩:=q;exact h2 U s1 Aa H' D I' q
 |ret v=>exact q
 |brk=>exact q
 |cont=>exact q
theorem ae(h1:PS X st t):PSs X [st] t:=by
 intro U s Z H D I h;refine wpAny_execs_cons (thn (h1 U s Z H D I h) λf s1 q=>?_);cases f with
 |next=>exact wpAny_execs_nil q
 |ret v=>exact q
 |brk=>exact q
 |cont=>exact q
theorem Inv.quiet(I:Inv X U Z H s):interactive X.env=false:=by simp[interactive,I.ok.kind]
def aaU(te:TE):TS:=λD Z H=>te Z H λ_ H1=>D.nx Z H1
theorem aS(he:PE X e te)(hs:swapsWith e B? pos.line X.env=pure false:=by rfl):PS X (.Expr e pos) (aaU te):=by
 intro U s Z H D I h;exact wpAny_Expr_any (thn (he U s Z H _ I h) λv s1⟨x,H1,I1,r1,q1⟩=>⟨Z,H1,I1,q1⟩) I.quiet hs
def ab8(te:TE):TS:=λD Z H=>te Z H D.rt
theorem aw(he:PE X e te):PS X (.Return (A? e) pos) (ab8 te):=by
 intro U s Z H D I h;exact wpAny_Return_some (thn (he U s Z H _ I h) λv s1⟨x,H1,I1,r1,q1⟩=>⟨x,Z,H1,I1,r1,q1⟩)
def aaK(c:TT)(t u:TS):TS:=λD Z H=>c Z H λb H1=>if b=C? then t D Z H1 else u D Z H1
theorem bK{c:X7}{a b:List Stmt}{tc:TT}(hc:PT X c tc)(ha:PSs X a t)(hb:PSs X b u):PS X (.If c a b pos) (aaK tc t u):=by
 intro U s Z H D I h;refine wpAny_If (thn (hc U s Z H _ I h) λd s1⟨H1,I1,q1⟩=>?_);cases d with
 |true=>exact ha U s1 Z H1 D I1 q1
 |false=>exact hb U s1 Z H1 D I1 q1
def aaH:TS:=λ_ _ _=>False
theorem lY:PS X st aaH:=λ_ _ _ _ _ _ h=>h.elim
end
abbrev TG:=V->St->Hp->(St->Hp->Prop)->Prop
abbrev TGs:=List V->St->Hp->(St->Hp->Prop)->Prop
def PG(X:Cx)(target:X7)(t:TG):Prop :=
 ∀(U:List (WR×Zb))(s:WY)(Z:St)(H:Hp)(v:V)(u:WU)(Q:St->Hp->Prop),Inv X U Z H s->RelV v u->t v Z H Q ->
   W9 (Xu X.prog X.w) X.A (assign target X.env u) (λ_ s'=>∃Aa H',Inv X U Aa H' s'/\Q Aa H') X.xe s
def PGs(X:Cx)(ts:List X7)(t:TGs):Prop :=
 ∀(U:List (WR×Zb))(s:WY)(Z:St)(H:Hp)(vs:List V)(us:List WU)(Q:St->Hp->Prop),Inv X U Z H s->Vals vs us->t vs Z H Q ->
   W9 (Xu X.prog X.w) X.A (assignInOrder ((assignEach ts X.env).map (·.2)) us) (λ_ s'=>∃Aa H',Inv X U Aa H' s'/\Q Aa H') X.xe s
abbrev aao:=V->V->V->Hp->(Hp->Prop)->Prop
def abw(X:Cx)(t:aao):Prop :=
 ∀(U:List (WR×Zb))(s:WY)(Z:St)(H:Hp)(o i v:V)(ov iv u:WU)(Q:Hp->Prop),Inv X U Z H s->RelV o ov->RelV i iv->RelV v u->t o i v H Q ->
   W9 (Xu X.prog X.w) X.A (setItem ov iv u) (λ_ s'=>∃H',Inv X U Z H' s'/\Q H') X.xe s
abbrev TIp:=V->V->Hp->VK->Prop
def PIp(X:Cx)(op:Operator)(t:TIp):Prop :=
 ∀(U:List (WR×Zb))(s:WY)(Z:St)(H:Hp)(x y:V)(v u:WU)(Q:VK),Inv X U Z H s->RelV x v->RelV y u->t x y H Q ->
   W9 (Xu X.prog X.w) X.A (inplaceOp op v u) (EP X U Z Q) X.xe s
section
variable{X:Cx}
def av(i:Nat):TG:=λv Z H Q=>Q (Z.set i (A? v)) H
theorem ym(hN:X.N.Nodup)(hi:X.N[i]?=A? x)(hx:Loc X.env.scope x)(hf:X.fn x=C?\/X.env.scope.names.lookup x=A? .local:=by first|exact .inl rfl|exact .inr rfl|assumption):PG X (.Name x pos) (av i):=by
 intro U s Z H v u Q I r h;exact wpAny_assign_Name (gF I hN hi hx r (λs' I'=>⟨_,H,I',h⟩) hf)
def mN:TGs:=λvs Z H Q=>vs=[]/\Q Z H
def cY(t:TG)(u:TGs):TGs:=λvs Z H Q=>∃v r,vs=v::r/\t v Z H λAa H'=>u r Aa H' Q
theorem aV:PGs X [] mN:=by
 intro U s Z H vs us Q I r h;obtain⟨e,h⟩:=h;subst e;cases r;exact assignInOrder_nil ⟨Z,H,I,h⟩
theorem aj{t:TG}{u:TGs}(h1:PG X e t)(h2:PGs X es u)
 (hs:(assignEach (e::es) X.env).map (·.2)=assign e X.env::(assignEach es X.env).map (·.2):=by rfl):PGs X (e::es) (cY t u):=by
 intro U s Z H vs us Q I r h;obtain⟨v,vr,e1,h⟩:=h;subst e1;cases r with
 | cons r rr =>
   rw[hs];refine assignInOrder_cons (thn (h1 U s Z H _ _ _ I r h) λ_ s1⟨BR,H1,I1,q1⟩=>?_);exact h2 U s1 BR H1 _ _ Q I1 rr q1
def mV(K:WQ)(n:Nat)(t:TGs):TG:=λv Z H Q=>∃a xs,v=.ref a/\SqT K H a xs/\xs.length=n/\t xs Z H Q
theorem bp{k:Nat}{t:TGs}(hc:X.calm=C?)(h:PGs X es t)
 (hn:(assignEach es X.env).length=n:=by rfl) (AS:(assignEach es X.env).findIdx? (·.1)=none:=by rfl):PG X (.Tuple es k pos) (mV X.K n t):=by
 intro U s Z H v u Q I r hw;obtain⟨a,xs,e1,hq,hl,hw⟩:=hw;subst e1;cases r;obtain⟨its,rv,ht,hz⟩:=I.tuple hq;refine assign_Tuple_tuple (I.ok.hd hc) ht (by simp[hn,<-hl,rv.length]) AS λh' hx=>?_;have I1:Inv X U Z H {s with heap:=h'}:=I.kept (t':=s.toks) λb o e=>hx b o (XB (Xa e)) e;exact h U _ Z H xs _ Q I1 (by simpa using rv) hw
def abM(to ti:TE)(t:aao):TG:=λv Z H Q=>to Z H λo H1=>ti Z H1 λi H2=>t o i v H2 λH3=>Q Z H3
theorem vL{o i:X7}{to ti:TE}{t:aao}(ho:PE X o to)(hi:PE X i ti)(hs:abw X t)
 (ha:∀v,assign (.Subscript o i pos) X.env v=(do
  let ov <-holding [v] (YY o X.env)
  let iv <-holding [v,ov] (YY i X.env)
  standAt pos
  holding [v,ov,iv] (setItem ov iv v)
  release [v,ov,iv] []):=by intro _;rfl):PG X (.Subscript o i pos) (abM to ti t):=by
 intro U s Z H v u Q I r h;rw[ha];refine WO (Yy (thn (ho U s Z H _ I h) λov s1⟨x,H1,I1,r1,q1⟩=>?_));refine WO (Yy (thn (hi U s1 Z H1 _ I1 q1) λiv s2⟨y,H2,I2,r2,q2⟩=>?_));refine WO (wpAny_standAt (WO (Yy (thn (hs U s2 Z H2 x y v ov iv u _ I2 r1 r2 r q2) λ_ s3⟨H3,I3,q3⟩=>?_))));exact wpAny_release ⟨Z,H3,I3,q3⟩
def xP(te:TE)(g:TG):TS:=λD Z H=>te Z H λx H1=>g x Z H1 D.nx
theorem fw{g:TG}(he:PE X e te)(hg:PG X tg g)(hs:swapsWithSole [tg] e pos.line X.env=pure false:=by rfl)(hw:swappedStores [tg] e X.env=pure none:=by rfl)
 (h1:(assignEach [tg] X.env).map (·.2)=[assign tg X.env]:=by rfl):PS X (.Assign [tg] e pos) (xP te g):=by
 intro U s Z H D I h;refine wpAny_Assign_stores (thn (he U s Z H _ I h) λv s1⟨x,H1,I1,r1,q1⟩=>?_) hs hw;rw[h1];exact thn (hg U s1 Z H1 x v _ I1 r1 q1) λ_ s2 q=>q
theorem vC(hN:X.N.Nodup)(hi:X.N[i]?=A? x)(hx:Loc X.env.scope x)(he:PE X e te)(hs:swapsWith e (A? (.Name x pos')) pos.line X.env=pure false:=by rfl)(hf:X.fn x=C?\/X.env.scope.names.lookup x=A? .local:=by first|exact .inl rfl|exact .inr rfl|assumption) :
 PS X (.Assign [.Name x pos'] e pos) (xP te (av i)):=by
 intro U s Z H D I h;refine wpAny_Assign_Name (thn (he U s Z H _ I h) λv s1⟨y,H1,I1,r1,q1⟩=>?_) hs;exact gF I1 hN hi hx r1 (λs2 I2=>⟨_,H1,I2,q1⟩) hf
def abC(i:Nat)(te:TE)(ti:TIp):TS:=λD Z H=>∃x,Z[i]?=A? (A? x)/\te Z H λy H1=>ti x y H1 λz H2=>D.nx (Z.set i (A? z)) H2
theorem vN{op:Operator}{ti:TIp}(hN:X.N.Nodup)(hi:X.N[i]?=A? x)(hx:Loc X.env.scope x)(he:PE X e te)(ho:PIp X op ti)(hf:X.fn x=C?\/X.env.scope.names.lookup x=A? .local:=by first|exact .inl rfl|exact .inr rfl|assumption) :
 PS X (.AugAssign (.Name x pos') op e pos) (abC i te ti):=by
 intro U s Z H D I h;obtain⟨v,e1,h⟩:=h;obtain⟨m,hn,hl⟩:=I.loc;have Qm:Vis X.env.scope x:=by rcases hx with k|k;exact .inl k;exact .inr (.inl k)
 obtain⟨u,r,l⟩:=hl i x v hi e1 Qm;refine wpAny_AugAssign_Name ?_
 have go:W9 (Xu X.prog X.w) X.A (YY e X.env) (λw AH=>W9 (Xu X.prog X.w) X.A (inplaceOp op u w) (λr B5=>W9 (Xu X.prog X.w) X.A (storeName X.env x r) (λ_=>SP X U D .next) X.xe B5) X.xe AH) X.xe s:=by
  refine thn (he U s Z H _ I h) λw s1⟨y,H1,I1,r1,q1⟩=>?_;refine thn (ho U s1 Z H1 v y u w _ I1 r r1 q1) λz s2⟨zv,H2,I2,r2,q2⟩=>?_;exact gF I2 hN hi hx r2 (λs3 I3=>⟨_,H2,I3,q2⟩) hf
 rcases l with⟨hk,hm⟩|⟨hk,c,hc,Bi⟩
 .exact wpAny_loadName_local I.ok.kind hk hn hm go
 .rcases hk with hk|hk
  .exact wpAny_loadName_cell I.ok.kind hk hc Bi go
  .rcases hx with k|k
   .have:X.env.scope.names.lookup x=A? .free:=hk;rw[k]at this;cases this
   .have:X.env.scope.names.lookup x=A? .free:=hk;rw[k]at this;cases this
def ipI(f:Int->Int->Int):TIp:=λx y H Q=>∃i j,x=.int i/\y=.int j/\Q (.int (f i j)) H
theorem wC:PIp X .Add (ipI λi j=>i+j):=by
 intro U s Z H x y v u Q I r1 r2 h;obtain⟨i,j,e1,e2,q⟩:=h;subst e1;subst e2;obtain⟨t,rfl⟩:=r1;obtain⟨t',rfl⟩:=r2;exact iadd_int ⟨.int _,H,I.tok _,⟨_,rfl⟩,q⟩
end
section
variable{X:Cx}
def aay(c:TT)(tb:TS):TS:=λD Z H=>∃W:Nat->St->Hp->Prop,(∃m,W m Z H)/\∀m Z H,W m Z H ->
 c Z H λb H1=>if b=C? then∃N:St->Hp->Prop,(∀Aa H',N Aa H'->∃m',m'<m/\W m' Aa H')/\tb {D with nx:=N,ct:=N,bk:=D.nx} Z H1 else D.nx Z H1
theorem eV{c:X7}{tc:TT}(hp:PassesOwn (Xu X.prog X.w) X.A X.env X.xe)(hc:PT X c tc)(hb:PSs X body tb):PS X (.While c body [] pos) (aay tc tb):=by
 intro U s Z H D I h;obtain⟨W,⟨m0,w0⟩,turn⟩:=h;refine wpAny_While (codeAny_whileLoop (λn s'=>∃Aa H',Inv X U Aa H' s'/\W n Aa H') ?_ m0 ⟨Z,H,I,w0⟩);rintro n s1 ⟨BR,H1,I1,w1⟩;refine wpAny_passesOwn hp (thn (hc U s1 BR H1 _ I1 (turn n BR H1 w1)) λb s2⟨H2,I2,q2⟩=>?_);cases b with
 | true =>
   obtain⟨N,hN,q2⟩:=q2;rw[b! rfl];refine wpAny_passesOwn hp (thn (hb U s2 BR H2 _ I2 q2) λf s3 q3=>?_);cases f with
   | next =>
     obtain⟨D0,H3,I3,n3⟩:=q3;obtain⟨m',hm,w3⟩:=hN D0 H3 n3;exact⟨m',hm,D0,H3,I3,w3⟩
   | cont =>
     obtain⟨D0,H3,I3,n3⟩:=q3;obtain⟨m',hm,w3⟩:=hN D0 H3 n3;exact⟨m',hm,D0,H3,I3,w3⟩
   |brk=>exact q3
   |ret v=>exact q3
 | false =>
   rw[a! W0];exact wpAny_execs_nil ⟨BR,H2,I2,q2⟩
end
structure It where
 go:Nat->Hp->Prop
 yld:Nat->Hp->V->Hp->Prop
 stop:Nat->Hp->Prop
def jL(X:Cx)(U:List (WR×Zb))(H:Hp)(b:WR):Prop :=
 H b=B?/\b≠X.env.locals/\b∉X.fs/\(b∈X.ex\/X.s₀.heap.1.size<=b)/\(∀x c,X.env.cells.lookup x=A? c->c≠b)/\∀p∈X.pn++U,p.1≠b
theorem Inv.fpOk{X:Cx}(I:Inv X U Z H s)(hb:s.1.1.size<=b)(hn:H' b=B?):jL X U H' b:=by
 refine⟨hn,Nat.ne_of_gt (XO I.lt hb),I.nofs hb,.inr (XC I.sz hb),λx c e z=>?_,λp hp z=>?_⟩
 .obtain⟨v,q⟩:=I.cell x c e;exact g! (XO q.lt (by rw[z];exact hb)) (Ys _)
 .exact g! (XO (Xa (I.pin p hp).1) (by rw[z];exact hb)) (Ys _)
structure Turn(P:W6)(w:Xo)(K:WQ)(tg:X7)(J:It)(fp:List WR)(it:WR)(tn:Nat->Yd->Prop):Prop where
 mem:it∈fp
 obj:∀i h,tn i h->∀b∈fp,∃o,h.get? b=A? o/\∀v,o.data≠.cell v
 keep:∀i h h',tn i h->(∀b∈fp,∀o,h.get? b=A? o->h'.get? b=A? o)->tn i h'
 item:∀(X:Cx),X.prog=P->X.w=w->X.K=K->X.calm=C?->∀(i:Nat)(U:List (WR×Zb))(s:WY)(Z:St)(H:Hp)(E:WU->WY->Prop),Inv X U Z H s->(∀b∈fp,jL X U H b)->tn i s.1->J.go i H ->
  W9 (Xu P w) X.A (pyNext (.ref it)) (λr s1=>∃u,r=A? u /\
   W9 (Xu P w) X.A (letOwnedTupleGo tg (.ref it) u) (λ_ s2=>∃x H',Inv X U Z H' s2/\RelV x u/\J.yld i H x H'/\tn (i+1) s2.1/\∀b∈fp,H' b=B?) E s1) E s
 done:∀(X:Cx),X.prog=P->X.w=w->X.K=K->X.calm=C?->∀(i:Nat)(U:List (WR×Zb))(s:WY)(Z:St)(H:Hp)(E:WU->WY->Prop),Inv X U Z H s->(∀b∈fp,jL X U H b)->tn i s.1->J.stop i H ->
  W9 (Xu P w) X.A (pyNext (.ref it)) (λr s1=>r=B?/\Inv X U Z H s1) E s
 self:∀(A:XG)(i:Nat)(s:WY)(Q:WU->WY->Prop)(E:WU->WY->Prop),tn i s.1->Q (.ref it) s->W9 (Xu P w) A (pyIter (.ref it)) Q E s
abbrev TI:=St->Hp->(It->Hp->Prop)->Prop
def PIE(X:Cx)(U:List (WR×Zb))(Z:St)(tg:X7)(R:It->Hp->Prop)(LC:WU)(s2:WY):Prop :=
 ∃(it:WR)(fp:List WR)(tn:Nat->Yd->Prop)(J:It)(H':Hp),LC=.ref it/\Inv X U Z H' s2/\Turn X.prog X.w X.K tg J fp it tn/\tn 0 s2.1/\(∀b∈fp,jL X U H' b)/\R J H'
def PI(X:Cx)(tg iter:X7)(wi:TI):Prop :=
 ∀(U:List (WR×Zb))(s:WY)(Z:St)(H:Hp)(R:It->Hp->Prop),Inv X U Z H s->wi Z H R ->
   W9 (Xu X.prog X.w) X.A (YY iter X.env) (λv s1=>W9 (Xu X.prog X.w) X.A (pyIter v) (PIE X U Z tg R) X.xe s1) X.xe s
theorem sV{M:Model}{o:Zb}{n:String}{vs:Array WU}{Q:Unit->WY->Prop}(ho:s.1.get? it=A? o)(hc:o.cls=.type n)(hd:o.data=.fields vs)
 (hn:["enumerate","zip","dict_itemiterator","dict_reverseitemiterator","odict_iterator","itertools.zip_longest","itertools.pairwise"].contains n=CV) (hQ:Q () s):W9 M A (letOwnedTupleGo tg (.ref it) u) Q E s:=by
 unfold letOwnedTupleGo
 cases tg <;> first
  |exact WX hQ
  |(cases u <;> first
   |exact WX hQ
   | (refine WO (wpAny_load ho ?_)
      rw[hc,hd];show W9 M A (if(["enumerate","zip","dict_itemiterator","dict_reverseitemiterator","odict_iterator","itertools.zip_longest","itertools.pairwise"].contains n && vs[0]? == A? (Y7 _))=C? then _ else _) Q E s;rw[a! (by intro h;rw[hn,Bool.false_and]at h;cases h)];exact WX hQ))
def Itl(K:WQ)(a:WR):It :=
 ⟨λi H=>∃xs x,SqL K H a xs/\xs[i]?=A? x,λi H x H'=>H'=H/\∀xs,SqL K H a xs->xs[i]?=A? x,λi H=>∃xs,SqL K H a xs/\xs.length<=i⟩
def Itt(K:WQ)(a:WR):It :=
 ⟨λi H=>∃xs x,SqT K H a xs/\xs[i]?=A? x,λi H x H'=>H'=H/\∀xs,SqT K H a xs->xs[i]?=A? x,λi H=>∃xs,SqT K H a xs/\xs.length<=i⟩
def Itr(lo:Int)(n:Nat):It:=⟨λi _=>i<n,λi H x H'=>H'=H/\x=.int (lo+i),λi _=>n<=i⟩
theorem nj(a it:WR):Turn P w K tg (Itl K a) [it] it (λi h=>h.IsListIter it a i) where
 mem:=by simp
 obj:=λi h st b hb=>by
  have e:b=it:=by simpa using hb
  subst e;obtain⟨o,e,c,d⟩:=st;exact⟨o,e,λv z=>by rw[d]at z;cases z⟩
 keep:=λi h h' st k=>st.at λo e=>k it (by simp) o e
 item:=by
  intro X hP hw hK hc i U s Z H E I hf st hg;subst hP hw hK;obtain⟨xs,x,hq,hx⟩:=hg;obtain⟨its,rv,p,hz⟩:=I.list hq;obtain⟨u,hu,ru⟩:=rv.get hx;obtain⟨f0,f1,f2,f3,f4,f5⟩:=hf it (by simp);refine wpAny_pyNext_list_item st p.isList (x:=u) (by simpa using hu) λh' DS sb=>?_;have I1:Inv X U Z H {s with heap:=h'}:=I.turned (t':=s.toks) (λb o hb e=>(sb.2 b hb).trans e) f0 f1 f3 f4 f5;obtain⟨o,e,c,d⟩:=id DS;exact⟨u,D?,sV (s:={s with heap:=h'}) e c d (by decide) ⟨x,H,I1,ru,⟨D?,λys hy=>by rw[I.list_inj hy hq];exact hx⟩,DS,λb hb=>(hf b hb).1⟩⟩
 done:=by
  intro X hP hw hK hc i U s Z H E I hf st hg;subst hP hw hK;obtain⟨xs,hq,hx⟩:=hg;obtain⟨its,rv,p,hz⟩:=I.list hq;obtain⟨f0,f1,f2,f3,f4,f5⟩:=hf it (by simp);have hl:=rv.length;exact wpAny_pyNext_list_end (I.ok.hd hc) st p.isList (by simp;lia) λh' eb=>⟨rfl,I.turned (t':=s.toks) (λb o hb e=>eb b o hb e) f0 f1 f3 f4 f5⟩
 self:=λ_ _ _ _ _ st h=>wpAny_pyIter_listiter st h
theorem lV(a it:WR):Turn P w K tg (Itt K a) [it] it (λi h=>h.IsTupleIter it a i) where
 mem:=by simp
 obj:=λi h st b hb=>by
  have e:b=it:=by simpa using hb
  subst e;obtain⟨o,e,c,d⟩:=st;exact⟨o,e,λv z=>by rw[d]at z;cases z⟩
 keep:=λi h h' st k=>st.at λo e=>k it (by simp) o e
 item:=by
  intro X hP hw hK hc i U s Z H E I hf st hg;subst hP hw hK;obtain⟨xs,x,hq,hx⟩:=hg;obtain⟨its,rv,p,hz⟩:=I.tuple hq;obtain⟨u,hu,ru⟩:=rv.get hx;obtain⟨f0,f1,f2,f3,f4,f5⟩:=hf it (by simp);refine wpAny_pyNext_tuple_item st (show s.1.IsTuple a its.toArray from p) (x:=u) (by simpa using hu) λh' DS sb=>?_;have I1:Inv X U Z H {s with heap:=h'}:=I.turned (t':=s.toks) (λb o hb e=>(sb.2 b hb).trans e) f0 f1 f3 f4 f5;obtain⟨o,e,c,d⟩:=id DS;exact⟨u,D?,sV (s:={s with heap:=h'}) e c d (by decide) ⟨x,H,I1,ru,⟨D?,λys hy=>by rw[I.tuple_inj hy hq];exact hx⟩,DS,λb hb=>(hf b hb).1⟩⟩
 done:=by
  intro X hP hw hK hc i U s Z H E I hf st hg;subst hP hw hK;obtain⟨xs,hq,hx⟩:=hg;obtain⟨its,rv,p,hz⟩:=I.tuple hq;obtain⟨f0,f1,f2,f3,f4,f5⟩:=hf it (by simp);have hl:=rv.length;exact wpAny_pyNext_tuple_end (I.ok.hd hc) st (show s.1.IsTuple a its.toArray from p) (by simp;lia) λh' eb=>⟨rfl,I.turned (t':=s.toks) (λb o hb e=>eb b o hb e) f0 f1 f3 f4 f5⟩
 self:=λ_ _ _ _ _ st h=>wpAny_pyIter_tupleiter st h
theorem sH(it:WR)(lo:Int)(n:Nat):Turn P w K tg (Itr lo n) [it] it (λi h=>IsRangeIter h it (lo+(i:Nat) * 1) ((n:Int) - (i:Nat)) 1) where
 mem:=by simp
 obj:=λi h st b hb=>by
  have e:b=it:=by simpa using hb
  subst e
  exact⟨_,st,λv z=>by
   have z':Data.fields _=Data.cell v:=z;cases z'⟩
 keep:=λi h h' st k=>k it (by simp) _ st
 item:=by
  intro X hP hw hK hc i U s Z H E I hf st hg;subst hP hw hK;obtain⟨f0,f1,f2,f3,f4,f5⟩:=hf it (by simp);have W:=Walks.range (prog:=X.prog) (w:=X.w) (I.ok.hd hc) it lo 1 n;refine W.item i s _ _ hg st λv h' tk hv DS kk=>?_;obtain⟨t,rfl⟩:=hv;have I1:Inv X U Z H {s with heap:=h',toks:=tk}:=I.turned (λb o hb e=>kk b o (by simpa using hb) e) f0 f1 f3 f4 f5;refine⟨_,D?,sV (s:={s with heap:=h',toks:=tk}) (n:="range_iterator") DS rfl rfl (by decide) ⟨.int (lo+i),H,I1,⟨t,?_⟩,⟨D?,D?⟩,DS,λb hb=>(hf b hb).1⟩⟩;rw[Int.mul_one]
 done:=by
  intro X hP hw hK hc i U s Z H E I hf st hg;subst hP hw hK;obtain⟨f0,f1,f2,f3,f4,f5⟩:=hf it (by simp);exact wpAny_pyNext_range_end (I.ok.hd hc) st (by have:n<=i:=hg;lia) λh' eb=>⟨rfl,I.turned (t':=s.toks) (λb o hb e=>eb b o hb e) f0 f1 f3 f4 f5⟩
 self:=λ_ _ _ _ _ st h=>wpAny_pyIter_rangeiter st h
end L2
open L2.SqT renaming of->l!
open L2.SqL renaming of->n!
variable{g:L2.TG}{wi:L2.TI}
namespace L2
open PySem PySem.Spec PyProof.Rows
section
variable{X:Cx}
def aaM(K:WQ)(tl:TE):TI:=λZ H R=>tl Z H λx H1=>∃a,x=.ref a/\(∃xs,SqL K H1 a xs)/\R (Itl K a) H1
def abE(K:WQ)(tl:TE):TI:=λZ H R=>tl Z H λx H1=>∃a,x=.ref a/\(∃xs,SqT K H1 a xs)/\R (Itt K a) H1
theorem bS{l:X7}(hl:PE X l tl):PI X tg l (aaM X.K tl):=by
 intro U s Z H R I h;refine thn (hl U s Z H _ I h) λv s1⟨x,H1,I1,r1,q1⟩=>?_;obtain⟨a,e,⟨xs,hq⟩,q⟩:=q1;subst e;cases r1;obtain⟨its,rv,p,hz⟩:=I1.list hq;refine wpAny_pyIter_list p.isList ?_;refine⟨s1.1.1.size,[s1.1.1.size],_,_,H1,D?,I1.kept (t':=s1.toks) λb o e=>WV _ e,nj a _,⟨_,W5 _ rfl,D?,D?⟩,λb hb=>?_,q⟩;have e:b=s1.1.1.size:=by simpa using hb
 subst e;exact I1.fpOk (WW _) (I1.hok.fresh (WW _))
theorem dH{l:X7}(hl:PE X l tl):PI X tg l (abE X.K tl):=by
 intro U s Z H R I h;refine thn (hl U s Z H _ I h) λv s1⟨x,H1,I1,r1,q1⟩=>?_;obtain⟨a,e,⟨xs,hq⟩,q⟩:=q1;subst e;cases r1;obtain⟨its,rv,p,hz⟩:=I1.tuple hq;refine ZQ (show s1.1.IsTuple a its.toArray from p) ?_;refine⟨s1.1.1.size,[s1.1.1.size],_,_,H1,D?,I1.kept (t':=s1.toks) λb o e=>WV _ e,lV a _,⟨_,W5 _ rfl,D?,D?⟩,λb hb=>?_,q⟩;have e:b=s1.1.1.size:=by simpa using hb
 subst e;exact I1.fpOk (WW _) (I1.hok.fresh (WW _))
theorem qy{R:It->Hp->Prop}{lo hi:Int}{t u v:Tok}{tk:Nat}(I:Inv X U Z H s)(h1:-(2 ^ 62)<=lo)(h2:lo<2 ^ 62)(h3:-(2 ^ 62)<=hi)(h4:hi<2 ^ 62)
 (q:R (Itr lo (hi - lo).toNat) H):W9 (Xu X.prog X.w) X.A (pyIter (.ref s.1.1.size)) (PIE X U Z tg R) E {s with heap:=s.1.push {cls:=.type "range",data:=.fields #[.int lo t,.int hi u,.int 1 v]},toks:=tk}:=by
 refine wpAny_pyIter_range (IsRange.new ..) (small_one h1 h2 h3 h4) ?_;have I1:Inv X U Z H {s with heap:=s.1.push {cls:=.type "range",data:=.fields #[.int lo t,.int hi u,.int 1 v]},toks:=tk}:=I.kept λb o e=>WV _ e
 refine⟨(s.1.push {cls:=.type "range",data:=.fields #[.int lo t,.int hi u,.int 1 v]}).objs.size,[(s.1.push {cls:=.type "range",data:=.fields #[.int lo t,.int hi u,.int 1 v]}).objs.size],_,_,H,D?,
  I1.kept (t':=tk) λb o e=>WV _ e,sH _ lo (hi - lo).toNat,?_,λb hb=>?_,q⟩
 .have e1:lo+((0:Nat):Int) * 1=lo:=by simp
  have e2:(((hi - lo).toNat:Nat):Int) - ((0:Nat):Int)=Builtin.Range.rangeSize lo hi 1:=by rw[rangeSize_one];split <;> lia
  show IsRangeIter _ _ (lo+((0:Nat):Int) * 1) ((((hi - lo).toNat:Nat):Int) - ((0:Nat):Int)) 1;rw[e1,e2];exact W5 _ rfl
 .have e:b=(s.1.push {cls:=.type "range",data:=.fields #[.int lo t,.int hi u,.int 1 v]}).objs.size:=by simpa using hb
  subst e;exact I1.fpOk (WW _) (I1.hok.fresh (WW _))
def aaN(ta:TA):TI:=λZ H R=>ta Z H λvs H1=>∃j:Int,vs=[.int j]/\-(2 ^ 62)<=j/\j<2 ^ 62/\R (Itr 0 j.toNat) H1
def aa1(ta:TA):TI:=λZ H R=>ta Z H λvs H1=>∃i j:Int,vs=[.int i,.int j]/\(-(2 ^ 62)<=i/\i<2 ^ 62/\-(2 ^ 62)<=j/\j<2 ^ 62)/\R (Itr i (j - i).toNat) H1
theorem bF{a:X7}{ta:TA}{p:Z2}(hg:Gl X "range")(hm:X.mg "range"=B?)(ha:PA X [a] ta)(hs:XF [a] X.env=[(CV,YY a X.env)]:=by rfl):PI X tg (.Call (.Name "range" p) [a] [] pos) (aaN ta):=by
 intro U s Z H R I h;refine Call_ (cJ I hg hm boot_range (XQ (thn (ha pos U s Z H _ I h) λus s1⟨vs,H1,I1,r1,q1⟩=>?_) hs rfl));obtain⟨j,e,q1,q2,q⟩:=q1;subst e;cases r1 with
 | cons r rr =>
   cases rr;obtain⟨t,rfl⟩:=r;exact call_range_1 (qy I1 (by lia) (by lia) q1 q2 (by simpa using q))
theorem uQ{a b:X7}{ta:TA}{p:Z2}(hg:Gl X "range")(hm:X.mg "range"=B?)(ha:PA X [a,b] ta)(hs:XF [a,b] X.env=[(CV,YY a X.env),(CV,YY b X.env)]:=by rfl)(IQ:XF [b] X.env=[(CV,YY b X.env)]:=by rfl) :
 PI X tg (.Call (.Name "range" p) [a,b] [] pos) (aa1 ta):=by
 intro U s Z H R I h;refine Call_ (cJ I hg hm boot_range (XQ (thn (ha pos U s Z H _ I h) λus s1⟨vs,H1,I1,r1,q1⟩=>?_) (by rw[hs,IQ]) (by rw[IQ];rfl)));obtain⟨i,j,e,⟨q1,q2,q3,q4⟩,q⟩:=q1;subst e;cases r1 with
 | cons r rr =>
   cases rr with
   | cons r' rr =>
     cases rr;obtain⟨t,rfl⟩:=r;obtain⟨t',rfl⟩:=r';exact call_range_2 (qy I1 q1 q2 q3 q4 q)
def ab4(wi:TI)(g:TG)(tb:TS):TS:=λD Z H=>wi Z H λJ H1=>∃W:Nat->Nat->St->Hp->Prop,(∃m,W 0 m Z H1)/\∀i m Z H,W i m Z H ->
 (J.stop i H/\D.nx Z H)\/(J.go i H/\∃N:St->Hp->Prop,(∀Aa H',N Aa H'->∃m',m'<m/\W (i+1) m' Aa H')/\∀x H',J.yld i H x H'->g x Z H' λAx H2=>tb {D with nx:=N,ct:=N,bk:=D.nx} Ax H2)
def lF(fp:List WR)(h:Yd):List (WR×Zb):=fp.filterMap λb=>(h.get? b).map λo=>(b,o)
theorem gj{o:Zb}(hb:b∈fp)(e:h.get? b=A? o):(b,o)∈lF fp h:=List.mem_filterMap.mpr ⟨b,hb,by rw[e];rfl⟩
theorem vn{p:WR×Zb}(hp:p∈lF fp h):p.1∈fp/\h.get? p.1=A? p.2:=by
 obtain⟨b,hb,e⟩:=List.mem_filterMap.mp hp;cases q:h.get? b with
 |none=>rw[q]at e;cases e
 | some o =>
   rw[q]at e;have e':(b,o)=p:=Xm e;subst e';exact⟨hb,q⟩
theorem Inv.pinned(I:Inv X U Z H s)(hf:∀b∈fp,jL X U H b)(ho:∀b∈fp,∃o,s.1.get? b=A? o/\∀v,o.data≠.cell v):Inv X (U++lF fp s.1) Z H s :=
 I.pins_of λp hp=>(XA.mp hp).elim (λz=>I.pin p (XE _ z)) λz=>by
  obtain⟨hb,e⟩:=vn z;obtain⟨f0,f1,f2,_⟩:=hf p.1 hb;obtain⟨o,e',d⟩:=ho p.1 hb;rw[e]at e';cases e';exact⟨e,f0,f1,f2,d⟩
theorem Inv.unpinned{pl:List (WR×Zb)}(I:Inv X (U++pl) Z H s):Inv X U Z H s:=I.pins_of λp hp=>I.pin p (XE _ (XM _ hp))
theorem bq(hp:PassesOwn (Xu X.prog X.w) X.A X.env X.xe)(hc:X.calm=C?)(hi:PI X tg iter wi)(hg:PG X tg g)(hb:PSs X body tb)
 (hs:∀x,foldedSetIterable iter X.env x=pure x:=by intro _;rfl):PS X (.For tg iter body [] pos) (ab4 wi g tb):=by
 intro U s Z H D I h;refine wpAny_For (thn (hi U s Z H _ I h) λv s1 h1=>thn h1 λLC s2 h2=>?_) hs;obtain⟨it,fp,tn,J,H2,e,I2,T,CY,f2,W,⟨m0,w0⟩,turn⟩:=h2;subst e
 have CZ:∀{H':Hp},(∀b∈fp,H' b=B?)->∀b∈fp,jL X U H' b:=λhn b hb=>⟨hn b hb,(f2 b hb).2⟩;refine codeAny_forLoop_any (λn s'=>∃i Aa H',Inv X U Aa H' s'/\tn i s'.1/\(∀b∈fp,H' b=B?)/\W i n Aa H') ?_ m0 ⟨0,Z,H2,I2,CY,λb hb=>(f2 b hb).1,w0⟩;rintro n s3 ⟨i,D0,H3,I3,Qn,Qo,w3⟩;rcases turn i n D0 H3 w3 with⟨stop,qn⟩|⟨go,N,hN,step⟩
 .refine wpAny_passesOwn hp (thn (T.done X rfl rfl rfl hc i U s3 D0 H3 X.xe I3 (CZ Qo) Qn stop) λr s4⟨hr,I4⟩=>?_);subst hr;exact wpAny_execs_nil ⟨D0,H3,I4,qn⟩
 .refine wpAny_passesOwn hp (thn (T.item X rfl rfl rfl hc i U s3 D0 H3 X.xe I3 (CZ Qo) Qn go) λr s4⟨u,hr,h4⟩=>?_);subst hr;refine wpAny_passesOwn hp (thn h4 λ_ s5⟨x,H5,I5,r5,y5,HY,LD⟩=>?_);have SE:=I5.pinned (CZ LD) (T.obj _ _ HY);refine wpAny_passesOwn hp (thn (hg _ s5 D0 H5 x u _ SE r5 (step x H5 y5)) λ_ s6⟨SF,H6,I6,q6⟩=>?_);refine wpAny_passesOwn hp (thn (hb _ s6 SF H6 _ I6 q6) λf s7 q7=>?_)
  have again:∀{D1:St}{H7:Hp},Inv X (U++lF fp s5.1) D1 H7 s7->N D1 H7->∃m,m<n/\∃i Aa H',Inv X U Aa H' s7/\tn i s7.1/\(∀b∈fp,H' b=B?)/\W i m Aa H':=λ{D1 H7}I7 n7=>by
   obtain⟨m',hm,w7⟩:=hN D1 H7 n7;refine⟨m',hm,i+1,D1,H7,I7.unpinned,T.keep _ _ _ HY λb hb o e=>(I7.pin (b,o) (XE _ (XE _ (gj hb e)))).1,λb hb=>?_,w7⟩;obtain⟨o,e,d⟩:=T.obj _ _ HY b hb;exact(I7.pin (b,o) (XE _ (XE _ (gj hb e)))).2.1
  cases f with
  |next=>obtain⟨D1,H7,I7,n7⟩:=q7;exact again I7 n7
  |cont=>obtain⟨D1,H7,I7,n7⟩:=q7;exact again I7 n7
  |brk=>obtain⟨D1,H7,I7,q7⟩:=q7;exact⟨D1,H7,I7.unpinned,q7⟩
  |ret v=>obtain⟨x7,D1,H7,I7,r7,q7⟩:=q7;exact⟨x7,D1,H7,I7.unpinned,r7,q7⟩
end
theorem cE(Pv:Nat->St->Hp->Prop)(h0:Pv 0 Z H)(hl:∀i Z H,i<=xs.length->Pv i Z H->SqL K H a xs)
 (hs:∀i x Z H,xs[i]?=A? x->Pv i Z H->g x Z H λAx H2=>tb {D with nx:=Pv (i+1),ct:=Pv (i+1),bk:=D.nx} Ax H2) (hd:∀Z H,Pv xs.length Z H->D.nx Z H) :
 ∃W:Nat->Nat->St->Hp->Prop,(∃m,W 0 m Z H)/\∀i m Z H,W i m Z H ->
   ((Itl K a).stop i H/\D.nx Z H)\/((Itl K a).go i H/\∃N:St->Hp->Prop,(∀Aa H',N Aa H'->∃m',m'<m/\W (i+1) m' Aa H')/\∀x H',(Itl K a).yld i H x H'->g x Z H' λAx H2=>tb {D with nx:=N,ct:=N,bk:=D.nx} Ax H2):=by
 refine⟨λi m Z H=>m=xs.length - i/\i<=xs.length/\Pv i Z H,⟨xs.length,by simp,Xh _,h0⟩,?_⟩;rintro i m Z H ⟨rfl,hi,p⟩;have q:=hl i Z H hi p;by_cases Ak:i<xs.length
 .refine .inr ⟨⟨xs,xs[i],q,by simp[Ak]⟩,Pv (i+1),λAa H' p'=>⟨xs.length - (i+1),by lia,rfl,Ak,p'⟩,λx H' y=>?_⟩;obtain⟨e,y⟩:=y;subst e;exact hs i x Z _ (y xs q) p
 .have e:i=xs.length:=by lia
  subst e;exact .inl ⟨⟨xs,q,WW _⟩,hd Z H p⟩
theorem jj(Pv:Nat->St->Hp->Prop)(h0:Pv 0 Z H)(hl:∀i Z H,i<=xs.length->Pv i Z H->SqT K H a xs)
 (hs:∀i x Z H,xs[i]?=A? x->Pv i Z H->g x Z H λAx H2=>tb {D with nx:=Pv (i+1),ct:=Pv (i+1),bk:=D.nx} Ax H2) (hd:∀Z H,Pv xs.length Z H->D.nx Z H) :
 ∃W:Nat->Nat->St->Hp->Prop,(∃m,W 0 m Z H)/\∀i m Z H,W i m Z H ->
   ((Itt K a).stop i H/\D.nx Z H)\/((Itt K a).go i H/\∃N:St->Hp->Prop,(∀Aa H',N Aa H'->∃m',m'<m/\W (i+1) m' Aa H')/\∀x H',(Itt K a).yld i H x H'->g x Z H' λAx H2=>tb {D with nx:=N,ct:=N,bk:=D.nx} Ax H2):=by
 refine⟨λi m Z H=>m=xs.length - i/\i<=xs.length/\Pv i Z H,⟨xs.length,by simp,Xh _,h0⟩,?_⟩;rintro i m Z H ⟨rfl,hi,p⟩;have q:=hl i Z H hi p;by_cases Ak:i<xs.length
 .refine .inr ⟨⟨xs,xs[i],q,by simp[Ak]⟩,Pv (i+1),λAa H' p'=>⟨xs.length - (i+1),by lia,rfl,Ak,p'⟩,λx H' y=>?_⟩;obtain⟨e,y⟩:=y;subst e;exact hs i x Z _ (y xs q) p
 .have e:i=xs.length:=by lia
  subst e;exact .inl ⟨⟨xs,q,WW _⟩,hd Z H p⟩
theorem dg{lo:Int}(Pv:Nat->St->Hp->Prop)(h0:Pv 0 Z H)
 (hs:∀i Z H,i<n->Pv i Z H->g (.int (lo+i)) Z H λAx H2=>tb {D with nx:=Pv (i+1),ct:=Pv (i+1),bk:=D.nx} Ax H2) (hd:∀Z H,Pv n Z H->D.nx Z H) :
 ∃W:Nat->Nat->St->Hp->Prop,(∃m,W 0 m Z H)/\∀i m Z H,W i m Z H ->
   ((Itr lo n).stop i H/\D.nx Z H)\/((Itr lo n).go i H/\∃N:St->Hp->Prop,(∀Aa H',N Aa H'->∃m',m'<m/\W (i+1) m' Aa H')/\∀x H',(Itr lo n).yld i H x H'->g x Z H' λAx H2=>tb {D with nx:=N,ct:=N,bk:=D.nx} Ax H2):=by
 refine⟨λi m Z H=>m=n - i/\i<=n/\Pv i Z H,⟨n,by simp,Xh _,h0⟩,?_⟩;rintro i m Z H ⟨rfl,hi,p⟩;by_cases Ak:i<n
 .refine .inr ⟨Ak,Pv (i+1),λAa H' p'=>⟨n - (i+1),by lia,rfl,Ak,p'⟩,λx H' y=>?_⟩;obtain⟨e,y⟩:=y;subst e y;exact hs i Z _ Ak p
 .have e:i=n:=by lia
  subst e;exact .inl ⟨WW _,hd Z H p⟩
abbrev R2:=V->V->Hp->VK->Prop
def OpR(X:Cx)(f:WU->WU->Sem WU)(r:R2):Prop :=
 ∀(U:List (WR×Zb))(s:WY)(Z:St)(H:Hp)(x y:V)(v u:WU)(Q:VK),Inv X U Z H s->RelV x v->RelV y u->r x y H Q ->
   W9 (Xu X.prog X.w) X.A (f v u) (EP X U Z Q) X.xe s
def UnR(X:Cx)(f:WU->Sem WU)(r:V->Hp->VK->Prop):Prop :=
 ∀(U:List (WR×Zb))(s:WY)(Z:St)(H:Hp)(x:V)(v:WU)(Q:VK),Inv X U Z H s->RelV x v->r x H Q ->
   W9 (Xu X.prog X.w) X.A (f v) (EP X U Z Q) X.xe s
def eT(X:Cx)(f:WU)(r:List V->Hp->VK->Prop):Prop :=
 ∀(U:List (WR×Zb))(s:WY)(Z:St)(H:Hp)(xs:List V)(us:List WU)(Q:VK),Inv X U Z H s->Vals xs us->r xs H Q ->
   W9 (Xu X.prog X.w) X.A (call f us) (EP X U Z Q) X.xe s
def abz(X:Cx)(r:V->Hp->(Bool->Hp->Prop)->Prop):Prop :=
 ∀(U:List (WR×Zb))(s:WY)(Z:St)(H:Hp)(x:V)(v:WU)(Q:Bool->Hp->Prop),Inv X U Z H s->RelV x v->r x H Q ->
   W9 (Xu X.prog X.w) X.A (truthy v) (TP X U Z Q) X.xe s
def tOp(r:R2)(ta tb:TE):TE:=λZ H Q=>ta Z H λx H1=>tb Z H1 λy H2=>r x y H2 Q
def tUn(r:V->Hp->VK->Prop)(ta:TE):TE:=λZ H Q=>ta Z H λx H1=>r x H1 Q
inductive IrI(C:Int->Int->Prop)(g:Int->Int->V)(x:V)(y:V)(H:Hp)(Q:VK):Prop
 |mk (i:_) (j:_) (Cg:x=.int i) (Ci:y=.int j) (DT:C i j) (EJ:Q (g i j) H):IrI C g x y H Q
def rI(C:Int->Int->Prop)(g:Int->Int->V):R2:=IrI C g
inductive aaV(g:Int->Int->V)(x:V)(y:V)(H:Hp)(Q:VK):Prop
 |mk (i:_) (j:_) (Cg:x=.int i) (Ci:y=.int j) (DT:Q (g i j) H):aaV g x y H Q
def rI0(g:Int->Int->V):R2:=aaV g
inductive IrU(g:Int->V)(x:V)(H:Hp)(Q:VK):Prop
 |mk (i:_) (Cg:x=.int i) (Ci:Q (g i) H):IrU g x H Q
def rU(g:Int->V):V->Hp->VK->Prop:=IrU g
section
variable{X:Cx}{a b c:X7}{ta tb tc:TE}
theorem aaj(ha:PE X a ta)(hb:PE X b tb){R:V->V->Hp->Prop}(I:Inv X U Z H s)
 (h:ta Z H λx H1=>tb Z H1 λy H2=>R x y H2) {f:WU->WU->Sem WU}
 (hf:∀v u s2 x y H2,Inv X U Z H2 s2->RelV x v->RelV y u->R x y H2->W9 (Xu X.prog X.w) X.A (f v u) Q X.xe s2) :
 W9 (Xu X.prog X.w) X.A (YY a X.env) (λv Ab=>W9 (Xu X.prog X.w) X.A (YY b X.env) (λu AH=>W9 (Xu X.prog X.w) X.A (f v u) Q X.xe AH) X.xe Ab) X.xe s:=by
 refine thn (ha U s Z H _ I h) λv s1⟨x,H1,I1,r1,q1⟩=>?_;refine thn (hb U s1 Z H1 _ I1 q1) λu s2⟨y,H2,I2,r2,q2⟩=>?_;exact hf v u s2 x y H2 I2 r1 r2 q2
theorem aC{op:Operator}{r:R2}(ho:OpR X (binaryOp op) r)(ha:PE X a ta)(hb:PE X b tb):PE X (.BinOp a op b pos) (tOp r ta tb):=by
 intro U s Z H Q I h;exact wpAny_BinOp (aaj ha hb I h λv u s2 x y H2 I2 rx ry q=>ho U s2 Z H2 x y v u Q I2 rx ry q)
theorem aaO{op:UnaryOp}{r:V->Hp->VK->Prop}(ho:UnR X (unaryOp op) r)(ha:PE X a ta):PE X (.UnaryOp op a pos) (tUn r ta):=by
 intro U s Z H Q I h;exact UnaryOp_ (thn (ha U s Z H _ I h) λv s1⟨x,H1,I1,r1,q1⟩=>ho U s1 Z H1 x v Q I1 r1 q1)
theorem opI{f:WU->WU->Sem WU}{C:Int->Int->Prop}{g:Int->Int->Int}
 (rule:∀(i j:Int)(t u:Tok)(s:WY)(Q:WU->WY->Prop)(E:WU->WY->Prop),C i j->Q (.int (g i j) s.toks) {s with toks:=s.toks+1}->W9 (Xu X.prog X.w) X.A (f (.int i t) (.int j u)) Q E s) :
 OpR X f (rI C λi j=>.int (g i j)):=by
 intro U s Z H x y v u Q I rx ry h;obtain⟨i,j,rfl,rfl,hc,q⟩:=h;obtain⟨t,rfl⟩:=rx;obtain⟨t',rfl⟩:=ry;exact rule i j t t' s _ _ hc ⟨.int (g i j),H,I.tok _,⟨_,rfl⟩,q⟩
theorem abd{f:WU->WU->Sem WU}{g:Int->Int->Int}
 (rule:∀(i j:Int)(t u:Tok)(s:WY)(Q:WU->WY->Prop)(E:WU->WY->Prop),Q (.int (g i j) s.toks) {s with toks:=s.toks+1}->W9 (Xu X.prog X.w) X.A (f (.int i t) (.int j u)) Q E s) :
 OpR X f (rI0 λi j=>.int (g i j)):=by
 intro U s Z H x y v u Q I rx ry h;obtain⟨i,j,rfl,rfl,q⟩:=h;obtain⟨t,rfl⟩:=rx;obtain⟨t',rfl⟩:=ry;exact rule i j t t' s _ _ ⟨.int (g i j),H,I.tok _,⟨_,rfl⟩,q⟩
theorem zP{f:WU->WU->Sem WU}{g:Int->Int->Bool}
 (rule:∀(i j:Int)(t u:Tok)(s:WY)(Q:WU->WY->Prop)(E:WU->WY->Prop),Q (.bool (g i j)) s->W9 (Xu X.prog X.w) X.A (f (.int i t) (.int j u)) Q E s) :
 OpR X f (rI0 λi j=>.bl (g i j)):=by
 intro U s Z H x y v u Q I rx ry h;obtain⟨i,j,rfl,rfl,q⟩:=h;obtain⟨t,rfl⟩:=rx;obtain⟨t',rfl⟩:=ry;exact rule i j t t' s _ _ ⟨.bl (g i j),H,I,rfl,q⟩
def ab9(i j:Int):Prop:=0<j/\j<1073741824
def CMul(i j:Int):Prop:=(-(2 ^ 64)<i/\i<2 ^ 64)\/(-(2 ^ 64)<j/\j<2 ^ 64)
theorem CMul.ok{i j:Int}(h:CMul i j):IntMulOk i j:=by
 rcases h with⟨h1,h2⟩|⟨h1,h2⟩
 .exact .of_left (intBits_le_64 h1 h2)
 .exact .of_right (intBits_le_64 h1 h2)
theorem db:OpR X (binaryOp .Add) (rI0 λi j=>.int (i+j)):=abd λ_ _ _ _ _ _ _ q=>add_int q
theorem oR:OpR X (binaryOp .Sub) (rI0 λi j=>.int (i - j)):=abd λ_ _ _ _ _ _ _ q=>sub_int q
theorem eZ:OpR X (binaryOp .Mult) (rI CMul λi j=>.int (i * j)):=opI λ_ _ _ _ _ _ _ hc q=>mul_int q hc.ok
theorem cS:OpR X (binaryOp .FloorDiv) (rI ab9 λi j=>.int (i / j)):=opI λi j _ _ _ _ _ hc q=>by
 have h1:(0:Int)<j:=hc.1;have h2:j<1073741824:=hc.2;exact floordiv_int (by lia) (by rw[Int.fdiv_eq_ediv_of_nonneg i (by lia)];exact q) (.inl (PyProof.noPylong_small (by lia)))
theorem bV:OpR X (binaryOp .Mod) (rI (λ_ j=>0<j) λi j=>.int (i%j)):=opI λi j _ _ _ _ _ hc q=>by
 have h1:(0:Int)<j:=hc;exact mod_int' (by lia) (by rw[Int.fmod_eq_emod_of_nonneg i (by lia)];exact q)
theorem unI{f:WU->Sem WU}{g:Int->Int}
 (rule:∀(i:Int)(t:Tok)(s:WY)(Q:WU->WY->Prop)(E:WU->WY->Prop),Q (.int (g i) s.toks) {s with toks:=s.toks+1}->W9 (Xu X.prog X.w) X.A (f (.int i t)) Q E s) :
 UnR X f (rU λi=>.int (g i)):=by
 intro U s Z H x v Q I rx h;obtain⟨i,rfl,q⟩:=h;obtain⟨t,rfl⟩:=rx;exact rule i t s _ _ ⟨.int (g i),H,I.tok _,⟨_,rfl⟩,q⟩
theorem z8:UnR X (unaryOp .USub) (rU λi=>.int (-i)):=unI λ_ _ _ _ _ q=>neg_int q
end
def abv:V->V->Bool
 |.non,.non=>C?|.non,.int _=>C?|.int _,.non=>C?|.non,.bl _=>C?|.bl _,.non=>C?|.non,.str _=>C?|.str _,.non=>C?
 |.int _,.int _=>C?|.bl _,.bl _=>C?|.str _,.str _=>C?|.byt _,.byt _=>C?
 |.int _,.str _=>C?|.str _,.int _=>C?|.bl _,.str _=>C?|.str _,.bl _=>C?
 |_,_=>CV
inductive aa3(x:V)(y:V)(H:Hp)(Q:VK):Prop
 |mk  (Cg:abv x y=C?) (Ci:Q (.bl (decide (x=y))) H):aa3  x y H Q
def rEq:R2:=aa3
inductive aa0(x:V)(y:V)(H:Hp)(Q:VK):Prop
 |mk  (Cg:abv x y=C?) (Ci:Q (.bl (!decide (x=y))) H):aa0  x y H Q
def rNe:R2:=aa0
theorem sZ{i j:Int}:decide (p! i=p! j)=(i == j):=by
 rw[Bool.eq_iff_iff];simp
theorem wE{i j:Bool}:decide (V.bl i=V.bl j)=(i == j):=by
 rw[Bool.eq_iff_iff];simp
theorem uz{i j:Xk}:decide (L! i=L! j)=(i == j):=by
 rw[Bool.eq_iff_iff];simp
theorem tj{i j:Array UInt8}:decide (V.byt i=V.byt j)=(i.toList == j.toList):=by
 rw[Bool.eq_iff_iff];cases i;cases j;simp
section
variable{X:Cx}{a b c:X7}{ta tb tc:TE}
theorem bj{Q:VK}{k k':Bool}(I:Inv X U Z H s)(q:Q (.bl k) H)(e:k=k'):EP X U Z Q (.bool k') s:=by
 subst e;exact⟨.bl k,H,I,D?,q⟩
theorem fR:OpR X (Zt .Eq) rEq:=by
 intro U s Z H x y v u Q I rx ry h;obtain⟨hs,q⟩:=h;cases x with
 | non =>
   cases rx;cases y with
   |non=>cases ry;exact PySem.EqNone.eq_none_none (bj I q (by simp))
   |bl j=>cases ry;exact PySem.EqNone.eq_none_bool (bj I q (by simp))
   |int j=>obtain⟨t',rfl⟩:=ry;exact PySem.EqNone.eq_none_int (bj I q (by simp))
   |str j=>obtain⟨t',rfl⟩:=ry;exact PySem.EqNone.eq_none_str (bj I q (by simp))
   |_=>exact g! (show CV=C? from hs) W0
 | bl i =>
   cases rx;cases y with
   |non=>cases ry;exact PySem.EqNone.eq_bool_none (bj I q (by simp))
   |bl j=>cases ry;exact eq_bool (bj I q wE)
   |str j=>obtain⟨t',rfl⟩:=ry;exact PySem.EqMixed.eq_bool_str (bj I q (by simp))
   |_=>exact g! (show CV=C? from hs) W0
 | int i =>
   obtain⟨t,rfl⟩:=rx;cases y with
   |non=>cases ry;exact PySem.EqNone.eq_int_none (bj I q (by simp))
   |int j=>obtain⟨t',rfl⟩:=ry;exact eq_int (bj I q sZ)
   |str j=>obtain⟨t',rfl⟩:=ry;exact PySem.EqMixed.eq_int_str (bj I q (by simp))
   |_=>exact g! (show CV=C? from hs) W0
 | str i =>
   obtain⟨t,rfl⟩:=rx;cases y with
   |non=>cases ry;exact PySem.EqNone.eq_str_none (bj I q (by simp))
   |bl j=>cases ry;exact PySem.EqMixed.eq_str_bool (bj I q (by simp))
   |int j=>obtain⟨t',rfl⟩:=ry;exact PySem.EqMixed.eq_str_int (bj I q (by simp))
   |str j=>obtain⟨t',rfl⟩:=ry;exact eq_str (bj I q uz)
   |_=>exact g! (show CV=C? from hs) W0
 | byt i =>
   obtain⟨t,rfl⟩:=rx;cases y with
   |byt j=>obtain⟨t',rfl⟩:=ry;exact PySem.W.eq_bytes (bj I q tj)
   |_=>exact g! (show CV=C? from hs) W0
 |_=>cases y <;> exact g! (show CV=C? from hs) W0
theorem wO:OpR X (Zt .NotEq) rNe:=by
 intro U s Z H x y v u Q I rx ry h;obtain⟨hs,q⟩:=h;cases x with
 | non =>
   cases rx;cases y with
   |non=>cases ry;exact PySem.EqNone.ne_none_none (bj I q (by simp))
   |bl j=>cases ry;exact PySem.EqNone.ne_none_bool (bj I q (by simp))
   |int j=>obtain⟨t',rfl⟩:=ry;exact PySem.EqNone.ne_none_int (bj I q (by simp))
   |str j=>obtain⟨t',rfl⟩:=ry;exact PySem.EqNone.ne_none_str (bj I q (by simp))
   |_=>exact g! (show CV=C? from hs) W0
 | bl i =>
   cases rx;cases y with
   |non=>cases ry;exact PySem.EqNone.ne_bool_none (bj I q (by simp))
   |bl j=>cases ry;exact ne_bool (bj I q (h! not wE))
   |str j=>obtain⟨t',rfl⟩:=ry;exact PySem.EqMixed.ne_bool_str (bj I q (by simp))
   |_=>exact g! (show CV=C? from hs) W0
 | int i =>
   obtain⟨t,rfl⟩:=rx;cases y with
   |non=>cases ry;exact PySem.EqNone.ne_int_none (bj I q (by simp))
   |int j=>obtain⟨t',rfl⟩:=ry;exact ne_int (bj I q (h! not sZ))
   |str j=>obtain⟨t',rfl⟩:=ry;exact PySem.EqMixed.ne_int_str (bj I q (by simp))
   |_=>exact g! (show CV=C? from hs) W0
 | str i =>
   obtain⟨t,rfl⟩:=rx;cases y with
   |non=>cases ry;exact PySem.EqNone.ne_str_none (bj I q (by simp))
   |bl j=>cases ry;exact PySem.EqMixed.ne_str_bool (bj I q (by simp))
   |int j=>obtain⟨t',rfl⟩:=ry;exact PySem.EqMixed.ne_str_int (bj I q (by simp))
   |str j=>obtain⟨t',rfl⟩:=ry;exact ne_str (bj I q (h! not uz))
   |_=>exact g! (show CV=C? from hs) W0
 | byt i =>
   obtain⟨t,rfl⟩:=rx;cases y with
   |byt j=>obtain⟨t',rfl⟩:=ry;exact PySem.W.ne_bytes (bj I q (h! not tj))
   |_=>exact g! (show CV=C? from hs) W0
 |_=>cases y <;> exact g! (show CV=C? from hs) W0
theorem iy:OpR X (Zt .Lt) (rI0 λi j=>.bl (decide (i<j))):=zP λ_ _ _ _ _ _ _ q=>lt_int q
theorem nI:OpR X (Zt .LtE) (rI0 λi j=>.bl (decide (i<=j))):=zP λ_ _ _ _ _ _ _ q=>le_int q
theorem pZ:OpR X (Zt .Gt) (rI0 λi j=>.bl (decide (j<i))):=zP λ_ _ _ _ _ _ _ q=>gt_int q
theorem aQ(b:X7)(h:op≠.In:=by decide)(h2:op≠.NotIn:=by decide):behindInMarks op b=false:=by
 have e1:(op == CmpOp.In)=false:=by cases op <;> first|rfl|exact g! rfl h
 have e2:(op == CmpOp.NotIn)=false:=by cases op <;> first|rfl|exact g! rfl h2
 cases b <;> simp[behindInMarks,e1,e2]
theorem cW{r:R2}(ho:OpR X (Zt op) r)(ha:PE X a ta)(hb:PE X b tb)(hm:behindInMarks op b=CV):PE X (.Compare a [op] [b] pos) (tOp r ta tb):=by
 intro U s Z H Q I h;exact wpAny_Compare1 (aaj ha hb I h λv u s2 x y H2 I2 rx ry q=>ho U s2 Z H2 x y v u Q I2 rx ry q) hm
inductive zk(x:V)(Q:Bool->Hp->Prop)(H':Hp):Prop
 |mk (k:Bool) (Cg:x=.bl k) (Ci:Q k H'):zk x Q H'
def nK(t:TE):TT:=λZ H Q=>t Z H λx H'=>zk x Q H'
theorem aW{r:R2}(ho:OpR X (Zt op) r)(ha:PE X a ta)(hb:PE X b tb)(hm:behindInMarks op b=CV):PT X (.Compare a [op] [b] pos) (nK (tOp r ta tb)):=by
 intro U s Z H Q I h
 refine wpAny_isTrue_Compare1 (thn (ha U s Z H _ I h) λv s1⟨x,H1,I1,r1,q1⟩=>thn (hb U s1 Z H1 _ I1 q1) λu s2⟨y,H2,I2,r2,q2⟩ =>
  thn (ho U s2 Z H2 x y v u _ I2 r1 r2 q2) λc s3⟨z,H3,I3,r3,k,e,q3⟩=>?_) hm
 subst e;cases r3;exact Z4 ⟨H3,I3,q3⟩
def aan(r r':R2)(ta tb tc:TE):TE:=λZ H Q=>ta Z H λx H1=>tb Z H1 λy H2=>r x y H2 λz H3=>∃k,z=.bl k /\
 (if k=C? then tc Z H3 λw' H4=>r' y w' H4 Q else Q (.bl CV) H3)
theorem l5{MM:CmpOp}{r r':R2}(ho:OpR X (Zt op) r)(Bw:OpR X (Zt MM) r')(ha:PE X a ta)(hb:PE X b tb)(hc:PE X c tc)
 (hm:lastMarks [op,MM] [b,c]=false:=by with_unfolding_all rfl):PE X (.Compare a [op,MM] [b,c] pos) (aan r r' ta tb tc):=by
 intro U s Z H Q I h
 refine Compare_chain (thn (ha U s Z H _ I h) λv s1⟨x,H1,I1,r1,q1⟩=>chain_link (thn (hb U s1 Z H1 _ I1 q1) λu s2⟨y,H2,I2,r2,q2⟩ =>
  thn (ho U s2 Z H2 x y v u _ I2 r1 r2 q2) λd s3⟨z,H3,I3,r3,k,e,q3⟩=>?_)) hm
 subst e;cases r3;refine Z4 ?_;cases k with
 |false=>exact ite_ff ⟨.bl CV,H3,I3,rfl,q3⟩
 |true=>exact ite_tt (chain_last (thn (hc U s3 Z H3 _ I3 q3) λw' s4⟨z',H4,I4,r4,q4⟩=>Bw U s4 Z H4 y z' u w' Q I4 r2 r4 q4))
def xL(K:WQ)(x:V)(H:Hp)(k:Bool):Prop :=
 match x with
 |.non=>k=CV
 |.bl b=>k=b
 |.int i=>k=(i != 0)
 |.str y=>y.length<=Xg/\k=((y.length:Int) != 0)
 |.byt y=>y.size<=Xg/\k=((y.size:Int) != 0)
 |.ref p=>(∃xs,SqL K H p xs/\k=!xs.isEmpty)\/(∃xs,SqT K H p xs/\k=!xs.isEmpty)\/∃f',H p=A? (.dK f')/\k=!f'.isEmpty
 |_=>False
theorem rQ{κ:Type}{f':List (κ×V)}{vs:List (κ×WU)}(r:KV f' vs):(!vs.isEmpty)=!f'.isEmpty:=by
 cases r <;> rfl
theorem lD(r:Vals xs its):(!its.toArray.isEmpty)=!xs.isEmpty:=by
 cases r <;> simp
theorem f8:(Xg:Nat)<2 ^ 63:=by rw[sizeLine_eq];decide
theorem aaw:abz X (λx H Q=>∃k,xL X.K x H k/\Q k H):=by
 intro U s Z H x v Q I rx h;obtain⟨k,e,q⟩:=h;have hl:=f8;have hs:Xg=16777216:=sizeLine_eq;cases x with
 | non =>
   cases rx;have e':k=false:=e;subst e';exact truthy_none ⟨H,I,q⟩
 | bl b =>
   cases rx;have e':k=b:=e;subst e';exact Z4 ⟨H,I,q⟩
 | int i =>
   obtain⟨t,rfl⟩:=rx;have e':k=(i != 0):=e;subst e';exact PySem.P.truthy_int ⟨H,I,q⟩
 | str y =>
   obtain⟨t,rfl⟩:=rx;obtain⟨hy,e'⟩:y.length<=Xg/\k=((y.length:Int) != 0):=e;subst e';exact PySem.P.truthy_str (by lia) ⟨H,I.tok _,q⟩
 | byt y =>
   obtain⟨t,rfl⟩:=rx;obtain⟨hy,e'⟩:y.size<=Xg/\k=((y.size:Int) != 0):=e;subst e';exact PySem.W.truthy_bytes (by lia) ⟨H,I.tok _,q⟩
 | ref p =>
   cases rx;have e':(∃xs,SqL X.K H p xs/\k=!xs.isEmpty)\/(∃xs,SqT X.K H p xs/\k=!xs.isEmpty)\/∃f',H p=A? (.dK f')/\k=!f'.isEmpty:=e;rcases e' with⟨xs,hx,e'⟩|⟨xs,hx,e'⟩|⟨f',hx,e'⟩
   .subst e';obtain⟨its,r,pl,hz⟩:=I.list hx;have hlen:=r.length;exact wpAny_truthy_list pl.isList (by simp only[W4];lia) ⟨H,I.tok _,by rw[lD r];exact q⟩
   .subst e';obtain⟨its,r,pl,hz⟩:=I.tuple hx;have hlen:=r.length;exact truthy_tuple pl (by simp only[W4];lia) ⟨H,I.tok _,by rw[lD r];exact q⟩
   .subst e';obtain⟨hz,hS,vs,r,m⟩:f'.length<=Xg/\(p == YO)=CV/\∃vs,KV f' vs/\s.1.DictOf (au X.prog X.w) p vs:=I.hok p _ hx;have hlen:f'.length=vs.length:=W3 r;exact wpAny_truthy_dict hS m (by lia) ⟨H,I.tok _,by rw[rQ r];exact q⟩
 |_=>exact(show False from e).elim
theorem aF(ha:PE X a ta)(he:∀whole,isTrue a X.env whole=(do let v <-whole;standAt a.pos;holding [v] (truthy v))) :
 PT X a (λZ H Q=>ta Z H λx H'=>∃k,xL X.K x H' k/\Q k H'):=by
 intro U s Z H Q I h;exact isTrue_plain (thn (ha U s Z H _ I h) λv s1⟨x,H1,I1,r1,q1⟩=>aaw U s1 Z H1 x v Q I1 r1 q1) (he _)
theorem rF:OpR X (binaryOp .Add) (λx y H Q=>∃i j,x=.str i/\y=.str j/\i.length+j.length<=Xg/\Q (.str (i++j)) H):=by
 intro U s Z H x y v u Q I rx ry h;obtain⟨i,j,rfl,rfl,hz,q⟩:=h;obtain⟨t,rfl⟩:=rx;obtain⟨t',rfl⟩:=ry;exact add_str (λt' tk=>⟨.str (i++j),H,I.tok _,⟨_,rfl⟩,q⟩) hz
theorem vals1{x:V}(r:Vals [x] us):∃u,us=[u]/\RelV x u:=by
 cases r with
 |cons r1 r2=>cases r2;exact⟨_,D?,r1⟩
theorem vals2{x:V}(r:Vals [x,y] us):∃u w',us=[u,w']/\RelV x u/\RelV y w':=by
 cases r with
 | cons r1 r2 =>
   cases r2 with
   |cons r3 r4=>cases r4;exact⟨_,_,D?,r1,r3⟩
theorem uT(hc:X.calm=C?):eT X (.builtin "min") (λxs H Q=>∃i j,xs=[.int i,.int j]/\Q (.int (if j<i then j else i)) H):=by
 intro U s Z H xs us Q I r h;obtain⟨i,j,rfl,q⟩:=h;obtain⟨u,w',rfl,⟨t,rfl⟩,⟨t',rfl⟩⟩:=vals2 r;refine min_two_ints (I.ok.hd hc) λh' tk k=>⟨_,H,I.kept k,?_,q⟩;by_cases hj:j<i
 .rw[b! hj,b! hj];exact⟨_,D?⟩
 .rw[a! hj,a! hj];exact⟨_,D?⟩
theorem vd:eT X (.type "int") (λxs H Q=>(∃i,xs=[.int i]/\Q (.int i) H)\/∃k,xs=[.bl k]/\Q (.int (if k then 1 else 0)) H):=by
 intro U s Z H xs us Q I r h;rcases h with⟨i,rfl,q⟩|⟨k,rfl,q⟩
 .obtain⟨u,rfl,t,rfl⟩:=vals1 r;exact call_int_int ⟨.int i,H,I,⟨_,rfl⟩,q⟩
 .obtain⟨u,rfl,r1⟩:=vals1 r;cases r1;exact call_int_bool ⟨.int (if k then 1 else 0),H,I.tok _,⟨_,rfl⟩,q⟩
end
structure ObjM(h:Yd)(x dx C:WR)(mA:Xk->Option WU):Prop where
 obj:h.get? x=A? (ZJ C dx)
 ns:h.Ns1 dx mA
 ne:dx≠x
theorem uR{dx:WR}{mA:Xk->Option WU}(n:h.Ns1 dx mA):∃od,h.get? dx=A? od/\∀name,PySem.W.lookIn name od=A? (mA name):=by
 obtain⟨o,es,ep,ho,hd,hk,_,hm⟩:=n;refine⟨o,ho,λname=>?_⟩;have e:=hm name;unfold nsFind findBy at e;rw[<-Array.find?_toList]at e;unfold PySem.W.lookIn;rw[hd];dsimp only;split
 .rename_i y q
  rw[q]at e;exact h! A? e
 .rename_i q
  rw[q]at e
  have a:es.toList.any (·.refKey)=false:=by
   rw[List.any_eq_false];intro y hy;obtain⟨z,t,C0⟩:=hk y (Array.mem_toList_iff.mp hy);simp[DictEntry.refKey,C0]
  have a':¬es.toList.any (·.refKey)=true:=by rw[a];exact W0
  rw[a! a'];exact h! A? e
theorem ObjM.look{x dx C:WR}{mA:Xk->Option WU}(I:ObjM h x dx C mA):∃od,PySem.W.InstAt h x (ZJ C dx) C (A? od)/\∀name,PySem.W.lookIn name od=A? (mA name) :=
 let⟨od,ho,hl⟩:=uR I.ns
 ⟨od,⟨I.obj,rfl,rfl,ho⟩,hl⟩
section
variable{x dx C:WR}{mA:Xk->Option WU}{name:Xk}{v:WU}
theorem get_map{expr:Bool}(X:K.In s.1)(I:ObjM s.1 x dx C mA)(hg:PySem.W.plainGet K C name=C?)(hh:PySem.W.hasDictIn K C=C?)
 (ha:Zj K (.ref C) name=A? B?) (hv:mA name=A? v) (AU:PySem.W.handedIn v=C?) (h:Q v {s with toks:=s.toks+1}) :
 W9 (Xu prog w) A (getAttr (.ref x) name expr) Q E s:=by
 obtain⟨od,J,hl⟩:=I.look;exact PySem.W.get_value X J (PySem.W.plainGet_of hg).1 (PySem.W.findObj_own hh ha rfl (by rw[hl,hv])) AU h
theorem wa{pl:Sem Bool}{Q:WU×List WU->WY->Prop}(X:K.In s.1)(I:ObjM s.1 x dx C mA)(hg:PySem.W.plainGet K C name=C?)
 (hf:Zj K (.ref C) name=A? (A? (.ref f))) (ht:PySem.W.isFn K (.ref f)=C?) (hv:mA name=B?) (h:Q (.ref f,[.ref x]) s) :
 W9 (Xu prog w) A (getMethod (.ref x) name pl) Q E s:=by
 obtain⟨od,J,hl⟩:=I.look;exact PySem.W.method_fn X J (PySem.W.plainGet_of hg).1 (PySem.W.plainGet_of hg).2 hf (beq_iff_eq.mp ht) (by show(PySem.W.lookIn name od).map (·.isSome)=A? CV;rw[hl,hv];rfl) h
theorem yt{ns:List Xk}{Q:Unit->WY->Prop}(X:K.In s.1)(I:ObjM s.1 x dx C mA)
 (hs:Zj K (.ref C) "__setattr__"=A? (A? (.builtin "object.__setattr__"))) (hp:PySem.W.plainOver K C=C?) (ht:PySem.W.takerIn K C name=A? B?) (hh:PySem.W.hasDictIn K C=C?)
 (hw:PySem.Within mA ns) (hsz:ns.length<=Xg)
 (h:∀h',ObjM h' x dx C (λy=>if y=name then A? v else mA y)->YG dx s.1 h'->Q () {s with heap:=h',toks:=s.toks+2}) :
 W9 (Xu prog w) A (setAttr (.ref x) name v) Q E s:=by
 obtain⟨od,J,hl⟩:=I.look;refine PySem.W.set_plain X J hs (PySem.W.osa_open (s:={s with toks:=s.toks+1}) (r:=B?) X J hp ht λb=>?_);obtain⟨cd,hc,Bx⟩:=PySem.W.any_some hh;have hx:s.1.get? x=A? ⟨.ref C,A? dx,.plain,#[]⟩:=I.obj;refine WO (WX (WO (WO (wpAny_loadPart hx (WO (PySem.W.Looks.here (s:={s with toks:=s.toks+1}) (PySem.W.looks_clsIn X hc) ?_))))));rw[Bx];refine WX (a:=A? dx) (WO (WX (WO ?_)));refine wpAny_nsSet1 (s:={s with toks:=s.toks+1}) I.ns λh' IS IQ=>?_;obtain⟨oD,Wa,Wb,SG,SH,SI⟩:=IS.count (PySem.Within.cons name v hw);refine WO (wpAny_lookBehind SG (by rw[SH];exact pastItsLine_dict (XC SI (by rw[W2];lia))) ?_);exact WX (h _ ⟨(IQ.2 _ (YR I.ne)).trans I.obj,IS,I.ne⟩ IQ)
theorem xj{R:Result->WY->Prop}{vs:List WU}(X:K.In s.1)(hm:PySem.W.makesIn K C=C?)
 (hi:Zj K (.ref C) "__init__"=A? (A? (.ref f))) (hf:PySem.W.typeIn K (.ref f)=A? (.type "function"))
 (h:codeAny (Xu prog w) (A.under (.builtin "type.__call__" ⟨.ref C::vs,kw⟩)) (.call (.ref f) ⟨.ref (s.1.1.size+1)::vs,kw⟩) (PySem.W.InitBack (s.1.1.size+1) R)
  {s with heap:=(s.1.push Y8).push (ZJ C s.1.1.size)}) :
 codeAny (Xu prog w) A (.call (.ref C) ⟨vs,kw⟩) R s:=by
 obtain⟨hh,g,d,t,os⟩:=s;exact PySem.W.make_core (PySem.W.makes_of X hm) (PySem.W.looks_findIn X hi) (λself=>PySem.W.bind_fn X self hf) (.inl rfl) h
end
def dA(f:Xk)(v:V):List (Xk×V)->List (Xk×V)
 | []=>[(f,v)]
 |(g,x)::r=>if g=f then(g,v)::r else(g,x)::dA f v r
theorem j0(f g:Xk)(v:V):∀fs:List (Xk×V),(dA f v fs).lookup g=if g=f then A? v else fs.lookup g
 | []=>by
   show ZT g [(f,v)]=_;by_cases h:g=f
   .have hb:(g == f)=true:=beq_iff_eq.mpr h;simp only[ZT,hb,b! h]
   .have hb:(g == f)=false:=beq_eq_false_iff_ne.mpr h;simp only[ZT,hb,a! h]
 | (k,x)::r=>by
   have ih:=j0 f g v r;rw[show dA f v ((k,x)::r)=(if k=f then(k,v)::r else(k,x)::dA f v r)from rfl];by_cases hk:k=f
   .rw[b! hk];by_cases h:g=k
    .have hb:(g == k)=true:=beq_iff_eq.mpr h;simp only[ZT,hb,b! (h.trans hk)]
    .have hb:(g == k)=false:=beq_eq_false_iff_ne.mpr h;simp only[ZT,hb,a! (λe:g=f=>h (e.trans hk.symm))]
   .rw[a! hk];by_cases h:g=k
    .have hb:(g == k)=true:=beq_iff_eq.mpr h;simp only[ZT,hb,a! (λe:g=f=>hk (h.symm.trans e))]
    .have hb:(g == k)=false:=beq_eq_false_iff_ne.mpr h;simp only[ZT,hb];exact ih
theorem jM(f:Xk)(v:V):∀fs:List (Xk×V),f∈(dA f v fs).map (·.1)/\∀g,g∈fs.map (·.1)->g∈(dA f v fs).map (·.1)
 | []=>⟨by simp[dA],λg h=>by simp at h⟩
 | (k,x)::r=>by
   obtain⟨i1,i2⟩:=jM f v r;rw[show dA f v ((k,x)::r)=(if k=f then(k,v)::r else(k,x)::dA f v r)from rfl];by_cases hk:k=f
   .rw[b! hk];subst hk;exact⟨by simp,λg h=>by simpa using h⟩
   .rw[a! hk];refine⟨?_,λg h=>?_⟩
    .rw[Xx];exact Xb _ i1
    .rw[Xx]at h |-;rcases W7.mp h with e|e
     .exact W7.mpr (.inl e)
     .exact Xb _ (i2 g e)
theorem kl(f:Xk)(v:V):∀fs:List (Xk×V),(dA f v fs).length<=fs.length+1
 | []=>by simp[dA]
 | (k,x)::r=>by
   have ih:=kl f v r;rw[show dA f v ((k,x)::r)=(if k=f then(k,v)::r else(k,x)::dA f v r)from rfl];by_cases hk:k=f
   .rw[b! hk,W2,W2];lia
   .rw[a! hk,W2,W2];lia
theorem RelO.some_of{o:Option WU}(r:RelO (A? v) o):∃u,o=A? u/\RelV v u:=by
 cases o with
 |none=>exact(show False from r).elim
 |some u=>exact⟨u,D?,r⟩
theorem RelO.none_of{o:Option WU}(r:RelO B? o):o=none:=by
 cases o with
 |none=>rfl
 |some u=>exact(show False from r).elim
theorem uU(r:RelV v u):PySem.W.handedIn u=true:=by
 cases v with
 |non=>cases(show u=Yp from r);rfl
 |bl b=>cases(show u=Value.bool b from r);rfl
 |int i=>obtain⟨t,e⟩:=(show∃t,u=Value.int i t from r);cases e;rfl
 |str x=>obtain⟨t,e⟩:=(show∃t,u=Value.str x t from r);cases e;rfl
 |byt b=>obtain⟨t,e⟩:=(show∃t,u=Value.bytes b t from r);cases e;rfl
 |flt b=>obtain⟨t,e⟩:=(show∃t,u=Value.float b t from r);cases e;rfl
 |ref a=>cases(show u=Xl a from r);rfl
 |ty n=>cases(show u=Zl n from r);rfl
section
variable{C dx:WR}{fs HX:List (Xk×V)}
theorem kM(hok:HOk P w H h)(e:H a=A? (.ins C dx fs)):∃mA,ObjM h a dx C mA/\(∀f,RelO (fs.lookup f) (mA f))/\PySem.Within mA (fs.map (·.1))/\fs.length<=1000/\H dx=A? (.own a):=by
 obtain⟨d,z,ne,ob,mA,n,r,q⟩:=(show ObjOk P w H h a (.ins C dx fs)from hok a _ e);exact⟨mA,⟨ob,n,ne⟩,r,q,z,d⟩
end
structure Cls(K:WQ)(C:WR):Prop where
 pg:PySem.W.plainGet K C Str.empty=C?
 hd:PySem.W.hasDictIn K C=C?
 po:PySem.W.plainOver K C=C?
 sa:Zj K (.ref C) "__setattr__"=A? (A? (.builtin "object.__setattr__"))
theorem Cls.get{C:WR}(c:Cls K C)(f:Xk):PySem.W.plainGet K C f=true:=c.pg
def NoAttr(K:WQ)(C:WR)(f:Xk):Prop:=Zj K (.ref C) f=A? B?
theorem NoAttr.taker{C:WR}{f:Xk}(n:NoAttr K C f):PySem.W.takerIn K C f=A? none:=by
 unfold PySem.W.takerIn;rw[show Zj K (.ref C) f=A? B? from n];rfl
structure Meth(K:WQ)(C:WR)(m:Xk)(f:WR):Prop where
 at_:Zj K (.ref C) m=A? (A? (.ref f))
 fn:PySem.W.isFn K (.ref f)=C?
 kp:PySem.W.keepIn K (.ref f)=C?
section
variable{X:Cx}{C dx:WR}{fs:List (Xk×V)}{f:Xk}
theorem lO{b:Bool}(I:Inv X U Z H s)(e:H a=A? (.ins C dx fs))(c:Cls X.K C)(n:NoAttr X.K C f)(l:fs.lookup f=A? v)
 (h:∀u s',Inv X U Z H s'->RelV v u->Q u s'):W9 (Xu X.prog X.w) A (getAttr (.ref a) f b) Q E s:=by
 obtain⟨mA,O,r,_,_,_⟩:=kM I.hok e;obtain⟨u,hu,ru⟩:=RelO.some_of (v:=v) (o:=mA f) (by rw[<-l];exact r f);exact get_map I.kIn O (c.get f) c.hd n hu (uU ru) (h u _ (I.tok _) ru)
theorem rL{m:Xk}{g:WR}{pl:Sem Bool}{Q:WU×List WU->WY->Prop}(I:Inv X U Z H s)(e:H a=A? (.ins C dx fs))(c:Cls X.K C)(k:Meth X.K C m g)(l:fs.lookup m=B?)
 (h:Q (.ref g,[.ref a]) s):W9 (Xu X.prog X.w) A (getMethod (.ref a) m pl) Q E s:=by
 obtain⟨mA,O,r,_,_,_⟩:=kM I.hok e;have hn:mA m=none:=RelO.none_of (by rw[<-l];exact r m);exact wa I.kIn O (c.get m) k.at_ k.fn hn h
theorem kW{Q:Unit->WY->Prop}(I:Inv X U Z H s)(e:H a=A? (.ins C dx fs))(c:Cls X.K C)(n:NoAttr X.K C f)(hl:fs.length<1000)(ry:RelV y u)
 (h:∀s',Inv X U Z (upd H a (.ins C dx (dA f y fs))) s'->Q () s'):W9 (Xu X.prog X.w) A (setAttr (.ref a) f u) Q E s:=by
 obtain⟨mA,O,r,wi,_,ho⟩:=kM I.hok e;have hz:(fs.map (·.1)).length<=Xg:=by rw[WN,sizeLine_eq];lia
 refine yt I.kIn O c.sa c.po n.taker c.hd wi hz λh' O' sb=>h _ ?_;have hd:∃o,h'.get? dx=A? o:=let⟨o,_,_,e',_⟩:=O'.ns;⟨o,e'⟩
 refine I.write (x:=a) (e:=dx) (by rw[e];exact YV) (.inr ho) (λb q hb z=>(sb.2 b hb).trans z) hd ?_;refine⟨by rw[ai O.ne];exact ho,?_,O.ne,O'.obj,_,O'.ns,λg=>?_,λg hg=>?_⟩
 .have:=kl f y fs;lia
 .show RelO ((dA f y fs).lookup g) (if g=f then A? u else mA g);rw[j0];by_cases q:g=f
  .rw[b! q,b! q];exact ry
  .rw[a! q,a! q];exact r g
 .by_cases q:g=f
  .rw[q];exact(jM f y fs).1
  .refine(jM f y fs).2 g (wi g λz=>hg ?_);show(if g=f then A? u else mA g)=B?;rw[a! q];exact z
theorem Inv.made(I:Inv X U Z H s):Inv X U Z (upd (upd H s.1.1.size (.own (s.1.1.size+1))) (s.1.1.size+1) (.ins C s.1.1.size []))
 {s with heap:=(s.1.push Y8).push (ZJ C s.1.1.size)}:=by
 have e1:(s.1.push Y8).get? s.1.1.size=A? Y8:=W5 s.1 rfl
 have e2:((s.1.push Y8).push (ZJ C s.1.1.size)).get? (s.1.1.size+1)=A? (ZJ C s.1.1.size):=by
  have:=W5 (s.1.push Y8) (o:=ZJ C s.1.1.size) rfl
  rwa [X3]at this
 have e3:(s.1.push Y8).Ns s.1.1.size (λ_=>B?):=⟨Y8,#[],_,e1,rfl,(λe he=>g! he (by simp)),λ_=>rfl⟩;have I1:=I.laid (a:=s.1.1.size) (o:=.own (s.1.1.size+1)) (h':=s.1.push Y8) (t':=s.toks) (λb u q=>WV _ q) (WW _) ⟨_,e1⟩;refine I1.laid (a:=s.1.1.size+1) (o:=.ins C s.1.1.size []) (t':=s.toks) (λb u q=>WV _ q) (Nat.le_of_eq (X3 _ _)) ?_;have ne:s.1.1.size≠s.1.1.size+1:=XB (Nat.lt_succ_self _);refine⟨by rw[ai ne,ac],Xh _,ne,e2,λ_=>B?,(Heap.Ns1.of_empty e3).at λo q=>WV _ q,λ_=>YV,λy hy=>g! rfl hy⟩
theorem ye{f:Xk}(hb:attributeBase e f env (YY e env)=YY e env)
 (h:W9 (Xu prog w) A (YY e env) (λo Ab=>W9 (Xu prog w) A (getAttr o f C?) Q E Ab) E s):W9 (Xu prog w) A (YY (.Attribute e f pos) env) Q E s :=
 Attribute_any_ h (by rw[arm_eval_Attribute,hb])
end
def ab0(K:WQ)(ta:TE)(f:Xk):TE:=λZ H Q=>ta Z H λx H1=>∃a C dx fs v,x=.ref a/\H1 a=A? (.ins C dx fs)/\Cls K C/\NoAttr K C f/\fs.lookup f=A? v/\Q v H1
def abN(K:WQ)(ta tv:TE)(f:Xk):TS:=λD Z H=>tv Z H λy H1=>ta Z H1 λx H2=>∃a C dx fs,x=.ref a/\H2 a=A? (.ins C dx fs)/\Cls K C/\NoAttr K C f/\fs.length<1000 /\
 D.nx Z (upd H2 a (.ins C dx (dA f y fs)))
def aaW(X:Cx)(op:Operator)(rd:V->V->Hp->VK->Prop):Prop :=
 ∀(U:List (WR×Zb))(s:WY)(Z:St)(H:Hp)(x y:V)(u v:WU)(Q:VK),Inv X U Z H s->RelV x u->RelV y v->rd x y H Q->W9 (Xu X.prog X.w) X.A (inplaceOp op u v) (EP X U Z Q) X.xe s
def yn(K:WQ)(ta tv:TE)(rd:V->V->Hp->VK->Prop)(f:Xk):TS:=λD Z H=>ta Z H λx H1=>∃a C dx fs v,x=.ref a/\H1 a=A? (.ins C dx fs)/\Cls K C/\NoAttr K C f/\fs.lookup f=A? v /\
 tv Z H1 λy H2=>rd v y H2 λz H3=>∃MN HX,H3 a=A? (.ins C MN HX)/\HX.length<1000/\D.nx Z (upd H3 a (.ins C MN (dA f z HX)))
section
variable{X:Cx}{o value:X7}{f:Xk}{IT:Z2}{ta tv:TE}
theorem vG(he:PE X e ta)(hb:attributeBase e f X.env (YY e X.env)=YY e X.env):PE X (.Attribute e f pos) (ab0 X.K ta f):=by
 intro U s Z H Q I h;refine ye hb (thn (he U s Z H _ I h) λu s1⟨x,H1,I1,rx,a,C,dx,fs,v,ex,ea,c,n,l,q⟩=>?_);subst ex;obtain rfl:u=Xl a:=rx;exact lO I1 ea c n l λu' s2 I2 ru=>⟨v,H1,I2,ru,q⟩
theorem wP(ha:PE X o ta)(hv:PE X value tv)(hs:swapsWith value (A? (.Attribute o f pos')) pos.line X.env=pure CV):PS X (.Assign [.Attribute o f pos'] value pos) (abN X.K ta tv f):=by
 intro U s Z H D I h;refine plainObj_wpAny_Assign_Attribute (thn (hv U s Z H _ I h) λu s1⟨y,H1,I1,ry,q⟩=>thn (ha U s1 Z H1 _ I1 q) λov s2⟨x,H2,I2,rx,a,C,dx,fs,ex,ea,c,n,l,q2⟩=>?_) hs;subst ex;obtain rfl:ov=Xl a:=rx;exact kW I2 ea c n l ry λs3 I3=>⟨Z,_,I3,q2⟩
theorem nz{op:Operator}{rd:V->V->Hp->VK->Prop}(ha:PE X o ta)(hv:PE X value tv)(SJ:aaW X op rd):PS X (.AugAssign (.Attribute o f IT) op value pos) (yn X.K ta tv rd f):=by
 intro U s Z H D I h;refine wpAny_AugAssign_AttributeAny (thn (ha U s Z H _ I h) λov s1⟨x,H1,I1,rx,a,C,dx,fs,v,ex,ea,c,n,l,q⟩=>?_);subst ex;obtain rfl:ov=Xl a:=rx;refine lO I1 ea c n l λu s2 I2 ru=>thn (hv U s2 Z H1 _ I2 q) λw3 s3⟨y,H2,I3,ry,q3⟩=>thn (SJ U s3 Z H2 v y u w3 _ I3 ru ry q3) λw4 s4⟨z,H3,I4,rz,MN,HX,MO,l',q4⟩=>?_;exact kW I4 MO c n l' rz λs5 I5=>⟨Z,_,I5,q4⟩
def abR:V->V->Hp->VK->Prop:=λx y H Q=>∃i j,x=.int i/\y=.int j/\Q (.int (i+j)) H
theorem vB:aaW X .Add abR:=by
 rintro U s Z H x y u v Q I rx ry ⟨i,j,rfl,rfl,q⟩;obtain⟨t,rfl⟩:=(show∃t,u=Value.int i t from rx);obtain⟨t',rfl⟩:=(show∃t',v=Value.int j t' from ry);exact PyProof.Rows.iadd_int ⟨.int (i+j),H,I.tok _,⟨_,rfl⟩,q⟩
end
section
variable{X:Cx}{c:WU}{b:Bool}
inductive i5(K:WQ)(H:Hp):V->WU->Prop where
 |non:i5 K H .non (.type "NoneType")
 |bl (x:Bool):i5 K H (.bl x) (.type "bool")
 |int (i:Int):i5 K H (.int i) (.type "int")
 |str (x:Xk):i5 K H (.str x) (.type "str")
 |flt (x:UInt64):i5 K H (.flt x) (.type "float")
 |lst {a:WR} {xs:List V} (e:H a=A? (.lst xs)):i5 K H (.ref a) (.type "list")
 |frz {a:WR} {o:Zb} {xs:List V} (e:H a=A? (.frz o (.lst xs))):i5 K H (.ref a) (.type "list")
 |tup {a:WR} {xs:List V} (e:H a=A? (.tup xs)):i5 K H (.ref a) (.type "tuple")
 |dK {a:WR} {f':List (Key×V)} (e:H a=A? (.dK f')):i5 K H (.ref a) (.type "dict")
 |dT {a:WR} {f':List (List Key×V)} (e:H a=A? (.dT f')):i5 K H (.ref a) (.type "dict")
 |ins {a C dx:WR} {fs:List (Xk×V)} (e:H a=A? (.ins C dx fs)) (cl:Cls K C) (ha:Zj K (.ref C) "__class__"=A? (A? (.builtin "object.__class__")))
  (hn:PySem.W.specialIn K (.builtin "object.__class__") "__get__"=A? (A? (.builtin "getset_descriptor.__get__"))) (AQ:PySem.W.takesIn K (.builtin "object.__class__")=A? C?)
  (hm:PySem.W.mroIn K C (.type "object")=A? C?):i5 K H (.ref a) (.ref C)
theorem uM{x:V}{t:WU}(I:Inv X U Z H s)(rx:RelV x u)(ty:i5 X.K H x t)(e:Z6 X.K t c=A? b)(h:∀tk,Q (.bool b) {s with toks:=tk}) :
 W9 (Xu X.prog X.w) A (call (.builtin "isinstance") [u,c]) Q E s:=by
 cases ty with
 |non=>cases(show u=Yp from rx);exact YQ PySem.W.kitx_none I.kIn YV e (λz=>nomatch z) h
 |bl y=>cases(show u=Value.bool y from rx);exact YQ PySem.W.kitx_bool I.kIn YV e (λz=>nomatch z) h
 |int i=>obtain⟨t,q⟩:=(show∃t,u=Value.int i t from rx);cases q;exact YQ PySem.W.kitx_int I.kIn YV e (λz=>nomatch z) h
 |str y=>obtain⟨t,q⟩:=(show∃t,u=Value.str y t from rx);cases q;exact YQ PySem.W.kitx_str I.kIn YV e (λz=>nomatch z) h
 |flt y=>obtain⟨t,q⟩:=(show∃t,u=Value.float y t from rx);cases q;exact YQ PySem.W.kitx_float I.kIn YV e (λz=>nomatch z) h
 | @lst a xs ea =>
   cases(show u=Xl a from rx);obtain⟨_,_,n,_,h1⟩:=(show ObjOk X.prog X.w H s.1 a (.lst xs)from I.hok a _ ea);exact YQ PySem.W.kitx_list I.kIn ⟨_,h1,rfl⟩ e (λz=>nomatch z) h
 | @frz a ob xs ea =>
   cases(show u=Xl a from rx);obtain⟨_,_,_,n,_,h1⟩:=(show ObjOk X.prog X.w H s.1 a (.frz ob (.lst xs))from I.hok a _ ea);exact YQ PySem.W.kitx_list I.kIn ⟨_,h1,rfl⟩ e (λz=>nomatch z) h
 | @tup a xs ea =>
   cases(show u=Xl a from rx);obtain⟨_,_,_,_,h1⟩:=(show ObjOk X.prog X.w H s.1 a (.tup xs)from I.hok a _ ea);exact YQ PySem.W.kitx_tuple I.kIn ⟨_,h1,rfl⟩ e (λz=>nomatch z) h
 | @dK a f' ea =>
   cases(show u=Xl a from rx);obtain⟨_,_,vs,_,p⟩:=(show ObjOk X.prog X.w H s.1 a (.dK f')from I.hok a _ ea);obtain⟨o,es,ep,h1,h2,_⟩:=p;exact YQ PySem.W.kitx_dict I.kIn ⟨o,h1,h2.1⟩ e (λz=>nomatch z) h
 | @dT a f' ea =>
   cases(show u=Xl a from rx);obtain⟨_,_,xs,_,o,es,ep,h1,h2,_⟩:=(show ObjOk X.prog X.w H s.1 a (.dT f')from I.hok a _ ea);exact YQ PySem.W.kitx_dict I.kIn ⟨o,h1,h2.1⟩ e (λz=>nomatch z) h
 | @ins a C dx fs ea cl ha hn AQ hm =>
   cases(show u=Xl a from rx);obtain⟨mA,O,_⟩:=kM I.hok ea;obtain⟨od,J,_⟩:=O.look;exact YQ (PySem.W.kitx_own (cl.get _) cl.hd ha hn AQ hm) I.kIn J e (λz=>nomatch z) h
end
structure Room(k:Nat)(A:XG):Prop where
 hd:A.handled=B?
 dp:A.depth+3 * k+5<recursionLimit
 un:A.units+16 * k+200<YJ
theorem Room.mono{k:Nat}(r:Room k A)(h:j<=k):Room j A:=⟨r.hd,by have:=r.dp;lia,by have:=r.un;lia⟩
theorem Room.deeper{k:Nat}(r:Room (k+1) A)(env:Env):Room k (A.deeper env) :=
 ⟨r.hd,by have:=r.dp;show A.depth+1+3 * k+5<_;lia,by have:=r.un;show A.units+3+16 * k+200<_;lia⟩
theorem sO{C:WR}:(A.under (.builtin "type.__call__" ⟨.ref C::us,kw⟩)).depth=A.depth+1:=by
 first|rfl|simp[Around.under,Code.weight,Code.isCreation,Code.isGuard,Code.isCaller,Code.frames,Code.isFrame,guardIds]
theorem se{C:WR}:(A.under (.builtin "type.__call__" ⟨.ref C::us,kw⟩)).units=A.units+1:=by
 first|rfl|simp[Around.under,Code.cUnits,Code.frames,Code.isFrame]
theorem Room.make{k:Nat}(r:Room (k+1) A)(C:WR)(us:List WU)(kw:List (Xk×WU)):Room k (A.under (.builtin "type.__call__" ⟨.ref C::us,kw⟩)) :=
 ⟨r.hd,by have:=r.dp;rw[sO];lia,by have:=r.un;rw[se];lia⟩
theorem Room.depth{k:Nat}(r:Room k A):A.depth<recursionLimit:=by have:=r.dp;lia
theorem Room.units{k:Nat}(r:Room k A):A.units+64<YJ:=by have:=r.un;lia
def cK:TA:=λ_ H Q=>Q [] H
def aI(ta:TE)(tr:TA):TA:=λZ H Q=>ta Z H λx H1=>tr Z H1 λxs H2=>Q (x::xs) H2
section
variable{X:Cx}{t:TA}
theorem ab:PA X [] cK:=λ_ _ _ _ H Q I h=>Y2 ⟨[],H,I,.nil,h⟩
theorem aa(ha:PE X e te)(hr:PA X es t)(hs:XF (e::es) X.env=(CV,YY e X.env)::XF es X.env:=by rfl):PA X (e::es) (aI te t):=by
 intro pos U s Z H Q I h;rw[hs];show W9 _ _ (spliced ((CV,YY e X.env)::Z0 pos (XF es X.env))) _ _ s;refine YE (thn (ha U s Z H _ I h) λu s1⟨x,H1,I1,r1,q1⟩=>?_);exact thn (hr pos U s1 Z H1 _ I1 q1) λus s2⟨xs,H2,I2,r2,q2⟩=>⟨x::xs,H2,I2,.cons r1 r2,q2⟩
def kD(t:TA):TE:=λZ H Q=>t Z H λxs H1=>xs.length<=Xg/\∀p,H1 p=B?->Q (.ref p) (upd H1 p (.tup xs))
def wT(t:TA):TE:=λZ H Q=>t Z H λxs H1=>xs.length<=Xg/\∀p,H1 p=B?->Q (.ref p) (upd H1 p (.lst xs))
theorem aE{x1}(h:PA X es t):PE X (.Tuple es x1 pos) (kD t):=by
 intro U s Z H Q I hq;refine wpAny_Tuple_spliced (thn (h pos U s Z H _ I hq) λus s1⟨xs,H1,I1,r,z,q⟩=>⟨by rw[<-r.length];exact z,?_⟩);have hf:H1 s1.1.1.size=none:=I1.hok.fresh (WW _);refine⟨.ref s1.1.1.size,upd H1 s1.1.1.size (.tup xs),I1.laid (t':=s1.toks) (λb u e=>WV _ e) (WW _) ?_,D?,q _ hf⟩;exact⟨z,us,0,r,W5 _ rfl⟩
theorem bx(h:PA X es t):PE X (.List es pos) (wT t):=by
 intro U s Z H Q I hq;refine wpAny_List_spliced (thn (h pos U s Z H _ I hq) λus s1⟨xs,H1,I1,r,z,q⟩=>⟨by rw[<-r.length];exact z,?_⟩);have hf:H1 s1.1.1.size=none:=I1.hok.fresh (WW _);refine⟨.ref s1.1.1.size,upd H1 s1.1.1.size (.lst xs),I1.laid (t':=s1.toks) (λb u e=>WV _ e) (WW _) ?_,D?,q _ hf⟩;exact⟨z,us,0,r,W5 _ rfl⟩
end
abbrev Sp:=List V->Hp->VK->XK->Prop
abbrev CXT:=List Env->Hp->WY->XK->WU->WY->Prop
structure Env0(P:W6)(w:Xo)(K:WQ)(mg:Xk->Option WU)(base:Yd)(A:XG)(outer:List Env)(s:WY)(H:Hp):Prop where
 frames:A.frames=A? outer
 mod:Mod K mg base
 bs:∀b o,base.get? b=A? o->s.1.get? b=A? o/\H b=B?
 bsz:base.objs.size<=s.1.1.size
 funs:s.1.FunFrames base outer
 frf:∀b∈frs outer,H b=B?
 hok:HOk P w H s.1
 bare:AllBare s.gens
def CE(outer:List Env)(P:W6)(w:Xo)(H:Hp)(s:WY)(Q:VK)(u:WU)(s':WY):Prop :=
 ∃v H',s'.os=s.os/\AllBare s'.gens/\Un (frs outer) [] H H' s.1 s'.1/\HOk P w H' s'.1/\RelV v u/\Q v H'
def CR(CX:CXT)(outer:List Env)(P:W6)(w:Xo)(H:Hp)(s:WY)(Q:VK)(E:XK)(r:Result)(s':WY):Prop :=
 match r with
 |.ok (.ret u)=>CE outer P w H s Q u s'
 |.ok _=>False
 |.error e=>CX outer H s E e s'
structure aU(P:W6)(w:Xo)(K:WQ)(mg:Xk->Option WU)(base:Yd)(CX:CXT)(k:Nat)(f:WR)(fd:ZU)(ps:List Xk)(sp:Sp):Prop where
 len:∀vs H Q E,sp vs H Q E->vs.length=ps.length
 run:∀(A:XG)(outer:List Env)(s:WY)(H:Hp)(args:Args)(us:List WU)(vs:List V)(Q:VK)(E:XK),Room k A->Env0 P w K mg base A outer s H->BindsTo s fd args (ps.zip us)->Vals vs us->sp vs H Q E ->
  codeAny (Xu P w) A (.call (.ref f) args) (CR CX outer P w H s Q E) s
theorem Env0.make{outer:List Env}(e:Env0 P w K mg base A outer s H)(C:WR)(us:List WU)(kw:List (Xk×WU)) :
 Env0 P w K mg base (A.under (.builtin "type.__call__" ⟨.ref C::us,kw⟩)) outer s H:=⟨by first|exact e.frames|(simpa[Around.under,Code.envs,Code.isFrame,pushEnvs]using e.frames),e.mod,e.bs,e.bsz,e.funs,e.frf,e.hok,e.bare⟩
section
variable{X:Cx}{s':WY}
theorem Inv.env0(I:Inv X U Z H s):Env0 X.prog X.w X.K X.mg X.base X.A X.stack s H :=
 ⟨I.ok.frames,I.ok.mod,I.bs,XC I.ok.bsz I.sz,I.stack,I.stkFree,I.hok,I.bare⟩
theorem Inv.after{Q:VK}(I:Inv X U Z H s)(h:CE X.stack X.prog X.w H s Q u s'):EP X U Z Q u s':=by
 obtain⟨v,H',os,bare,un,hok,r,q⟩:=h;obtain⟨hh,g,d,t,SK⟩:=s';obtain rfl:SK=s.os:=os;exact⟨v,H',I.call (h':=hh) (g':=g) (d':=d) (t':=t) (ch:=[]) un hok bare (λb z=>g! z (by simp)),r,q⟩
end
def cZ(sp:Sp)(dvs:List V)(E:XK)(t:TA):TE:=λZ H Q=>t Z H λvs H1=>sp (vs++dvs) H1 Q E
def aa5(C:WR)(m:Xk)(sp:Sp)(dvs:List V)(E:XK)(ta:TE)(t:TA):TE:=λZ H Q=>ta Z H λx H1=>∃a dx fs,x=.ref a/\H1 a=A? (.ins C dx fs)/\fs.lookup m=B? /\
 t Z H1 λvs H2=>sp (x::(vs++dvs)) H2 Q E
def abq(C:WR)(sp:Sp)(dvs:List V)(E:XK)(t:TA):TE:=λZ H Q=>t Z H λvs H1=>∀x dx,H1 x=B?->H1 dx=B?->dx≠x ->
 sp (.ref x::(vs++dvs)) (upd (upd H1 dx (.own x)) x (.ins C dx [])) (λv H2=>v=.non/\Q (.ref x) H2) E
def Binds(K:WQ)(fd:ZU)(ps:List Xk)(ds:List WU):Prop :=
 ∀(s:WY)(us:List WU),K.In s.1->(us++ds).length=ps.length->BindsTo s fd ⟨us,[]⟩ (ps.zip (us++ds))
theorem Binds.all(h:∀us:List WU,us.length=ps.length->bindArgs fd ⟨us,[]⟩=pure (ps.zip us)):Binds K fd ps []:=λs us _ hl=>by
 rw[Xs]at hl |-;exact .of_eq (h us hl)
def Passes(CX:CXT)(X:Cx)(E:XK):Prop:=∀(U:List (WR×Zb))(Z:St)(H:Hp)(s:WY)(e:WU)(s':WY),Inv X U Z H s->CX X.stack H s E e s'->X.xe e s'
section
variable{X:Cx}{CX:CXT}{k:Nat}{C:WR}{sp:Sp}{dvs:List V}{ds:List WU}{E:XK}{m:Xk}{p apos:Z2}{o:X7}{ta:TE}{t:TA}
theorem xU{Q:VK}(F:aU X.prog X.w X.K X.mg X.base CX k f fd ps sp)(hr:Room k X.A)(hb:Binds X.K fd ps ds)(hd:Vals dvs ds)(hx:Passes CX X E)
 (I:Inv X U Z H s) (r:Vals vs us) (h:sp (vs++dvs) H Q E):W9 (Xu X.prog X.w) X.A (call (.ref f) us) (EP X U Z Q) X.xe s:=by
 have r2:Vals (vs++dvs) (us++ds):=r.append hd;have hl:(us++ds).length=ps.length:=by rw[<-r2.length];exact F.len _ _ _ _ h
 refine wpAny_call (codeAny_mono (F.run X.A X.stack s H ⟨us,[]⟩ (us++ds) (vs++dvs) Q E hr I.env0 (hb s us I.kIn hl) r2 h) λr s' hq=>?_);cases r with
 |error e=>exact hx U Z H s e s' I hq
 | ok fl =>
   cases fl with
   |ret u=>exact I.after hq
   |next=>exact YF hq
   |brk=>exact YF hq
   |cont=>exact YF hq
theorem dY(F:aU X.prog X.w X.K X.mg X.base CX k f fd ps sp)(hr:Room k X.A)(hg:Gl X x)(hm:X.mg x=A? (.ref f))(hk:PySem.W.keepIn X.K (.ref f)=C?)(hb:Binds X.K fd ps ds)(hd:Vals dvs ds)(hx:Passes CX X E)
 (ha:PA X (e::es) t) (Dy:(x == ("__debug__":Xk))=false:=by decide) (he:XF (e::es) X.env=(CV,YY e X.env)::XF es X.env:=by rfl) (AK:(Z0 pos (XF es X.env)).any (·.1)=false:=by rfl) :
 PE X (.Call (.Name x p) (e::es) [] pos) (cZ sp dvs E t):=by
 intro U s Z H Q I h;refine X5 (kN I hg hm ?_ Dy);refine PySem.W.callWith_K (h₀:=X.base) I.ok.mod.kin hk (thn (ha pos U s Z H _ I h) λus s1⟨vs,H1,I1,r,q⟩=>⟨I1.kIn,?_⟩) he AK;exact xU F hr hb hd hx I1 r q
theorem zd{pl:Sem Bool}(he:PE X o ta)(c:Cls X.K C)(hm:Meth X.K C m f)(F:aU X.prog X.w X.K X.mg X.base CX k f fd ps sp)(hr:Room k X.A)(hb:Binds X.K fd ps ds)(hd:Vals dvs ds)(hx:Passes CX X E)(ha:PA X (e::es) t)
 (AS:XF (e::es) X.env=(CV,YY e X.env)::XF es X.env:=by rfl) (AK:(Z0 pos (XF es X.env)).any (·.1)=false:=by rfl)
 (ht:YY (.Call (.Attribute o m apos) (e::es) [] pos) X.env=(do
  let ov <-YY o X.env
  standAt apos.atName
  let(f,first) <-holding [ov] (getMethod ov m pl)
  callWith pos f first (Z0 pos (XF (e::es) X.env)) (backToKw pos (keywordEach [] X.env))):=by rfl) :
 PE X (.Call (.Attribute o m apos) (e::es) [] pos) (aa5 C m sp dvs E ta t):=by
 intro U s Z H Q I h;refine PySem.W.methodCall_KW (pl:=pl) (thn (he U s Z H _ I h) λu s1⟨x,H1,I1,rx,a,dx,fs,ex,ea,l,q⟩=>?_) ht;subst ex;obtain rfl:u=Xl a:=rx;refine rL I1 ea c hm l ?_;refine PySem.W.callWith_K (first:=[.ref a]) (h₀:=X.base) I.ok.mod.kin hm.kp (thn (ha pos U s1 Z H1 _ I1 q) λus s2⟨vs,H2,I2,r,q2⟩=>⟨I2.kIn,?_⟩) AS AK;exact xU (us:=.ref a::us) (vs:=.ref a::vs) F hr hb hd hx I2 (.cons rfl r) q2
structure Mk(K:WQ)(C f:WR):Prop where
 makes:PySem.W.makesIn K C=C?
 init:Zj K (.ref C) "__init__"=A? (A? (.ref f))
 fn:PySem.W.isFn K (.ref f)=C?
 kp:PySem.W.keepIn K (.ref C)=C?
theorem vD{Q:VK}(M:Mk X.K C f)(F:aU X.prog X.w X.K X.mg X.base CX k f fd ps sp)(hr:Room (k+1) X.A)(hb:Binds X.K fd ps ds)(hd:Vals dvs ds)
 (hx:Passes CX X E) (I:Inv X U Z H s) (r:Vals vs us)
 (h:∀x dx,H x=B?->H dx=B?->dx≠x->sp (.ref x::(vs++dvs)) (upd (upd H dx (.own x)) x (.ins C dx [])) (λv H2=>v=.non/\Q (.ref x) H2) E) :
 W9 (Xu X.prog X.w) X.A (call (.ref C) us) (EP X U Z Q) X.xe s:=by
 have hq:=h (s.1.1.size+1) s.1.1.size (I.hok.fresh (Nat.le_succ _)) (I.hok.fresh (WW _)) (XB (Nat.lt_succ_self _));have I2:=Inv.made (C:=C) I;have r2:Vals (i! (s.1.1.size+1)::(vs++dvs)) (Xl (s.1.1.size+1)::(us++ds)):=.cons rfl (r.append hd)
 have hl:(Xl (s.1.1.size+1)::us++ds).length=ps.length:=by
  have e:=r2.length;rw[F.len _ _ _ _ hq]at e;exact e.symm
 refine wpAny_call (xj (f:=f) I.kIn M.makes M.init (beq_iff_eq.mp M.fn) (codeAny_mono (F.run _ X.stack _ _ ⟨Xl (s.1.1.size+1)::us,[]⟩ (Xl (s.1.1.size+1)::(us++ds)) _ _ E (hr.make C us [])
  (I2.env0.make C us []) (hb _ (Xl (s.1.1.size+1)::us) I2.kIn hl) r2 hq) λr s' E5=>?_))
 cases r with
 |error e=>exact hx U Z _ _ e s' I2 E5
 | ok fl =>
   cases fl with
   | ret u =>
     obtain⟨v,H',I3,rv,ev,q3⟩:=I2.after E5;subst ev;exact⟨rv,⟨i! (s.1.1.size+1),H',I3,D?,q3⟩⟩
   |next=>exact YF E5
   |brk=>exact YF E5
   |cont=>exact YF E5
theorem wI(M:Mk X.K C f)(F:aU X.prog X.w X.K X.mg X.base CX k f fd ps sp)(hr:Room (k+1) X.A)(hg:Gl X x)(hm:X.mg x=A? (.ref C))(hb:Binds X.K fd ps ds)(hd:Vals dvs ds)(hx:Passes CX X E)
 (Dy:(x == ("__debug__":Xk))=false:=by decide):PE X (.Call (.Name x p) [] [] pos) (abq C sp dvs E cK):=by
 intro U s Z H Q I h;refine X5 (kN I hg hm ?_ Dy);exact PySem.W.callWith_K0 I.kIn M.kp (vD (us:=[]) M F hr hb hd hx I .nil h)
end
section
variable{X:Cx}{CX:CXT}{k:Nat}{C:WR}{ks:List Xk}{sp:Sp}{E:XK}{m:Xk}{p apos SM:Z2}{o:X7}{Wc:List Keyword}{ta:TE}{t tk:TA}{nm:Option Xk}
variable{g:List WU->List WU->List WU}{gV:List V->List V->List V}
end
structure dR(N P:List Xk)(sc:Z5):Prop where
 kind:sc.kind=.function
 co:sc.isCoroutine=CV
 gen:sc.isGenerator=CV
 nd:N.Nodup
 pre:N.take P.length=P
 par:∀x∈P,sc.names.lookup x=A? .local\/sc.names.lookup x=A? .cell
 nofree:∀y∈sc.names,y.2≠.free
theorem nn:∀{binds:List (Xk×WU)}{m:Xk->Option WU},(∀v,(x,v)∉binds)->bindL kindOf binds m x=m x
 | [],_,_=>rfl
 | (n,v)::r,m,h=>by
   unfold bindL;rw[nn λw hw=>h w (Xb _ hw)];split
   .have:x≠n:=by rintro rfl;exact h v Xe
    simp[this]
   .rfl
theorem nA:∀{binds:List (Xk×WU)}{m:Xk->Option WU},(∀v,(x,v)∉binds)->bindC kindOf binds m x=m x
 | [],_,_=>rfl
 | (n,v)::r,m,h=>by
   unfold bindC;rw[nA λw hw=>h w (Xb _ hw)];split
   .rfl
   .have:x≠n:=by rintro rfl;exact h v Xe
    simp[this]
theorem nD{v:WU}:∀{P:List Xk}{vs:List WU}{i:Nat}{m:Xk->Option WU},P.Nodup->P[i]?=A? x->vs[i]?=A? v->kindOf x=A? .local ->
 bindL kindOf (P.zip vs) m x=A? v
 | [],_,_,_,_,h,_,_=>by simp at h
 |_::_,[],_,_,_,_,h,_=>by simp at h
 | p::P,w::vs,0,m,nd,h1,h2,hk=>by
   simp at h1 h2;subst h1;subst h2;show bindL kindOf ((p,w)::P.zip vs) m p=_;unfold bindL;rw[nn λv hv=>(ZM.mp nd).1 (ZL hv).1,b! hk];simp
 | p::P,w::vs,i+1,m,nd,h1,h2,hk=>by
   show bindL kindOf ((p,w)::P.zip vs) m x=_;unfold bindL;exact nD (i:=i) (ZM.mp nd).2 (by simpa using h1) (by simpa using h2) hk
theorem og{v:WU}:∀{P:List Xk}{vs:List WU}{i:Nat}{m:Xk->Option WU},P.Nodup->P[i]?=A? x->vs[i]?=A? v->kindOf x≠A? .local ->
 bindC kindOf (P.zip vs) m x=A? v
 | [],_,_,_,_,h,_,_=>by simp at h
 |_::_,[],_,_,_,_,h,_=>by simp at h
 | p::P,w::vs,0,m,nd,h1,h2,hk=>by
   simp at h1 h2;subst h1;subst h2;show bindC kindOf ((p,w)::P.zip vs) m p=_;unfold bindC;rw[nA λv hv=>(ZM.mp nd).1 (ZL hv).1,a! hk];simp
 | p::P,w::vs,i+1,m,nd,h1,h2,hk=>by
   show bindC kindOf ((p,w)::P.zip vs) m x=_;unfold bindC;exact og (i:=i) (ZM.mp nd).2 (by simpa using h1) (by simpa using h2) hk
def start(N:List Xk)(vs:List V):St:=vs.map A?++List.replicate (N.length - vs.length) B?
def qh(CX:CXT)(P:W6)(w:Xo)(K:WQ)(mg:Xk->Option WU)(base:Yd)(N:List Xk)(qual:Xk)(scope:Z5)(f:WR)(cd:WU)(A:XG)(outer:List Env)(s:WY)(H:Hp)(E:XK):Cx where
 prog:=P
 w:=w
 K:=K
 mg:=mg
 base:=base
 A:=A.deeper (envOfC qual scope s.1.1.size f cd)
 N:=N
 s₀:=s
 H₀:=H
 env:=envOfC qual scope s.1.1.size f cd
 outer:=outer
 stack:=envOfC qual scope s.1.1.size f cd::outer
 ex:=[]
 calm:=C?
 fn:=λ_=>C?
 pn:=[]
 xe:=λe s'=>W9 (Xu P w) (A.deeper (envOfC qual scope s.1.1.size f cd)) (leaving (envOfC qual scope s.1.1.size f cd) e) (λ_ MP=>CX outer H s E e MP) (λe' MP=>CX outer H s E e' MP) s'
theorem pI(h:sc.names.lookup x=A? .cell):∃c,(cellsFrom n sc.names []).lookup x=A? c:=by
 have q:=PySem.W.cellsFrom_some sc.names n [] (.inl h);exact ZY.mp q
theorem u6{CX:CXT}{cd:WU}{outer:List Env}{s1:WY}{E:XK}
 (S:dR N ps scope) (hd:A.handled=B?) (e0:Env0 P w K mg base A outer s H) (hl:vs.length=ps.length) (r:Vals vs us)
 (x:InCallC s s.1.1.size (bindL (envOfC qual scope s.1.1.size f cd).kindOf (ps.zip us) λ_=>B?) (cellsFrom (s.1.1.size+1) scope.names []) (bindC (envOfC qual scope s.1.1.size f cd).kindOf (ps.zip us) λ_=>B?) s1) :
 Inv (qh CX P w K mg base N qual scope f cd A outer s H E) [] (start N vs) H s1:=by
 have AK:ps.length<=N.length:=by have:=h! Zu S.pre;rw[XS]at this;lia
 obtain⟨h1,tk,rfl,hk⟩:=x.done;have MQ:∀b:WR,b∉(qh CX P w K mg base N qual scope f cd A outer s H E).ex:=λb z=>g! (show b∈([]:List WR)from z) (by simp)
 refine⟨⟨e0.mod,S.kind,D?,D?,WW _,λy z c h1 h2=>?_,λy hy=>?_,λy c _ h=>?_,λ_=>hd,Around.frames_deeper e0.frames,.inr ⟨D?,D?⟩,λb z=>g! z (MQ b),e0.bs,e0.bsz,λb _ _=>MQ b,λb z=>g! z (MQ b),e0.funs,e0.frf⟩,
  rfl,e0.bare,Un.kept hk,⟨_,x.toInCall.ns,λi y v h1 h2 h3=>?_⟩,λy c h=>⟨_,x.cell y c h⟩,e0.hok.fresh (WW _),λy c h=>?_,λp hp=>g! (show p∈([]:List (WR×Zb))from hp) (by simp),e0.hok.kept hk,?_⟩
 .exact name_of_addr x.apart (Yl h1) (Yl h2)
 .have hy:scope.names.lookup y=A? .cell\/scope.names.lookup y=A? .free:=hy;rcases hy with hy|hy
  .exact pI hy
  .exact g! rfl (S.nofree _ (Yl hy))
 .exact ZS (x.above y c (Yl h))
 .have hi:i<vs.length:=by
   unfold start at h2;by_cases hi:i<vs.length
   .exact hi
   .rw[Y9 (by simpa using hi)]at h2;rw[List.getElem?_replicate]at h2;split at h2 <;> cases h2
  have ha:vs[i]?=A? v:=by
   unfold start at h2;rw[Yw (by simpa using hi),WZ]at h2;cases e:vs[i]? with
   |none=>rw[e]at h2;cases h2
   |some a=>rw[e]at h2;cases h2;rfl
  obtain⟨u,hu,rv⟩:=r.get ha
  have hp:ps[i]?=A? y:=by
   rw[<-S.pre,List.getElem?_take_of_lt (by lia)];exact h1
  have ndP:ps.Nodup:=by rw[<-S.pre];exact S.nd.sublist (List.take_sublist _ _)
  refine⟨u,rv,?_⟩;rcases S.par y (WT hp)with k|k
  .exact .inl ⟨k,nD ndP hp hu k⟩
  .obtain⟨c,e⟩:=pI (n:=s.1.1.size+1) k;refine .inr ⟨.inl k,c,e,?_⟩;have q:=x.cell y c e;rw[og ndP hp hu (by show scope.names.lookup y≠_;rw[k];decide)]at q;exact q
 .exact e0.hok.fresh (ZS (x.above y c (Yl h)))
 .unfold start;show _=N.length;rw[Xd,WN,List.length_replicate];lia
theorem zi{CX:CXT}{k:Nat}{name:Xk}{dV kV doc pm Ah ct:WU}{an:Option WR}
 {EK:Array (Option WU)} {sp:Sp} (lk:K.lookup f=A? ⟨oc,od,.func (PySem.W.fnOf name qual params body scope dV kV doc pm an Ah ct),EK⟩) (B4:PySem.W.codeIn K Ah qual=C?) (S:dR N ps scope)
 (len:∀vs H Q E,sp vs H Q E->vs.length=ps.length)
 (A':∀(A:XG)(outer:List Env)(s:WY)(H:Hp)(vs:List V)(Q:VK)(E:XK),Room k (A.deeper (envOfC qual scope s.1.1.size f Ah))->sp vs H Q E ->
  ∃t,PSs (qh CX P w K mg base N qual scope f Ah A outer s H E) body t/\t {nx:=λ_ H'=>Q .non H',rt:=Q} (start N vs) H) :
 aU P w K mg base CX (k+1) f (PySem.W.fnOf name qual params body scope dV kV doc pm an Ah ct) ps sp:=by
 refine⟨len,λA outer s H args us vs Q E hr e0 hb r CS=>?_⟩;have hl:=len _ _ _ _ CS;have KX:K.In s.1:=e0.mod.kin.keeps λb o e=>(e0.bs b o e).1;have lim:s.1.NoLimit:=e0.mod.nolimit.keeps λb o e=>(e0.bs b o e).1
 have IU:∀y∈ps.zip us,scope.names.lookup y.1=A? .local\/(scope.names.lookup y.1=A? .cell/\((cellsFrom (s.1.1.size+1) scope.names []).lookup y.1).isSome=C?):=λ⟨n,v⟩hy=>by
  rcases S.par n (ZL hy).1 with q|q
  .exact .inl q
  .exact .inr ⟨q,PySem.W.cellsFrom_some _ _ _ (.inl q)⟩
 refine codeAny_call_function hr.depth (KX _ _ lk) rfl S.co S.gen rfl (PySem.W.codeRec_of KX B4) (hb _ _ _ _ ?_);refine wpAny_newFunctionEnv_cells S.kind IU λenv he s1 x=>?_;subst he;refine⟨lim.keeps x.toInCall.keep,codeAny_func ?_⟩;obtain⟨t,ht,hq⟩:=A' A outer s H vs Q E (hr.deeper _) CS;have I:Inv (qh CX P w K mg base N qual scope f Ah A outer s H E) [] (start N vs) H s1:=u6 S hr.hd e0 hl r x;refine Y6 (ht [] s1 (start N vs) H _ I hq) (λfl s' hs=>?_) λe s' hs=>hs
 have fin:∀{Aa:St}{H':Hp}{v:V}{u:WU},Inv (qh CX P w K mg base N qual scope f Ah A outer s H E) [] Aa H' s'->RelV v u->Q v H'->CE outer P w H s Q u s' :=
  λ{Aa H' v u}J rv q=>⟨v,H',J.os,J.bare,J.base,J.hok,rv,q⟩
 cases fl with
 | ret u =>
   obtain⟨v,Aa,H',J,rv,q⟩:=hs;exact fin J rv q
 | next =>
   obtain⟨Aa,H',J,q⟩:=hs;exact fin (v:=V.non) (u:=Yp) J rfl q
 | brk =>
   obtain⟨_,_,_,q⟩:=hs;exact YF q
 | cont =>
   obtain⟨_,_,_,q⟩:=hs;exact YF q
end L2
variable{CX:L2.CXT}{sp:L2.Sp}
namespace L2
open PySem PySem.Spec PyProof.Rows
section
variable{X:Cx}{p:Z2}{t:TA}{id T:String}{r:List V->Hp->VK->Prop}
def tCB(r:List V->Hp->VK->Prop)(t:TA):TE:=λZ H Q=>t Z H λvs H1=>r vs H1 Q
theorem ax(hc:eT X (.builtin id) r)(hg:Gl X x)(hm:X.mg x=B?)(hv:bootBuiltins x=A? (.builtin id))(ha:PA X (e::es) t)(hn:x≠"__name__":=by decide)(Dy:(x == ("__debug__":Xk))=false:=by decide)
 (he:XF (e::es) X.env=(CV,YY e X.env)::XF es X.env:=by rfl) (AK:(Z0 pos (XF es X.env)).any (·.1)=false:=by rfl):PE X (.Call (.Name x p) (e::es) [] pos) (tCB r t):=by
 intro U s Z H Q I h;refine X5 (cJ I hg hm hv ?_ hn Dy);exact PyProof.Rows.callWith_builtin1 (thn (ha pos U s Z H _ I h) λus s1⟨vs,H1,I1,r1,q1⟩=>hc U s1 Z H1 vs us Q I1 r1 q1) he AK
theorem bG(hc:eT X (.type T) r)(hg:Gl X x)(hm:X.mg x=B?)(hv:bootBuiltins x=A? (.type T))(ha:PA X (e::es) t)(hn:x≠"__name__":=by decide)(Dy:(x == ("__debug__":Xk))=false:=by decide)
 (he:XF (e::es) X.env=(CV,YY e X.env)::XF es X.env:=by rfl) (AK:(Z0 pos (XF es X.env)).any (·.1)=false:=by rfl):PE X (.Call (.Name x p) (e::es) [] pos) (tCB r t):=by
 intro U s Z H Q I h;refine X5 (cJ I hg hm hv ?_ hn Dy);exact XQ (thn (ha pos U s Z H _ I h) λus s1⟨vs,H1,I1,r1,q1⟩=>hc U s1 Z H1 vs us Q I1 r1 q1) he AK
end
end L2
namespace HT
open PySem PyProof.Rows
section
open PySem.SeqAt
open PySem.AutoSeq1 (wpAny_loadPart')
open PySem.MeetsSeq PySem.MeetsSeq2 PySem.MeetsSeq3
end
theorem cat_tup{t:WR}{vs ws:List WU}(ht:IsTup s.1 t vs.toArray)(hb:IsTup s.1 b ws.toArray)(hv:vs≠[])
 (h1:ws=[]->Q (.ref t) s) (h2:ws≠[]->Q (.ref s.1.1.size) {s with heap:=s.1.push {cls:=.type "tuple",data:=.seq (vs++ws).toArray}})
 (hsz:vs.length+ws.length<=Xg):W9 (Xu prog w) A (binaryOp .Add (.ref t) (.ref b)) Q E s:=by
 obtain⟨⟨cls,dd,data,sl⟩,ho,hc,n,hd⟩:=id ht;obtain⟨⟨IV,HZ,data2,Ia⟩,E6,BS,n2,hd2⟩:=id hb;simp only at hc hd BS hd2;subst hc hd BS hd2;have e:vs.toArray++ws.toArray=(vs++ws).toArray:=by simp
 by_cases hw:ws=[]
 .exact concat_meets ⟨_,ho,rfl⟩ ⟨_,E6,rfl⟩ noFill_tuple_add seq_tuple_add PySem.F.slot_tuple_add PySem.F.entry_tuple_add (PySem.F.args_tuple_add_2 _ _)
   (tuple_addW1 t b vs.toArray ws.toArray n n2 dd HZ sl Ia (by simpa using hv) (by simp[hw])) ⟨ho,E6,h1 hw⟩
 .refine concat_meets ⟨_,ho,rfl⟩ ⟨_,E6,rfl⟩ noFill_tuple_add seq_tuple_add PySem.F.slot_tuple_add PySem.F.entry_tuple_add (PySem.F.args_tuple_add_2 _ _)
   (tuple_addW2 t b vs.toArray ws.toArray n n2 dd HZ sl Ia (by simpa using hv) (by simpa using hw) (by rw[W4,W4];exact hsz)) ⟨ho,E6,?_⟩
  rw[e];exact h2 hw
def sIx(n d:Nat):Option Int->Nat
 |none=>d
 |some v=>if v<0 then(v+(n:Int)).toNat else min v.toNat n
theorem sIx_none(n d:Nat):sIx n d B?=d:=rfl
theorem sIx_nat(n d k:Nat):sIx n d (A? (k:Int))=min k n:=by
 show(if(k:Int)<0 then((k:Int)+(n:Int)).toNat else min (k:Int).toNat n)=min k n;rw[a! (by lia),XH]
theorem sIx_le(n d:Nat)(hd:d<=n)(o:Option Int):sIx n d o<=n:=by
 cases o with
 |none=>exact hd
 | some v =>
   show(if v<0 then(v+(n:Int)).toNat else min v.toNat n)<=n;by_cases hv:v<0
   .rw[b! hv];lia
   .rw[a! hv];exact Nat.min_le_right _ _
theorem clip_eq(v:Int)(n d:Nat):(if v<0 then max (v+(n:Int)) 0 else min v (n:Int))=((sIx n d (A? v):Nat):Int):=by
 show(if v<0 then max (v+(n:Int)) 0 else min v (n:Int))=(((if v<0 then(v+(n:Int)).toNat else min v.toNat n):Nat):Int);by_cases hv:v<0
 .simp only[b! hv];lia
 .simp only[a! hv];lia
theorem adjust_gen(lo hi:Option Int)(n:Nat):Z1 lo hi 1 (n:Int)=(((sIx n 0 lo:Nat):Int),((sIx n n hi:Nat):Int)):=by
 have h1:¬((1:Int)<0):=by lia
 unfold Z1;simp only[h1,if_false];refine Prod.ext ?_ ?_
 .cases lo with
  |none=>rfl
  |some v=>exact clip_eq v n 0
 .cases hi with
  |none=>rfl
  |some v=>exact clip_eq v n n
theorem places_gen(i j:Nat):YK (i:Int) (j:Int) 1=j - i:=by
 unfold YK;have h1:(1:Int) > 0:=by lia
 simp only[h1,if_true,Int.ediv_one];split <;> lia
theorem slicePart_{v:WU}{o:Option Int}{Q:Option Int->WY->Prop}(p:IsPart v o)(h:Q o s):W9 (Xu prog w) A (Builtin.Slice.slicePartIndex v) Q E s:=by
 cases p with
 |none=>exact slicePart_none h
 |int i t=>exact slicePart_int h
theorem sliceApplied_gen{Q:Int×Int×Nat->WY->Prop}(hs:s.1.IsSliceOf sl vl vu .none)(pl:IsPart vl lo)(pu:IsPart vu hi)
 (h:Q (((sIx n 0 lo:Nat):Int),1,sIx n n hi - sIx n 0 lo) s):W9 (Xu prog w) A (Builtin.Slice.sliceApplied (.ref sl) (pure (n:Int))) Q E s:=by
 obtain⟨os,Ct,Cu,BC⟩:=id hs;unfold Builtin.Slice.sliceApplied Builtin.Slice.sliceFields;refine WO (WO (XX Ct BC (x:=vl) rfl (WO (XX Ct BC (x:=vu) rfl (WO (XX Ct BC (x:=.none) rfl (WX ?_)))))));refine WO (slicePart_none ?_);show W9 _ _ (if((1:Int) == 0)=C? then _ else _) _ _ s;rw[a! (by decide)];refine WO (slicePart_ pl (WO (slicePart_ pu (WO (WX ?_)))));show W9 _ _ (match Z1 lo hi 1 (n:Int)with|(lo,hi)=>pure (lo,(1:Int),YK lo hi 1)) _ _ s;rw[adjust_gen lo hi n];show W9 _ _ (pure (((sIx n 0 lo:Nat):Int),(1:Int),YK ((sIx n 0 lo:Nat):Int) ((sIx n n hi:Nat):Int) 1)) _ _ s;rw[places_gen];exact WX h
theorem pick_gen(xs:Array WU)(i k:Nat):((Xq k).filterMap λ(m:Nat)=>xs[((i:Int)+(m:Int) * 1).toNat]?).toArray=((xs.toList.drop i).take k).toArray:=by
 have e:(λ(m:Nat)=>xs[((i:Int)+(m:Int) * 1).toNat]?)=λm=>xs[i+m]?:=by
  funext m;have:((i:Int)+(m:Int) * 1).toNat=i+m:=by lia
  rw[this]
 rw[e];have:=pick_run xs i k;rw[List.filterMap_map]at this;have e2:((λx=>xs[x]?) ∘ λx=>i+x)=λm=>xs[i+m]?:=rfl;rw[e2]at this;rw[this]
theorem getItem_tuple_cut{t:WR}(ht:IsTup s.1 t items)(hs:s.1.IsSliceOf sl vl vu .none)(pl:IsPart vl lo)(pu:IsPart vu hi)
 (hw:¬(sIx items.size 0 lo=0/\sIx items.size items.size hi=items.size))
 (h:Q (.ref s.1.1.size) {s with heap:=s.1.push {cls:=.type "tuple",data:=.seq ((items.toList.drop (sIx items.size 0 lo)).take (sIx items.size items.size hi - sIx items.size 0 lo)).toArray}})
 (hsz:items.size<=Xg):W9 (Xu prog w) A (getItem (.ref t) (.ref sl)) Q E s:=by
 have Ba:sizeOk (.seq ((items.toList.drop (sIx items.size 0 lo)).take (sIx items.size items.size hi - sIx items.size 0 lo)).toArray):=by
  show((items.toList.drop (sIx items.size 0 lo)).take (sIx items.size items.size hi - sIx items.size 0 lo)).toArray.size<=Xg;rw[W4,XS,List.length_drop,XN];lia
 have hj:sIx items.size items.size hi<=items.size:=sIx_le _ _ (WW _) hi;obtain⟨os,Ct,Cu,BC⟩:=id hs;have IW:s.TypeIs (.ref sl) "slice":=⟨os,Ct,Cu⟩;unfold getItem
 try with_reducible refine Yy ?_
 first|refine WO (WX ?_)|skip
 refine WO (wpAny_sequenceKey ht.typeIs (by decide) ?_)
 refine WO (X2 (name:=Xz "__getitem__") ht.typeIs XT
  (X6 XT ht.typeIs entry_tuple_getitem ?_ (args_tuple_getitem _ _)))
 show W9 _ _ (ZV (.ref t) >>= _) _ _ s;refine WO (tupleItemsOf_ ht ?_);refine WO (ZF IW ?_);rw[b! (by decide)];refine WO (sliceApplied_gen hs pl pu ?_)
 have C1:¬((((sIx items.size 0 lo:Nat):Int) == 0 && (1:Int) == 1 && (sIx items.size items.size hi - sIx items.size 0 lo) == items.size)=C?):=by
  intro q;rw[X4,X4]at q;have q1:((sIx items.size 0 lo:Nat):Int)=0:=eq_of_beq q.1.1;have q2:sIx items.size items.size hi - sIx items.size 0 lo=items.size:=eq_of_beq q.2;exact hw ⟨by lia,by lia⟩
 show W9 _ _ (if(((sIx items.size 0 lo:Nat):Int) == 0 && (1:Int) == 1 && (sIx items.size items.size hi - sIx items.size 0 lo) == items.size)=C? then _ else _) _ _ s;rw[a! C1,pick_gen]
 first
  |exact WO (m:=YN _) (Ye (WX ⟨_,rfl,WX h⟩) Ba)
  |exact WO (m:=YN _) (Ye (WO (WX (WX ⟨_,rfl,WX h⟩))) Ba)
  |exact WO (WO (m:=YN _) (Ye (WX (WX ⟨_,rfl,WX h⟩)) Ba))
  |exact WO (WO (m:=YN _) (Ye (WX ⟨_,rfl,WX h⟩) Ba))
end HT
open HT renaming sIx->H!
namespace L2
open PySem PySem.Spec PyProof.Rows
abbrev TO:=St->Hp->(Option Int->Hp->Prop)->Prop
def PO(X:Cx)(e:Option X7)(t:TO):Prop :=
 ∀(U:List (WR×Zb))(s:WY)(Z:St)(H:Hp)(Q:Option Int->Hp->Prop),Inv X U Z H s->t Z H Q ->
   W9 (Xu X.prog X.w) X.A (evalPart e X.env) (λu s'=>∃o H',Inv X U Z H' s'/\IsPart u o/\Q o H') X.xe s
def zc:TO:=λ_ H Q=>Q B? H
inductive zI(x:V)(Q:Option Int->Hp->Prop)(H1:Hp):Prop
 |mk (i:Int) (Cg:x=.int i) (Ci:Q (A? i) H1):zI x Q H1
def zg(t:TE):TO:=λZ H Q=>t Z H λx H1=>zI x Q H1
theorem intsAre_of:∀{us:List WU},Vals (ns.map p!) us->IntsAre us ns:=by
 induction ns with
 |nil=>intro us r;rw[YS]at r;cases r;exact .nil
 | cons n ns ih =>
   intro us r;rw[Xx]at r;cases r with
   | cons r1 r2 =>
     obtain⟨t,e⟩:=r1;subst e;exact .cons n t (ih r2)
section
variable{X:Cx}{lo hi:Option X7}{tl th:TO}{p2:Z2}
theorem fk:PO X B? zc:=by
 intro U s Z H Q I h;rw[evalPart_none];exact WX ⟨B?,H,I,.none,h⟩
theorem dQ(h:PE X e te):PO X (A? e) (zg te):=by
 intro U s Z H Q I hw;rw[evalPart_some];refine thn (h U s Z H _ I hw) λu s1⟨x,H1,I1,r1,q1⟩=>?_;obtain⟨i,rfl,q⟩:=q1;obtain⟨t,rfl⟩:=r1;exact⟨A? i,H1,I1,.int i t,q⟩
def SlR(X:Cx)(r:V->Option Int->Option Int->Hp->VK->Prop):Prop :=
 ∀(U:List (WR×Zb))(s:WY)(Z:St)(H:Hp)(x:V)(v vl vu:WU)(lo hi:Option Int)(sl:WR)(Q:VK),Inv X U Z H s->RelV x v->s.1.IsSliceOf sl vl vu .none->IsPart vl lo->IsPart vu hi->r x lo hi H Q ->
   ∃T id,typeLookup (.type T) "__getitem__"=pure (A? (.builtin id))/\s.TypeIs v T/\W9 (Xu X.prog X.w) X.A (getItem v (.ref sl)) (EP X U Z Q) X.xe s
def tSl(r:V->Option Int->Option Int->Hp->VK->Prop)(te:TE)(tl th:TO):TE:=λZ H Q=>te Z H λx H1=>tl Z H1 λl H2=>th Z H2 λu H3=>r x l u H3 Q
theorem dC{r:V->Option Int->Option Int->Hp->VK->Prop}(hr:SlR X r)(he:PE X e te)(hl:PO X lo tl)(hu:PO X hi th):PE X (.Subscript e (.Slice lo hi B? p2) pos) (tSl r te tl th):=by
 intro U s Z H Q I h;refine Subscript_ (thn (he U s Z H _ I h) λv s1⟨x,H1,I1,r1,q1⟩=>?_);refine wpAny_Slice (thn (hl U s1 Z H1 _ I1 q1) λvl s2⟨l,H2,I2,pl,q2⟩=>thn (hu U s2 Z H2 _ I2 q2) λvu s3⟨u,H3,I3,pu,q3⟩=>?_);rw[evalPart_none];refine WX ?_;have I4:Inv X U Z H3 {s3 with heap:=s3.1.push {cls:=.type "slice",data:=.fields #[vl,vu,.none]}}:=I3.kept (t':=s3.toks) λb ob q=>WV _ q;obtain⟨T,id,hT,ht,hg⟩:=hr U {s3 with heap:=s3.1.push {cls:=.type "slice",data:=.fields #[vl,vu,.none]}} Z H3 x v vl vu l u s3.1.1.size Q I4 r1 (Heap.IsSliceOf.new ..) pl pu q3;show W9 (Xu X.prog X.w) X.A (subscriptTail e (.Slice lo hi B? p2) v (.ref s3.1.1.size)) (EP X U Z Q) X.xe {s3 with heap:=s3.1.push {cls:=.type "slice",data:=.fields #[vl,vu,.none]}};exact tail_any (ops:=[.ref s3.1.1.size,v]) ht hT hg (by with_unfolding_all rfl)
def jp(xs:List V)(lo hi:Option Int):List V:=(xs.drop (H! xs.length 0 lo)).take (H! xs.length xs.length hi - H! xs.length 0 lo)
theorem qX(xs:List V)(lo hi:Option Int):(jp xs lo hi).length<=xs.length:=by
 unfold jp;rw[XS,List.length_drop];lia
inductive zH(K:WQ)(x:V)(lo:Option Int)(hi:Option Int)(H:Hp)(Q:VK):Prop
 |mk (a:_) (xs:_) (Cg:x=.ref a) (Ci:SqT K H a xs) (DT:¬(H! xs.length 0 lo=0/\H! xs.length xs.length hi=xs.length)) (EJ:∀p,H p=B?->Q (.ref p) (upd H p (.tup (jp xs lo hi)))):zH K x lo hi H Q
def abF(K:WQ):V->Option Int->Option Int->Hp->VK->Prop:=zH K
theorem iK:SlR X (abF X.K):=by
 intro U s Z H x v vl vu lo hi sl Q I rx hs pl pu h;obtain⟨a,xs,rfl,hx,hw,q⟩:=h;cases rx;obtain⟨its,r,ht,hz⟩:=I.tuple hx;have hlen:its.toArray.size=xs.length:=by rw[W4];exact r.length.symm
 refine⟨"tuple",_,XT.lookup,ht.typeIs,?_⟩;refine HT.getItem_tuple_cut ht hs pl pu (by rw[hlen];exact hw) ?_ (by rw[hlen];exact hz);rw[hlen];refine⟨.ref s.1.1.size,_,I.laid (t':=s.toks) (o:=.tup (jp xs lo hi)) (λb ob q=>WV _ q) (WW _) ?_,D?,q _ (I.hok.fresh (WW _))⟩;exact⟨XC (qX xs lo hi) hz,_,0,(r.drop (H! xs.length 0 lo)).take (H! xs.length xs.length hi - H! xs.length 0 lo),W5 _ rfl⟩
def abx(K:WQ):R2:=λx y H Q=>∃a b xs ys,x=.ref a/\y=.ref b/\SqT K H a xs/\SqT K H b ys/\xs≠[]/\xs.length+ys.length<=Xg /\
 (ys=[]->Q (.ref a) H)/\(ys≠[]->∀p,H p=B?->Q (.ref p) (upd H p (.tup (xs++ys))))
theorem Vals.nil_iff(r:Vals xs us):us=[]↔xs=[]:=by
 cases r with
 |nil=>simp
 |cons _ _=>simp
theorem yG:OpR X (binaryOp .Add) (abx X.K):=by
 intro U s Z H x y v u Q I rx ry h;obtain⟨a,b,xs,ys,rfl,rfl,ha,hb,hx,hz,q1,q2⟩:=h;cases rx;cases ry;obtain⟨its,r1,p1,_⟩:=I.tuple ha;obtain⟨Ai,r2,p2,_⟩:=I.tuple hb;refine HT.cat_tup p1 p2 (λz=>hx (r1.nil_iff.mp z)) (λz=>⟨.ref a,H,I,rfl,q1 (r2.nil_iff.mp z)⟩) (λz=>?_) (by rw[<-r1.length,<-r2.length];exact hz);refine⟨.ref s.1.1.size,_,I.laid (t':=s.toks) (o:=.tup (xs++ys)) (λb ob q=>WV _ q) (WW _) ?_,D?,q2 (λw=>z (r2.nil_iff.mpr w)) _ (I.hok.fresh (WW _))⟩;exact⟨by rw[Xd];exact hz,_,0,r1.append r2,W5 _ rfl⟩
end
def ixN(n:Nat)(i:Int):Option Nat:=if 0<=i then(if i<n then A? i.toNat else B?)else if -(n:Int)<=i then A? (i+n).toNat else B?
def atI{α:Type}(xs:List α)(i:Int):Option α:=(ixN xs.length i).bind λj=>xs[j]?
theorem pq{i:Int}(h:ixN n i=A? j):seqIndex? i n=A? j/\j<n/\-(n:Int)<=i/\i<n:=by
 unfold ixN at h;by_cases h0:0<=i
 .rw[b! h0]at h;by_cases h1:i<n
  .rw[b! h1]at h;have e:i.toNat=j:=Xm h;exact⟨by rw[seqIndex_of h0 h1,e],by lia,by lia,h1⟩
  .rw[a! h1]at h;cases h
 .rw[a! h0]at h;by_cases h1:-(n:Int)<=i
  .rw[b! h1]at h;have e:(i+n).toNat=j:=Xm h;exact⟨by rw[seqIndex_neg (by lia) h1,e],by lia,h1,by lia⟩
  .rw[a! h1]at h;cases h
theorem o8{xs:List α}{i:Int}{v:α}(h:atI xs i=A? v):∃j,seqIndex? i xs.length=A? j/\xs[j]?=A? v/\j<xs.length/\-(xs.length:Int)<=i/\i<xs.length:=by
 unfold atI at h;cases e:ixN xs.length i with
 |none=>rw[e]at h;cases h
 | some j =>
   rw[e]at h;obtain⟨h1,h2,h3,h4⟩:=pq e;exact⟨j,h1,h,h2,h3,h4⟩
theorem bP{xs:List α}{v:α}(h:xs[j]?=A? v):atI xs (j:Int)=A? v:=by
 have hj:j<xs.length:=(glE h)
 have e:ixN xs.length (j:Int)=A? j:=by
  unfold ixN;rw[b! (by lia),b! (by lia)];simp
 unfold atI;rw[e];exact h
def tH(b:X7):Prop:=∀o i,subscripted b CV o i=operate [o,i] (getItem o i)
def IxR(X:Cx)(r:R2):Prop :=
 ∀(value slice:X7)(U:List (WR×Zb))(s:WY)(Z:St)(H:Hp)(x y:V)(v u:WU)(Q:VK),Inv X U Z H s->RelV x v->RelV y u->r x y H Q ->
   subscripted slice CV v u=operate [v,u] (getItem v u)->W9 (Xu X.prog X.w) X.A (subscriptTail value slice v u) (EP X U Z Q) X.xe s
def MtR(X:Cx)(id:String)(r:V->List V->Hp->VK->Prop):Prop :=
 ∀(U:List (WR×Zb))(s:WY)(Z:St)(H:Hp)(x:V)(xs:List V)(v:WU)(us:List WU)(Q:VK),Inv X U Z H s->RelV x v->Vals xs us->r x xs H Q ->
   W9 (Xu X.prog X.w) X.A (call (.builtin id) (v::us)) (EP X U Z Q) X.xe s
section
variable{X:Cx}{a b:X7}{ta tb:TE}
theorem aA{r:R2}(hr:IxR X r)(ha:PE X a ta)(hb:PE X b tb)(hs:tH b):PE X (.Subscript a b pos) (tOp r ta tb):=by
 intro U s Z H Q I h;exact Subscript_ (aaj ha hb I h λv u s2 x y H2 I2 rx ry q=>hr a b U s2 Z H2 x y v u Q I2 rx ry q (hs _ _))
inductive zz(K:WQ)(x:V)(y:V)(H:Hp)(Q:VK):Prop
 |mk (p:_) (xs:_) (i:_) (v:_) (Cg:x=.ref p) (Ci:y=.int i) (DT:SqL K H p xs) (EJ:atI xs i=A? v) (GC:Q v H):zz K x y H Q
def xy(K:WQ):R2:=zz K
inductive zy(K:WQ)(x:V)(y:V)(H:Hp)(Q:VK):Prop
 |mk (p:_) (xs:_) (i:_) (v:_) (Cg:x=.ref p) (Ci:y=.int i) (DT:SqT K H p xs) (EJ:atI xs i=A? v) (GC:Q v H):zy K x y H Q
def wz(K:WQ):R2:=zy K
inductive zL(x:V)(y:V)(H:Hp)(Q:VK):Prop
 |mk (z:_) (i:_) (c:_) (Cg:x=.str z) (Ci:y=.int i) (DT:z.length<=Xg) (EJ:atI z.cps.toList i=A? c) (GC:Q (.str ⟨#[c]⟩) H):zL  x y H Q
def ab5:R2:=zL
theorem bD:IxR X (xy X.K):=by
 intro value slice U s Z H x y v u Q I rx ry h hs;obtain⟨p,xs,i,z,rfl,rfl,hq,he,q⟩:=h;cases rx;obtain⟨t,rfl⟩:=ry;obtain⟨its,r,pl,hz⟩:=I.list hq;obtain⟨j,h1,h2,h3,h4,h5⟩:=o8 he;obtain⟨w,ew,Cv⟩:=r.get h2;have hl:=r.length;have hn:=f8;have fin:EP X U Z Q w s:=⟨z,H,I,Cv,q⟩;by_cases h0:0<=i
 .have hj:i.toNat=j:=by
   rw[seqIndex_of h0 h5]at h1;exact Xm h1
  exact item_listR pl.isList h0 (by lia) (by rw[hj];simpa using ew) fin hs
 .have hj:(i+(its.toArray.size:Int)).toNat=j:=by
   rw[seqIndex_neg (by lia) h4]at h1;rw[W4,<-hl];exact Xm h1
  exact subscriptTail_builtinR (x:=w) pl.isList.typeIs slot_list_getitem.lookup
   (wpAny_getItem_list_neg (Q:=λr s'=>r=w/\EP X U Z Q r s') pl.isList (by lia) (by rw[W4] <;> lia) (by lia) (by rw[hj];simpa using ew) ⟨rfl,fin⟩) hs
theorem aD:IxR X (wz X.K):=by
 intro value slice U s Z H x y v u Q I rx ry h hs;obtain⟨p,xs,i,z,rfl,rfl,hq,he,q⟩:=h;cases rx;obtain⟨t,rfl⟩:=ry;obtain⟨its,r,pl,hz⟩:=I.tuple hq;obtain⟨j,h1,h2,h3,h4,h5⟩:=o8 he;obtain⟨w,ew,Cv⟩:=r.get h2;have hl:=r.length;have hn:=f8;have fin:EP X U Z Q w s:=⟨z,H,I,Cv,q⟩
 exact subscriptTail_builtinR (x:=w) pl.typeIs slot_tuple_getitem.lookup
  (getItem_tuple (j:=j) (Q:=λr s'=>r=w/\EP X U Z Q r s') pl (by lia) (by lia) (by rw[W4,<-hl];exact h1) (by simpa using ew) ⟨rfl,fin⟩) hs
theorem z9:IxR X ab5:=by
 intro value slice U s Z H x y v u Q I rx ry h hs;obtain⟨z,i,c,rfl,rfl,hz,he,q⟩:=h;obtain⟨t,rfl⟩:=rx;obtain⟨t',rfl⟩:=ry;obtain⟨j,h1,h2,h3,h4,h5⟩:=o8 he;have hl:z.cps.toList.length=z.length:=by simp[Str.length]
 rw[hl]at h1 h4 h5;have hn:=f8
 exact tail_any (typeIs_str s z t) slot_str_getitem.lookup (getItem_str (c:=c) (by
  have e1:decide (i < -(2 ^ 63:Int))=false:=c! (by lia);have e2:decide (i >= 2 ^ 63)=false:=c! (by lia);rw[e1,e2,Bool.or_false]) (by rw[h1];simpa using h2) ⟨.str ⟨#[c]⟩,H,I.tok _,⟨_,rfl⟩,q⟩) hs
theorem sw(its:List WU)(n j:Nat)(u:WU):Yg (·.setIfInBounds j u) {cls:=.type "list",data:=.seq its.toArray n}={cls:=.type "list",data:=.seq (its.set j u).toArray n}:=by
 simp[Yg]
theorem Inv.lst(I:Inv X U Z H s)(h:H p=A? (.lst xs)) :
 ∃(its:List WU)(n:Nat),Vals xs its/\s.1.get? p=A? {cls:=.type "list",data:=.seq its.toArray n}/\xs.length<=Xg:=by
 obtain⟨z,its,n,r,e⟩:=I.hok p _ h;exact⟨its,n,r,e,z⟩
theorem Inv.lstUpd{ys:List V}{its':List WU}{n':Nat}{f:Zb->Zb}(I:Inv X U Z H s)(h:H p=A? (.lst xs))
 (ho:s.1.get? p=A? {cls:=.type "list",data:=.seq its.toArray n}) (hf:f {cls:=.type "list",data:=.seq its.toArray n}={cls:=.type "list",data:=.seq its'.toArray n'}) (r:Vals ys its') (hz:ys.length<=Xg) (t:Nat) :
 Inv X U Z (upd H p (.lst ys)) {s with heap:=s.1.update p f,toks:=t}:=by
 have e:(s.1.update p f).get? p=A? {cls:=.type "list",data:=.seq its'.toArray n'}:=by
  rw[XR f ho (by rw[hf] <;> rfl),hf]
 refine I.write (x:=p) (e:=p) (by rw[h];trivial) (.inl rfl) (λb u hb q=>(XW _ _ (YR hb)).trans q) ⟨_,e⟩ ?_;exact⟨hz,its',n',r,e⟩
def aaY:V->V->V->Hp->(Hp->Prop)->Prop:=λo i v H Q=>∃p xs k j,o=.ref p/\i=.int k/\H p=A? (.lst xs)/\ixN xs.length k=A? j/\Q (upd H p (.lst (xs.set j v)))
theorem set_list:abw X aaY:=by
 intro U s Z H o i v ov iv u Q I ro ri rv h;obtain⟨p,xs,k,j,rfl,rfl,hp,hj,q⟩:=h;cases ro;obtain⟨t,rfl⟩:=ri;obtain⟨its,n,r,ho,hz⟩:=I.lst hp;obtain⟨h1,h2,h3,h4⟩:=pq hj;have hl:=r.length;have hn:=f8
 have I':Inv X U Z (upd H p (.lst (xs.set j v))) {s with heap:=s.1.update p (Yg (·.setIfInBounds j u))} :=
  I.lstUpd hp ho (sw its n j u) (r.set rv j) (by rw[List.length_set];exact hz) s.toks
 by_cases h0:0<=k
 .have hk:k.toNat=j:=by
   rw[seqIndex_of h0 h4]at h1;exact Xm h1
  exact PySem.W.ki_setAt ho h0 (by lia) (by rw[W4,<-hl];exact h4) (by rw[hk];exact⟨_,I',q⟩)
 .have hk:(k+(its.toArray.size:Int)).toNat=j:=by
   rw[seqIndex_neg (by lia) h3]at h1;rw[W4,<-hl];exact Xm h1
  exact PySem.W.ki_setBack ho (by lia) (by rw[W4,<-hl];exact h3) (by lia) (by rw[hk];exact⟨_,I',q⟩)
def iY:V->Bool
 |.non=>C?
 |.bl _=>C?
 |.int _=>C?
 |.str _=>C?
 |_=>CV
def eqV:V->V->Bool
 |.non,.non=>C?
 |.bl a,.bl b=>a == b
 |.bl a,.int b=>(if a then 1 else 0) == b
 |.int a,.bl b=>a == (if b then 1 else 0)
 |.int a,.int b=>a == b
 |.str a,.str b=>a == b
 |_,_=>CV
theorem aaf{x:V}{v:WU}(ry:RelV y u)(rx:RelV x v)(fy:iY y=C?)(fx:iY x=C?):SeqAt.EqAt A s u v (eqV y x):=by
 cases y with
 | non =>
   cases ry;cases x with
   |non=>cases rx;exact SeqAt.EqAt.same _
   |bl b=>cases rx;exact SeqAt.EqAt.none_bool b
   |int b=>obtain⟨t,rfl⟩:=rx;exact SeqAt.EqAt.none_int b t
   |str b=>obtain⟨t,rfl⟩:=rx;exact SeqAt.EqAt.none_str b t
   |_=>exact g! (show CV=C? from fx) W0
 | bl a =>
   cases ry;cases x with
   |non=>cases rx;exact SeqAt.EqAt.bool_none a
   |bl b=>cases rx;exact SeqAt.EqAt.bool_bool a b
   |int b=>obtain⟨t,rfl⟩:=rx;exact SeqAt.EqAt.bool_int a b t
   |str b=>obtain⟨t,rfl⟩:=rx;exact SeqAt.EqAt.bool_str a b t
   |_=>exact g! (show CV=C? from fx) W0
 | int a =>
   obtain⟨t',rfl⟩:=ry;cases x with
   |non=>cases rx;exact SeqAt.EqAt.int_none a t'
   |bl b=>cases rx;exact SeqAt.EqAt.int_bool a t' b
   |int b=>obtain⟨t,rfl⟩:=rx;exact SeqAt.EqAt.int_int a t' b t
   |str b=>obtain⟨t,rfl⟩:=rx;exact SeqAt.EqAt.int_str a t' b t
   |_=>exact g! (show CV=C? from fx) W0
 | str a =>
   obtain⟨t',rfl⟩:=ry;cases x with
   |non=>cases rx;exact SeqAt.EqAt.str_none a t'
   |bl b=>cases rx;exact SeqAt.EqAt.str_bool a t' b
   |int b=>obtain⟨t,rfl⟩:=rx;exact SeqAt.EqAt.str_int a t' b t
   |str b=>obtain⟨t,rfl⟩:=rx;exact SeqAt.EqAt.str_str a t' b t
   |_=>exact g! (show CV=C? from fx) W0
 |_=>exact g! (show CV=C? from fy) W0
def eqU(x:V)(u:WU):Bool:=match u with
 |.none=>eqV .non x
 |.bool b=>eqV (.bl b) x
 |.int i _=>eqV (.int i) x
 |.str z _=>eqV (.str z) x
 |_=>CV
theorem xu{x:V}(r:RelV y u)(f:iY y=C?):eqU x u=eqV y x:=by
 cases y with
 |non=>cases r;rfl
 |bl b=>cases r;rfl
 |int i=>obtain⟨t,rfl⟩:=r;rfl
 |str z=>obtain⟨t,rfl⟩:=r;rfl
 |_=>exact g! (show CV=C? from f) W0
theorem ow{x:V}:∀{xs:List V}{us:List WU},Vals xs us->xs.all iY=C?->us.any (eqU x)=xs.any λy=>eqV y x
 |_,_,.nil,_=>rfl
 | y::xs,u::us,.cons r t,f=>by
   rw[List.all_cons,X4]at f;rw[List.any_cons,List.any_cons,xu r f.1,ow t f.2]
theorem lU{x:V}{v:WU}(rx:RelV x v)(fx:iY x=C?):∀{xs:List V}{us:List WU},Vals xs us->xs.all iY=C?->∀u∈us,SeqAt.EqAt A s u v (eqU x u)
 |_,_,.nil,_=>λu hu=>by cases hu
 | y::xs,u::us,.cons r t,f=>λu' hu=>by
   rw[List.all_cons,X4]at f;rcases W7.mp hu with rfl|hu
   .rw[xu r f.1];exact aaf r rx f.1 fx
   .exact lU rx fx t f.2 u' hu
def inV(x:V)(xs:List V):Bool:=xs.any λy=>eqV y x
def rIn(K:WQ)(neg:Bool):R2:=λx y H Q=>∃p xs,y=.ref p/\(SqL K H p xs\/SqT K H p xs)/\iY x=C?/\xs.all iY=C?/\Q (.bl (if neg then !inV x xs else inV x xs)) H
theorem pB:OpR X (Zt .NotIn) (rIn X.K C?):=by
 intro U s Z H x y v u Q I rx ry h;obtain⟨p,xs,rfl,hq,fx,fs,q⟩:=h;cases ry;rcases hq with hq|hq
 .obtain⟨its,r,pl,hz⟩:=I.list hq;refine SeqAt.notIn_listAt (eqU x) pl.isList (λw hw=>lU rx fx r fs w (by simpa using hw)) ⟨.bl _,H,I,rfl,?_⟩;rw[show its.toArray.any (eqU x)=its.any (eqU x)by simp,ow r fs];exact q
 .obtain⟨its,r,pl,hz⟩:=I.tuple hq;refine SeqAt.notIn_tupleAt (eqU x) pl (λw hw=>lU rx fx r fs w (by simpa using hw)) ⟨.bl _,H,I,rfl,?_⟩;rw[show its.toArray.any (eqU x)=its.any (eqU x)by simp,ow r fs];exact q
inductive zx(K:WQ)(xs:List V)(H:Hp)(Q:VK):Prop
 |mk (p:WR) (ys:List V) (Cg:xs=[.ref p]) (Ci:SqL K H p ys\/SqT K H p ys) (DT:Q (.int ys.length) H):zx K xs H Q
theorem aq:eT X (.builtin "len") (zx X.K):=by
 intro U s Z H xs us Q I r h;obtain⟨p,ys,rfl,hq,q⟩:=h;obtain⟨u,rfl,rx⟩:=vals1 r;cases rx;have hn:=f8;rcases hq with hq|hq
 .obtain⟨its,r',pl,hz⟩:=I.list hq;have hlen:=r'.length;exact Calls.call_len_list pl.isList (by simp only[W4] <;> lia) ⟨.int ys.length,H,I.tok _,⟨s.toks+1,by rw[W4,hlen]⟩,q⟩
 .obtain⟨its,r',pl,hz⟩:=I.tuple hq;have hlen:=r'.length;exact len_tuple pl (by simp only[W4] <;> lia) ⟨.int ys.length,H,I.tok _,⟨s.toks+1,by rw[W4,hlen]⟩,q⟩
theorem bv:eT X (.type "tuple") (λxs H Q=>∃p ys,xs=[.ref p]/\((SqL X.K H p ys/\∀l,H l=B?->Q (.ref l) (upd H l (.tup ys)))\/(SqT X.K H p ys/\Q (.ref p) H))):=by
 intro U s Z H xs us Q I r h;obtain⟨p,ys,rfl,h⟩:=h;obtain⟨u,rfl,rx⟩:=vals1 r;cases rx;rcases h with⟨hq,q⟩|⟨hq,q⟩
 .obtain⟨its,r',pl,hz⟩:=I.list hq;have hlen:=r'.length;refine call_tuple_list pl.isList (λh' kp=>?_) (by simp only[W4] <;> lia);have I1:Inv X U Z H {s with heap:=h'}:=I.kept (t':=s.toks) kp
  have I2:Inv X U Z (upd H h'.objs.size (.tup ys)) {s with heap:=h'.push {cls:=.type "tuple",data:=.seq its.toArray}} :=
   I1.laid (t':=s.toks) (λb o e=>WV _ e) (WW _) (show ObjOk X.prog X.w _ _ _ (.tup ys)from⟨hz,its,0,r',W5 _ rfl⟩)
  exact⟨.ref h'.objs.size,_,I2,D?,q _ (I1.hok.fresh (WW _))⟩
 .obtain⟨its,r',pl,hz⟩:=I.tuple hq;exact call_tuple_same pl ⟨.ref p,H,I,rfl,q⟩
def tyV(K:WQ)(T:String)(x:V)(H:Hp):Prop:=match x with
 |.str _=>T="str"
 |.int _=>T="int"
 |.ref p=>(T="list"/\∃xs,SqL K H p xs)\/(T="tuple"/\∃o,K.lookup p=A? o/\o.cls=.type "tuple"/\o.dict=B?) \/
  (T="dict"/\((∃f',H p=A? (.dK f'))\/∃f',H p=A? (.dT f')))\/(T="set"/\∃S n,H p=A? (.set S n))
 |_=>False
theorem v8{T:String}{x:V}{v:WU}(I:Inv X U Z H s)(r:RelV x v)(ty:tyV X.K T x H) :
 s.TypeIs v T/\∀a,v=.ref a->∃ob,s.1.get? a=A? ob/\ob.dict=none:=by
 cases x with
 | str z =>
   obtain⟨t,rfl⟩:=r;cases(show T="str" from ty);exact⟨typeIs_str s z t,λ_ e=>nomatch e⟩
 | int i =>
   obtain⟨t,rfl⟩:=r;cases(show T="int" from ty);exact⟨typeIs_int s i t,λ_ e=>nomatch e⟩
 | ref p =>
   cases r;rcases ty with⟨rfl,xs,hq⟩|⟨rfl,o,hk,hc,hd⟩|⟨rfl,hk⟩|⟨rfl,S,n,hk⟩
   .obtain⟨its,_,pl,_⟩:=I.list hq;refine⟨pl.isList.typeIs,λa e=>?_⟩;cases e;obtain⟨o,n,e,c,hd,_⟩:=pl;exact⟨o,e,hd⟩
   .refine⟨⟨o,I.kIn p o hk,hc⟩,λa e=>?_⟩;cases e;exact⟨o,I.kIn _ o hk,hd⟩
   .have z:∃o,s.1.get? p=A? o/\o.ExactDict:=by
     rcases hk with⟨f',hk⟩|⟨f',hk⟩
     .obtain⟨_,_,_,_,o,_,_,e,ex,_⟩:=I.hok p _ hk;exact⟨o,e,ex⟩
     .obtain⟨_,_,_,_,o,_,_,e,ex,_⟩:=I.hok p _ hk;exact⟨o,e,ex⟩
    obtain⟨o,e,ex⟩:=z;refine⟨⟨o,e,ex.1⟩,λa e2=>?_⟩;cases e2;exact⟨o,e,ex.2.1⟩
   .obtain⟨o,_,_,_,e,ex,_⟩:=I.hok p _ hk;refine⟨⟨o,e,ex.1⟩,λa e2=>?_⟩;cases e2;exact⟨o,e,ex.2.1⟩
 |_=>exact YF ty
def aa9(K:WQ)(T:String)(r:V->List V->Hp->VK->Prop)(to:TE):TE:=λZ H Q=>to Z H λx H1=>tyV K T x H1/\r x [] H1 Q
def tBM(K:WQ)(T:String)(r:V->List V->Hp->VK->Prop)(to:TE)(t:TA):TE:=λZ H Q=>to Z H λx H1=>tyV K T x H1/\t Z H1 λxs H2=>r x xs H2 Q
variable{o:X7}{to:TE}{t:TA}{name:Xk}{apos Aq:Z2}{T id:String}{r:V->List V->Hp->VK->Prop}
theorem jN(pa:PlainAttrs T)(slot:Slot T name id)(IX:typeOf (.builtin id)=pure (.type "method_descriptor"))(hm:MtR X id r)(ho:PE X o to)
 (BD:attributeBase o name X.env (YY o X.env)=YY o X.env:=by rfl) (Cw:(apos.endLine == Aq.line)=true:=by rfl):PE X (.Call (.Attribute o name apos) [] [] Aq) (aa9 X.K T r to):=by
 intro U s Z H Q I h;refine wpAny_Call_method0_late BD Cw (thn (ho U s Z H _ I h) λv s1⟨x,H1,I1,r1,ty,q1⟩=>?_);obtain⟨h1,h2⟩:=v8 I1 r1 ty;exact⟨T,id,pa,slot,IX,h1,h2,Calls.callWith_builtin rfl (PySem.evalArgs_none (hm U s1 Z H1 x [] v [] Q I1 r1 .nil q1))⟩
theorem bW(pa:PlainAttrs T)(slot:Slot T name id)(IX:typeOf (.builtin id)=pure (.type "method_descriptor"))(hm:MtR X id r)(ho:PE X o to)(ha:PA X (e::es) t)
 (BD:attributeBase o name X.env (YY o X.env)=YY o X.env:=by rfl)
 (GD:((Z0 Aq (XF (e::es) X.env)).all (λx=>!x.1) && (backToKw Aq (keywordEach [] X.env)).all (λx=>x.1.isSome)
  && decide ((e::es).length+([]:List Keyword).length+(if([]:List Keyword).isEmpty then 0 else 1)<30))=true:=by rfl)
 (Cw:(apos.endLine == Aq.line)=true:=by rfl) (hs:XF (e::es) X.env=(CV,YY e X.env)::XF es X.env:=by rfl) (BE:(Z0 Aq (XF es X.env)).any (·.1)=false:=by rfl) :
 PE X (.Call (.Attribute o name apos) (e::es) [] Aq) (tBM X.K T r to t):=by
 intro U s Z H Q I h;refine wpAny_Call_method_late BD GD Cw rfl (thn (ho U s Z H _ I h) λv s1⟨x,H1,I1,r1,ty,q1⟩=>?_);obtain⟨h1,h2⟩:=v8 I1 r1 ty;refine⟨T,id,pa,slot,IX,h1,h2,?_⟩;have hA:=ha Aq U s1 Z H1 _ I1 q1;rw[hs]at hA |-;refine Calls.callWith_builtin (by show(CV ||(Z0 Aq (XF es X.env)).any (·.1))=CV;rw[BE] <;> rfl) (Calls.evalArgs_plain ?_);exact thn hA λus s2⟨vs,H2,I2,r2,q2⟩=>hm U s2 Z H2 x vs v us Q I2 r1 r2 q2
end
def MtM(X:Cx)(id:String)(r:V->List V->Hp->VK->Prop):Prop :=
 ∀(U:List (WR×Zb))(s:WY)(Z:St)(H:Hp)(x:V)(xs:List V)(v:WU)(us:List WU)(Q:VK),Inv X U Z H s->RelV x v->Vals xs us->r x xs H Q ->
   W9 (Xu X.prog X.w) X.A (call (.builtin id) (v::us)) (EP X U Z Q) X.xe s
theorem Vals.one:∀{x:V}{us:List WU},Vals [x] us->∃u,us=[u]/\RelV x u
 |_,_,.cons r .nil=>⟨_,rfl,r⟩
theorem Vals.zero:∀{us:List WU},Vals [] us->us=[]
 |_,.nil=>rfl
theorem Vals.dropLast(h:Vals xs us):Vals xs.dropLast us.dropLast:=by
 induction h with
 |nil=>exact .nil
 | cons r t ih =>
   cases t with
   |nil=>exact .nil
   |cons q t'=>exact .cons r ih
theorem Vals.reverse(h:Vals xs us):Vals xs.reverse us.reverse:=by
 induction h with
 |nil=>exact .nil
 |cons r t ih=>rw[X8,X8];exact Vals.append ih (.cons r .nil)
theorem r9(l:List α):l.eraseIdx (l.length - 1)=l.dropLast:=by
 induction l with
 |nil=>rfl
 | cons a r ih =>
   cases r with
   |nil=>rfl
   | cons b r =>
     have e:(a::b::r).length - 1=((b::r).length - 1)+1:=by
      have h1:(a::b::r).length=r.length+2:=rfl;have h2:(b::r).length=r.length+1:=rfl;lia
     rw[e,List.eraseIdx_cons_succ,ih]
     all_goals rfl
section
variable{X:Cx}{l:WR}{ys zs:List V}
theorem Inv.lset{its':List WU}{f:Array WU->Array WU}(I:Inv X U Z H s)(hH:H l=A? (.lst xs))
 (e:s.1.get? l=A? {cls:=.type "list",data:=.seq its.toArray n}) (hf:f its.toArray=its'.toArray) (hv:Vals ys its') (hz:ys.length<=Xg) :
 Inv X U Z (upd H l (.lst ys)) {s with heap:=s.1.update l (Yg f),toks:=t'}:=by
 have q:=PySem.IsL.update e f;rw[hf]at q;refine I.write (x:=l) (e:=l) (by rw[hH];exact trivial) (.inl rfl) (λb' u hb hu=>(XW s.1 (Yg f) (YR hb)).trans hu) ⟨_,q⟩ ?_;exact⟨hz,its',_,hv,q⟩
theorem Inv.lnew(I:Inv X U Z H s)(hv:Vals ys its)(hz:ys.length<=Xg) :
 Inv X U Z (upd H s.1.1.size (.lst ys)) {s with heap:=s.1.push {cls:=.type "list",data:=.seq its.toArray},toks:=t'} :=
 I.laid (λ_ _ q=>WV _ q) (WW _) ⟨hz,its,0,hv,W5 _ rfl⟩
theorem Inv.fresh(I:Inv X U Z H s):H s.1.1.size=none:=I.hok.fresh (WW _)
theorem Inv.lstM(I:Inv X U Z H s)(hH:H l=A? (.lst xs)):xs.length<=Xg/\∃(its:List WU)(n:Nat),Vals xs its/\xs.length=its.length/\s.1.get? l=A? {cls:=.type "list",data:=.seq its.toArray n}:=by
 obtain⟨z,its,n,r,e⟩:=I.hok l _ hH;exact⟨z,its,n,r,r.length,e⟩
theorem lj(h:n<=Xg):Zo n=false:=by
 unfold Zo;exact c! (by lia)
end
section
variable{X:Cx}
inductive qM(x:V)(vs:List V)(H:Hp)(Q:VK):Prop
 |mk (l:_) (xs:_) (y:_) (Cg:x=.ref l) (Ci:vs=[y]) (DT:H l=A? (.lst xs)) (EJ:xs.length<Xg) (GC:Q .non (upd H l (.lst (xs++[y])))):qM  x vs H Q
def tm:V->List V->Hp->VK->Prop:=qM
theorem aO:MtM X "list.append" tm:=by
 intro U s Z H x vs v us Q I rx rv h;obtain⟨l,xs,y,rfl,rfl,hH,hz,q⟩:=h;cases rx;obtain⟨u,rfl,ru⟩:=rv.one;obtain⟨z,its,n,r,hl,e⟩:=I.lstM hH;refine call_meets F.slot_list_append ⟨_,e,rfl⟩ F.entry_list_append (F.args_list_append_2 _ _) (PySem.list_append l its.toArray n u (by rw[W4];lia)) ⟨e,?_⟩;refine⟨.non,_,I.lset (its':=its++[u]) hH e (by simp) (r.append (.cons ru .nil)) ?_,D?,q⟩;rw[Xd,List.length_singleton];lia
inductive qz(x:V)(vs:List V)(H:Hp)(Q:VK):Prop
 |mk (l:_) (b:_) (xs:_) (zs:_) (Cg:x=.ref l) (Ci:vs=[.ref b]) (DT:H l=A? (.lst xs)) (EJ:H b=A? (.lst zs)) (GC:xs.length+zs.length<=Xg) (Qp:Q .non (upd H l (.lst (xs++zs)))):qz  x vs H Q
def yA:V->List V->Hp->VK->Prop:=qz
theorem gX:MtM X "list.extend" yA:=by
 intro U s Z H x vs v us Q I rx rv h;obtain⟨l,b,xs,zs,rfl,rfl,hH,hB,hz,q⟩:=h;cases rx;obtain⟨u,rfl,ru⟩:=rv.one;cases ru;obtain⟨z,its,n,r,hl,e⟩:=I.lstM hH;obtain⟨z2,Ai,n2,r2,Bq,e2⟩:=I.lstM hB;have hsz:its.toArray.size+Ai.toArray.size<=Xg:=by rw[W4,W4];lia
 have D3:¬(!its.toArray.isEmpty && Zo (its.toArray.size+Ai.toArray.size))=true:=by
  rw[lj hsz,Bool.and_false];exact W0
 refine call_meets F.slot_list_extend ⟨_,e,rfl⟩ F.entry_list_extend (F.args_list_extend_2 _ _)
  (AutoSeq1.list_extend_list_list_0 l its.toArray n b Ai.toArray n2 D3 (by rw[W4];lia) (by lia)) ⟨e,e2,?_⟩
 refine⟨.non,_,I.lset (its':=its++Ai) hH e (by simp) (r.append r2) ?_,D?,q⟩;rw[Xd];lia
inductive zr(x:V)(vs:List V)(H:Hp)(Q:VK):Prop
 |mk (l:_) (xs:_) (y:_) (Cg:x=.ref l) (Ci:vs=[]) (DT:H l=A? (.lst xs)) (EJ:xs[xs.length - 1]?=A? y) (GC:Q y (upd H l (.lst xs.dropLast))):zr  x vs H Q
def abr:V->List V->Hp->VK->Prop:=zr
theorem jF:MtM X "list.pop" abr:=by
 intro U s Z H x vs v us Q I rx rv h;obtain⟨l,xs,y,rfl,rfl,hH,hy,q⟩:=h;cases rx;have E7:=rv.zero;subst E7;obtain⟨z,its,n,r,hl,e⟩:=I.lstM hH;obtain⟨u,hu,ru⟩:=r.get hy
 have Dz:its.toArray[its.toArray.size - 1]?=A? u:=by
  show its.toArray[its.length - 1]?=A? u;rw[<-Array.getElem?_toList,<-hl];exact hu
 refine call_meets F.slot_list_pop ⟨_,e,rfl⟩ F.entry_list_pop (F.args_list_pop_1 _) (MeetsSeq.list_pop_last l its.toArray n u Dz (by rw[W4];lia)) ⟨e,?_⟩;refine⟨y,_,I.lset (its':=its.dropLast) hH e ?_ r.dropLast ?_,ru,q⟩
 .show its.toArray.eraseIdxIfInBounds (its.toArray.size - 1)=its.dropLast.toArray;rw[W4,List.eraseIdxIfInBounds_toArray,r9]
 .rw[List.length_dropLast];lia
inductive zh(x:V)(y:V)(H:Hp)(Q:VK):Prop
 |mk (l:_) (b:_) (xs:_) (zs:_) (Cg:x=.ref l) (Ci:y=.ref b) (DT:H l=A? (.lst xs)) (EJ:H b=A? (.lst zs)) (GC:xs.length+zs.length<=Xg) (Qp:∀p,H p=B?->Q (.ref p) (upd H p (.lst (xs++zs)))):zh  x y H Q
def abP:R2:=zh
theorem wc:OpR X (binaryOp .Add) abP:=by
 intro U s Z H x y v u Q I rx ry h;obtain⟨l,b,xs,zs,rfl,rfl,hH,hB,hz,q⟩:=h;cases rx;cases ry;obtain⟨z,its,n,r,hl,e⟩:=I.lstM hH;obtain⟨z2,Ai,n2,r2,Bq,e2⟩:=I.lstM hB;refine PySem.P.add_list e e2 ?_ (by rw[W4,W4];lia);have ea:its.toArray++Ai.toArray=(its++Ai).toArray:=by simp
 rw[ea];exact⟨.ref _,_,I.lnew (t':=s.toks) (r.append r2) (by rw[Xd];lia),D?,q _ I.fresh⟩
end
section
variable{X:Cx}
end
end L2
namespace Att
open PySem PySem.W PySem.Calls PyProof.Rows
theorem ints_of_wellAll{P:Params}:∀(ns:List Int)(vs:List WU),WellAll P h vs (ns.map WData.int)->IntsAre vs ns:=by
 intro ns;induction ns with
 | nil =>
   intro vs w;rw[YS]at w;cases w;exact .nil
 | cons n ns ih =>
   intro vs w;rw[Xx]at w;cases w with
   | cons a b =>
     cases a;exact .cons _ _ (ih _ b)
theorem script_of{l:OpenLaw}(hn:l.most=A? n){P:Params}{args:List WData}{vals:List WU}
 (B6:l.row.toRowW.claim.pre args=C?) (D4:WellAll P h vals args) :
 ∃a vs ns,vals=[Xl a]/\args=[WData.list (ns.map WData.int)]/\h.get? a=A? {cls:=.type "list",data:=.seq vs.toArray}/\IntsAre vs ns/\ns.length<=n:=by
 have SN:WShape.hasAll [] args [.list .int]=true:=(pre_splitW B6).1;have hc:l.pre.holds [] {args:=args}=true:=(pre_splitW B6).2;obtain⟨d,r,rfl,h1,h2⟩:=hasAllW_cons SN;obtain rfl:=hasAllW_nil h2;obtain⟨xs,rfl,h3⟩:=hasW_list h1;obtain⟨ns,rfl⟩:=items_int h3
 have hlen:ns.length<=n:=by
  unfold OpenLaw.pre at hc
  have h4:(WTm.not (.lt (.lit (.int (n:Int))) (.len (.arg 0)))).holds [] {args:=[.list (ns.map .int)]}=true:=by
   have h4:=(holds_andW hc).1;rw[hn]at h4;exact h4
  have h5:=condW_of h4 (w_not (w_lt w_lit (w_len_list (w_arg rfl))));rw[WN]at h5;refine Nat.le_of_not_lt λq=>?_;have q':(n:Int)<((ns.length:Nat):Int):=by lia
  first
   |(rw[d! q']at h5;exact g! h5 (by decide))
   |(simp at h5;lia)
 cases D4 with
 | cons w1 w2 =>
   cases w2;cases w1 with
   |list ho Ac=>exact⟨_,_,ns,D?,D?,ho,ints_of_wellAll ns _ Ac,hlen⟩
theorem post_true(l:OpenLaw)(args:List WData):l.row.toRowW.claim.post args (.bool C?) args=C? :=
 postW_of (r:=l.row.toRowW) (X:=(C? == C?))
  (show WShape.has [] (.bool C?) .bool=C? by first|rfl|decide|simp[WShape.has,WShape.arms,WShape.armsAll])
  (show(WTm.eq .res (.lit (.bool C?))).value [] {args:=args,res:=A? (.bool C?),after:=args}=A? (.bool (C? == C?))from w_eq_bool (w_res rfl) w_lit) rfl
theorem attach_call{l:OpenLaw}{q:W6}{d:DefRec}
 (hn:l.most=A? n) (IY:d.params.defaults=[])
 (call:∀(w:Xo)(s₀ Ab:WY)(mg mb:Xk->Option WU)(fa:WR)(o:Zb)(pm cd doc:WU)(a:WR)(vs:List WU)(ns:List Int),
  Ground q loose [] XP w s₀ mg mb Ab.1->YP w Ab.1 ->
  Ab.1.get? fa=A? o->o.data=.func (docDef d.name d.params d.body d.scope pm cd doc)->Ab.1.CodeRec cd d.name->mg d.name=A? (.ref fa) ->
  Ab.1.get? a=A? {cls:=.type "list",data:=.seq vs.toArray}->IntsAre vs ns->ns.length<=n->Ab.gens=#[] ->
  codeAny (Xu l.prog w) callerA (.call (.ref fa) ⟨[.ref a],[]⟩) (λr s'=>r=.ok (.ret (.bool C?))/\OldK Ab.1 s'.1/\s'.os=Ab.os/\AllBare s'.gens) Ab) :
 WalkO q loose XP YP l.row.toRowW d [] (λf vs=>PySem.call f vs):=by
 intro w s₀ Ab mg mb G Y fa o pm cd doc dV kV ho hd B4 hD MR hg args vals as B6 SO Wd D4 We;obtain rfl:dV=.none:=Dflts.none hD IY;obtain rfl:kV=.none:=Dflts.noKw hD;obtain⟨a,vs,ns,rfl,rfl,GF,hints,hlen⟩:=script_of hn B6 D4;refine enter_call (codeAny_mono (call w s₀ Ab mg mb fa o pm cd doc a vs ns G Y ho (fd_plain hd) B4 MR GF hints hlen hg) λr s' hq=>?_);obtain⟨rfl,h2,h3,h4⟩:=hq;exact⟨.inl ⟨.bool C?,.bool C?,[],D?,λ_=>rfl,.bool C?,post_true l _,λ_=>⟨List.Pairwise.nil,λ_ hm=>(nomatch hm)⟩⟩,h2,h3,h4⟩
section
variable{K:Frag}
end
end Att
namespace L2
open PySem PySem.Spec PyProof.Rows
theorem nB:∀{vs:List WU}{ns:List Int},IntsAre vs ns->Vals (ns.map p!) vs
 |_,_,.nil=>.nil
 |_,_,.cons n t h=>.cons ⟨t,rfl⟩ (nB h)
def inClass(s:Stmt)(j:Nat):Stmt:=match s with
 |.ClassDef _ _ _ body _ _ _ _ _ _ _=>body.getD j (.Pass ⟨0,0,0,0⟩)
 |_=>.Pass ⟨0,0,0,0⟩
def bZ(s:Stmt):Arguments:=match s with
 |.FunctionDef _ a _ _ _ _ _ _ _ _=>a
 |_=>{posonlyargs:=[],args:=[],vararg:=B?,kwonlyargs:=[],kw_defaults:=[],kwarg:=B?,defaults:=[]}
def bN(s:Stmt):List Stmt:=match s with
 |.FunctionDef _ _ b _ _ _ _ _ _ _=>b
 |_=>[]
def aJ(s:Stmt):Z5:=match s with
 |.FunctionDef _ _ _ _ _ _ sc _ _ _=>sc
 |_=>{kind:=.function,names:=[],isGenerator:=CV,isCoroutine:=CV}
abbrev CX0:CXT:=λ_ _ _ _ _ _=>False
abbrev E0:XK:=λ_ _ _=>False
theorem gy{X:Cx}:Passes CX0 X E0:=λ_ _ _ _ _ _ _ h=>h.elim
structure Fun(K:WQ)(x qual:Xk)(st:Stmt)(f:WR)(fd:ZU):Prop where
 ex:∃(oc:WU)(od:Option WR)(kV doc pm:WU)(an:Option WR)(Ah ct:WU)(EK:Array (Option WU)),
  fd=PySem.W.fnOf x qual (bZ st) (bN st) (aJ st) .none kV doc pm an Ah ct/\K.lookup f=A? ⟨oc,od,.func fd,EK⟩/\PySem.W.codeIn K Ah qual=C?
 kp:PySem.W.keepIn K (.ref f)=C?
theorem Fun.ok{st:Stmt}{k:Nat}(F:Fun K x qual st f fd)(S:dR N ps (aJ st))(len:∀vs H Q E,sp vs H Q E->vs.length=ps.length)
 (A':∀(Ah:WU)(A:XG)(outer:List Env)(s:WY)(H:Hp)(vs:List V)(Q:VK)(E:XK),Room k (A.deeper (envOfC qual (aJ st) s.1.1.size f Ah))->sp vs H Q E ->
  ∃t,PSs (qh CX0 P w K mg base N qual (aJ st) f Ah A outer s H E).nox (bN st) t/\t {nx:=λ_ H'=>Q .non H',rt:=Q} (start N vs) H):aU P w K mg base CX0 (k+1) f fd ps sp:=by
 obtain⟨oc,od,kV,doc,pm,an,Ah,ct,EK,rfl,lk,B4⟩:=F.ex;refine zi lk B4 S len λA outer s H vs Q E hr CS=>?_;obtain⟨t,h,q⟩:=A' Ah A outer s H vs Q E hr CS;exact⟨t,h.nox,q⟩
theorem Fun.okA{st:Stmt}{k:Nat}(F:Fun K x qual st f fd)(S:dR N ps (aJ st))
 (A':∀(Ah:WU)(A:XG)(outer:List Env)(s:WY)(H:Hp)(vs:List V)(Q:VK)(E:XK),Room k (A.deeper (envOfC qual (aJ st) s.1.1.size f Ah))->sp vs H Q E ->
  ∃t,PSs (qh CX0 P w K mg base N qual (aJ st) f Ah A outer s H E).nox (bN st) t/\t {nx:=λ_ H'=>Q .non H',rt:=Q} (start N vs) H) (len:∀vs H Q E,sp vs H Q E->vs.length=ps.length:=by intro _ _ _ _ h;cases h;subst_vars;rfl):aU P w K mg base CX0 (k+1) f fd ps sp:=F.ok S len A'
theorem pgN{X:Cx}(i:Nat)(hN:X.N.Nodup)(hi:X.N[i]?=A? x:=by rfl)(hx:Loc X.env.scope x:=by first|exact .inl rfl|exact .inr rfl)(hf:X.fn x=C?\/X.env.scope.names.lookup x=A? .local:=by first|exact .inl rfl|exact .inr rfl|assumption):PG X (.Name x pos) (av i):=ym hN hi hx hf
theorem am{X:Cx}(i:Nat)(hN:X.N.Nodup)(he:PE X e te)(hi:X.N[i]?=A? x:=by rfl)(hx:Loc X.env.scope x:=by first|exact .inl rfl|exact .inr rfl)(hs:swapsWith e (A? (.Name x pos')) pos.line X.env=pure false:=by rfl)(hf:X.fn x=C?\/X.env.scope.names.lookup x=A? .local:=by first|exact .inl rfl|exact .inr rfl|assumption):PS X (.Assign [.Name x pos'] e pos) (xP te (av i)):=vC hN hi hx he hs hf
theorem Fun.binds{st:Stmt}(F:Fun K x qual st f fd)
 (h:∀(kV doc pm:WU)(an:Option WR)(Ah ct:WU)(us:List WU),us.length=ps.length->bindArgs (PySem.W.fnOf x qual (bZ st) (bN st) (aJ st) .none kV doc pm an Ah ct) ⟨us,[]⟩=pure (ps.zip us)):Binds K fd ps []:=by
 obtain⟨oc,od,kV,doc,pm,an,Ah,ct,EK,rfl,lk,B4⟩:=F.ex;exact .all (h kV doc pm an Ah ct)
theorem lN{st:Stmt}{an:Option WR}{EK:Array (Option WU)}{kV doc pm Ah ct:WU}(l:K.lookup f=A? ⟨oc,od,.func (PySem.W.fnOf x qual (bZ st) (bN st) (aJ st) .none kV doc pm an Ah ct),EK⟩)
 (c:PySem.W.codeIn K Ah qual=C?) (k:PySem.W.keepIn K (.ref f)=C?):Fun K x qual st f (PySem.W.fnOf x qual (bZ st) (bN st) (aJ st) .none kV doc pm an Ah ct):=⟨⟨oc,od,kV,doc,pm,an,Ah,ct,EK,rfl,l,c⟩,k⟩
theorem j8{k:Nat}(hr:Room k A):A.units+1<YJ:=Nat.lt_of_le_of_lt (Nat.add_le_add_left (by decide:1<=64) _) hr.units
section
variable{X:Cx}
theorem pv(i:Nat)(hN:X.N[i]?=A? x:=by rfl)(hv:Vis X.env.scope x:=by first|exact Or.inl rfl|exact Or.inr (Or.inl rfl)|exact Or.inr (Or.inr rfl))(hd:(x == ("__debug__":Xk))=false:=by decide)
 (B4:(x == ("__classdict__":Xk))=false:=by decide):PE X (.Name x pos) (bi i):=wZ hN hv hd B4
end
theorem dN{A B:Prop}(h:B):if CV=C? then A else B:=by
 rw[a! W0];exact h
theorem sg{A B:Prop}(h:A):if C?=C? then A else B:=by
 rw[b! rfl];exact h
theorem cu{c A B:Prop}[Decidable c](h1:c->A)(h2:¬c->B):if c then A else B:=by
 by_cases h:c
 .rw[b! h];exact h1 h
 .rw[a! h];exact h2 h
def Same(H H':Hp):Prop:=∀b o,H b=A? o->H' b=A? o
theorem Same.refl(H:Hp):Same H H:=λ_ _ h=>h
theorem Same.trans(a:Same H H1)(b:Same H1 H2):Same H H2:=λc o h=>b c o (a c o h)
theorem Same.free(e:Same H H'){l:WR}(h:H' l=Option.none):H l=Option.none:=by
 cases q:H l with
 |none=>rfl
 | some o =>
   rw[e l o q]at h;cases h
theorem Same.seq(e:Same H H')(h:SqL K H a xs):SqL K H' a xs:=by
 rcases h with(h|⟨o,h⟩)|h
 .exact .inl (.inl (e _ _ h))
 .exact .inl (.inr ⟨o,e _ _ h⟩)
 .exact .inr h
theorem iJ(env:Env):∀(ns:List (Xk×Zy))(acc:List (Xk×WR)),(∀n,(n,Yz)∈ns->∃c,env.cells.lookup n=A? c) ->
 (∀x c,acc.lookup x=A? c->env.cells.lookup x=A? c) ->
 ∃cl,(forIn ns acc λ(x:Xk×Zy)(cs:List (Xk×WR))=>(if(x.2 == Yz)=C? then(do let a <-cellOf env x.1;pure (ZO ((x.1,a)::cs)))else pure (ZO cs):Sem _))=pure cl /\
   (∀x c,cl.lookup x=A? c->env.cells.lookup x=A? c)/\(∀n,(n,Yz)∈ns->∃c,cl.lookup n=A? c)/\∀n c,acc.lookup n=A? c->cl.lookup n=A? c
 | [],acc,_,ha=>⟨acc,rfl,ha,λ_ h=>by simp at h,λ_ _ h=>h⟩
 | (n,k)::r,acc,hf,ha=>by
   by_cases hk:k=Yz
   .subst hk;obtain⟨c,hc⟩:=hf n Xe
    have DA:∀x c',((n,c)::acc).lookup x=A? c'->env.cells.lookup x=A? c':=λx c' e=>by
     rw[YL]at e;cases hx:x == n with
     | true =>
       rw[hx]at e;have e1:x=n:=by simpa using hx
       cases e;rw[e1];exact hc
     |false=>rw[hx]at e;exact ha x c' e
    obtain⟨cl,h1,h2,h3,h4⟩:=iJ env r ((n,c)::acc) (λm hm=>hf m (Xb _ hm)) DA;have up:∀m c',((n,c)::acc).lookup m=A? c'->cl.lookup m=A? c':=h4;refine⟨cl,?_,h2,?_,?_⟩
    .rw[List.forIn_cons];have e0:cellOf env n=pure c:=by unfold cellOf;rw[hc]
     simp only[beq_self_eq_true,if_true,e0,pure_bind];exact h1
    .intro m hm;rcases W7.mp hm with e|e
     .have:m=n:=by simpa using(Prod.mk.inj e).1
      subst this;exact⟨c,up m c (by rw[YL];simp)⟩
     .exact h3 m e
    .intro m c' e;by_cases hm:m=n
     .subst hm;have:=ha m c' e;rw[hc]at this;cases this;exact up m c (by rw[YL];simp)
     .have SQ:(m == n)=false:=by simpa using hm
      exact up m c' (by rw[YL,SQ];exact e)
   .have hb:(k == Yz)=false:=by simpa using hk
    obtain⟨cl,h1,h2,h3,h4⟩:=iJ env r acc (λm hm=>hf m (Xb _ hm)) ha;refine⟨cl,?_,h2,?_,h4⟩
    .rw[List.forIn_cons];simp only[hb,Yc,if_false,pure_bind];exact h1
    .intro m hm;rcases W7.mp hm with e|e
     .exact g! (Prod.mk.inj e).2.symm hk
     .exact h3 m e
theorem mC(hf:∀n,(n,Yz)∈sc.names->∃c,env.cells.lookup n=A? c) :
 ∃cl,closureFor sc env=pure cl/\(∀x c,cl.lookup x=A? c->env.cells.lookup x=A? c)/\∀n,(n,Yz)∈sc.names->∃c,cl.lookup n=A? c:=by
 obtain⟨cl,h1,h2,h3,_⟩:=iJ env sc.names [] hf (λx c e=>by simp at e);refine⟨cl,?_,h2,h3⟩;unfold closureFor;have e:(forIn sc.names ([]:List (Xk×WR)) λ(x:Xk×Zy)(cs:List (Xk×WR))=>(do if(x.2 == Yz)=C? then(do let a <-cellOf env x.1;pure (ZO ((x.1,a)::cs)))else pure (ZO cs):Sem _))=pure cl:=h1
 first
  |(rw[show(forIn sc.names ([]:List (Xk×WR)) _:Sem _)=pure cl from h1];rfl)
  |(simp only[h1,pure_bind])
theorem l6{f:Xk×Zy->Xk×Zy}(hf:∀p,(f p).1=p.1):∀{l:List (Xk×Zy)}{x:Xk}{k:Zy},l.lookup x=A? k->(l.map f).lookup x=A? (f (x,k)).2
 | [],_,_,h=>by simp at h
 | (n,k0)::r,x,k,h=>by
   have ih:=@l6 f hf r x k;rw[Xx];obtain⟨a,b,e⟩:∃a b,f (n,k0)=(a,b):=⟨_,_,rfl⟩;have ea:a=n:=by have:=hf (n,k0);rw[e]at this;exact this
   subst ea;rw[e,YL];cases hx:x == a with
   | true =>
     rw[YL,hx]at h;cases h;have:x=a:=by simpa using hx
     subst this;rw[e]
   |false=>rw[YL,hx]at h;exact ih h
theorem fz{f:Xk×Zy->Xk×Zy}(hf:∀p,(f p).1=p.1):∀{l:List (Xk×Zy)}{x:Xk}{k:Zy},(l.map f).lookup x=A? k->∃k0,(x,k0)∈l/\(f (x,k0)).2=k
 | [],_,_,h=>by simp at h
 | (n,k0)::r,x,k,h=>by
   have ih:=@fz f hf r x k;rw[Xx]at h;obtain⟨a,b,e⟩:∃a b,f (n,k0)=(a,b):=⟨_,_,rfl⟩;have ea:a=n:=by have:=hf (n,k0);rw[e]at this;exact this
   subst ea;rw[e,YL]at h;cases hx:x == a with
   | true =>
     rw[hx]at h;cases h;have:x=a:=by simpa using hx
     subst this;exact⟨k0,Xe,by rw[e]⟩
   | false =>
     rw[hx]at h;obtain⟨k1,h1,h2⟩:=ih h;exact⟨k1,Xb _ h1,h2⟩
def rlb(env:Env)(p:Xk×Zy):Xk×Zy:=if(p.2 == Yz && env.scope.kind == .function && env.kindOf p.1 == A? .cell)then(p.1,NameKind.cell)else(p.1,p.2)
theorem pc(env:Env)(p:Xk×Zy):(rlb env p).1=p.1:=by unfold rlb;split <;> rfl
theorem io(sc:Z5)(env:Env):(relabel sc env).names=sc.names.map (rlb env):=rfl
theorem iS(h:sc.names.lookup x=A? .free):(relabel sc env).names.lookup x=A? .cell\/(relabel sc env).names.lookup x=A? .free:=by
 rw[io,l6 (pc env) h];unfold rlb;split
 .exact .inl rfl
 .exact .inr rfl
theorem lC(hn:∀y∈sc.names,y.2≠NameKind.cell)(h:(relabel sc env).names.lookup x=A? .cell\/(relabel sc env).names.lookup x=A? .free):(x,Yz)∈sc.names:=by
 rw[io]at h
 have:∃k0,(x,k0)∈sc.names/\((rlb env (x,k0)).2=.cell\/(rlb env (x,k0)).2=.free):=by
  rcases h with h|h
  .obtain⟨k0,a,b⟩:=fz (pc env) h;exact⟨k0,a,.inl b⟩
  .obtain⟨k0,a,b⟩:=fz (pc env) h;exact⟨k0,a,.inr b⟩
 obtain⟨k0,hm,hk⟩:=this;have nc:=hn _ hm;cases k0 with
 |free=>exact hm
 |cell=>exact g! rfl nc
 |_=>simp[rlb]at hk
def bY(X:Cx)(N:List Xk)(sc:Z5)(cl:List (Xk×WR))(C:WR)(s:WY)(H:Hp)(fp:List WR)(U:List (WR×Zb)):Cx :=
 {X with N:=N,s₀:=s,H₀:=H,env:=compEnvC sc cl C X.env,outer:=X.stack,ex:=fp,fn:=λ_=>CV,pn:=X.pn++U,xe:=λ_ _=>False}
def cσ(js:List (Option Nat))(Z:St):St:=js.map λo=>o.bind λj=>(Z[j]?).join
structure fH(X:Cx)(sc:Z5)(N:List Xk)(js:List (Option Nat)):Prop where
 kind:sc.kind=.function
 nocell:∀y∈sc.names,y.2≠NameKind.cell
 names:∀y∈sc.names,y.2=NameKind.local->sc.names.lookup y.1=A? .local
 frees:∀y∈sc.names,y.2=Yz->X.env.kindOf y.1=A? .cell\/X.env.kindOf y.1=A? .free
 len:js.length=N.length
 slots:∀(i j:Nat)(x:Xk),js[i]?=A? (A? j)->N[i]?=A? x->X.N[j]?=A? x/\sc.names.lookup x=A? .free/\(X.env.kindOf x=A? .cell\/X.env.kindOf x=A? .free)
theorem cp{X:Cx}(k:sc.kind=.function)(nc:∀y∈sc.names,y.2≠NameKind.cell)(nm:∀y∈sc.names,y.2=NameKind.local->sc.names.lookup y.1=A? .local)
 (fr:(sc.names.all λy=>y.2 != Yz ||X.env.kindOf y.1 == A? NameKind.cell ||X.env.kindOf y.1 == A? Yz)=C?) (ln:js.length=N.length)
 (sl:((js.zip N).all λp=>match p.1 with|none=>C?|some j=>X.N[j]? == A? p.2 && sc.names.lookup p.2 == A? Yz && (X.env.kindOf p.2 == A? NameKind.cell ||X.env.kindOf p.2 == A? Yz))=C?):fH X sc N js:=by
 refine⟨k,nc,nm,λy hy hf=>?_,ln,λi j x e1 e2=>?_⟩
 .have h:=List.all_eq_true.mp fr y hy;rw[hf]at h;simpa using h
 .have hm:(A? j,x)∈js.zip N:=by
   have:(js.zip N)[i]?=A? (A? j,x):=by rw[Zd];exact⟨e1,e2⟩
   exact WT this
  have h:=List.all_eq_true.mp sl _ hm;simp at h;exact⟨h.1.1,h.1.2,h.2⟩
def PTs(X:Cx)(ifs:List X7)(t:TT):Prop :=
 ∀(U:List (WR×Zb))(s:WY)(Z:St)(H:Hp)(Q:Bool->Hp->Prop),Inv X U Z H s->t Z H Q ->
   W9 (Xu X.prog X.w) X.A (forIn ifs C? λc r=>if r=C? then do let ok <-isTrue c X.env (YY c X.env);pure (ZO ok)else pure (ZO r)) (TP X U Z Q) X.xe s
def bE:TT:=λ_ H Q=>Q C? H
theorem bM{X:Cx}:PTs X [] bE:=λ_ _ _ H _ I h=>wpAny_tests_nil ⟨H,I,h⟩
theorem g7{X:Cx}{c:X7}{t:TT}(h:PT X c t):PTs X [c] t:=λU s Z H Q I q=>wpAny_tests_one (h U s Z H Q I q)
def Keep(Z Aa:St):Prop:=Z.length=Aa.length/\∀(i:Nat)(v:V),Z[i]?=A? (A? v)->Aa[i]?=A? (A? v)
def nJ(js:List (Option Nat))(g:TG):Prop:=∀(Z BR:St)(x:V)(H:Hp)(Q:St->Hp->Prop),Keep (cσ js Z) BR->g x BR H Q->g x BR H λAx H2=>Keep (cσ js Z) Ax/\Q Ax H2
def pk(js:List (Option Nat))(g:TGs):Prop:=∀(Z BR:St)(x:List V)(H:Hp)(Q:St->Hp->Prop),Keep (cσ js Z) BR->g x BR H Q->g x BR H λAx H2=>Keep (cσ js Z) Ax/\Q Ax H2
theorem Keep.refl(Z:St):Keep Z Z:=⟨rfl,λ_ _ h=>h⟩
theorem za(h:js[i]?=A? B?):(cσ js Z)[i]?=A? none:=by
 unfold cσ;rw[WZ,h];rfl
theorem aK(h:js[i]?=A? B?):nJ js (av i):=λZ BR x H Q k q=>by
 refine⟨⟨by rw[List.length_set];exact k.1,λj v e=>?_⟩,q⟩;by_cases hj:i=j
 .subst hj;rw[za h]at e;cases e
 .rw[List.getElem?_set_ne hj];exact k.2 j v e
theorem gI:pk js mN:=λZ BR x H Q k⟨e,q⟩=>⟨e,k,q⟩
theorem bT{t:TG}{u:TGs}(mono:∀x Z H(Q Q':St->Hp->Prop),(∀a b,Q a b->Q' a b)->t x Z H Q->t x Z H Q')(h1:nJ js t)(h2:pk js u):pk js (cY t u):=λZ BR x H Q k⟨v,r,e,q⟩ =>
 ⟨v,r,e,mono _ _ _ _ _ (λa b⟨k',q'⟩=>h2 Z a r b Q k' q') (h1 Z BR v H _ k q)⟩
theorem bd:∀x Z H(Q Q':St->Hp->Prop),(∀a b,Q a b->Q' a b)->av i x Z H Q->av i x Z H Q':=λ_ _ _ _ _ h q=>h _ _ q
theorem gN{t:TGs}(h:pk js t):nJ js (mV K n t):=λZ BR x H Q k⟨a,xs,e,hs,hl,q⟩=>⟨a,xs,e,hs,hl,h Z BR xs H Q k q⟩
def gQ(js:List (Option Nat))(g:TG)(tt:TT)(te:TE)(Z:St)(J:It)(D:WR)(n:Nat)(W:Nat->Hp->Prop)(fin:Hp->Prop):Prop :=
 ∀i H,W i H->(J.stop i H/\fin H)\/(i<n/\J.go i H/\∀x H1,J.yld i H x H1->g x (cσ js Z) H1 λAx H2=>tt Ax H2 λb H3 =>
   if b=C? then te Ax H3 λv H4=>∃ys,H4 D=A? (.lst ys)/\ys.length<Xg/\W (i+1) (upd H4 D (.lst (ys++[v])))else W (i+1) H3)
def zt(js:List (Option Nat))(wi:TI)(g:TG)(tt:TT)(te:TE):TE:=λZ H Q=>wi Z H λJ H1=>∀D,H1 D=B? ->
 ∃(n:Nat)(W:Nat->Hp->Prop),W 0 (upd H1 D (.lst []))/\gQ js g tt te Z J D n W λH'=>Q (.ref D) H'
section
variable{X:Cx}
theorem xx{h1:Yd}(S:fH X sc N js)(I:Inv X U Z H s)
 (Br:∀x c,cl.lookup x=A? c->X.env.cells.lookup x=A? c) (C2:∀n,(n,Yz)∈sc.names->∃c,cl.lookup n=A? c)
 (hf:∀b∈fp,jL X U H b) (Ak:∀b∈fp,b<s.1.1.size) (Cy:h1.Ns s.1.1.size λx=>ZT x ([]:List (Xk×WU)))
 (CT:∀b o,s.1.get? b=A? o->h1.get? b=A? o) :
 Inv (bY X N sc cl s.1.1.size s H fp U) [] (cσ js Z) H {s with heap:=h1,toks:=t'}:=by
 have hok:(bY X N sc cl s.1.1.size s H fp U).Ok :=
  { mod:=I.ok.mod
    kind:=S.kind
    glob:=I.ok.glob
    blt:=I.ok.blt
    above:=WW _
    inj:=λx y c a b=>I.ok.inj x y c (Br x c a) (Br y c b)
    has:=λx h=>C2 x (lC S.nocell h)
    cab:=λx c h=>by cases h
    hd:=I.ok.hd
    frames:=I.ok.frames
    stk:=.inl rfl
    exf:=λb hb=>⟨λe=>g! (Ak b hb) (by rw[e];exact Ys _),λx c e z=>(hf b hb).2.2.2.2.1 x c (Br x c e) z⟩
    bs:=I.bs
    bsz:=XC I.ok.bsz I.sz
    noex:=λb o e hb=>by
     rcases(hf b hb).2.2.2.1 with h|h
     .exact I.ok.noex b o e h
     .exact g! (XO (XO (Xa e) I.ok.bsz) h) (Ys _)
    exfs:=λb hb hm=>by
     rcases W7.mp (I.stkSub b hm)with e|e
     .exact(hf b hb).2.1 e
     .exact(hf b hb).2.2.1 e
    funs:=I.stack
    frf:=I.stkFree }
 have hC:H s.1.1.size=none:=I.hok.fresh (WW _);obtain⟨m0,Wf,EL⟩:=I.loc
 exact
  { ok:=hok
    os:=rfl
    bare:=I.bare
    base:=Un.kept CT
    loc:=⟨_,Cy,λi x v e1 e2 Qm=>by
     have Cj:∃j,js[i]?=A? (A? j)/\Z[j]?=A? (A? v):=by
      unfold cσ at e2;rw[WZ]at e2;cases q:js[i]? with
      |none=>rw[q]at e2;cases e2
      | some o =>
        rw[q]at e2;cases o with
        |none=>cases e2
        | some j =>
          refine⟨j,D?,?_⟩;have e3:(Z[j]?).join=A? v:=Xm e2;cases r:Z[j]? with
          |none=>rw[r]at e3;cases e3
          |some z=>rw[r]at e3;exact h! A? e3
     obtain⟨j,q1,q2⟩:=Cj;obtain⟨n1,n2,n3⟩:=S.slots i j x q1 e1;obtain⟨u,ru,look⟩:=EL j x v n1 q2 (by rcases n3 with z|z;exact .inr (.inl z);exact .inr (.inr z));refine⟨u,ru,.inr ⟨iS n2,?_⟩⟩;have hm:(x,Yz)∈sc.names:=lC (env:=X.env) S.nocell (iS n2);obtain⟨c,hc⟩:=C2 x hm;refine⟨c,hc,?_⟩;rcases look with⟨k1,_⟩|⟨_,c',AO,ic⟩
     .rcases n3 with z|z <;> (rw[k1]at z;cases z)
     .have:=Br x c hc;rw[AO]at this;cases this;exact ic.keeps CT⟩
    cell:=λx c e=>by
     obtain⟨v,q⟩:=I.cell x c (Br x c e);exact⟨v,q.keeps CT⟩
    free:=hC
    freeC:=λx c e=>I.freeC x c (Br x c e)
    pin:=λp hp=>by
     have AX:p∈X.pn++U:=by simpa[bY]using hp
     obtain⟨a1,a2,a3,a4,a5⟩:=I.pin p AX;refine⟨CT _ _ a1,a2,λe=>?_,λhm=>?_,a5⟩
     .have e':p.1=s.1.1.size:=e;exact g! (Xa a1) (by rw[e'];exact Ys _)
     .rcases W7.mp (I.stkSub p.1 hm)with e|e
      .exact a3 e
      .exact a4 e
    hok:=I.hok.kept CT
    len:=by
     show(cσ js Z).length=N.length;unfold cσ;rw[WN];exact S.len }
theorem vk{R:Result->WY->Prop}{target:X7}{it acc:WU}(J:Nat->WY->Prop)
 (turn:∀n s,J n s->W9 (Xu prog w) A (pyNext it) (λr Ab=>(r=B?/\R (.ok .next) Ab)\/∃v,r=A? v /\
  W9 (Xu prog w) A (letOwnedTupleGo target it v) (λ_ AH=>W9 (Xu prog w) A (assign target env v) (λ_ B5 =>
   W9 (Xu prog w) A (forIn ifs C? λc r=>if r=C? then do let ok <-isTrue c env (YY c env);pure (ZO ok)else pure (ZO r)) (λok D5 =>
    (ok=CV/\∃m,m<n/\J m D5)\/(ok=C?/\W9 (Xu prog w) A (YY elt env) (λx IZ=>W9 (Xu prog w) A (call (.builtin "list.append") [acc,x]) (λ_ I0=>∃m,m<n/\J m I0) (λ_ _=>False) IZ) (λ_ _=>False) D5))
    (λ_ _=>False) B5) (λ_ _=>False) AH) (λ_ _=>False) Ab) (λ_ _=>False) s)
 (n:Nat) (h:J n s):codeAny (Xu prog w) A (.compLoop (.ListComp elt [⟨target,iter,ifs,0⟩] scope pos) 0 it acc env) R s:=by
 refine codeAny_loop rfl J (λn s hJ=>?_) n h;show W9 _ A ((compTurn (.ListComp elt [⟨target,iter,ifs,0⟩] scope pos) 0 it acc env).onRaise _) _ _ s;refine wpAny_noted ?_;rw[compTurn_list];have up:∀{α:Type}{m:Sem α}{Q:α->WY->Prop}{E:WU->WY->Prop}{s:WY},W9 (Xu prog w) A m Q (λ_ _=>False) s->W9 (Xu prog w) A m Q E s:=λq=>Y6 q (λ_ _ z=>z) λ_ _ z=>z.elim;refine WO (wpAny_standAt (WO (Y6 (up (turn n s hJ)) (λr Ab Ao=>?_) λ_ _ z=>z)));rcases Ao with⟨rfl,Ao⟩|⟨v,rfl,Ao⟩
 .exact WX Ao
 .refine WO (Y6 (up Ao) (λ_ AH AY=>?_) λ_ _ z=>z);refine WO (Y6 (up AY) (λ_ B5 Cz=>?_) λ_ _ z=>z);refine WO (Y6 (up Cz) (λok D5 AI=>?_) λ_ _ z=>z);rcases AI with⟨rfl,AI⟩|⟨rfl,AI⟩
  .exact WX ⟨rfl,AI⟩
  .exact WO (WO (Y6 (up AI) (λx IZ AJ=>WO (Y6 (up AJ) (λ_ I0 MS=>WX (WX ⟨rfl,MS⟩)) λ_ _ z=>z)) λ_ _ z=>z))
theorem mI{tn:Nat->Yd->Prop}{J:It}{W:Nat->Hp->Prop}{fin:Hp->Prop}
 {R:WU->WR->Result->WY->Prop} (hc:X.calm=C?) (S:fH X sc N js) (I:Inv X U Z H s) (T:Turn X.prog X.w X.K tg J fp it tn) (st:tn 0 s.1) (hf:∀b∈fp,jL X U H b)
 (Br:∀x c,cl.lookup x=A? c->X.env.cells.lookup x=A? c) (C2:∀n,(n,Yz)∈sc.names->∃c,cl.lookup n=A? c)
 (hg:∀cl C s H fp U,PG (bY X N sc cl C s H fp U) tg g) (gk:nJ js g) (ht:∀cl C s H fp U,PTs (bY X N sc cl C s H fp U) ifs tt) (he:∀cl C s H fp U,PE (bY X N sc cl C s H fp U) elt te)
 (w0:W 0 (upd H s.1.1.size (.lst []))) (turn:gQ js g tt te Z J s.1.1.size n W fin)
 (hR:∀C H' s',C≠X.env.locals->s.1.1.size<C->(∃m,s'.1.Ns C m)->H' C=B?->(∀h' t',YG C s'.1 h'->Inv X U Z H' {s' with heap:=h',toks:=t'})->fin H'->R (.ref s.1.1.size) C (.ok .next) s') :
 W9 (Xu X.prog X.w) X.A (newList []) (λacc B5=>W9 (Xu X.prog X.w) X.A (newFunctionEnv sc X.env.globals cl [] X.env.qual B? .none (A? X.env)) (λJa D5 =>
  codeAny (Xu X.prog X.w) X.A (.compStart (.ListComp elt [⟨tg,iter,ifs,0⟩] sc pos) 0 (.ref it) acc {Ja with scope:=relabel sc X.env}) (R acc Ja.locals) D5) E B5) E s:=by
 refine Ye (wpAny_newFunctionEnv S.nocell (by intro y hy;simp at hy) (λAo C3 C4=>?_) S.kind);dsimp only at C3 C4 |-;have I3:Inv X U Z (upd H s.1.1.size (.lst [])) {s with heap:=s.1.push {cls:=.type "list",dict:=B?,data:=.seq ([]:List WU).toArray}}:=I.lnew (t':=s.toks) (its:=[]) .nil (by decide)
 have Ak:∀b∈fp,b<s.1.1.size:=λb hb=>by
  obtain⟨o,ho,_⟩:=T.obj _ _ st b hb;exact Xa ho
 have FW:∀b o,s.1.get? b=A? o->(s.1.push {cls:=.type "list",dict:=B?,data:=.seq ([]:List WU).toArray}).get? b=A? o:=λb o e=>WV _ e;have hsz:(s.1.push {cls:=.type "list",dict:=B?,data:=.seq ([]:List WU).toArray}).objs.size=s.1.1.size+1:=X3 ..;generalize Qq:({s with heap:=s.1.push {cls:=.type "list",dict:=B?,data:=.seq ([]:List WU).toArray}}:WY)=s3 at I3;have Jb:s.1.push {cls:=.type "list",dict:=B?,data:=.seq ([]:List WU).toArray}=s3.1:=by rw[<-Qq]
 rw[Jb]at C3 C4 FW hsz;rw[Jb];have MT:∀t',({s with heap:=Ao,toks:=t'}:WY)={s3 with heap:=Ao,toks:=t'}:=λt'=>by rw[<-Qq]
 rw[MT];have CT:∀b o,s3.1.get? b=A? o->Ao.get? b=A? o:=λb o e=>C4.extBut b o (XB (Xa e)) (WV _ e);have MU:∀b∈fp,jL X U (upd H s.1.1.size (.lst [])) b:=λb hb=>⟨by rw[ai (XB (Ak b hb))];exact(hf b hb).1,(hf b hb).2⟩;have I4:=xx (t':=s.toks+([]:List (Xk×WU)).length) S I3 Br C2 MU (λb hb=>by rw[hsz];exact Nat.lt_succ_of_lt (Ak b hb)) C3 CT;generalize Wg:upd H s.1.1.size (.lst [])=H3 at I3 I4 MU w0;have AS:tn 0 Ao:=T.keep _ _ _ st λb hb o e=>CT _ _ (FW _ _ e)
 have CZ:∀{H':Hp},(∀b∈fp,H' b=B?)->∀b∈fp,jL (bY X N sc cl s3.1.1.size s3 H3 fp U) [] H' b:=λ{H'}hn b hb=>by
  obtain⟨f0,f1,f2,f3,f4,f5⟩:=hf b hb;refine⟨hn b hb,λe=>?_,λhm=>?_,.inl hb,λx c e=>f4 x c (Br x c e),λp hp=>f5 p (by simpa[bY]using hp)⟩
  .have e':b=s3.1.1.size:=e;have h9:b<s.1.1.size:=Ak b hb;rw[e',hsz]at h9;exact g! h9 (Nat.not_lt.mpr (Nat.le_succ _))
  .rcases W7.mp (I.stkSub b hm)with e|e
   .exact f1 e
   .exact f2 e
 have loop:codeAny (Xu X.prog X.w) X.A (.compLoop (.ListComp elt [⟨tg,iter,ifs,0⟩] sc pos) 0 (.ref it) (.ref s.1.1.size) (compEnvC sc cl s3.1.1.size X.env)) (R (.ref s.1.1.size) s3.1.1.size)
  {s3 with heap:=Ao,toks:=s.toks+([]:List (Xk×WU)).length}:=by
  refine vk (λk s'=>∃i H',Inv (bY X N sc cl s3.1.1.size s3 H3 fp U) [] (cσ js Z) H' s'/\tn i s'.1/\(∀b∈fp,H' b=B?)/\W i H'/\k=n - i) ?_ n ⟨0,H3,I4,AS,λb hb=>(MU b hb).1,w0,rfl⟩;rintro k s5 ⟨i,H5,I5,HY,LD,w5,rfl⟩;rcases turn i H5 w5 with⟨stop,qn⟩|⟨B7,go,step⟩
  .refine thn (T.done (bY X N sc cl s3.1.1.size s3 H3 fp U) rfl rfl rfl hc i [] s5 (cσ js Z) H5 _ I5 (CZ LD) HY stop) λr s6⟨hr,I6⟩=>.inl ⟨hr,?_⟩;have I7:Inv X U Z H5 s6:=I3.call' (ch:=fp) (I6.os.trans rfl) I6.base I6.hok I6.bare λb hb=>⟨(hf b hb).2.2.2.1,(hf b hb).2.1,(hf b hb).2.2.2.2.1,(hf b hb).2.2.2.2.2⟩;have Qr:H5 s3.1.1.size=none:=I6.free;have Qs:s3.1.1.size≠X.env.locals:=Nat.ne_of_gt I3.lt;obtain⟨m6,SR,_⟩:=I6.loc;refine hR s3.1.1.size H5 s6 Qs (by lia) ⟨m6,SR⟩ Qr (λh' t' sb=>?_) qn;refine I7.turned (it:=s3.1.1.size) (λb o hb e=>sb.extBut b o hb e) Qr Qs (.inr I3.sz) (λx c e z=>?_) λp hp z=>?_
   .obtain⟨v,q⟩:=I3.cell x c e;exact g! q.lt (by rw[z];exact Ys _)
   .exact g! (Xa (I3.pin p hp).1) (by rw[z];exact Ys _)
  .refine thn (T.item (bY X N sc cl s3.1.1.size s3 H3 fp U) rfl rfl rfl hc i [] s5 (cσ js Z) H5 _ I5 (CZ LD) HY go) λr s6⟨u,hr,h6⟩=>.inr ⟨u,hr,?_⟩;refine thn h6 λ_ s7⟨x,H7,I7,r7,y7,MV,SS⟩=>?_;have SU:=I7.pinned (CZ SS) (T.obj _ _ MV);refine thn (hg cl s3.1.1.size s3 H3 fp U _ s7 (cσ js Z) H7 x u _ SU r7 (gk Z (cσ js Z) x H7 _ (.refl _) (step x H7 y7))) λ_ s8⟨MW,H8,I8,k8,q8⟩=>?_;refine thn (ht cl s3.1.1.size s3 H3 fp U _ s8 MW H8 _ I8 q8) λok s9⟨H9,I9,q9⟩=>?_
   have again:∀{s':WY}{Aa:St}{H':Hp},Keep (cσ js Z) Aa->Inv (bY X N sc cl s3.1.1.size s3 H3 fp U) ([]++lF fp s7.1) Aa H' s'->W (i+1) H'->∃m,m<n - i/\∃i H',Inv (bY X N sc cl s3.1.1.size s3 H3 fp U) [] (cσ js Z) H' s'/\tn i s'.1/\(∀b∈fp,H' b=B?)/\W i H'/\m=n - i:=λ{s' Aa H'}kp I' w'=>by
    refine⟨n - (i+1),by lia,i+1,H',(I'.unpinned).weak kp.1 kp.2,T.keep _ _ _ MV λb hb o e=>(I'.pin (b,o) (XE _ (XE _ (gj hb e)))).1,λb hb=>?_,w',D?⟩;obtain⟨o,e,d⟩:=T.obj _ _ MV b hb;exact(I'.pin (b,o) (XE _ (XE _ (gj hb e)))).2.1
   cases ok with
   | false =>
     refine .inl ⟨rfl,again k8 I9 ?_⟩;have Qt:if CV=C? then _ else W (i+1) H9:=q9
     rw[a! W0]at Qt;exact Qt
   | true =>
     refine .inr ⟨rfl,?_⟩;rw[b! rfl]at q9;refine thn (he cl s3.1.1.size s3 H3 fp U _ s9 MW H9 _ I9 q9) λvv AV⟨v,BF,SV,rv,ys,hD,Jc,SW⟩=>?_;refine thn (aO _ AV MW BF (.ref s.1.1.size) [v] (.ref s.1.1.size) [vv] (λ_ H'=>W (i+1) H') SV rfl (.cons rv .nil) ⟨_,ys,v,rfl,rfl,hD,Jc,SW⟩) λ_ BU⟨_,GG,SX,_,SY⟩=>?_;exact again k8 SX SY
 exact codeAny_compStart_list loop (T.self X.A 0 _ _ _ AS loop)
theorem cq(hc:X.calm=C?)(S:fH X sc N js)(hi:PI X tg iter wi)
 (hg:∀cl C s H fp U,PG (bY X N sc cl C s H fp U) tg g) (gk:nJ js g) (ht:∀cl C s H fp U,PTs (bY X N sc cl C s H fp U) ifs tt) (he:∀cl C s H fp U,PE (bY X N sc cl C s H fp U) elt te)
 (hs:∀x,foldedSetIterable iter X.env x=pure x:=by intro _;rfl):PE X (.ListComp elt [⟨tg,iter,ifs,0⟩] sc pos) (zt js wi g tt te):=by
 intro U s Z H Q I h;obtain⟨cl,e1,e2,e3⟩:=mC (env:=X.env) (sc:=sc) λn hn=>I.ok.has n (S.frees _ hn rfl);rw[eval_ListComp];refine wpAny_comprehension_free (use:=B?) rfl hs e1 S.kind S.names (thn (hi U s Z H _ I h) λv s1 h1=>thn h1 λLC s2 h2=>?_);obtain⟨it,fp,tn,J,H2,rfl,I2,T,CY,f2,R2⟩:=h2;obtain⟨n,W,w0,turn⟩:=R2 s2.1.1.size I2.fresh;refine mI (R:=λacc C=>compPost (Xu X.prog X.w) X.A X.xe B? (EP X U Z Q) acc C) hc S I2 T CY f2 e2 e3 hg gk ht he w0 turn λC H' s' _ _ hn _ inv fi=>?_;obtain⟨m,hm⟩:=hn;exact⟨m,hm,λh' sb=>⟨.ref s2.1.1.size,H',inv h' s'.toks sb,D?,fi⟩⟩
theorem dr{y:Xk}{Jd py:Z2}(hN:X.N.Nodup)(hy:X.N[i]?=A? y)(S3:Loc X.env.scope y)(hc:X.calm=C?)(S:fH X sc N js)(hi:PI X tg iter wi)
 (hg:∀cl C s H fp U,PG (bY X N sc cl C s H fp U) tg g) (gk:nJ js g) (ht:∀cl C s H fp U,PTs (bY X N sc cl C s H fp U) ifs tt) (he:∀cl C s H fp U,PE (bY X N sc cl C s H fp U) elt te)
 (S4:swapsWith (.ListComp elt [⟨tg,iter,ifs,0⟩] sc pos) (A? (.Name y py)) Jd.line X.env=pure true:=by rfl)
 (hs:∀x,foldedSetIterable iter X.env x=pure x:=by intro _;rfl) (hf:X.fn y=C?\/X.env.scope.names.lookup y=A? .local:=by first|exact .inl rfl|exact .inr rfl|assumption) :
 PS X (.Assign [.Name y py] (.ListComp elt [⟨tg,iter,ifs,0⟩] sc pos) Jd) (xP (zt js wi g tt te) (av i)):=by
 intro U s Z H D I h;obtain⟨cl,e1,e2,e3⟩:=mC (env:=X.env) (sc:=sc) λn hn=>I.ok.has n (S.frees _ hn rfl);rw[exec_Assign_Name_used _ _ _ _ S4];refine WO (wpAny_standAt (WO ?_));show W9 _ X.A (do let _ <-comprehension (.ListComp elt [⟨tg,iter,ifs,0⟩] sc pos) sc X.env _ (newList []) CV (YY iter X.env) (A? (assign (.Name y py) X.env))) _ _ s;refine WO (Y6 (wpAny_comprehension_free (use:=A? (assign (.Name y py) X.env)) (Q:=λ_ s'=>SP X U D .next s') rfl hs e1 S.kind S.names (thn (hi U s Z H _ I h) λv s1 h1=>thn h1 λLC s2 h2=>?_)) (λ_ s' hq=>WX (WX hq)) λ_ _ z=>z);obtain⟨it,fp,tn,J,H2,rfl,I2,T,CY,f2,R2⟩:=h2;obtain⟨n,W,w0,turn⟩:=R2 s2.1.1.size I2.fresh;refine mI (R:=λacc C=>compPost (Xu X.prog X.w) X.A X.xe (A? (assign (.Name y py) X.env)) (λ_ s'=>SP X U D .next s') acc C) hc S I2 T CY f2 e2 e3 hg gk ht he w0 turn λC H' s' Qu hC hn S5 inv fi=>?_;obtain⟨m,hm⟩:=hn
 have I5:Inv X U Z H' s':=by
  have q:=inv s'.1 s'.toks (.refl ..);exact q
 refine wpAny_assign_Name (nV (v:=.ref s2.1.1.size) I5 hN hy S3 rfl (λs6 I6⟨a,sb,ha⟩=>?_) hf)
 have S6:C≠a:=by
  rcases ha with ha|ha
  .rw[ha];exact Qu
  .intro z;obtain⟨v,q⟩:=I2.cell y a ha;exact g! (Nat.lt_trans q.lt hC) (by rw[z];exact Ys _)
 refine⟨m,hm.sameBut sb S6,λh' S7=>⟨_,H',I6.turned (it:=C) (t':=s6.toks) (λb o hb e=>S7.extBut b o hb e) S5 Qu (.inr (XC I2.sz (ZS hC))) (λx c e z=>?_) λp hp z=>?_,fi⟩⟩
 .obtain⟨v,q⟩:=I2.cell x c e;exact g! (Nat.lt_trans q.lt hC) (by rw[z];exact Ys _)
 .exact g! (Nat.lt_trans (Xa (I2.pin p hp).1) hC) (by rw[z];exact Ys _)
end
section
variable{X:Cx}
theorem nT(hc:X.calm=C?):eT X (.builtin "max") (λxs H Q=>∃(p:WR)(ns:List Int),xs=[.ref p]/\SqL X.K H p (ns.map p!)/\ns≠[]/\∀M,M∈ns->(∀a,a∈ns->a<=M)->Q (.int M) H):=by
 intro U s Z H xs us Q I r h;obtain⟨p,ns,rfl,hl,Ap,q⟩:=h;obtain⟨u,rfl,rx⟩:=vals1 r;cases rx;obtain⟨its,rv,pl,_⟩:=I.list hl;have hi:=intsAre_of rv;have hlen:=hi.length;obtain⟨ys,e⟩:=(hi.allInts).items;have GA:s.1.IsList p (intItems ys):=by rw[<-e];exact pl.isList
 have hn:ys.toList.map (·.1)=ns:=by rw[<-nums_intItems,<-e];exact hi.numsOf
 have hsz:0<ys.size:=by
  have:ns.length=ys.size:=by rw[<-hn];simp
  have:=List.length_pos_iff.mpr Ap;lia
 refine max_intList (I.ok.hd hc) GA hsz λv h' tk hv hk=>?_;obtain⟨t,rfl⟩:=intItems_at hv;obtain⟨h1,h2⟩:=argBest_gt (numAt ys) (ys.size - 1);refine⟨.int _,H,I.kept hk,⟨_,D?⟩,q _ ?_ λa ha=>?_⟩
 .rw[numAt_eq,<-hn];exact getD_mem (by rw[WN,XN];lia)
 .rw[<-hn]at ha;obtain⟨j,hj,rfl⟩:=mem_getD ha;rw[WN,XN]at hj;rw[<-numAt_eq];exact h2 j (by lia)
theorem xc{T:String}{b:Bool}{t:WU}:eT X (.builtin "isinstance") (λxs H Q=>∃x,xs=[x,.ty T]/\i5 X.K H x t/\Z6 X.K t (.type T)=A? b/\Q (.bl b) H):=by
 intro U s Z H xs us Q I r h;obtain⟨x,rfl,ty,k,q⟩:=h;obtain⟨u,w',rfl,r1,r2⟩:=vals2 r;cases r2;exact uM I r1 ty k λtk=>⟨.bl b,H,I.tok tk,rfl,q⟩
end
end L2
open L2 renaming Same->j!
namespace PySem
namespace F
theorem bb_owner_rev:Manifest.owners.lookup (String.ofList ['d','e','s','r','e','v','e','r'].reverse)=A? Manifest.sig_reversed:=by kernel_rfl
theorem bb_slot_rev_next:Slot "reversed" "__next__" "reversed.__next__" :=
 .of (owner:="reversed") (n:="__next__") (by rw[Y5,Yv];kernel_rfl) (by decide +kernel) (by decide +kernel) (by decide +kernel)
  (by first|exact .inl (by decide +kernel)|exact .inr (by decide +kernel)) (by rw[isSubtype_type];kernel_rfl)
theorem bb_entry_rev_next:entryFor table "reversed.__next__"=A? Zq.«reversed.__next__»:=entryFor_of_tree (by kernel_rfl)
theorem bb_args_rev_next(a:WU):argsOk "reversed.__next__" ⟨[a],[]⟩:=by
 unfold argsOk;rw[signature?_of (id:="reversed.__next__") (n:=['_','_','t','x','e','n','_','_']) (o:=['d','e','s','r','e','v','e','r']) (by kernel_rfl) bb_owner_rev];kernel_rfl
theorem bb_slot_rev_iter:Slot "reversed" "__iter__" "reversed.__iter__" :=
 .of (owner:="reversed") (n:="__iter__") (by rw[Y5,Yv];kernel_rfl) (by decide +kernel) (by decide +kernel) (by decide +kernel)
  (by first|exact .inl (by decide +kernel)|exact .inr (by decide +kernel)) (by rw[isSubtype_type];kernel_rfl)
theorem bb_args_rev_iter(a:WU):argsOk "reversed.__iter__" ⟨[a],[]⟩:=by
 unfold argsOk;rw[signature?_of (id:="reversed.__iter__") (n:=['_','_','r','e','t','i','_','_']) (o:=['d','e','s','r','e','v','e','r']) (by kernel_rfl) bb_owner_rev];kernel_rfl
theorem bb_entry_rev_iter:entryFor table "reversed.__iter__"=A? Zq.«dict_keyiterator.__iter__» :=
 entryFor_alias (id':="dict_keyiterator.__iter__") (by kernel_rfl) (by first|rfl|decide +kernel|(unfold String.splitOn;simp +decide [String.splitOnAux])) (by decide +kernel) (by kernel_rfl)
theorem bb_slot_rev_hint:Slot "reversed" "__length_hint__" "reversed.__length_hint__" :=
 .of (owner:="reversed") (n:="__length_hint__") (by rw[Y5,Yv];kernel_rfl) (by decide +kernel) (by decide +kernel) (by decide +kernel)
  (by first|exact .inl (by decide +kernel)|exact .inr (by decide +kernel)) (by rw[isSubtype_type];kernel_rfl)
theorem bb_entry_rev_hint:entryFor table "reversed.__length_hint__"=A? Zq.«reversed.__length_hint__»:=entryFor_of_tree (by kernel_rfl)
theorem bb_args_rev_hint(a:WU):argsOk "reversed.__length_hint__" ⟨[a],[]⟩:=by
 unfold argsOk;rw[signature?_of (id:="reversed.__length_hint__") (n:=['_','_','t','n','i','h','_','h','t','g','n','e','l','_','_']) (o:=['d','e','s','r','e','v','e','r']) (by kernel_rfl) bb_owner_rev];kernel_rfl
theorem bb_nolen_rev:typeLookup (.type "reversed") "__len__"=pure none:=by rw[Y5,Yv];kernel_rfl
theorem bb_nolen_lri:typeLookup (.type "list_reverseiterator") "__len__"=pure none:=by rw[Y5,Yv];kernel_rfl
theorem bb_hint_lri:typeLookup (.type "list_reverseiterator") "__length_hint__"=pure (A? (.builtin "list_reverseiterator.__length_hint__")):=by rw[Y5,Yv];kernel_rfl
theorem bb_tuple_norev:typeLookup (.type "tuple") "__reversed__"=pure none:=by rw[Y5,Yv];kernel_rfl
theorem bb_sub_rev_rev:isSubtype (.type "reversed") (.type "reversed")=pure true:=by rw[isSubtype_type];kernel_rfl
theorem bb_sub_tuple_dict:isSubtype (.type "tuple") (.type "dict")=pure false:=by rw[isSubtype_type];kernel_rfl
end F
open Sem (wp)
theorem bb_slot_rev_init:Slot "reversed" "__init__" "object.__init__" :=
 .of (owner:="object") (n:="__init__") (by rw[Y5,Yv];kernel_rfl) (by decide +kernel) (by decide +kernel) (by decide +kernel)
  (by first|exact .inl (by decide +kernel)|exact .inr (by decide +kernel)) (by rw[isSubtype_type];kernel_rfl)
theorem bb_called_rev:TypeCalled "reversed" "reversed.__new__" "object.__init__" :=
 ⟨by decide +kernel,by decide +kernel,⟨_,_,F.mro_reversed⟩,F.made_reversed,by decide +kernel,F.bb_sub_rev_rev,bb_slot_rev_init⟩
def revTup(t:WR)(i:Int):Zb:={cls:=.type "reversed",data:=.fields #[.ref t,Y7 i]}
theorem bb_meets_rev_tuple(t:WR)(items:Array WU)(hz:(items.size:Int)<2 ^ 63) :
 Meets (Zq.«reversed.__new__» ⟨[.type "reversed",.ref t],[]⟩) (λ_ R s=>PyProof.Rows.IsTup s.1 t items/\∀tk,R (.ok (.ret (.ref s.1.1.size))) {s with heap:=s.1.push (revTup t ((items.size:Int) - 1)),toks:=tk}):=by
 refine .of_wp λprog w A R s h=>?_;obtain⟨ht,h⟩:=h;unfold Zq.«reversed.__new__»;refine WO (wpAny_of_eq (newClass_reversed _) ?_)
 try dsimp only
 refine WO (wpAny_of_eq (a:=()) (by first|rfl|kernel_rfl) ?_);refine WO (wpAny_of_eq (a:=()) (by first|rfl|kernel_rfl) ?_)
 try dsimp only
 refine WO (Yr ht.typeIs F.bb_tuple_norev ?_)
 try dsimp only
 have Wh:=F.bb_sub_tuple_dict;have Wi:=XT.lookup;have hT:s.TypeIs (.ref t) "tuple":=ht.typeIs
 wp_walk using PyProof.Rows.len_tuple ht hz,ZF hT
 exact⟨_,D?,h _⟩
theorem bb_call_rev_tuple{t:WR}(ht:PyProof.Rows.IsTup s.1 t items)(hz:(items.size:Int)<2 ^ 63)
 (h:∀tk,Q (.ref s.1.1.size) {s with heap:=s.1.push (revTup t ((items.size:Int) - 1)),toks:=tk}):W9 (Xu prog w) A (call (.type "reversed") [.ref t]) Q E s :=
 callType_new bb_called_rev (by decide) (F.typeCall_reversed_1 _) (F.newCall_reversed_1 _) (λobj=>F.args_object_init_2 obj _) F.entry_reversed_new (bb_meets_rev_tuple t items hz)
  ⟨ht,λtk=>⟨⟨_,W5 _ rfl,rfl⟩,h tk⟩⟩
def IsRevT(h:Yd)(a t:WR)(i:Int):Prop:=∃o,h.get? a=A? o/\o.cls=.type "reversed"/\o.data=.fields #[.ref t,Y7 i]
theorem IsRevT.typeIs{t:WR}{i:Int}(x:IsRevT s.1 a t i):s.TypeIs (.ref a) "reversed":=let⟨o,ho,hc,_⟩:=x;⟨o,ho,hc⟩
theorem IsRevT.at{t:WR}{i:Int}(x:IsRevT h a t i)(e:∀o,h.get? a=A? o->h'.get? a=A? o):IsRevT h' a t i:=let⟨o,ho,r⟩:=x;⟨o,e _ ho,r⟩
theorem bb_rev_iter{t:WR}{i:Int}(hit:IsRevT s.1 it t i)(h:Q (.ref it) s):W9 (Xu prog w) A (pyIter (.ref it)) Q E s:=by
 refine wpAny_pyIter_slot hit.typeIs F.bb_slot_rev_iter (X6 F.bb_slot_rev_iter hit.typeIs F.bb_entry_rev_iter ?_ (F.bb_args_rev_iter _));show W9 _ _ (ret (.ref it)) _ _ s;exact WX ⟨_,rfl,"reversed",_,hit.typeIs,F.bb_slot_rev_next.lookup,h⟩
theorem bb_rev_next{t:WR}{x:WU}{Q:Option WU->WY->Prop}(hit:IsRevT s.1 it t (i:Int))(ht:PyProof.Rows.IsTup s.1 t items)(hx:items[i]?=A? x)(hz:(items.size:Int)<2 ^ 63)
 (hQ:∀h' tk,IsRevT h' it t ((i:Int) - 1)->YG it s.1 h'->Q (A? x) {s with heap:=h',toks:=tk}):W9 (Xu prog w) A (pyNext (.ref it)) Q E s:=by
 obtain⟨o,ho,hc,hd⟩:=id hit;have hi:i<items.size:=(Array.getElem?_eq_some_iff.mp hx).1;unfold pyNext
 refine WO (wpAny_attempt (X2 (name:=Xz "__next__") hit.typeIs F.bb_slot_rev_next
  (X6 F.bb_slot_rev_next hit.typeIs F.bb_entry_rev_next ?_ (F.bb_args_rev_next _))))
 unfold Zq.«reversed.__next__»;refine WO (wpAny_of_eq (a:=(Xl it,[])) rfl ?_)
 try dsimp only
 refine WO (XX ho hd (x:=.ref t) rfl ?_);refine WO (XX ho hd (x:=Y7 (i:Int)) rfl ?_);show W9 _ _ (if(i:Int)<0 then _ else _) _ _ s;rw[a! (by lia)];refine WO (Yr ht.typeIs XT.lookup ?_)
 try dsimp only
 rw[a! (by decide)];refine WO (m:=mkInt (i:Int)) (wpAny_mkInt ?_);refine WO (wpAny_attempt (PyProof.Rows.getItem_tuple (j:=i) (x:=x) ht (by lia) (by lia) ?_ hx ?_))
 .refine(L2.pq (n:=items.size) (i:=(i:Int)) (j:=i) ?_).1;unfold L2.ixN;rw[b! (by lia),b! (by lia)];simp
 .try dsimp only
  refine WO (XX ho hd (x:=Y7 (i:Int)) rfl ?_)
  try dsimp only
  refine WO (wpAny_setField ho hd (by simp) ?_);refine WX ⟨x,rfl,WX (hQ _ _ ?_ (Zg ..))⟩;exact⟨_,XR _ ho (Obj.isFreed_of_fields (Zm hd _)),(Obj.cls_mapFields ..).trans hc,by rw[Zm hd];simp⟩
theorem bb_rev_end{t:WR}{Q:Option WU->WY->Prop}(hh:A.handled=B?)(hit:IsRevT s.1 it t (-1))
 (hQ:∀h' tk,Heap.ExtBut it s.1 h'->Q B? {s with heap:=h',toks:=tk}):W9 (Xu prog w) A (pyNext (.ref it)) Q E s:=by
 obtain⟨o,ho,hc,hd⟩:=id hit;unfold pyNext
 refine WO (wpAny_attempt (X2 (name:=Xz "__next__") hit.typeIs F.bb_slot_rev_next
  (X6 F.bb_slot_rev_next hit.typeIs F.bb_entry_rev_next ?_ (F.bb_args_rev_next _))))
 unfold Zq.«reversed.__next__»;refine WO (wpAny_of_eq (a:=(Xl it,[])) rfl ?_)
 try dsimp only
 refine WO (XX ho hd (x:=.ref t) rfl ?_);refine WO (XX ho hd (x:=Y7 (-1)) rfl ?_);show W9 _ _ (if(-1:Int)<0 then _ else _) _ _ s;rw[b! (by decide)];refine WO (Zw ?_);refine WO ?_
 wp_delta
 refine WO (wpAny_setField ho hd (by simp) ?_);have E6:=XR (Obj.mapFields (·.setIfInBounds 1 (Y7 (-1)))) ho (Obj.isFreed_of_fields (Zm hd _));refine wpAny_setField E6 (Zm hd _) (by simp) ?_;refine WO ?_
 wp_delta
 refine WO ?_;simp only[newExc,newTuple];refine WO (Ye ?_ (by size_fits));refine WO (m:=firstArgMember _ _) (wpAny_of_eq (a:=Yp) (by first|rfl|(simp only[firstArgMember];rfl)) ?_);refine Ye ?_ (by size_fits);simp only[raiseNew];refine WO (wpAny_handled ?_)
 first|rw[show A.in1.handled=B? from hh]|rw[hh]
 refine WO (WX (wpAny_throw ?_));refine WO (ZI (T:="StopIteration") (b:=C?) ⟨_,W5 _ rfl,rfl⟩ isSubtype_stop ?_);refine WX (hQ _ _ ?_);refine Heap.ExtBut.push (Heap.ExtBut.push ?_ _) _;intro b o' hb e;rw[XW _ _ (YR hb),XW _ _ (YR hb)];exact e
theorem bb_walk_revT(hh:A.handled=B?)(I t:WR)(Ap:t≠I)(items:Array WU)(hz:(items.size:Int)<2 ^ 63) :
 Walks prog w A I [I,t] [I] items.size (λi v=>items[items.size - 1 - i]?=A? v) (λi h=>i<=items.size/\IsRevT h I t ((items.size:Int) - 1 - (i:Int))/\PyProof.Rows.IsTup h t items) where
 sub:=λb hb=>by simp at hb;simp[hb]
 frame:=λ_ _ _ x hk=>⟨x.1,x.2.1.at λo e=>hk I (by simp) o e,by obtain⟨o,e,r⟩:=x.2.2;exact⟨o,hk t (by simp) o e,r⟩⟩
 item:=λi s Q E hi x hQ=>by
  have e:(items.size:Int) - 1 - (i:Int)=((items.size - 1 - i:Nat):Int):=by lia
  have hit:=x.2.1;rw[e]at hit;have hx:items[items.size - 1 - i]?=A? (items[items.size - 1 - i]'(by lia)):=Ze (by lia);refine bb_rev_next hit x.2.2 hx hz λh' tk E8 Dj=>?_;have e2:((items.size - 1 - i:Nat):Int) - 1=(items.size:Int) - 1 - ((i+1:Nat):Int):=by lia
  rw[e2]at E8;exact hQ _ h' tk hx ⟨hi,E8,by obtain⟨o,e,r⟩:=x.2.2;exact⟨o,(Dj.2 t Ap).trans e,r⟩⟩ λb o hb eo=>Dj.extBut b o (λh=>hb (by simp[h])) eo
 done:=λs Q E x hQ=>by
  have e:(items.size:Int) - 1 - (items.size:Int)=-1:=by lia
  have hit:=x.2.1;rw[e]at hit;exact bb_rev_end hh hit λh' tk S8=>hQ h' tk λb o hb eo=>S8 b o (λh=>hb (by simp[h])) eo
 self:=λ_ _ _ _ x hQ=>bb_rev_iter x.2.1 hQ
def HintOk(prog:W6)(w:Xo)(A:XG)(I:WR)(St:Nat->Yd->Prop):Prop :=
 ∀(s:WY)(Q:Bool->WY->Prop)(E:WU->WY->Prop),St 0 s.1->(∀b tk,s.toks<=tk->Q b {s with toks:=tk})->W9 (Xu prog w) A (ZG (.ref I)) Q E s
theorem bb_hint_lri{l:WR}:HintOk prog w A I (λi h=>i<=items.size/\h.IsRevIter I l ((items.size:Int) - 1 - (i:Int))/\h.IsList l items):=by
 intro s Q E st h;unfold ZG;refine WO (Yr st.2.1.typeIs F.bb_nolen_lri ?_);show W9 _ A (specialOf (Xl I) (Xz "__length_hint__") >>= _) _ _ _;refine WO (Yr st.2.1.typeIs F.bb_hint_lri ?_)
 (generalize hid:("list_reverseiterator.__length_hint__":String)=GH;(fail_if_success (clear hid GH));wp_delta;rw[show splitId GH=A? ("list_reverseiterator","__length_hint__")from by subst hid;decide +kernel];subst hid)
 refine WO (ZI (b:=C?) st.2.1.typeIs (by rw[isSubtype_type];kernel_rfl) ?_);exact WX (h _ _ (WW _))
theorem bb_len_hint{t:WR}(hit:IsRevT s.1 I t ((items.size:Int) - 1))(ht:PyProof.Rows.IsTup s.1 t items)(hz:(items.size:Int)<2 ^ 63)
 (h:∀u tk,s.toks<=tk->Q (.int (items.size:Int) u) {s with toks:=tk}):W9 (Xu prog w) A (call (.builtin "reversed.__length_hint__") [.ref I]) Q E s:=by
 obtain⟨o,ho,hc,hd⟩:=id hit;refine X6 F.bb_slot_rev_hint hit.typeIs F.bb_entry_rev_hint ?_ (F.bb_args_rev_hint _);unfold Zq.«reversed.__length_hint__»;refine WO (wpAny_of_eq (a:=Xl I) rfl ?_)
 try dsimp only
 refine WO (XX ho hd (x:=.ref t) rfl ?_);rw[a! (show¬((Xl t == Yp)=C?)from W0)];refine WO (PyProof.Rows.len_tuple ht hz ?_);refine WO (m:=asInt? _) (WX ?_)
 try dsimp only
 refine WO (XX ho hd (x:=Y7 ((items.size:Int) - 1)) rfl ?_);show W9 _ _ (if(items.size:Int)<((items.size:Int) - 1)+1 then _ else _) _ _ _;rw[a! (by lia)];have e:((items.size:Int) - 1)+1=(items.size:Int):=by lia
 rw[e];refine WO (wpAny_mkInt (WX ⟨_,rfl,h _ _ ?_⟩));show s.toks<=s.toks+1+1+1;lia
theorem bb_hint_rev{t:WR}(hz:items.size<=Xg):HintOk prog w A I (λi h=>i<=items.size/\IsRevT h I t ((items.size:Int) - 1 - (i:Int))/\PyProof.Rows.IsTup h t items):=by
 intro s Q E st h;unfold ZG;refine WO (Yr st.2.1.typeIs F.bb_nolen_rev ?_);show W9 _ A (specialOf (Xl I) (Xz "__length_hint__") >>= _) _ _ _;refine WO (Yr st.2.1.typeIs F.bb_slot_rev_hint.lookup ?_)
 (generalize hid:("reversed.__length_hint__":String)=GH;(fail_if_success (clear hid GH));wp_delta;rw[show splitId GH=A? ("reversed","__length_hint__")from by subst hid;decide +kernel];subst hid)
 refine WO (ZI (b:=C?) st.2.1.typeIs F.bb_sub_rev_rev ?_)
 have Qv:(items.size:Int)<2 ^ 63:=by
  have:=L2.f8;lia
 rw[a! (by decide)]
 try dsimp only
 rw[a! (by decide +kernel)];refine WO (Zw ?_);refine WO (wpAny_of_eq (F.bb_slot_rev_hint.bind _) ?_)
 try dsimp only
 have hit:=st.2.1;rw[show(items.size:Int) - 1 - ((0:Nat):Int)=(items.size:Int) - 1 by lia]at hit;refine WO (wpAny_attempt (bb_len_hint hit st.2.2 Qv λu tk AQ=>?_));have f1:Builtin.List.listFitsIndex (items.size:Int)=true:=fitsIndex_of (Int.natCast_nonneg _) Qv;have f2:Zo (items.size:Int).toNat=false:=L2.lj (XC (Nat.le_of_eq (XH _)) hz);have f3:¬(items.size:Int)<0:=Int.not_lt.mpr (Int.natCast_nonneg _);generalize(items.size:Int)=k at f1 f2 f3 |-;have fin:W9 (Xu prog w) A (pure (k != 0):Sem Bool) Q E {s with toks:=tk}:=WX (h _ _ AQ);simp only[asInt?,pure_bind,f1,f2,f3,Bool.not_true,Yc,if_false];exact fin
theorem bb_list_walk{T:String}{wr:List WR}{P:Nat->WU->Prop}{St:Nat->Yd->Prop}(W:Walks prog w A.in1.in1 I fp wr n P St)
 (hT:∀i(s:WY),St i s.1->s.TypeIs (.ref I) T) (h2:(Zl T == Zl "list")=CV) (h3:(Zl T == Zl "tuple")=CV) (hint:HintOk prog w A.in1.in1 I St)
 (AS:St 0 s.1) (S9:∀b∈fp,b<s.1.1.size) (hI:I∈fp) (hn:n<=Xg)
 (hQ:∀h' tk acc c,(∀b o,b∉wr->s.1.get? b=A? o->h'.get? b=A? o)->h'.get? s.1.1.size=A? {cls:=.type "list",dict:=B?,data:=.seq acc c,slots:=#[]}->ItemsOf P acc n->Q (.ref s.1.1.size) {s with heap:=h',toks:=tk}) :
 W9 (Xu prog w) A (call (.type "list") [.ref I]) Q E s:=by
 have Ib:s.1.1.size∉fp:=λhm=>Ys _ (S9 _ hm)
 refine callType_codes (Q₁:=λobj Ab=>obj=.ref s.1.1.size/\Ab={s with heap:=s.1.push {cls:=.type "list",data:=.seq #[]}}) F.called_list (F.typeCall_list_1 _) F.entry_list_init
  (code_list_new _ ⟨rfl,rfl⟩) λobj Ab Ao=>?_
 obtain⟨rfl,rfl⟩:=Ao;have hS:(s.1.push {cls:=.type "list",data:=.seq #[]}).get? s.1.1.size=A? {cls:=.type "list",data:=.seq #[]}:=W5 _ rfl;have MX:s.1.1.size≠I:=λe=>Ib (e ▸ hI);refine⟨⟨_,hS,D?⟩,F.args_list_init_2 _ _,?_⟩;show W9 _ A.in1.in1 (do let old <-ZH (.ref s.1.1.size);Builtin.List.listUpdate (.ref s.1.1.size) (λ_=>#[]);letGo old.toList.reverse;Za (.ref s.1.1.size) (.ref I) .none) _ _ _;refine WO ?_;unfold ZH;refine WO (YC hS rfl (WX ?_));refine WO (YU hS rfl ?_);have Bj:=XR (Yg (λ_=>(#[]:Array WU))) hS rfl;refine WO (wpAny_letGo ?_);generalize hH:(s.1.push {cls:=.type "list",data:=.seq #[]}).update s.1.1.size (Yg (λ_=>(#[]:Array WU)))=H2 at Bj |-
 have old:∀b o,s.1.get? b=A? o->H2.get? b=A? o:=λb o e=>by
  rw[<-hH,XW _ _ (YR (XB (Xa e)))];exact WV _ e
 obtain⟨c2,D6⟩:∃c,H2.get? s.1.1.size=A? {cls:=.type "list",data:=.seq #[] c}:=⟨_,Bj⟩;have CY:St 0 H2:=W.frame 0 _ _ AS λb _ o e=>old b o e;unfold Za;refine WO (ZF (hT 0 _ CY) ?_);have h1:Zp (.ref s.1.1.size) (.ref I)=false:=by simp[Zp,MX]
 simp only[h1,h2,h3,Bool.or_false,Yc,if_false];refine WO (W.self 0 _ _ _ CY ?_);refine WO (Yy (hint _ _ _ CY λb tk _=>?_))
 have key:∀(h:Yd)(c₁ tk:Nat),St 0 h->(∀b o,b≠s.1.1.size->H2.get? b=A? o->h.get? b=A? o)->h.get? s.1.1.size=A? {cls:=.type "list",data:=.seq #[] c₁} ->
  codeAny (Xu prog w) A.in1 (.builtin "list.extend.loop" ⟨[.ref s.1.1.size,.ref I,.none],[]⟩) (wants (λr AH=>r=.none/\Q (.ref s.1.1.size) AH) E) {s with heap:=h,toks:=tk}:=by
  intro h c₁ tk hs hk CA;refine codeAny_extend_loopS W.toS hn _ Ib .none n 0 _ #[] c₁ rfl (Xh _) hs CA (ItemsOf.nil _) λs' AZ c' hm DU Am=>?_;rw[Moved.eq_with hm];refine⟨D?,hQ s'.1 s'.toks AZ c' (λb o hb e=>hm.heap b o (λAA=>?_) (hk b o (XB (Xa e)) (old b o e))) DU Am⟩;rcases W7.mp AA with e'|AA
  .exact g! (Xa e) (by rw[e'];exact Ys _)
  .exact hb AA
 refine wpAny_ite_split (λ_=>?_) (λ_=>WX ⟨plainId_quiet YH _,key _ c2 _ CY (λb o _ e=>e) D6⟩);refine WO (Zw ?_);refine WO ?_;show W9 _ _ (updateSeq s.1.1.size (·.push .none) >>= λ_=>updateSeq s.1.1.size (·.pop)) _ _ _;refine WO (YU D6 rfl ?_);have Bl:=XR (Yg (·.push Yp)) D6 rfl;refine YU (hz:=by seq_fits) Bl rfl ?_;have CB:=XR (Yg (·.pop)) Bl rfl
 have CC:∀b o,b≠s.1.1.size->H2.get? b=A? o->((H2.update s.1.1.size (Yg (·.push Yp))).update s.1.1.size (Yg (·.pop))).get? b=A? o :=
  λb o hb e=>(XW _ _ (YR hb)).trans ((XW _ _ (YR hb)).trans e)
 exact WX ⟨plainId_quiet YH _,key _ _ _ (W.frame 0 _ _ CY λb hb o e=>CC b o (λz=>Ib (z ▸ hb)) e) CC CB⟩
end PySem
namespace L2
open PySem PySem.Spec PyProof.Rows
def SqB(b:Bool)(K:WQ)(H:Hp)(a:WR)(xs:List V):Prop:=if b=C? then SqL K H a xs else SqT K H a xs
theorem SqB.l(h:SqL K H a xs):SqB C? K H a xs:=h
theorem wk{ys:List V}{acc:Array WU}(rv:Vals ys its)(Am:ItemsOf (λi v=>its.toArray[its.toArray.size - 1 - i]?=A? v) acc its.toArray.size):Vals ys.reverse acc.toList:=by
 have e:acc.toList=its.reverse:=by
  apply List.ext_getElem?;intro i;have hs:acc.size=its.length:=by rw[Am.1,W4]
  by_cases hi:i<acc.size
  .have h1:acc[i]?=A? acc[i]:=Ze hi;have h2:=Am.2 i _ h1;rw[W4]at h2;rw[Array.getElem?_toList,h1,List.getElem?_reverse (by lia),<-h2];simp
  .rw[Array.getElem?_toList,Array.getElem?_eq_none (by lia),YX (by rw[Yt];lia)]
 rw[e];exact rv.reverse
section
variable{X:Cx}{p p2 Av:Z2}
def vK(K:WQ)(te:TE):TE:=λZ H Q=>te Z H λx H1=>∃b a ys,x=.ref a/\SqB b K H1 a ys/\∀l,H1 l=B?->Q (.ref l) (upd H1 l (.lst ys.reverse))
theorem ou{Q:VK}{b:Bool}{ys:List V}(hc:X.calm=C?)(I:Inv X U Z H s)(hq:SqB b X.K H a ys)(q:∀l,H l=B?->Q (.ref l) (upd H l (.lst ys.reverse))) :
 W9 (Xu X.prog X.w) X.A (call (.type "reversed") [.ref a]) (λu s1=>W9 (Xu X.prog X.w) X.A (call (.type "list") [u]) (EP X U Z Q) X.xe s1) X.xe s:=by
 have hn:=f8;have hh:X.A.in1.in1.handled=none:=I.ok.hd hc
 have fin:∀{its:List WU}{s1:WY}{h':Yd}{tk:Nat}{acc:Array WU}{c:Nat},Vals ys its->ys.length<=Xg->s1.1.1.size=s.1.1.size+1->s1.os=s.os->s1.gens=s.gens->s1.drawn=s.drawn->(∀b o,s.1.get? b=A? o->s1.1.get? b=A? o) ->
  (∀b o,b∉[s.1.1.size]->s1.1.get? b=A? o->h'.get? b=A? o)->h'.get? s1.1.1.size=A? {cls:=.type "list",dict:=B?,data:=.seq acc c,slots:=#[]}->ItemsOf (λi v=>its.toArray[its.toArray.size - 1 - i]?=A? v) acc its.toArray.size ->
  EP X U Z Q (.ref s1.1.1.size) {s1 with heap:=h',toks:=tk}:=λ{its s1 h' tk acc c}rv hz es eo eg ed k1 kp hS Am=>by
  have MT:({s1 with heap:=h',toks:=tk}:WY)={s with heap:=h',toks:=tk}:=by
   obtain⟨a1,a2,a3,a4,a5⟩:=s1;have e1:a5=s.os:=eo;have e2:a2=s.gens:=eg;have e3:a3=s.drawn:=ed;subst e1;subst e2;subst e3;rfl
  have hp:s.1.1.size<=s1.1.1.size:=by rw[es];exact Nat.le_succ _
  refine⟨.ref s1.1.1.size,upd H s1.1.1.size (.lst ys.reverse),?_,D?,q _ (I.hok.fresh hp)⟩;rw[MT];refine I.laid (t':=tk) (λb o e=>kp b o (λz=>?_) (k1 b o e)) hp ⟨by rw[Yt];exact hz,acc.toList,c,wk rv Am,hS⟩;exact g! (Xa e) (by rw[Xc.mp z];exact Ys _)
 cases b
 .have E5:SqT X.K H a ys:=hq;obtain⟨its,rv,p,hz⟩:=I.tuple E5;have hl:=rv.length;refine bb_call_rev_tuple p (by rw[W4];lia) λtk=>?_;obtain⟨oa,E9,ca,da⟩:=id p;have Ap:a≠s.1.1.size:=XB (Xa E9)
  refine bb_list_walk (T:="reversed") (bb_walk_revT hh s.1.1.size a Ap its.toArray (by rw[W4];lia)) (λi s st=>st.2.1.typeIs) (by decide) (by decide) (bb_hint_rev (by rw[W4];lia))
   ⟨Xh _,?_,⟨oa,WV _ E9,ca,da⟩⟩ (λb hb=>?_) (by simp) (by rw[W4];lia) λh' tk acc c kp hS Am=>fin rv hz (X3 ..) rfl rfl rfl (λb o e=>WV _ e) kp hS Am
  .rw[show(its.toArray.size:Int) - 1 - ((0:Nat):Int)=(its.toArray.size:Int) - 1 by lia];exact⟨_,W5 _ rfl,D?,D?⟩
  .show b<(s.1.push _).objs.size;rw[X3];rcases W7.mp hb with e|e
   .rw[e];exact Nat.lt_succ_self _
   .rw[Xc.mp e];exact Nat.lt_succ_of_lt (Xa E9)
 .have E5:SqL X.K H a ys:=hq;obtain⟨its,rv,p,hz⟩:=I.list E5;have hl:=rv.length;refine call_reversed_list p.isList ?_;obtain⟨oa,E9,ca,na,da⟩:=id p.isList;have Ap:a≠s.1.1.size:=XB (Xa E9)
  refine bb_list_walk (T:="list_reverseiterator") (Walks.listRev hh s.1.1.size a Ap its.toArray) (λi s st=>st.2.1.typeIs) (by decide) (by decide) bb_hint_lri
   ⟨Xh _,?_,⟨oa,WV _ E9,ca,na,da⟩⟩ (λb hb=>?_) (by simp) (by rw[W4];lia) λh' tk acc c kp hS Am=>fin rv hz (X3 ..) rfl rfl rfl (λb o e=>WV _ e) kp hS Am
  .rw[show(its.toArray.size:Int) - 1 - ((0:Nat):Int)=(its.toArray.size:Int) - 1 by lia];exact⟨_,W5 _ rfl,D?,D?⟩
  .show b<(s.1.push _).objs.size;rw[X3];rcases W7.mp hb with e|e
   .rw[e];exact Nat.lt_succ_self _
   .rw[Xc.mp e];exact Nat.lt_succ_of_lt (Xa E9)
theorem lp(hc:X.calm=C?)(g1:Gl X "list")(m1:X.mg "list"=B?)(g2:Gl X "reversed")(m2:X.mg "reversed"=B?)(he:PE X e te)
 (h1:XF [.Call (.Name "reversed" p2) [e] [] Av] X.env=[(CV,YY (.Call (.Name "reversed" p2) [e] [] Av) X.env)]:=by rfl) (h2:XF [e] X.env=[(CV,YY e X.env)]:=by rfl) :
 PE X (.Call (.Name "list" p) [.Call (.Name "reversed" p2) [e] [] Av] [] pos) (vK X.K te):=by
 intro U s Z H Q I h;refine X5 (cJ I g1 m1 boot_list (XQ ?_ h1 rfl));rw[h1];show W9 _ _ (spliced ((CV,YY (.Call (.Name "reversed" p2) [e] [] Av) X.env)::[])) _ _ s;refine YE ?_;refine X5 (cJ I g2 m2 boot_reversed (XQ ?_ h2 rfl));rw[h2];show W9 _ _ (spliced ((CV,YY e X.env)::[])) _ _ s;refine YE (thn (he U s Z H _ I h) λu s1⟨x,H1,I1,r1,b,a,ys,ex,hq,q⟩=>?_);subst ex;cases r1;refine Y2 ?_;refine thn (ou hc I1 hq q) λv s2 h2=>Y2 ?_;exact h2
def Itv(K:WQ)(a:WR)(n:Nat):It:=⟨λi H=>i<n/\∃xs,SqL K H a xs/\xs.length=n,λi H x H'=>H'=H/\∀xs,SqL K H a xs->xs[n - 1 - i]?=A? x,λi _=>i=n⟩
theorem xI(a it:WR)(n:Nat):Turn P w K tg (Itv K a n) [it] it (λi h=>h.IsRevIter it a ((n:Int) - 1 - (i:Nat))) where
 mem:=by simp
 obj:=λi h st b hb=>by
  have e:b=it:=by simpa using hb
  subst e;obtain⟨o,e,c,d⟩:=st;exact⟨o,e,λv z=>by rw[d]at z;cases z⟩
 keep:=λi h h' st k=>st.at λo e=>k it (by simp) o e
 item:=by
  intro X hP hw hK hc i U s Z H E I hf st hg;subst hP hw hK;obtain⟨hi,xs,hq,hx⟩:=hg;obtain⟨its,rv,p,hz⟩:=I.list hq;have hl:=rv.length;obtain⟨x,A7⟩:∃x,xs[n - 1 - i]?=A? x:=⟨_,WS (by lia)⟩;obtain⟨u,hu,ru⟩:=rv.get A7;obtain⟨f0,f1,f2,f3,f4,f5⟩:=hf it (by simp);have e1:(n:Int) - 1 - (i:Nat)=((n - 1 - i:Nat):Int):=by lia
  rw[e1]at st;refine wpAny_pyNext_rev_item st p.isList (x:=u) (by simpa using hu) λh' DS sb=>?_;have I1:Inv X U Z H {s with heap:=h'}:=I.turned (t':=s.toks) (λb o hb e=>(sb.2 b hb).trans e) f0 f1 f3 f4 f5;have e2:((n - 1 - i:Nat):Int) - 1=(n:Int) - 1 - ((i+1:Nat):Int):=by lia
  rw[e2]at DS;obtain⟨o,e,c,d⟩:=id DS;exact⟨u,D?,sV (s:={s with heap:=h'}) e c d (by decide) ⟨x,H,I1,ru,⟨D?,λys hy=>by rw[I.list_inj hy hq];exact A7⟩,DS,λb hb=>(hf b hb).1⟩⟩
 done:=by
  intro X hP hw hK hc i U s Z H E I hf st hg;subst hP hw hK;have MY:i=n:=hg;subst MY;obtain⟨f0,f1,f2,f3,f4,f5⟩:=hf it (by simp);rw[show(i:Int) - 1 - (i:Nat)=-1 by lia]at st;exact wpAny_pyNext_rev_end (I.ok.hd hc) st λh' eb=>⟨rfl,I.turned (t':=s.toks) (λb o hb e=>eb b o hb e) f0 f1 f3 f4 f5⟩
 self:=λ_ _ _ _ _ st h=>wpAny_pyIter_revIter st h
def abO(K:WQ)(tl:TE):TI:=λZ H R=>tl Z H λx H1=>∃a xs,x=.ref a/\SqL K H1 a xs/\R (Itv K a xs.length) H1
theorem zT(g2:Gl X "reversed")(m2:X.mg "reversed"=B?)(he:PE X e te)(h2:XF [e] X.env=[(CV,YY e X.env)]:=by rfl):PI X tg (.Call (.Name "reversed" p2) [e] [] Av) (abO X.K te):=by
 intro U s Z H R I h;refine X5 (cJ I g2 m2 boot_reversed (XQ ?_ h2 rfl));rw[h2];show W9 _ _ (spliced ((CV,YY e X.env)::[])) _ _ s;refine YE (thn (he U s Z H _ I h) λu s1⟨x,H1,I1,r1,a,ys,ex,hq,q⟩=>Y2 ?_);subst ex;cases r1;obtain⟨its,rv,p,hz⟩:=I1.list hq;have hl:=rv.length;refine call_reversed_list p.isList ?_
 have hit:(s1.1.push (revObj a ((its.toArray.size:Int) - 1))).IsRevIter s1.1.1.size a ((ys.length:Int) - 1 - ((0:Nat):Int)):=by
  rw[hl,show(its.length:Int) - 1 - ((0:Nat):Int)=(its.toArray.size:Int) - 1 by rw[W4];lia];exact⟨_,W5 _ rfl,D?,D?⟩
 refine wpAny_pyIter_revIter (s:={s1 with heap:=s1.1.push (revObj a ((its.toArray.size:Int) - 1))}) hit ?_;refine⟨s1.1.1.size,[s1.1.1.size],_,_,H1,D?,I1.kept (t':=s1.toks) λb o e=>WV _ e,xI a _ ys.length,hit,λb hb=>?_,q⟩;have e:b=s1.1.1.size:=by simpa using hb
 subst e;exact I1.fpOk (WW _) (I1.hok.fresh (WW _))
theorem xZ(Pv:Nat->St->Hp->Prop)(h0:Pv 0 Z H)(hl:∀i Z H,i<=xs.length->Pv i Z H->SqL K H a xs)
 (hs:∀i x Z H,i<xs.length->xs[xs.length - 1 - i]?=A? x->Pv i Z H->g x Z H λAx H2=>tb {D with nx:=Pv (i+1),ct:=Pv (i+1),bk:=D.nx} Ax H2) (hd:∀Z H,Pv xs.length Z H->D.nx Z H) :
 ∃W:Nat->Nat->St->Hp->Prop,(∃m,W 0 m Z H)/\∀i m Z H,W i m Z H ->
   ((Itv K a xs.length).stop i H/\D.nx Z H)\/((Itv K a xs.length).go i H/\∃N:St->Hp->Prop,(∀Aa H',N Aa H'->∃m',m'<m/\W (i+1) m' Aa H')/\∀x H',(Itv K a xs.length).yld i H x H'->g x Z H' λAx H2=>tb {D with nx:=N,ct:=N,bk:=D.nx} Ax H2):=by
 refine⟨λi m Z H=>i<=xs.length/\m=xs.length - i/\Pv i Z H,⟨xs.length,Xh _,D?,h0⟩,?_⟩;rintro i m Z H ⟨hi,rfl,p⟩;by_cases h:i=xs.length
 .left;exact⟨h,hd Z H (by rw[<-h];exact p)⟩
 .right;have AW:i<xs.length:=by lia
  refine⟨⟨AW,xs,hl i Z H hi p,D?⟩,Pv (i+1),λAa H' q=>⟨xs.length - (i+1),by lia,by lia,D?,q⟩,?_⟩;rintro x H' ⟨rfl,hx⟩;exact hs i x Z H' AW (hx xs (hl i Z H' hi p)) p
end
end L2
namespace BB
open PySem L2
inductive Th where
 |knot (n:Xk) (ks:List Th)
 |call (s k:Int)
def q:Xk:=Xz "?"
def Th.kids:Th->List Th
 |.knot _ ks=>ks
 |.call _ _=>[]
mutual
def Th.size:Th->Nat
 |.knot _ ks=>ao ks+1
 |.call _ _=>1
def ao:List Th->Nat
 | []=>0
 |t::ts=>t.size+ao ts
end
mutual
def Th.tall:Th->Nat
 |.knot _ ks=>aP ks+1
 |.call _ _=>1
def aP:List Th->Nat
 | []=>0
 |t::ts=>max t.tall (aP ts)
end
mutual
def Th.walk:Th->List Th
 |.knot n ks=>.knot n ks::walks ks
 |.call s k=>[.call s k]
def walks:List Th->List Th
 | []=>[]
 |t::ts=>t.walk++walks ts
end
theorem Th.walk_eq(t:Th):t.walk=t::walks t.kids:=by
 cases t with
 |knot n ks=>rw[Th.walk];rfl
 |call s k=>rw[Th.walk];simp[Th.kids,walks]
theorem Th.size_eq(t:Th):t.size=ao t.kids+1:=by
 cases t with
 |knot n ks=>rw[Th.size];rfl
 |call s k=>rw[Th.size];simp[Th.kids,ao]
theorem Th.tall_eq(t:Th):t.tall=aP t.kids+1:=by
 cases t with
 |knot n ks=>rw[Th.tall];rfl
 |call s k=>rw[Th.tall];simp[Th.kids,aP]
theorem jm:∀a b:List Th,walks (a++b)=walks a++walks b
 | [],b=>by simp[walks]
 |t::a,b=>by rw[Yo,walks,walks,jm a b,XJ]
theorem bC:∀a b:List Th,ao (a++b)=ao a+ao b
 | [],b=>by simp[ao]
 |t::a,b=>by rw[Yo,ao,ao,bC a b,Nat.add_assoc]
mutual
theorem Th.walk_len:∀t:Th,t.walk.length=t.size
 |.knot n ks=>by rw[Th.walk,Th.size,W2,jK ks]
 |.call s k=>by rw[Th.walk,Th.size];rfl
theorem jK:∀ts:List Th,(walks ts).length=ao ts
 | []=>rfl
 |t::ts=>by rw[walks,ao,Xd,t.walk_len,jK ts]
end
theorem Th.size_pos(t:Th):1<=t.size:=by rw[t.size_eq];lia
mutual
def At(H:Hp):Th->WR->Prop
 |.knot n ks,a=>n≠q/\∃as:List WR,H a=A? (.tup (.str n::as.map i!))/\Ats H ks as
 |.call s k,a=>H a=A? (.tup [.str q,.int s,.int k])
def Ats(H:Hp):List Th->List WR->Prop
 | [],as=>as=[]
 |t::ts,as=>∃a r,as=a::r/\At H t a/\Ats H ts r
end
def KT(H H':Hp):Prop:=∀b xs,H b=A? (.tup xs)->H' b=A? (.tup xs)
theorem KT.trans(a:KT H H1)(b:KT H1 H2):KT H H2:=λc o h=>b c o (a c o h)
theorem Same.kt(h:j! H H'):KT H H':=λb xs e=>h b _ e
theorem dJ{l:WR}(h:H l=B?):KT H (upd H l o):=λb xs e=>by rw[ai (az e h)];exact e
theorem aL{l:WR}(h:H l=A? (.lst xs)):KT H (upd H l o):=λb ys e=>by rw[ai (eY e h (by intro z;cases z))];exact e
mutual
theorem At.mono(k:KT H H'):∀{t:Th}{a:WR},At H t a->At H' t a
 | .knot n ks,a,h=>by
   rw[At]at h |-;obtain⟨h0,as,h1,h2⟩:=h;exact⟨h0,as,k _ _ h1,Ats.mono k h2⟩
 | .call s c,a,h=>by
   rw[At]at h |-;exact k _ _ h
theorem Ats.mono(k:KT H H'):∀{ts:List Th}{as:List WR},Ats H ts as->Ats H' ts as
 | [],as,h=>by rw[Ats]at h |-;exact h
 | t::ts,as,h=>by
   rw[Ats]at h |-;obtain⟨a,r,e,h1,h2⟩:=h;exact⟨a,r,e,At.mono k h1,Ats.mono k h2⟩
end
theorem Ats.nil:Ats H [] []:=by rw[Ats]
theorem Ats.cons{t:Th}{ts:List Th}(h1:At H t a)(h2:Ats H ts as):Ats H (t::ts) (a::as):=by rw[Ats];exact⟨a,as,D?,h1,h2⟩
theorem Ats.append:∀{ts us:List Th}{as bs:List WR},Ats H ts as->Ats H us bs->Ats H (ts++us) (as++bs)
 | [],us,as,bs,h,g=>by rw[Ats]at h;subst h;exact g
 | t::ts,us,as,bs,h,g=>by
   rw[Ats]at h;obtain⟨a,r,rfl,h1,h2⟩:=h;exact .cons h1 (h2.append g)
theorem Ats.length:∀{ts:List Th}{as:List WR},Ats H ts as->as.length=ts.length
 | [],as,h=>by rw[Ats]at h;subst h;rfl
 | t::ts,as,h=>by
   rw[Ats]at h;obtain⟨a,r,rfl,h1,h2⟩:=h;rw[W2,W2,h2.length]
theorem Ats.get:∀{ts:List Th}{as:List WR}{i:Nat}{a:WR},Ats H ts as->as[i]?=A? a->∃t,ts[i]?=A? t/\At H t a
 | [],as,i,a,h,e=>by rw[Ats]at h;subst h;simp at e
 | t::ts,as,i,a,h,e=>by
   rw[Ats]at h;obtain⟨b,r,rfl,h1,h2⟩:=h;cases i with
   |zero=>simp at e;subst e;exact⟨t,D?,h1⟩
   |succ i=>exact h2.get (i:=i) (by simpa using e)
end BB
open BB.Same renaming kt->k!
open BB.Th renaming knot->o!,size->q!,tall->t!,call->z!,walk_len->J!,kids->K!
variable{R:Int->List BB.Th}{ts:List BB.Th}{head:BB.Th}{rows:List (List BB.Th)}
namespace BB
open PySem L2
def kJ:Xk:=Xz "abcdefghijklmnopqrstuvwxyz"
theorem r6:kJ.cps.toList=(Xq 26).map (97+·):=by decide +kernel
theorem qT:kJ.length=26:=by decide +kernel
theorem at_nonneg{xs:List α}{i:Int}{v:α}(h0:0<=i)(h:xs[i.toNat]?=A? v):atI xs i=A? v:=by
 have e:i=((i.toNat:Nat):Int):=by lia
 rw[e];exact bP h
theorem uY{i:Int}(h0:0<=i)(h1:i<26):atI kJ.cps.toList i=A? (97+i.toNat):=by
 refine at_nonneg h0 ?_;rw[r6,WZ,XY (by lia)];rfl
def Low(x:Xk):Prop:=∀c∈x.cps.toList,97<=c/\c<=122
theorem yH{y:Xk}(hx:Low x)(hy:Low y):Low (x++y):=by
 intro c hc;have AO:c∈(x.cps++y.cps).toList:=hc;rw[Array.toList_append,XA]at AO;rcases AO with h|h
 .exact hx c h
 .exact hy c h
theorem yd{c:Nat}(h1:97<=c)(h2:c<=122):Low ⟨#[c]⟩:=by
 intro d hd;have:d=c:=by simpa using hd
 lia
theorem rE(h:Low x):x≠q:=by
 intro e;subst e;have:=h 63 (by decide +kernel);lia
end BB
namespace L2
open PySem PySem.Spec PyProof.Rows
theorem Same.seqT(e:Same H H')(h:SqT K H a xs):SqT K H' a xs:=by
 rcases h with(h|⟨o,h⟩)|h
 .exact .inl (.inl (e _ _ h))
 .exact .inl (.inr ⟨o,e _ _ h⟩)
 .exact .inr h
theorem af(h:H p=B?)(o:HO):Same H (upd H p o):=λb u q=>by rw[ai (az q h)];exact q
@[elab_as_elim] theorem gU{G:Hp->Prop}(h:H a=B?)(k:∀H',j! H H'->H' a=A? o->G H'):G (upd H a o):=k _ (af h _) ac
theorem ak{l:WR}(h:Same H H1)(n:H l=B?):Same H (upd H1 l o):=λb u e=>by rw[ai (az e n)];exact h b u e
theorem yN{J:It}(zs:List α)(p:α->Bool)(f:α->V)(hz:zs.length=xs.length)(hn:xs.length<=1000000)
 (Fb:∀i H2,Same H H2->i<xs.length->J.go i H2) (Bb:∀H2,Same H H2->J.stop xs.length H2) (B8:∀(i:Nat)H2 x H3,Same H H2->i<xs.length->J.yld i H2 x H3->H3=H2/\xs[i]?=A? x)
 (Je:∀(i:Nat)x z H2(R:Bool->Hp->Prop),xs[i]?=A? x->zs[i]?=A? z->Same H H2->R (p z) H2->tt ((cσ js Z).set 0 (A? x)) H2 R)
 (Jf:∀(i:Nat)x z H2(R:VK),xs[i]?=A? x->zs[i]?=A? z->p z=C?->Same H H2->R (f z) H2->te ((cσ js Z).set 0 (A? x)) H2 R)
 (q:∀D,H D=B?->fin D (upd H D (.lst ((zs.filter p).map f)))) :
 ∀D,H D=B?->∃(n:Nat)(W:Nat->Hp->Prop),W 0 (upd H D (.lst []))/\gQ js (av 0) tt te Z J D n W λH'=>fin D H':=by
 intro D hD;refine⟨xs.length,λi H2=>i<=xs.length/\H2=upd H D (.lst (((zs.take i).filter p).map f)),⟨Xh _,by simp⟩,?_⟩;rintro i H2 ⟨hi,rfl⟩;have sm:∀o,Same H (upd H D o):=λo=>af hD o;by_cases h:i=xs.length
 .left;subst h;refine⟨Bb _ (sm _),?_⟩;rw[<-hz,Yh];exact q D hD
 .right;have AW:i<xs.length:=by lia
  refine⟨AW,Fb i _ (sm _) AW,λx H1 hy=>?_⟩;obtain⟨rfl,hx⟩:=B8 i _ x H1 (sm _) AW hy;have MZ:i<zs.length:=by lia
  have e1:zs[i]?=A? zs[i]:=WS MZ
  have e2:(zs.take (i+1)).filter p=(zs.take i).filter p++(if p zs[i]=C? then[zs[i]]else[]):=by
   rw[XU,e1,ZA];show _++List.filter p [zs[i]]=_;rw[X0,List.filter_nil]
  refine Je i x zs[i] _ _ hx e1 (sm _) ?_
  have hlen:(((zs.take i).filter p).map f).length<=1000000:=by
   rw[WN];have:=ZE p (zs.take i);rw[XS]at this;lia
  by_cases hp:p zs[i]=C?
  .rw[b! hp];refine Jf i x zs[i] _ _ hx e1 hp (sm _) ⟨_,ac,Nat.lt_of_le_of_lt hlen (by decide),AW,?_⟩;rw[kK,e2,b! hp,W8];rfl
  .rw[a! hp];refine⟨AW,?_⟩;rw[e2,a! hp,Xs]
theorem pJ(zs:List α)(p:α->Bool)(f:α->V)(hS:SqT K H a xs)(hz:zs.length=xs.length)(hn:xs.length<=1000000)
 (Je:∀(i:Nat)x z H2(R:Bool->Hp->Prop),xs[i]?=A? x->zs[i]?=A? z->Same H H2->R (p z) H2->tt ((cσ js Z).set 0 (A? x)) H2 R)
 (Jf:∀(i:Nat)x z H2(R:VK),xs[i]?=A? x->zs[i]?=A? z->p z=C?->Same H H2->R (f z) H2->te ((cσ js Z).set 0 (A? x)) H2 R)
 (q:∀D,H D=B?->fin D (upd H D (.lst ((zs.filter p).map f)))) :
 ∀D,H D=B?->∃(n:Nat)(W:Nat->Hp->Prop),W 0 (upd H D (.lst []))/\gQ js (av 0) tt te Z (Itt K a) D n W λH'=>fin D H' :=
 yN zs p f hz hn (λi H2 s hi=>⟨xs,xs[i],s.seqT hS,WS hi⟩) (λH2 s=>⟨xs,s.seqT hS,WW _⟩) (λi H2 x H3 s hi hy=>⟨hy.1,hy.2 xs (s.seqT hS)⟩) Je Jf q
end L2
namespace BB
open PySem L2
theorem at0{x:α}{xs:List α}:atI (x::xs) 0=A? x:=bP (j:=0) rfl
theorem at1{x y:α}{xs:List α}:atI (x::y::xs) 1=A? y:=bP (j:=1) rfl
theorem at2{x y z:α}{xs:List α}:atI (x::y::z::xs) 2=A? z:=bP (j:=2) rfl
theorem fN(x:V)(xs:List V):jp (x::xs) (A? 1) B?=xs:=by
 unfold jp;simp[H!]
theorem cj:∀ts:List Th,ts.length<=ao ts
 | []=>Xh _
 | t::ts=>by
   have:=t.size_pos;have:=cj ts;rw[W2,ao];lia
theorem oh(ts:List Th):ao ts.reverse=ao ts:=by
 induction ts with
 |nil=>rfl
 |cons x xs ih=>rw[X8,bC,ih,ao,ao,ao];lia
theorem bR(h:n<=1000000):n<Xg:=Nat.lt_of_le_of_lt h (by decide)
theorem cT(h:n<=1000000):n<=Xg:=ZS (bR h)
theorem lnE(h:Nat.ble n 1000000=C?):n<=Xg:=cT (Nat.le_of_ble_eq_true h)
theorem uAE:(upd H a (.lst (as.map i!++[.ref b]))) a=A? (.lst ((as++[b]).map i!)):=by rw[ac,W8];rfl
theorem lbE{f:α->β}{l:List α}(h:l.length<=1000000):(l.map f).length<Xg:=bR (by rw[WN];exact h)
theorem int_at{k:Int}(h0:0<=k)(h:k<(ns.length:Int)):atI (ns.map p!) k=A? (.int (ns.getD k.toNat 0)):=by
 refine at_nonneg h0 ?_;have hk:k.toNat<ns.length:=by lia
 rw[WZ,WS hk,List.getD_eq_getElem?_getD,WS hk];rfl
section
variable{G:α->β->Prop}
theorem P2.append:∀{a c:List α}{b d:List β},Xp F a b->Xp F c d->Xp F (a++c) (b++d)
 |_,_,_,_,.nil,h=>h
 |_,_,_,_,.cons r t,h=>.cons r (P2.append t h)
theorem P2.get:∀{a:List α}{b:List β}{i:Nat}{x:α},Xp F a b->a[i]?=A? x->∃y,b[i]?=A? y/\F x y
 |_,_,_,_,.nil,e=>by simp at e
 |_,_,0,_,.cons r _,e=>by simp at e;subst e;exact⟨_,D?,r⟩
 | _,_,i+1,x,.cons _ t,e=>by
   obtain⟨u,h1,h2⟩:=P2.get (i:=i) (x:=x) t (by simpa using e);exact⟨u,by simpa using h1,h2⟩
theorem P2.get':∀{a:List α}{b:List β}{i:Nat}{y:β},Xp F a b->b[i]?=A? y->∃x,a[i]?=A? x/\F x y
 |_,_,_,_,.nil,e=>by simp at e
 |_,_,0,_,.cons r _,e=>by simp at e;subst e;exact⟨_,D?,r⟩
 | _,_,i+1,y,.cons _ t,e=>by
   obtain⟨u,h1,h2⟩:=P2.get' (i:=i) (y:=y) t (by simpa using e);exact⟨u,by simpa using h1,h2⟩
theorem P2.mp(f:∀x y,F x y->G x y):∀{a:List α}{b:List β},Xp F a b->Xp G a b
 |_,_,.nil=>.nil
 |_,_,.cons r t=>.cons (f _ _ r) (P2.mp f t)
end
def KAt(H:Hp)(k:Xk×Int)(a:WR):Prop:=H a=A? (.tup [.str k.1,.int k.2])
def KsAt(H:Hp)(ks:List (Xk×Int))(as:List WR):Prop:=Xp (KAt H) ks as
theorem KsAt.mono(k:KT H H'){ks:List (Xk×Int)}(h:KsAt H ks as):KsAt H' ks as:=P2.mp (λx y e=>k _ _ e) h
end BB
open BB.P2 renaming append->r!,mp->x!,get'->y!,get->F!
namespace L2
open PySem
theorem cg{t u:TS}(R:St->Hp->Prop)(h1:∀k:St->Hp->Prop,(∀Aa H',R Aa H'->k Aa H')->t {D with nx:=k} Z H)(h2:∀Aa H',R Aa H'->u D Aa H'):abg t u D Z H:=h1 _ h2
theorem cw{c:TT}{t u:TS}(R:Bool->Hp->Prop)(h1:∀k:Bool->Hp->Prop,(∀b H',R b H'->k b H')->c Z H k)(h2:∀H',R C? H'->t D Z H')(h3:∀H',R CV H'->u D Z H'):aaK c t u D Z H :=
 h1 _ λb H' r=>by
  cases b with
  |true=>rw[b! rfl];exact h2 H' r
  |false=>rw[a! W0];exact h3 H' r
end L2
namespace BB
open PySem L2
section
variable{ext:Th->List V}{t:Th}{es:List WR}
end
theorem filter_tt(xs:List α):xs.filter (λ_=>C?)=xs:=by
 induction xs with
 |nil=>rfl
 |cons x xs ih=>rw[X0,b! rfl,ih]
theorem ce:∀{ts:List Th}{t:Th},t∈ts->t.tall<=aP ts
 | u::ts,t,h=>by
   rw[aP];rcases W7.mp h with rfl|h
   .lia
   .have:=ce h;lia
theorem take_snoc{xs:List α}{x:α}(h:xs[n]?=A? x):xs.take (n+1)=xs.take n++[x]:=by rw[XU,h];rfl
theorem aH{xs:List WR}{x:V}(h:(xs.map i!)[i]?=A? x):∃a,x=.ref a/\xs[i]?=A? a:=by
 rw[WZ]at h;obtain⟨a,h1,h2⟩:=XI.mp h;exact⟨a,h2.symm,h1⟩
end BB
namespace PySem
open Sem (wp)
theorem bb_tupNext{cur:WR}{x:WU}(g:s.1.IsTupleIter cur tp i)(gt:s.1.IsTuple tp items)(hx:items[i]?=A? x)
 (fin:∀h',h'.IsTupleIter cur tp (i+1)->YG cur s.1 h'->Q x {s with heap:=h'}):W9 (Xu prog w) A (X1 (.ref cur)) Q E s:=by
 obtain⟨ob,e1,e2,e3⟩:=id g;obtain⟨ot,e4,_,nt,e5⟩:=gt;unfold X1;refine WO (X2 (name:=Xz "__next__") g.typeIs F.slot_tuple_iterator_next (X6 F.slot_tuple_iterator_next g.typeIs F.entry_tuple_iterator_next ?_ (F.args_tuple_iterator_next_1 _)));show W9 _ _ (field (.ref cur) 0 >>= _) _ _ s;refine WO (XX e1 e3 (x:=.ref tp) rfl ?_);show W9 _ _ (if(Xl tp == Yp)=C? then _ else _) _ _ s;rw[a! (show¬((Xl tp == Yp)=C?)from W0)];show W9 _ _ (field (.ref cur) 1 >>= _) _ _ s;refine WO (XX e1 e3 (x:=.int i 0) rfl ?_);show W9 _ _ (seqItems? (.ref tp) >>= _) _ _ s;refine WO (YC e4 e5 ?_);simp only[XH,hx];refine WO (wpAny_setField e1 e3 (by simp) (WX ⟨x,rfl,WX (fin _ ?_ (Zg ..))⟩));exact⟨_,XR _ e1 (Obj.isFreed_of_fields (Zm e3 _)),(Obj.cls_mapFields ..).trans e2,by rw[Zm e3];simp[Y7]⟩
theorem bb_tupEnd{cur:WR}(calm:A.handled=B?)(g:s.1.IsTupleIter cur tp i)(gt:s.1.IsTuple tp items)(hx:items[i]?=B?)
 (fin:∀h' e,Heap.ExtBut cur s.1 h'->(∃o,h'.get? e=A? o/\o.cls=.type "StopIteration")->E (.ref e) {s with heap:=h'}):W9 (Xu prog w) A (X1 (.ref cur)) Q E s:=by
 obtain⟨ob,e1,e2,e3⟩:=id g;obtain⟨ot,e4,_,nt,e5⟩:=gt;unfold X1;refine WO (X2 (name:=Xz "__next__") g.typeIs F.slot_tuple_iterator_next (X6 F.slot_tuple_iterator_next g.typeIs F.entry_tuple_iterator_next ?_ (F.args_tuple_iterator_next_1 _)));show W9 _ _ (field (.ref cur) 0 >>= _) _ _ s;refine WO (XX e1 e3 (x:=.ref tp) rfl ?_);show W9 _ _ (if(Xl tp == Yp)=C? then _ else _) _ _ s;rw[a! (show¬((Xl tp == Yp)=C?)from W0)];show W9 _ _ (field (.ref cur) 1 >>= _) _ _ s;refine WO (XX e1 e3 (x:=.int i 0) rfl ?_);show W9 _ _ (seqItems? (.ref tp) >>= _) _ _ s;refine WO (YC e4 e5 ?_);simp only[XH,hx];refine WO (Zw (WO (wpAny_setField e1 e3 (by simp) ?_)));show W9 _ _ (newExc (.type "StopIteration") [] >>= _) _ _ _;refine WO ?_;simp only[newExc,newTuple];refine WO (Ye ?_ (by size_fits));refine WO (m:=firstArgMember _ _) (wpAny_of_eq (a:=Yp) (by first|rfl|(simp only[firstArgMember];rfl)) ?_);refine Ye ?_ (by size_fits);simp only[raiseNew];refine WO (wpAny_handled ?_)
 first|rw[show A.in1.handled=B? from calm]|rw[calm]
 refine WO (WX (wpAny_throw ?_));exact fin _ _ (((Zg ..).extBut.push _).push _) ⟨_,W5 _ rfl,rfl⟩
theorem bb_drawsT(calm:A.handled=B?)(cur tp:WR)(ne:tp≠cur)(items:Array WU) :
 Draws prog w A cur [cur,tp] items.size (λi v=>items[i]?=A? v) (λi h=>h.IsTupleIter cur tp i/\h.IsTuple tp items) where
 live:=λ_ _ st=>let⟨o,e,_⟩:=st.1;⟨o,e⟩
 frame:=λ_ _ _ st k=>⟨let⟨o,e,r⟩:=st.1;⟨o,k cur (by simp) o e,r⟩,let⟨o,e,r⟩:=st.2;⟨o,k tp (by simp) o e,r⟩⟩
 item:=λi s Q E hi st q=>by
  refine bb_tupNext st.1 st.2 (x:=items[i]) (by simp[hi]) λh' g' sb=>?_;exact q _ h' s.toks (by simp[hi]) ⟨g',st.2.extBut sb.extBut ne⟩ sb
 done:=λs Q E st e=>bb_tupEnd calm st.1 st.2 (by simp) e
theorem bb_meetsEnumT(tp:WR)(items:Array WU)(n:Nat)(M0:Option WR)(sl:Array (Option WU)) :
 Meets (Zq.«enumerate.__new__» ⟨[.type "enumerate",.ref tp],[]⟩) (λ_ R s=>s.1.get? tp=A? {cls:=.type "tuple",dict:=M0,data:=.seq items n,slots:=sl} /\
  R (.ok (.ret (.ref (s.1.push {cls:=.type "tuple_iterator",data:=.fields #[.ref tp,.int 0 0]}).objs.size)))
    {s with heap:=(s.1.push {cls:=.type "tuple_iterator",data:=.fields #[.ref tp,.int 0 0]}).push {cls:=.type "enumerate",data:=.fields #[.none,.bool CV,.ref s.1.1.size,Y7 0,.none,.none]}}) :=
 .of_wp λprog w A R s h=>by
  obtain⟨hp,g,d,tk,os⟩:=s;obtain⟨gt,fin⟩:=h;have su:=sub_enumerate;have gT:Heap.IsTuple (Shared.heap ⟨hp,g,d,tk,os⟩) tp items:=⟨_,gt,rfl,n,rfl⟩
  wp_walk using Zr gt
  refine wpAny_stack_any λst=>WX ?_;split
  .rename_i c _ _ _ _ _
   cases(c == Zl "enumerate")
   .wp_walk using Zr gt,ZQ gT
    exact⟨_,D?,fin⟩
   .wp_walk using Zr gt,ZQ gT
    exact⟨_,D?,fin⟩
  .wp_walk using Zr gt,ZQ gT
   exact⟨_,D?,fin⟩
theorem bb_callEnumT(gT:s.1.IsTuple tp items)
 (fin:∀h',IsEnum h' (s.1.1.size+1) s.1.1.size 0 .none->h'.IsTupleIter s.1.1.size tp 0->h'.objs.size=s.1.1.size+2 ->
  (∀b o,s.1.get? b=A? o->h'.get? b=A? o)->Q (.ref (s.1.1.size+1)) {s with heap:=h'}):W9 (Xu prog w) A (call (.type "enumerate") [.ref tp]) Q E s:=by
 obtain⟨⟨c,M0,dt,sl⟩,e1,e2,n,e3⟩:=gT;replace e2:c=.type "tuple":=e2;replace e3:dt=.seq items n:=e3;subst e2 e3;refine callType_new F.called_enumerate (by decide) (F.typeCall_enumerate_1 _) (F.newCall_enumerate_1 _) (λobj=>F.args_object_init_2 obj _) F.entry_enumerate_new (bb_meetsEnumT tp items n M0 sl) ⟨e1,?_⟩;have z:(s.1.push {cls:=.type "tuple_iterator",data:=.fields #[.ref tp,.int 0 0]}).objs.size=s.1.1.size+1:=X3 ..;show _/\_;rw[z]
 have ge:IsEnum ((s.1.push {cls:=.type "tuple_iterator",data:=.fields #[.ref tp,.int 0 0]}).push {cls:=.type "enumerate",data:=.fields #[.none,.bool CV,.ref s.1.1.size,Y7 0,.none,.none]}) (s.1.1.size+1) s.1.1.size 0 .none:=by
  have t:=W5 (s.1.push {cls:=.type "tuple_iterator",data:=.fields #[.ref tp,.int 0 0]}) (o:={cls:=.type "enumerate",data:=.fields #[.none,.bool CV,.ref s.1.1.size,Y7 0,.none,.none]}) rfl;rw[z]at t;exact t
 exact⟨⟨_,ge,D?⟩,fin _ ge ⟨_,WV _ (W5 _ rfl),D?,D?⟩ (by rw[X3,z]) λb o x=>WV _ (WV _ x)⟩
end PySem
namespace L2
open PySem PySem.Spec PyProof.Rows
theorem Inv.turnedL{X:Cx}(I:Inv X U Z H s)(k:∀b o,b∉fp->s.1.get? b=A? o->h'.get? b=A? o)(hf:∀b∈fp,jL X U H b) :
 Inv X U Z H {s with heap:=h',toks:=t'}:=by
 have IL:∀b u,H b=A? u->b∉fp:=λb u e z=>by rw[(hf b z).1]at e;cases e
 refine I.step (g':=s.gens) (d':=s.drawn) (ch:=fp) (λb hb=>?_) (λb o _ _ hc e _=>k b o hc e) (λb o _ _ hc e _=>⟨o.slots,k b o hc e⟩) (λ_ _ _ _ n=>n)
  (λb o hc e=>⟨o,k b o hc e⟩) (λ_ _ e=>e) (λ_ _ _ e=>e) (λb ps e=>⟨#[],by rw[e];simp⟩) (λm hm=>?_) (λb u e=>?_) I.bare
 .obtain⟨f0,f1,f2,f3,f4,f5⟩:=hf b hb;exact⟨f3,f1,f4,f5⟩
 .obtain⟨o,es,ep,ho,r⟩:=hm;exact⟨o,es,ep,k _ o (λz=>(hf _ z).2.1 rfl) ho,r⟩
 .refine(I.hok b u e).stay (λc v hc q=>k c v ?_ q) (λ_ q=>q) λ_ _ q=>q;rcases hc with z|z
  .rw[z];exact IL b u e
  .exact IL c _ z
def Ite(K:WQ)(a:WR):It:=⟨λi H=>∃xs x,SqT K H a xs/\xs[i]?=A? x,λi H x H'=>∃p y,H p=B?/\x=.ref p/\H'=upd H p (.tup [.int (i:Nat),y])/\∀xs,SqT K H a xs->xs[i]?=A? y,λi H=>∃xs,SqT K H a xs/\xs.length=i⟩
theorem u9{k1}(a e it:WR):Turn P w K (.Tuple elts k1 pos) (Ite K a) [e,it] e (λi h=>(∃old,IsEnum h e it ((i:Nat):Int) old)/\h.IsTupleIter it a i) where
 mem:=by simp
 obj:=λi h st b hb=>by
  obtain⟨⟨old,he⟩,o,e1,e2,e3⟩:=st;rcases W7.mp hb with rfl|hb
  .exact⟨_,he,λv z=>by cases z⟩
  .have:b=it:=by simpa using hb
   subst this;exact⟨o,e1,λv z=>by rw[e3]at z;cases z⟩
 keep:=λi h h' st k=>by
  obtain⟨⟨old,he⟩,o,e1,e2⟩:=st;exact⟨⟨old,k e (by simp) _ he⟩,o,k it (by simp) _ e1,e2⟩
 item:=by
  intro X hP hw hK hc i U s Z H E I hf st hg;subst hP hw hK;obtain⟨xs,x,hq,hx⟩:=hg;obtain⟨its,rv,p,hz⟩:=I.tuple hq;obtain⟨u,hu,ru⟩:=rv.get hx;obtain⟨⟨old,he⟩,hi⟩:=st
  have GI:e≠it:=by
   rintro rfl;obtain⟨o,e1,e2,_⟩:=hi;rw[he]at e1;cases e1;exact g! (YT e2) (by decide)
  have GJ:a≠it:=by
   rintro rfl;obtain⟨o,e1,e2,_⟩:=hi;obtain⟨o',CD,Cj,_⟩:=p;rw[CD]at e1;cases e1;rw[Cj]at e2;exact g! (YT e2) (by decide)
  have M1:a≠e:=by
   rintro rfl;obtain⟨o',CD,Cj,_⟩:=p;rw[he]at CD;cases CD;exact g! (YT Cj) (by decide)
  have Ak:i<its.toArray.size:=by
   have:=(glE hu);simpa using this
  have M3:e<s.1.1.size:=Xa he;have Ck:it<s.1.1.size:=by obtain⟨o,e1,_⟩:=hi;exact Xa e1
  refine wpAny_pyNext_enum_itemD (bb_drawsT (A:=X.A.in1) (show X.A.in1.handled=B? from I.ok.hd hc) it a GJ its.toArray) he ⟨hi,p⟩ Ak GI (by simp[GI,M1.symm]) λy h1 tk hy ho M4 hT hsz hk=>?_
  have M5:y=u:=by
   have:its[i]?=A? y:=by simpa using hy
   rw[hu]at this;exact(Xm this).symm
  subst M5;refine⟨_,D?,wpAny_letOwnedTupleGo_enum ho λh2 M6 DB=>?_⟩;replace DB:YG e h1 h2:=DB
  have Ap:∀b∈[e,it],b<s.1.1.size:=λb hb=>by
   rcases W7.mp hb with rfl|hb
   .exact M3
   .have:b=it:=by simpa using hb
    subst this;exact Ck
  have Jg:H s.1.1.size=none:=I.hok.fresh (WW _)
  have IA:Inv X U Z (upd H s.1.1.size (.tup [.int (i:Nat),x])) {s with heap:=s.1.push {cls:=.type "tuple",data:=.seq #[.int (i:Nat) tk,y]},toks:=tk} :=
   I.laid (o:=.tup [.int (i:Nat),x]) (λb ob q=>WV _ q) (WW _) ⟨by show 2<=Xg;decide,[.int (i:Nat) tk,y],0,.cons ⟨tk,rfl⟩ (.cons ru .nil),W5 _ rfl⟩
  refine⟨.ref s.1.1.size,upd H s.1.1.size (.tup [.int (i:Nat),x]),?_,D?,⟨_,x,Jg,D?,D?,λys Jc=>by rw[I.tuple_inj Jc hq];exact hx⟩,⟨⟨y,by simpa using M6⟩,?_⟩,λb hb=>?_⟩
  .have IB:Inv X U Z (upd H s.1.1.size (.tup [.int (i:Nat),x])) {s with heap:=h2,toks:=tk+1}:=by
    refine Inv.turnedL (s:={s with heap:=s.1.push {cls:=.type "tuple",data:=.seq #[.int (i:Nat) tk,y]},toks:=tk}) (h':=h2) (fp:=[e,it]) (t':=tk+1) IA (λb o hb q=>?_) λb hb=>?_
    .have Dx:b≠e:=λz=>hb (by simp[z]);have M7:b≠it:=λz=>hb (by simp[z]);rw[DB.2 b Dx];by_cases hb2:b=s.1.1.size
     .subst hb2;rw[hT];have q':(s.1.push {cls:=.type "tuple",data:=.seq #[.int (i:Nat) tk,y]}).get? s.1.1.size=A? o:=q;rw[W5 _ rfl]at q';exact q'
     .have Bf:b<(s.1.push {cls:=.type "tuple",data:=.seq #[.int (i:Nat) tk,y]}).objs.size:=Xa q;rw[X3]at Bf;refine hk b o Dx M7 ?_;have q':(s.1.push {cls:=.type "tuple",data:=.seq #[.int (i:Nat) tk,y]}).get? b=A? o:=q;rw[Heap.get?_push_ne _ _ _ hb2]at q';exact q'
    .obtain⟨f0,f1⟩:=hf b hb;exact⟨by rw[ai (XB (Ap b hb))];exact f0,f1⟩
   exact IB
  .obtain⟨o,e1,r⟩:=M4.1;exact⟨o,(DB.2 it (YR GI)).trans e1,r⟩
  .rw[ai (XB (Ap b hb))];exact(hf b hb).1
 done:=by
  intro X hP hw hK hc i U s Z H E I hf st hg;subst hP hw hK;obtain⟨xs,hq,hx⟩:=hg;obtain⟨its,rv,p,hz⟩:=I.tuple hq;obtain⟨⟨old,he⟩,hi⟩:=st
  have GJ:a≠it:=by
   rintro rfl;obtain⟨o,e1,e2,_⟩:=hi;obtain⟨o',CD,Cj,_⟩:=p;rw[CD]at e1;cases e1;rw[Cj]at e2;exact g! (YT e2) (by decide)
  have hn:its.toArray.size=i:=by
   have:=rv.length;rw[W4];lia
  refine wpAny_pyNext_enum_endD (bb_drawsT (A:=X.A.in1) (show X.A.in1.handled=B? from I.ok.hd hc) it a GJ its.toArray) he (by rw[hn];exact⟨hi,p⟩) λh' eb=>⟨rfl,?_⟩;exact I.turnedL (fp:=[e,it]) (t':=s.toks) (λb o hb q=>eb b o (λz=>hb (by simp[z])) q) hf
 self:=λ_ _ _ _ _ st h=>by
  obtain⟨⟨old,he⟩,_⟩:=st;exact wpAny_pyIter_enum he h
section
variable{X:Cx}{p2 Av:Z2}
def aaP(K:WQ)(tl:TE):TI:=λZ H R=>tl Z H λx H1=>∃a,x=.ref a/\(∃xs,SqT K H1 a xs)/\R (Ite K a) H1
theorem oT{k1}(g2:Gl X "enumerate")(m2:X.mg "enumerate"=B?)(he:PE X e te)(h2:XF [e] X.env=[(CV,YY e X.env)]:=by rfl):PI X (.Tuple elts k1 pos) (.Call (.Name "enumerate" p2) [e] [] Av) (aaP X.K te):=by
 intro U s Z H R I h;refine X5 (cJ I g2 m2 boot_enumerate (XQ ?_ h2 rfl));rw[h2];show W9 _ _ (spliced ((CV,YY e X.env)::[])) _ _ s;refine YE (thn (he U s Z H _ I h) λu s1⟨x,H1,I1,r1,a,ex,⟨xs,hq⟩,q⟩=>Y2 ?_);subst ex;cases r1;obtain⟨its,rv,p,hz⟩:=I1.tuple hq;refine bb_callEnumT (show s1.1.IsTuple a its.toArray from p) λh' g1 g2 g3 g4=>?_;refine wpAny_pyIter_enum (s:={s1 with heap:=h'}) g1 ?_;refine⟨s1.1.1.size+1,[s1.1.1.size+1,s1.1.1.size],_,_,H1,D?,I1.kept (t':=s1.toks) g4,u9 a _ _,⟨⟨_,g1⟩,g2⟩,λb hb=>?_,q⟩
 have AD:s1.1.1.size<=b:=by
  rcases W7.mp hb with rfl|hb
  .lia
  .have:b=s1.1.1.size:=by simpa using hb
   exact Nat.le_of_eq this.symm
 exact I1.fpOk AD (I1.hok.fresh AD)
inductive w8(K:WQ)(x:V)(y:V)(H:Hp)(Q:VK):Prop
 |mk (a:_) (b:_) (xs:_) (ys:_) (Cg:x=.ref a) (Ci:y=.ref b) (DT:SqT K H a xs) (EJ:SqT K H b ys) (GC:xs.length+ys.length<=Xg) (Qp:(xs=[]->Q (.ref b) H)) (Wj:(xs≠[]->ys=[]->Q (.ref a) H)) (Wk:(xs≠[]->ys≠[]->∀p,H p=B?->Q (.ref p) (upd H p (.tup (xs++ys))))):w8 K x y H Q
def pH(K:WQ):R2:=w8 K
theorem fT:OpR X (binaryOp .Add) (pH X.K):=by
 intro U s Z H x y v u Q I rx ry h;obtain⟨a,b,xs,ys,e1,e2,ha,hb,hz,q0,q1,q2⟩:=h;by_cases hx:xs=[]
 .subst e1 e2;cases rx;cases ry;obtain⟨its,r1,p1,_⟩:=I.tuple ha;obtain⟨Ai,r2,p2,_⟩:=I.tuple hb;have hi:its=[]:=r1.nil_iff.mpr hx;obtain⟨⟨cls,dd,data,sl⟩,ho,hc,n,hd⟩:=p1;obtain⟨⟨IV,HZ,data2,Ia⟩,E6,BS,n2,hd2⟩:=p2;simp only at hc hd BS hd2;subst hc hd BS hd2;exact concat_meets ⟨_,ho,rfl⟩ ⟨_,E6,rfl⟩ noFill_tuple_add seq_tuple_add PySem.F.slot_tuple_add PySem.F.entry_tuple_add (PySem.F.args_tuple_add_2 _ _) (tuple_addW0 a b its.toArray Ai.toArray n n2 dd HZ sl Ia (by simp[hi])) ⟨ho,E6,⟨.ref b,H,I,rfl,q0 hx⟩⟩
 .exact yG U s Z H x y v u Q I rx ry ⟨a,b,xs,ys,e1,e2,ha,hb,hx,hz,q1 hx,q2 hx⟩
end
end L2
namespace PySem
open Sem (wp)
abbrev tzH1(h:Yd)(l1:WR):Yd:=h.push {cls:=.type "tuple_iterator",data:=.fields #[.ref l1,.int 0 0]}
abbrev tzH2(h:Yd)(l1 l2:WR):Yd:=(tzH1 h l1).push {cls:=.type "tuple_iterator",data:=.fields #[.ref l2,.int 0 0]}
abbrev tzH3(h:Yd)(l1 l2:WR):Yd:=(tzH2 h l1 l2).push {cls:=.type "tuple",data:=.seq #[.ref h.objs.size,.ref (tzH1 h l1).objs.size]}
abbrev tzH4(h:Yd)(l1 l2:WR):Yd:=(tzH3 h l1 l2).push {cls:=.type "tuple",data:=.seq #[.none,.none]}
abbrev tzH5(h:Yd)(l1 l2:WR):Yd:=(tzH4 h l1 l2).push {cls:=.type "zip",data:=.fields #[.none,.bool CV,.bool CV,.ref (tzH2 h l1 l2).objs.size,.ref (tzH3 h l1 l2).objs.size]}
theorem IsTuple.push'{l:WR}{xs:Array WU}(x:h.IsTuple l xs)(o:Zb):(h.push o).IsTuple l xs:=let⟨ob,e,r⟩:=x;⟨ob,WV _ e,r⟩
theorem bb_meets_zip(l1 l2:WR)(xs ys:Array WU) :
 Meets (Zq.«zip.__new__» ⟨[.type "zip",.ref l1,.ref l2],[]⟩) (λ_ R s=>s.1.IsTuple l1 xs/\s.1.IsTuple l2 ys /\
  R (.ok (.ret (.ref (tzH4 s.1 l1 l2).objs.size))) {s with heap:=tzH5 s.1 l1 l2}) :=
 .of_wp λprog w A R s h=>by
  obtain⟨hp,g,d,tk,os⟩:=s;obtain⟨B9,Bq,h⟩:=h;have CF:=sub_zip;have Ta:Heap.IsTuple (Shared.heap ⟨hp,g,d,tk,os⟩) l1 xs:=B9;have Tb:Heap.IsTuple (Shared.heap ⟨hp.push {cls:=.type "tuple_iterator",data:=.fields #[.ref l1,.int 0 0]},g,d,tk,os⟩) l2 ys:=IsTuple.push' Bq _
  wp_walk using ZQ Ta,ZQ Tb
  exact⟨_,D?,h⟩
theorem bb_call_zip{xs:Array WU}(B9:s.1.IsTuple l1 xs)(Bq:s.1.IsTuple l2 ys)
 (h:∀h',IsZip h' (s.1.1.size+4) (s.1.1.size+2) (s.1.1.size+3) .none->Zi h' (s.1.1.size+2) (.ref s.1.1.size) (.ref (s.1.1.size+1)) ->
  Zi h' (s.1.1.size+3) .none .none->h'.IsTupleIter s.1.1.size l1 0->h'.IsTupleIter (s.1.1.size+1) l2 0->h'.objs.size=s.1.1.size+5 ->
  (∀c o,s.1.get? c=A? o->h'.get? c=A? o)->Q (.ref (s.1.1.size+4)) {s with heap:=h'}) :
 W9 (Xu prog w) A (call (.type "zip") [.ref l1,.ref l2]) Q E s:=by
 refine callType_new F.called_zip (by decide) (F.typeCall_zip_2 _ _) (F.newCall_zip_2 _ _) (λobj=>F.args_object_init_3 obj _ _) F.entry_zip_new
  (bb_meets_zip l1 l2 xs ys) ⟨B9,Bq,?_⟩
 have z1:(tzH1 s.1 l1).objs.size=s.1.1.size+1:=X3 ..;have z2:(tzH2 s.1 l1 l2).objs.size=s.1.1.size+2:=by rw[X3,z1]
 have z3:(tzH3 s.1 l1 l2).objs.size=s.1.1.size+3:=by rw[X3,z2]
 have z4:(tzH4 s.1 l1 l2).objs.size=s.1.1.size+4:=by rw[X3,z3]
 have z5:(tzH5 s.1 l1 l2).objs.size=s.1.1.size+5:=by rw[X3,z4]
 have g5:(tzH5 s.1 l1 l2).get? (tzH4 s.1 l1 l2).objs.size=A? _:=W5 _ rfl;have g4:(tzH5 s.1 l1 l2).get? (tzH3 s.1 l1 l2).objs.size=A? _:=WV _ (W5 _ rfl);have g3:(tzH5 s.1 l1 l2).get? (tzH2 s.1 l1 l2).objs.size=A? _:=WV _ (WV _ (W5 _ rfl));have g2:(tzH5 s.1 l1 l2).get? (tzH1 s.1 l1).objs.size=A? _:=WV _ (WV _ (WV _ (W5 _ rfl)));have g1:(tzH5 s.1 l1 l2).get? s.1.1.size=A? _:=WV _ (WV _ (WV _ (WV _ (W5 _ rfl))));show _/\_;rw[z2,z3,z4]at g5;rw[z1,z2]at g3;rw[z3]at g4;rw[z1]at g2;rw[z4]
 exact⟨⟨_,g5,D?⟩,h _ g5 g3 g4 ⟨_,g1,D?,D?⟩ ⟨_,g2,D?,D?⟩ z5 λc o x =>
  WV _ (WV _ (WV _ (WV _ (WV _ x))))⟩
structure ZSt(xs ys:Array WU)(z TI TO i1 i2 l1 l2:WR)(k:Nat)(h:Yd):Prop where
 ap:ZipApart z TI TO i1 i2 l1 l2
 zip:IsZip h z TI TO .none\/∃(T:WR)(b:Bool)(x y:WU),h.get? z=A? {cls:=.type "zip",data:=.fields #[Y7 T,.bool b,.bool CV,.ref TI,.ref TO]}/\Zi h T x y/\T≠TO
 hTI:Zi h TI (.ref i1) (.ref i2)
 hTO:∃a b,Zi h TO a b
 h1:h.IsTupleIter i1 l1 k
 h2:h.IsTupleIter i2 l2 k
 t1:h.IsTuple l1 xs
 t2:h.IsTuple l2 ys
theorem ZSt.typeIs{xs:Array WU}{TI TO:WR}{k:Nat}(x:ZSt xs ys z TI TO i1 i2 l1 l2 k s.1):s.TypeIs (.ref z) "zip":=by
 rcases x.zip with e|⟨T,b,u,v,e,_⟩
 .exact⟨_,e,D?⟩
 .exact⟨_,e,D?⟩
theorem IsTuple.but{l:WR}{xs:Array WU}(x:h.IsTuple l xs)(e:Heap.ExtBut c h h')(n:l≠c):h'.IsTuple l xs:=let⟨ob,q,r⟩:=x;⟨ob,e _ _ n q,r⟩
theorem IsTupleIter.but{i l:WR}{k:Nat}(x:h.IsTupleIter i l k)(e:Heap.ExtBut c h h')(n:i≠c):h'.IsTupleIter i l k:=let⟨ob,q,r⟩:=x;⟨ob,e _ _ n q,r⟩
theorem ZSt.frame{xs:Array WU}{TI TO:WR}{k:Nat}(x:ZSt xs ys z TI TO i1 i2 l1 l2 k h)
 (e:∀b o,o.cls≠.type "list"->h.get? b=A? o->h'.get? b=A? o):ZSt xs ys z TI TO i1 i2 l1 l2 k h':=by
 obtain⟨D,hz,hTI,⟨a,b,hTO⟩,⟨o1,a1,a2,a3⟩,⟨o2,b1,b2,b3⟩,⟨o3,c1,c2,c3⟩,⟨o4,d1,d2,d3⟩⟩:=x;refine⟨D,?_,e _ _ (by simp) hTI,⟨a,b,e _ _ (by simp) hTO⟩,⟨o1,e _ _ (by rw[a2];simp) a1,a2,a3⟩,⟨o2,e _ _ (by rw[b2];simp) b1,b2,b3⟩,⟨o3,e _ _ (by rw[c2];simp) c1,c2,c3⟩,⟨o4,e _ _ (by rw[d2];simp) d1,d2,d3⟩⟩;rcases hz with g|⟨T,b,u,v,g,g2,g3⟩
 .exact .inl (e _ _ (by simp) g)
 .exact .inr ⟨T,b,u,v,e _ _ (by simp) g,e _ _ (by simp) g2,g3⟩
open Sem (wp)
theorem bb_zip_itemA{TI TO:WR}{k:Nat}{xs:Array WU}{x y a b:WU}(D:ZipApart z TI TO i1 i2 l1 l2)
 (hz:IsZip s.1 z TI TO .none) (hTI:Zi s.1 TI (.ref i1) (.ref i2)) (hTO:Zi s.1 TO a b)
 (h1:s.1.IsTupleIter i1 l1 k) (h2:s.1.IsTupleIter i2 l2 k) (B9:s.1.IsTuple l1 xs) (Bq:s.1.IsTuple l2 ys) (hx:xs[k]?=A? x) (hy:ys[k]?=A? y)
 (hQ:∀h',IsZip h' z TI TO (Y7 s.1.1.size)->Zi h' TO x y->h'.IsTupleIter i1 l1 (k+1)->h'.IsTupleIter i2 l2 (k+1)->Zi h' s.1.1.size x y->h'.objs.size=s.1.1.size+1 ->
  (∀c o,c≠z->c≠TO->c≠i1->c≠i2->s.1.get? c=A? o->h'.get? c=A? o)->Q (.ref s.1.1.size) {s with heap:=h'}) :
 W9 (Xu prog w) A (Zq.«zip.__next__» ⟨[.ref z],[]⟩) (λfin s'=>∃v,fin=.done (.ret v)/\Q v s') E s:=by
 show W9 _ _ (field (.ref z) 2 >>= _) _ _ _;refine WO (XX hz rfl (x:=.bool CV) rfl ?_);show W9 _ _ (field (.ref z) 3 >>= _) _ _ _;refine WO (XX hz rfl (x:=.ref TI) rfl ?_);refine WO (YC hTI rfl ?_);show W9 _ _ (X9 (.ref z) >>= _) _ _ _;refine WO ?_;unfold X9;refine WO (XX hz rfl (x:=.none) rfl (WX ?_));simp only[if_true];refine WO (Zw ?_);refine WO (XX hz rfl (x:=.ref TO) rfl ?_);refine WO (ZP hz (by simp) λAo AG Ae=>?_);replace AG:IsZip Ao z TI TO .ellipsis:=AG;refine WO ?_;simp only[List.zipIdx_cons,List.zipIdx_nil,List.forIn_cons,List.forIn_nil];refine WO (WO (wpAny_onRaise ?_));show W9 _ _ (X1 (.ref i1) >>= _) _ _ _;refine WO (bb_tupNext (IsTupleIter.but h1 Ae.extBut D.i1z) (IsTuple.but B9 Ae.extBut D.l1z) hx λAY CG Aj=>WX ?_);have BG:Zi AY TO a b:=Aj.extBut _ _ D.TOi1 (Ae.extBut _ _ D.TOz hTO);refine WO (YC BG rfl ?_);refine WO (wpAny_updateSeq_pair BG λCz Ca AF=>?_);replace Ca:Zi Cz TO x b:=Ca;refine WO (wpAny_letGo (WX ?_));refine WO (WO (wpAny_onRaise ?_));show W9 _ _ (X1 (.ref i2) >>= _) _ _ _
 refine WO (bb_tupNext (IsTupleIter.but (IsTupleIter.but (IsTupleIter.but h2 Ae.extBut D.i2z) Aj.extBut D.i12.symm) AF.extBut D.TOi2.symm)
  (IsTuple.but (IsTuple.but (IsTuple.but Bq Ae.extBut D.l2z) Aj.extBut D.l2i1) AF.extBut D.l2TO) hy λAI D7 AB=>WX ?_)
 have D8:Zi AI TO x b:=AB.extBut _ _ D.TOi2 Ca;refine WO (YC D8 rfl ?_);refine WO (wpAny_updateSeq_pair D8 λAJ Cb Bm=>?_);replace Cb:Zi AJ TO x y:=Cb;refine WO (wpAny_letGo (WX (WX ?_)));refine WO (YC Cb rfl ?_);refine WO (wpAny_newTuple ?_);have hsz:AJ.objs.size=s.1.1.size:=by rw[Bm.1,AB.1,AF.1,Aj.1,Ae.1]
 have FY:IsZip AJ z TI TO .ellipsis:=Bm.extBut _ _ D.TOz.symm (AB.extBut _ _ D.i2z.symm (AF.extBut _ _ D.TOz.symm (Aj.extBut _ _ D.i1z.symm AG)))
 have Jh:∀c o,c≠z->c≠TO->c≠i1->c≠i2->s.1.get? c=A? o->AJ.get? c=A? o:=λc o c1 c2 c3 c4 e =>
  Bm.extBut _ _ c2 (AB.extBut _ _ c4 (AF.extBut _ _ c2 (Aj.extBut _ _ c3 (Ae.extBut _ _ c1 e))))
 have Ji:AJ.IsTupleIter i1 l1 (k+1):=IsTupleIter.but (IsTupleIter.but (IsTupleIter.but CG AF.extBut D.TOi1.symm) AB.extBut D.i12) Bm.extBut D.TOi1.symm;have Jj:AJ.IsTupleIter i2 l2 (k+1):=IsTupleIter.but D7 Bm.extBut D.TOi2.symm;have Jk:z<AJ.objs.size:=Xa FY;show W9 _ _ (Builtin.SmallTypes.ownedTupleHandOut (.ref z) (.ref AJ.objs.size) >>= _) _ _ _;refine WO ?_;unfold Builtin.SmallTypes.ownedTupleHandOut;have Jl:IsZip (AJ.push {cls:=.type "tuple",data:=.seq #[x,y]}) z TI TO .ellipsis:=WV _ FY;refine WO (ZP Jl (by simp) λM8 D9 D'=>?_);replace D9:IsZip M8 z TI TO (Y7 AJ.objs.size):=D9;refine ZP D9 (by simp) λEa Dm Eb=>?_;replace Dm:IsZip Ea z TI TO (Y7 AJ.objs.size):=Dm;have up:∀c o,c≠z->AJ.get? c=A? o->Ea.get? c=A? o:=λc o c1 e=>Eb.extBut _ _ c1 (D'.extBut _ _ c1 (WV _ e));have FZ:Zi Ea AJ.objs.size x y:=Eb.extBut _ _ (Nat.ne_of_gt Jk) (D'.extBut _ _ (Nat.ne_of_gt Jk) (W5 _ rfl));have Qw:Ea.objs.size=AJ.objs.size+1:=by rw[Eb.1,D'.1,X3]
 rw[hsz]at Dm FZ Qw;refine WX ⟨_,rfl,?_⟩;show Q (.ref AJ.objs.size) _;rw[hsz];refine hQ Ea Dm (up _ _ D.TOz Cb) ?_ ?_ FZ Qw λc o c1 c2 c3 c4 e=>up c o c1 (Jh c o c1 c2 c3 c4 e)
 .obtain⟨o,e,r⟩:=Ji;exact⟨o,up _ o D.i1z e,r⟩
 .obtain⟨o,e,r⟩:=Jj;exact⟨o,up _ o D.i2z e,r⟩
theorem bb_loadIfAlive{o:Zb}{Q:Option Zb->WY->Prop}(hQ:∀u,A? o=A? u->Q (A? u) s)(h:s.1.get? a=A? o):W9 (Xu prog w) A (loadIfAlive a) Q E s:=by
 intro Γ p Wl;show Sem.wp _ _ (.loadIfAlive a .pure) _ _ _ _;rw[Sem.wp_loadIfAlive,h];exact hQ o rfl
theorem bb_notfree{T:WR}{b:Bool}{f2 TI TO v:WU}(hz:s.1.get? z=A? {cls:=.type "zip",data:=.fields #[Y7 T,.bool b,f2,TI,TO]})(hT:Zi s.1 T u v) :
 W9 (Xu prog w) A (X9 (.ref z)) (λa s1=>a=CV/\∃Ao,s1={s with heap:=Ao}/\Ao.get? z=A? {cls:=.type "zip",data:=.fields #[Y7 T,.bool C?,f2,TI,TO]}/\YG z s.1 Ao) E s:=by
 unfold X9;refine WO (XX hz rfl (x:=Y7 T) rfl ?_);show W9 _ _ (loadIfAlive (T:Int).toNat >>= _) _ _ _;rw[XH];refine WO (bb_loadIfAlive (λo(e:A? _=A? o)=>?_) hT);cases e;show W9 _ _ (if(A? _:Option Zb).isNone=C? then _ else _) _ _ _;rw[a! (show¬((A? _:Option Zb).isNone=C?)from W0)];refine WO (XX hz rfl (x:=.bool b) rfl ?_);cases b with
 |true=>exact WX ⟨rfl,s.1,rfl,hz,rfl,λ_ _=>rfl⟩
 |false=>exact WO (ZP hz (by simp) λAo AG Ae=>WX ⟨rfl,Ao,rfl,AG,Ae⟩)
theorem bb_zip_itemB{TI TO T:WR}{k:Nat}{xs:Array WU}{x y v:WU}{b:Bool}(D:ZipApart z TI TO i1 i2 l1 l2)
 (hz:s.1.get? z=A? {cls:=.type "zip",data:=.fields #[Y7 T,.bool b,.bool CV,.ref TI,.ref TO]}) (hT:Zi s.1 T u v) (hTI:Zi s.1 TI (.ref i1) (.ref i2))
 (h1:s.1.IsTupleIter i1 l1 k) (h2:s.1.IsTupleIter i2 l2 k) (B9:s.1.IsTuple l1 xs) (Bq:s.1.IsTuple l2 ys) (hx:xs[k]?=A? x) (hy:ys[k]?=A? y)
 (hQ:∀h',h'.get? z=A? {cls:=.type "zip",data:=.fields #[Y7 T,.bool C?,.bool CV,.ref TI,.ref TO]}->h'.IsTupleIter i1 l1 (k+1)->h'.IsTupleIter i2 l2 (k+1)->Zi h' s.1.1.size x y->h'.objs.size=s.1.1.size+1 ->
  (∀c o,c≠z->c≠i1->c≠i2->s.1.get? c=A? o->h'.get? c=A? o)->Q (.ref s.1.1.size) {s with heap:=h'}) :
 W9 (Xu prog w) A (Zq.«zip.__next__» ⟨[.ref z],[]⟩) (λfin s'=>∃v,fin=.done (.ret v)/\Q v s') E s:=by
 show W9 _ _ (field (.ref z) 2 >>= _) _ _ _;refine WO (XX hz rfl (x:=.bool CV) rfl ?_);show W9 _ _ (field (.ref z) 3 >>= _) _ _ _;refine WO (XX hz rfl (x:=.ref TI) rfl ?_);refine WO (YC hTI rfl ?_);show W9 _ _ (X9 (.ref z) >>= _) _ _ _;refine WO (Y6 (bb_notfree hz hT) (λa s1⟨e1,Ao,e2,AG,Ae⟩=>?_) λ_ _ x=>x);subst e1 e2;simp only[Yc,if_false];rw[<-Array.forIn_toList];refine WO ?_;simp only[List.forIn_cons,List.forIn_nil];refine WO (WO (Yy ?_));show W9 _ _ (X1 (.ref i1) >>= _) _ _ _;refine WO (bb_tupNext (IsTupleIter.but h1 Ae.extBut D.i1z) (IsTuple.but B9 Ae.extBut D.l1z) hx λAY CG Aj=>WX (WX ?_));refine WO (WO (Yy ?_));show W9 _ _ (X1 (.ref i2) >>= _) _ _ _;refine WO (bb_tupNext (IsTupleIter.but (IsTupleIter.but h2 Ae.extBut D.i2z) Aj.extBut D.i12.symm) (IsTuple.but (IsTuple.but Bq Ae.extBut D.l2z) Aj.extBut D.l2i1) hy λAI D7 AB=>WX (WX (WX ?_)));refine WO (wpAny_newTuple (hsz:=by show 2<=Xg;decide) (WX ⟨_,rfl,?_⟩));have hsz:AI.objs.size=s.1.1.size:=by rw[AB.1,Aj.1,Ae.1]
 show Q (.ref AI.objs.size) {s with heap:=AI.push {cls:=.type "tuple",data:=.seq #[x,y]}};have F0:Zi (AI.push {cls:=.type "tuple",data:=.seq #[x,y]}) AI.objs.size x y:=W5 _ rfl;have BO:(AI.push {cls:=.type "tuple",data:=.seq #[x,y]}).objs.size=AI.objs.size+1:=X3 ..;have Jm:=IsTupleIter.but CG AB.extBut D.i12;rw[hsz]at F0 BO;rw[hsz];refine hQ _ (WV _ (AB.extBut _ _ D.i2z.symm (Aj.extBut _ _ D.i1z.symm AG))) ?_ ?_ F0 BO λc o c1 c3 c4 e=>WV _ (AB.extBut _ _ c4 (Aj.extBut _ _ c3 (Ae.extBut _ _ c1 e)))
 .obtain⟨o,e,r⟩:=Jm;exact⟨o,WV _ e,r⟩
 .obtain⟨o,e,r⟩:=D7;exact⟨o,WV _ e,r⟩
theorem bb_zip_end{TI TO:WR}{k:Nat}{xs:Array WU}{Q:Fin->WY->Prop}(hh:A.handled=B?)
 (S:ZSt xs ys z TI TO i1 i2 l1 l2 k s.1) (CH:xs[k]?=B?\/ys[k]?=B?)
 (hE:∀h' e,(∀c o,c≠z->c≠TO->c≠i1->c≠i2->s.1.get? c=A? o->h'.get? c=A? o)->(∃o,h'.get? e=A? o/\o.cls=.type "StopIteration")->E (.ref e) {s with heap:=h'}) :
 W9 (Xu prog w) A (Zq.«zip.__next__» ⟨[.ref z],[]⟩) Q E s:=by
 obtain⟨D,hz,hTI,⟨a,b,hTO⟩,h1,h2,B9,Bq⟩:=S;rcases hz with hz|⟨T,bb,u,v,hz,hT,Qx⟩
 .show W9 _ _ (field (.ref z) 2 >>= _) _ _ _;refine WO (XX hz rfl (x:=.bool CV) rfl ?_);show W9 _ _ (field (.ref z) 3 >>= _) _ _ _;refine WO (XX hz rfl (x:=.ref TI) rfl ?_);refine WO (YC hTI rfl ?_);show W9 _ _ (X9 (.ref z) >>= _) _ _ _;refine WO ?_;unfold X9;refine WO (XX hz rfl (x:=.none) rfl (WX ?_));simp only[if_true];refine WO (Zw ?_);refine WO (XX hz rfl (x:=.ref TO) rfl ?_);refine WO (ZP hz (by simp) λAo AG Ae=>?_);replace AG:IsZip Ao z TI TO .ellipsis:=AG;refine WO ?_;simp only[List.zipIdx_cons,List.zipIdx_nil,List.forIn_cons,List.forIn_nil];refine WO (WO (wpAny_onRaise ?_));show W9 _ _ (X1 (.ref i1) >>= _) _ _ _;cases hx:xs[k]? with
  | none =>
    refine WO (bb_tupEnd hh (IsTupleIter.but h1 Ae.extBut D.i1z) (IsTuple.but B9 Ae.extBut D.l1z) hx λAY e Aj he=>?_);obtain⟨oe,GK,Jn⟩:=he;have F1:IsZip AY z TI TO .ellipsis:=Aj _ _ D.i1z.symm AG;have M9:e≠z:=λx=>by subst x;rw[F1]at GK;cases GK;simp at Jn
    refine ZP F1 (by simp) λCz _ AF=>hE Cz e (λc o c1 _ c3 _ x=>AF.extBut _ _ c1 (Aj _ _ c3 (Ae.extBut _ _ c1 x))) ⟨oe,AF.extBut _ _ M9 GK,Jn⟩
  | some x =>
    have hy:ys[k]?=none:=by rcases CH with h|h;rw[hx]at h;cases h;exact h
    refine WO (bb_tupNext (IsTupleIter.but h1 Ae.extBut D.i1z) (IsTuple.but B9 Ae.extBut D.l1z) hx λAY CG Aj=>WX ?_);have BG:Zi AY TO a b:=Aj.extBut _ _ D.TOi1 (Ae.extBut _ _ D.TOz hTO);refine WO (YC BG rfl ?_);refine WO (wpAny_updateSeq_pair BG λCz Ca AF=>?_);refine WO (wpAny_letGo (WX ?_));refine WO (WO (wpAny_onRaise ?_));show W9 _ _ (X1 (.ref i2) >>= _) _ _ _
    refine WO (bb_tupEnd hh (IsTupleIter.but (IsTupleIter.but (IsTupleIter.but h2 Ae.extBut D.i2z) Aj.extBut D.i12.symm) AF.extBut D.TOi2.symm)
     (IsTuple.but (IsTuple.but (IsTuple.but Bq Ae.extBut D.l2z) Aj.extBut D.l2i1) AF.extBut D.l2TO) hy λAI e AB he=>?_)
    obtain⟨oe,GK,Jn⟩:=he;have F3:IsZip AI z TI TO .ellipsis:=AB _ _ D.i2z.symm (AF.extBut _ _ D.TOz.symm (Aj.extBut _ _ D.i1z.symm AG));have M9:e≠z:=λx=>by subst x;rw[F3]at GK;cases GK;simp at Jn
    refine ZP F3 (by simp) λAJ _ Bm=>hE AJ e (λc o c1 c2 c3 c4 x=>Bm.extBut _ _ c1 (AB _ _ c4 (AF.extBut _ _ c2 (Aj.extBut _ _ c3 (Ae.extBut _ _ c1 x))))) ⟨oe,Bm.extBut _ _ M9 GK,Jn⟩
 .show W9 _ _ (field (.ref z) 2 >>= _) _ _ _;refine WO (XX hz rfl (x:=.bool CV) rfl ?_);show W9 _ _ (field (.ref z) 3 >>= _) _ _ _;refine WO (XX hz rfl (x:=.ref TI) rfl ?_);refine WO (YC hTI rfl ?_);show W9 _ _ (X9 (.ref z) >>= _) _ _ _;refine WO (Y6 (bb_notfree hz hT) (λa s1⟨e1,Ao,e2,AG,Ae⟩=>?_) λ_ _ x=>x);subst e1 e2;simp only[Yc,if_false];rw[<-Array.forIn_toList];refine WO ?_;simp only[List.forIn_cons,List.forIn_nil];refine WO (WO (Yy ?_));show W9 _ _ (X1 (.ref i1) >>= _) _ _ _;cases hx:xs[k]? with
  | none =>
    refine WO (bb_tupEnd hh (IsTupleIter.but h1 Ae.extBut D.i1z) (IsTuple.but B9 Ae.extBut D.l1z) hx λAY e Aj he=>?_);exact hE AY e (λc o c1 _ c3 _ x=>Aj _ _ c3 (Ae.extBut _ _ c1 x)) he
  | some x =>
    have hy:ys[k]?=none:=by rcases CH with h|h;rw[hx]at h;cases h;exact h
    refine WO (bb_tupNext (IsTupleIter.but h1 Ae.extBut D.i1z) (IsTuple.but B9 Ae.extBut D.l1z) hx λAY CG Aj=>WX (WX ?_));refine WO (WO (Yy ?_));show W9 _ _ (X1 (.ref i2) >>= _) _ _ _;refine WO (bb_tupEnd hh (IsTupleIter.but (IsTupleIter.but h2 Ae.extBut D.i2z) Aj.extBut D.i12.symm) (IsTuple.but (IsTuple.but Bq Ae.extBut D.l2z) Aj.extBut D.l2i1) hy λAI e AB he=>?_);exact hE AI e (λc o c1 _ c3 c4 x=>AB _ _ c4 (Aj.extBut _ _ c3 (Ae.extBut _ _ c1 x))) he
theorem bb_zip_next{TI TO:WR}{k:Nat}{xs:Array WU}{x y:WU}{Q:Option WU->WY->Prop}(S:ZSt xs ys z TI TO i1 i2 l1 l2 k s.1)(hx:xs[k]?=A? x)(hy:ys[k]?=A? y)
 (hQ:∀h',ZSt xs ys z TI TO i1 i2 l1 l2 (k+1) h'->Zi h' s.1.1.size x y->h'.objs.size=s.1.1.size+1 ->
  (∀c o,c∉[z,TO,i1,i2]->s.1.get? c=A? o->h'.get? c=A? o)->Q (A? (.ref s.1.1.size)) {s with heap:=h'}) :
 W9 (Xu prog w) A (pyNext (.ref z)) Q E s:=by
 have hT:=S.typeIs;obtain⟨D,hz,hTI,⟨a,b,hTO⟩,h1,h2,B9,Bq⟩:=S;have n1:s.1.1.size≠TO:=Nat.ne_of_gt (Xa hTO);unfold pyNext;refine WO (wpAny_attempt (X2 (name:=Xz "__next__") hT F.slot_zip_next (X6 F.slot_zip_next hT F.entry_zip_next ?_ (F.args_zip_next_1 _))));rcases hz with hz|⟨T,bb,u,v,hz,F0,Qx⟩
 .refine bb_zip_itemA D hz hTI hTO h1 h2 B9 Bq hx hy λh' a1 a2 a3 a4 a5 a6 a7=>WX ?_;refine hQ h' ⟨D,.inr ⟨_,_,_,_,a1,a5,n1⟩,a7 _ _ D.TIz D.TITO D.TIi1 D.TIi2 hTI,⟨_,_,a2⟩,a3,a4,?_,?_⟩ a5 a6 λc o hc e=>a7 c o (λq=>hc (by simp[q])) (λq=>hc (by simp[q])) (λq=>hc (by simp[q])) (λq=>hc (by simp[q])) e
  .obtain⟨o,e,r⟩:=B9;exact⟨o,a7 _ _ D.l1z D.l1TO D.l1i1 D.l1i2 e,r⟩
  .obtain⟨o,e,r⟩:=Bq;exact⟨o,a7 _ _ D.l2z D.l2TO D.l2i1 D.l2i2 e,r⟩
 .refine bb_zip_itemB D hz F0 hTI h1 h2 B9 Bq hx hy λh' a1 a3 a4 a5 a6 a7=>WX ?_;have Tc:T≠z:=by rintro rfl;exact g! (YT (h! Obj.cls (Xm (hz.symm.trans F0)))) (by decide)
  have M':T≠i1:=by rintro rfl;obtain⟨o,e,c,_⟩:=h1;have e2:=Xm (F0.symm.trans e);rw[<-e2]at c;exact g! (YT c) (by decide)
  have Na:T≠i2:=by rintro rfl;obtain⟨o,e,c,_⟩:=h2;have e2:=Xm (F0.symm.trans e);rw[<-e2]at c;exact g! (YT c) (by decide)
  refine hQ h' ⟨D,.inr ⟨T,C?,u,v,a1,a7 _ _ Tc M' Na F0,Qx⟩,a7 _ _ D.TIz D.TIi1 D.TIi2 hTI,⟨a,b,a7 _ _ D.TOz D.TOi1 D.TOi2 hTO⟩,a3,a4,?_,?_⟩ a5 a6 λc o hc e=>a7 c o (λq=>hc (by simp[q])) (λq=>hc (by simp[q])) (λq=>hc (by simp[q])) e
  .obtain⟨o,e,r⟩:=B9;exact⟨o,a7 _ _ D.l1z D.l1i1 D.l1i2 e,r⟩
  .obtain⟨o,e,r⟩:=Bq;exact⟨o,a7 _ _ D.l2z D.l2i1 D.l2i2 e,r⟩
theorem bb_zip_done{TI TO:WR}{k:Nat}{xs:Array WU}{Q:Option WU->WY->Prop}(hh:A.handled=B?)(S:ZSt xs ys z TI TO i1 i2 l1 l2 k s.1)(CH:xs[k]?=B?\/ys[k]?=B?)
 (hQ:∀h',(∀c o,c∉[z,TO,i1,i2]->s.1.get? c=A? o->h'.get? c=A? o)->Q B? {s with heap:=h'}):W9 (Xu prog w) A (pyNext (.ref z)) Q E s:=by
 have hT:=S.typeIs;unfold pyNext
 refine WO (wpAny_attempt (X2 (name:=Xz "__next__") hT F.slot_zip_next
  (X6 F.slot_zip_next hT F.entry_zip_next (bb_zip_end hh S CH λh' e hk he=>?_) (F.args_zip_next_1 _))))
 obtain⟨o,ho,hc⟩:=he;refine WO (ZI (T:="StopIteration") (b:=C?) ⟨o,ho,hc⟩ isSubtype_stop ?_);exact WX (hQ _ λc o hc=>hk c o (λq=>hc (by simp[q])) (λq=>hc (by simp[q])) (λq=>hc (by simp[q])) (λq=>hc (by simp[q])))
theorem bb_zip_iter{TI TO:WR}{k:Nat}{xs:Array WU}(S:ZSt xs ys z TI TO i1 i2 l1 l2 k s.1)(h:Q (.ref z) s):W9 (Xu prog w) A (pyIter (.ref z)) Q E s:=by
 have hT:=S.typeIs;refine wpAny_pyIter_slot hT F.slot_zip_iter (X6 F.slot_zip_iter hT F.entry_zip_iter ?_ (F.args_zip_iter_1 _));show W9 _ _ (ret (.ref z)) _ _ s;exact WX ⟨_,rfl,"zip",_,hT,F.slot_zip_next.lookup,h⟩
open Sem (wp)
namespace F
theorem bb_nolen_zip:typeLookup (.type "zip") "__len__"=pure none:=by rw[Y5,Yv];kernel_rfl
theorem bb_nohint_zip:typeLookup (.type "zip") "__length_hint__"=pure none:=by rw[Y5,Yv];kernel_rfl
end F
def ZIt(xs ys:Array WU)(n0:Nat)(h:Yd)(acc:Array WU)(k:Nat):Prop:=acc.size=k/\∀(j:Nat)(v:WU),acc[j]?=A? v->∃(T:WR)(x y:WU),v=Xl T/\n0<=T/\Zi h T x y/\xs[j]?=A? x/\ys[j]?=A? y
section
variable{R:Result->WY->Prop}
theorem bb_zip_loop{TI TO S:WR}{xs:Array WU}{n0:Nat}(hh:A.in1.handled=B?)(hn:n=min xs.size ys.size)(hz:n<=Xg)(Qy:S∉[z,TO,i1,i2])(hf:∀c∈[z,TO,i1,i2],c<n0)(res:WU) :
 ∀(k i:Nat)(s:WY)(acc:Array WU)(c:Nat),n - i=k->i<=n->ZSt xs ys z TI TO i1 i2 l1 l2 i s.1->n0<=s.1.1.size->s.1.get? S=A? {cls:=.type "list",dict:=B?,data:=.seq acc c,slots:=#[]}->ZIt xs ys n0 s.1 acc i ->
 (∀h' AZ c',(∀b o,b≠S->b∉[z,TO,i1,i2]->s.1.get? b=A? o->h'.get? b=A? o)->h'.get? S=A? {cls:=.type "list",dict:=B?,data:=.seq AZ c',slots:=#[]}->ZIt xs ys n0 h' AZ n->R (.ok (.ret res)) {s with heap:=h'}) ->
 codeAny (Xu prog w) A (.builtin "list.extend.loop" ⟨[.ref S,.ref z,res],[]⟩) R s:=by
 intro k;have F4:∀{T:WR},n0<=T->T∉[z,TO,i1,i2]:=λh m=>g! (hf _ m) (Nat.not_lt.mpr h);induction k with
 | zero =>
   intro i s acc c hk hi AS h0 hS Am hR;have B7:i=n:=by lia
   subst B7;refine codeAny_builtin F.entry_extend_loop ?_;rw[Around.under_plainId YH _];show W9 _ A.in1 (pyNext (.ref z) >>= _) _ _ s
   have CH:xs[i]?=B?\/ys[i]?=none:=by
    rcases Nat.le_total xs.size ys.size with h|h
    .exact .inl (Array.getElem?_eq_none (by lia))
    .exact .inr (Array.getElem?_eq_none (by lia))
   refine WO (bb_zip_done hh AS CH λh' A9=>WX ?_);refine hR h' acc c (λb o _ hb e=>A9 b o hb e) (A9 _ _ Qy hS) ⟨Am.1,λj v hv=>?_⟩;obtain⟨T,x,y,e1,e2,e3,e4⟩:=Am.2 j v hv;exact⟨T,x,y,e1,e2,A9 _ _ (F4 e2) e3,e4⟩
 | succ k ih =>
   intro i s acc c hk hi AS h0 hS Am hR;have Ak:i<n:=by lia
   refine codeAny_builtin F.entry_extend_loop ?_;rw[Around.under_plainId YH _];show W9 _ A.in1 (pyNext (.ref z) >>= _) _ _ s;have hx:xs[i]?=A? xs[i]:=Ze (by lia);have hy:ys[i]?=A? ys[i]:=Ze (by lia);refine WO (bb_zip_next AS hx hy λh' Nb hT hsz A9=>?_);have DU:=A9 S _ Qy hS;have Nc:S<s.1.1.size:=Xa hS;show W9 _ A.in1 (updateSeq S (·.push (.ref s.1.1.size)) >>= _) _ _ _;refine WO ?_;have CC:∀b o,b≠S->h'.get? b=A? o->(h'.update S (Yg (·.push (Xl s.1.1.size)))).get? b=A? o:=λb o hb e=>(XW _ _ (YR hb)).trans e
   refine YU DU rfl (WX ⟨plainId_quiet YH _,ih (i+1) _ (acc.push (.ref s.1.1.size)) _ (by lia) Ak (Nb.frame λb o ho e=>CC b o (λz=>?_) e) ?_ (XR _ DU rfl) ?_ λJo AZ c' GL GN Ec=>?_⟩)
    (by rw[Am.1];lia) (by show(acc.push _).size<=Xg+1;rw[Array.size_push,Am.1];lia)
   .rw[z,DU]at e;cases e;exact ho rfl
   .show n0<=(h'.update S _).objs.size;rw[Heap.size_update];lia
   .refine⟨by rw[Array.size_push,Am.1],λj v hv=>?_⟩;rw[Array.getElem?_push]at hv;split at hv
    .rename_i e
     rw[Am.1]at e;cases hv;subst e;exact⟨_,_,_,D?,h0,CC _ _ (Nat.ne_of_gt Nc) hT,hx,hy⟩
    .obtain⟨T,x,y,e1,e2,e3,e4⟩:=Am.2 j v hv
     have Td:T≠S:=by
      rintro rfl;exact g! (YT (h! Obj.cls (Xm (e3.symm.trans hS)))) (by decide)
     exact⟨T,x,y,e1,e2,CC _ _ Td (A9 _ _ (F4 e2) e3),e4⟩
   .exact hR Jo AZ c' (λb o hb hb2 e=>GL b o hb hb2 (CC b o hb (A9 b o hb2 e))) GN Ec
end
theorem bb_list_zip{TI TO:WR}{xs:Array WU}{n0:Nat}(hh:A.in1.in1.handled=B?)(AS:ZSt xs ys z TI TO i1 i2 l1 l2 0 s.1)(hn:n=min xs.size ys.size)(hz:n<=Xg)(h0:n0<=s.1.1.size)(hf:∀c∈[z,TO,i1,i2],c<n0)
 (hQ:∀h' acc c,(∀b o,b∉[z,TO,i1,i2]->s.1.get? b=A? o->h'.get? b=A? o)->h'.get? s.1.1.size=A? {cls:=.type "list",dict:=B?,data:=.seq acc c,slots:=#[]}->ZIt xs ys n0 h' acc n->Q (.ref s.1.1.size) {s with heap:=h'}) :
 W9 (Xu prog w) A (call (.type "list") [.ref z]) Q E s:=by
 have Ib:s.1.1.size∉[z,TO,i1,i2]:=λhm=>g! (hf _ hm) (Nat.not_lt.mpr h0);have MX:s.1.1.size≠z:=λe=>Ib (by simp[e])
 refine callType_codes (Q₁:=λobj Ab=>obj=.ref s.1.1.size/\Ab={s with heap:=s.1.push {cls:=.type "list",data:=.seq #[]}}) F.called_list (F.typeCall_list_1 _) F.entry_list_init
  (code_list_new _ ⟨rfl,rfl⟩) λobj Ab Ao=>?_
 obtain⟨rfl,rfl⟩:=Ao;have hS:(s.1.push {cls:=.type "list",data:=.seq #[]}).get? s.1.1.size=A? {cls:=.type "list",data:=.seq #[]}:=W5 _ rfl;refine⟨⟨_,hS,D?⟩,F.args_list_init_2 _ _,?_⟩;show W9 _ A.in1.in1 (do let old <-ZH (.ref s.1.1.size);Builtin.List.listUpdate (.ref s.1.1.size) (λ_=>#[]);letGo old.toList.reverse;Za (.ref s.1.1.size) (.ref z) .none) _ _ _;refine WO ?_;unfold ZH;refine WO (YC hS rfl (WX ?_));refine WO (YU hS rfl ?_);have Bj:=XR (Yg (λ_=>(#[]:Array WU))) hS rfl;refine WO (wpAny_letGo ?_);have CI:((s.1.push {cls:=.type "list",data:=.seq #[]}).update s.1.1.size (Yg (λ_=>(#[]:Array WU)))).objs.size=s.1.1.size+1:=by rw[Heap.size_update,X3]
 generalize hH:(s.1.push {cls:=.type "list",data:=.seq #[]}).update s.1.1.size (Yg (λ_=>(#[]:Array WU)))=H2 at Bj CI |-
 have old:∀b o,s.1.get? b=A? o->H2.get? b=A? o:=λb o e=>by
  rw[<-hH,XW _ _ (YR (XB (Xa e)))];exact WV _ e
 obtain⟨c2,D6⟩:∃c,H2.get? s.1.1.size=A? {cls:=.type "list",data:=.seq #[] c}:=⟨_,Bj⟩;have CY:ZSt xs ys z TI TO i1 i2 l1 l2 0 H2:=AS.frame λb o _ e=>old b o e;have Jp:({s with heap:=H2}:WY).TypeIs (.ref z) "zip":=CY.typeIs;unfold Za;refine WO (ZF Jp ?_);have h1:Zp (.ref s.1.1.size) (.ref z)=false:=by simp[Zp,MX]
 have h2:(Zl "zip" == Zl "list")=false:=by decide
 have h3:(Zl "zip" == Zl "tuple")=false:=by decide
 simp only[h1,h2,h3,Bool.or_false,Yc,if_false];refine WO (bb_zip_iter CY ?_);refine WO (Yy ?_);unfold ZG;refine WO (Yr Jp F.bb_nolen_zip ?_);show W9 _ _ (specialOf (Xl z) (Xz "__length_hint__") >>= _) _ _ _;refine WO (Yr Jp F.bb_nohint_zip ?_);refine WX ?_
 have key:∀(h:Yd)(c₁:Nat),ZSt xs ys z TI TO i1 i2 l1 l2 0 h->n0<=h.objs.size->(∀b o,b≠s.1.1.size->H2.get? b=A? o->h.get? b=A? o)->h.get? s.1.1.size=A? {cls:=.type "list",data:=.seq #[] c₁} ->
  codeAny (Xu prog w) A.in1 (.builtin "list.extend.loop" ⟨[.ref s.1.1.size,.ref z,.none],[]⟩) (wants (λr AH=>r=.none/\Q (.ref s.1.1.size) AH) E) {s with heap:=h}:=by
  intro h c₁ hs Jq hk CA;refine bb_zip_loop hh hn hz Ib hf .none n 0 _ #[] c₁ rfl (Xh _) hs Jq CA ⟨rfl,λj v e=>by simp at e⟩ λh' AZ c' hm DU Am=>?_;exact⟨D?,hQ h' AZ c' (λb o hb e=>hm b o (XB (Xa e)) hb (hk b o (XB (Xa e)) (old b o e))) DU Am⟩
 show W9 _ _ (rule "list.extend.makes-room" >>= λ_=>Builtin.List.listTouch (.ref s.1.1.size) >>= λ_=>again (.builtin "list.extend.loop" ⟨[.ref s.1.1.size,.ref z,.none],[]⟩)) _ _ _;refine WO (Zw ?_);refine WO ?_;show W9 _ _ (updateSeq s.1.1.size (·.push .none) >>= λ_=>updateSeq s.1.1.size (·.pop)) _ _ _;refine WO (YU D6 rfl ?_);have Bl:=XR (Yg (·.push Yp)) D6 rfl;refine YU (hz:=by seq_fits) Bl rfl ?_;have CB:=XR (Yg (·.pop)) Bl rfl
 have CC:∀b o,b≠s.1.1.size->H2.get? b=A? o->((H2.update s.1.1.size (Yg (·.push Yp))).update s.1.1.size (Yg (·.pop))).get? b=A? o :=
  λb o hb e=>(XW _ _ (YR hb)).trans ((XW _ _ (YR hb)).trans e)
 refine WX ⟨plainId_quiet YH _,key _ _ (CY.frame λb o ho e=>CC b o (λq=>?_) e) ?_ CC CB⟩
 .rw[q,D6]at e;cases e;exact ho rfl
 .rw[Heap.size_update,Heap.size_update];show n0<=H2.objs.size;lia
end PySem
namespace L2
open PySem PySem.Spec PyProof.Rows
theorem Inv.laidAll{X:Cx}(I:Inv X U Z H s)(k:∀b u,s.1.get? b=A? u->h'.get? b=A? u)
 (old:∀b,b<s.1.1.size->H' b=H b) (new:∀b u,s.1.1.size<=b->H' b=A? u->ObjOk X.prog X.w H' h' b u):Inv X U Z H' {s with heap:=h',toks:=t'}:=by
 have sm:∀b u,H b=A? u->H' b=A? u:=λb u e=>by rw[old b (I.hok.lt e)];exact e
 refine I.un ⟨λb u q _ _ _=>k b u q,λb u q _ _ _=>⟨u.slots,k b u q⟩,λb u q n _=>by rw[old b (Xa q)];exact n,λb u q _=>⟨u,k b u q⟩,λb xs q=>sm _ _ q,λb u xs q=>sm _ _ q,λb ps q=>⟨#[],by rw[sm _ _ q];simp⟩⟩ λb u q=>?_;by_cases hb:b<s.1.1.size
 .rw[old b hb]at q;exact(I.hok b u q).stay (λc v _ e=>k c v e) (λc e=>sm _ _ e) λc xs e=>sm _ _ e
 .exact new b u (Nat.not_lt.mp hb) q
def mP(H:Hp):List WR->List (V×V)->Hp
 |t::ts,p::ps=>upd (mP H ts ps) t (.tup [p.1,p.2])
 |_,_=>H
theorem lA:∀{ts:List WR}{ps:List (V×V)},b∉ts->mP H ts ps b=H b
 | [],_,_=>rfl
 |_::_,[],_=>rfl
 | t::ts,p::ps,h=>by
   rw[mP,ai (λe=>h (by simp[e]))];exact lA λm=>h (Xb _ m)
theorem rf:∀{ts:List WR}{ps:List (V×V)}{b:WR}{u:HO},mP H ts ps b=A? u->H b=A? u\/∃(j:Nat)(p:V×V),ts[j]?=A? b/\ps[j]?=A? p/\u=.tup [p.1,p.2]
 | [],_,_,_,h=>.inl h
 |_::_,[],_,_,h=>.inl h
 | t::ts,p::ps,b,u,h=>by
   rw[mP]at h;by_cases e:b=t
   .subst e;rw[ac]at h;exact .inr ⟨0,p,rfl,rfl,(Xm h).symm⟩
   .rw[ai e]at h;rcases rf h with q|⟨j,p',q1,q2,q3⟩
    .exact .inl q
    .exact .inr ⟨j+1,p',by simpa using q1,by simpa using q2,q3⟩
theorem qu{H:Hp}:∀{ts:List WR}{ps:List (V×V)}{t:WR},ts.length=ps.length->t∈ts->∃(i:Nat)(p:V×V),ts[i]?=A? t/\ps[i]?=A? p/\mP H ts ps t=A? (.tup [p.1,p.2])
 | [],_,_,_,h=>nomatch h
 |_::_,[],_,hl,_=>by simp at hl
 | u::ts,p::ps,t,hl,h=>by
   by_cases e:t=u
   .subst e;exact⟨0,p,D?,D?,by rw[mP,ac]⟩
   .obtain⟨i,p',q1,q2,q3⟩:=qu (H:=H) (ts:=ts) (ps:=ps) (t:=t) (by simpa using hl) (by
     rcases W7.mp h with h|h
     .exact g! h e
     .exact h)
    exact⟨i+1,p',by simpa using q1,by simpa using q2,by rw[mP,ai e];exact q3⟩
theorem jx:∀{ps:List α}{ts:List β},ps.length=ts.length->(∀(j:Nat)p t,ps[j]?=A? p->ts[j]?=A? t->F p t)->Xp F ps ts
 | [],[],_,_=>.nil
 | [],_::_,h,_=>by simp at h
 |_::_,[],h,_=>by simp at h
 |p::ps,t::ts,h,f=>.cons (f 0 p t rfl rfl) (jx (by simpa using h) λj p' t' e1 e2=>f (j+1) p' t' (by simpa using e1) (by simpa using e2))
theorem uk{P:Nat->WR->Prop}:∀{vs:List WU}(n:Nat),(∀(j:Nat)v,vs[j]?=A? v->∃T,v=Xl T/\P (n+j) T)->∃ts:List WR,vs=ts.map Xl/\∀(j:Nat)T,ts[j]?=A? T->P (n+j) T
 | [],n,_=>⟨[],rfl,λj T h=>by simp at h⟩
 | v::vs,n,h=>by
   obtain⟨T,e1,e2⟩:=h 0 v rfl
   obtain⟨ts,q1,q2⟩:=uk (P:=P) (vs:=vs) (n+1) λj v' hv=>by
    have:=h (j+1) v' (by simpa using hv);rw[show n+1+j=n+(j+1)by lia];exact this
   refine⟨T::ts,by rw[e1,q1];rfl,λj T' hT=>?_⟩;cases j with
   |zero=>simp at hT;subst hT;exact e2
   | succ j =>
     have:=q2 j T' (by simpa using hT);rw[show n+1+j=n+(j+1)by lia]at this;exact this
theorem aaB{xs:List α}{ys:List β}{p:α×β}(h:(xs.zip ys)[j]?=A? p):xs[j]?=A? p.1/\ys[j]?=A? p.2:=by
 rw[Zd]at h;exact h
def xA(K:WQ)(t:TA):TE:=λZ H Q=>t Z H λvs H2=>∃a b xs ys,vs=[.ref a,.ref b]/\SqT K H2 a xs/\SqT K H2 b ys /\
 ∀(l:WR)(ts:List WR)(H':Hp),Same H2 H'->H2 l=B?->H' l=A? (.lst (ts.map i!))->Xp (λ(p:V×V)t=>H' t=A? (.tup [p.1,p.2])) (xs.zip ys) ts->Q (.ref l) H'
section
variable{X:Cx}{e1 e2:X7}{t:TA}{p p2 Av:Z2}
theorem rS(hc:X.calm=C?)(g1:Gl X "list")(m1:X.mg "list"=B?)(g2:Gl X "zip")(m2:X.mg "zip"=B?)(ha:PA X [e1,e2] t)
 (h1:XF [.Call (.Name "zip" p2) [e1,e2] [] Av] X.env=[(CV,YY (.Call (.Name "zip" p2) [e1,e2] [] Av) X.env)]:=by rfl) (h2:XF [e1,e2] X.env=(CV,YY e1 X.env)::XF [e2] X.env:=by rfl) (h3:(Z0 Av (XF [e2] X.env)).any (·.1)=false:=by rfl) :
 PE X (.Call (.Name "list" p) [.Call (.Name "zip" p2) [e1,e2] [] Av] [] pos) (xA X.K t):=by
 intro U s Z H Q I h;refine X5 (cJ I g1 m1 boot_list (XQ ?_ h1 rfl));rw[h1];show W9 _ _ (spliced ((CV,YY (.Call (.Name "zip" p2) [e1,e2] [] Av) X.env)::[])) _ _ s;refine YE ?_;refine X5 (cJ I g2 m2 boot_zip ?_);refine XQ (thn (ha Av U s Z H _ I h) λus s2⟨vs,H2,I2,r,a,b,xs,ys,ev,F5,F6,q⟩=>?_) h2 h3;subst ev;obtain⟨u1,u2,rfl,r1,r2⟩:=vals2 r;cases r1;cases r2;obtain⟨ia,GO,pa,Ie⟩:=I2.tuple F5;obtain⟨ib,GP,pb,Nf⟩:=I2.tuple F6;have Fc:=GO.length;have Te:=GP.length;have Bc:a<s2.1.1.size:=by obtain⟨o,e,_⟩:=pa;exact Xa e
 have Bf:b<s2.1.1.size:=by obtain⟨o,e,_⟩:=pb;exact Xa e
 have hh:X.A.in1.in1.handled=none:=I2.ok.hd hc;refine bb_call_zip (show s2.1.IsTuple a ia.toArray from pa) (show s2.1.IsTuple b ib.toArray from pb) λh' z1 z2 z3 z4 z5 z6 z7=>Y2 ?_;have D:ZipApart (s2.1.1.size+4) (s2.1.1.size+2) (s2.1.1.size+3) s2.1.1.size (s2.1.1.size+1) a b:=zipApart_new Bc Bf
 have st:ZSt ia.toArray ib.toArray (s2.1.1.size+4) (s2.1.1.size+2) (s2.1.1.size+3) s2.1.1.size (s2.1.1.size+1) a b 0 h':=by
  refine⟨D,.inl z1,z2,⟨_,_,z3⟩,z4,z5,?_,?_⟩
  .obtain⟨o,e,r⟩:=pa;exact⟨o,z7 _ _ e,r⟩
  .obtain⟨o,e,r⟩:=pb;exact⟨o,z7 _ _ e,r⟩
 have hf:∀c∈[s2.1.1.size+4,s2.1.1.size+3,s2.1.1.size,s2.1.1.size+1],s2.1.1.size<=c/\c<h'.objs.size:=λc hc=>by
  simp at hc;rw[z6];have AO:(c:Nat)=s2.1.1.size+4\/(c:Nat)=s2.1.1.size+3\/(c:Nat)=s2.1.1.size\/(c:Nat)=s2.1.1.size+1:=hc;constructor
  .show(s2.1.1.size:Nat)<=(c:Nat);lia
  .show(c:Nat)<s2.1.1.size+5;lia
 refine bb_list_zip (s:={s2 with heap:=h'}) hh st rfl (by rw[W4,W4];lia) (WW _) (λc hc=>(hf c hc).2) λh2 acc c kp hS Am=>?_;replace hS:h2.get? h'.objs.size=A? {cls:=.type "list",dict:=B?,data:=.seq acc c,slots:=#[]}:=hS;have Ng:∀b o,s2.1.get? b=A? o->h2.get? b=A? o:=λb o e=>kp b o (λm=>g! (Xa e) (Nat.not_lt.mpr (hf b m).1)) (z7 b o e);obtain⟨hsz,hit⟩:=Am
 obtain⟨ts,et,ht⟩:=uk (P:=λj T=>h'.objs.size<=T/\∃x y,Zi h2 T x y/\ia.toArray[j]?=A? x/\ib.toArray[j]?=A? y) (vs:=acc.toList) 0 (λj v hv=>by
  obtain⟨T,x,y,g1,g2,g3,g4,g5⟩:=hit j v (by simpa using hv);rw[Nat.zero_add];exact⟨T,g1,g2,x,y,g3,g4,g5⟩)
 simp only[Nat.zero_add]at ht
 have Ay:ts.length=(xs.zip ys).length:=by
  have e:=h! Zu et;rw[WN,XN,hsz,W4,W4]at e;rw[List.length_zip];lia
 have rel:∀(j:Nat)(p:V×V)(T:WR),(xs.zip ys)[j]?=A? p->ts[j]?=A? T->∃x y,Zi h2 T x y/\RelV p.1 x/\RelV p.2 y:=λj p T hp hT=>by
  obtain⟨_,x,y,g3,g4,g5⟩:=ht j T hT;obtain⟨DV,Bs⟩:=aaB hp;obtain⟨x',k1,k2⟩:=GO.get DV;obtain⟨y',k3,k4⟩:=GP.get Bs
  have e1:x'=x:=by
   have:ia[j]?=A? x:=by simpa using g4
   rw[k1]at this;exact Xm this
  have e2:y'=y:=by
   have:ib[j]?=A? y:=by simpa using g5
   rw[k3]at this;exact Xm this
  subst e1 e2;exact⟨_,_,g3,k2,k4⟩
 have same:∀(i j:Nat)(p p':V×V)(T:WR),(xs.zip ys)[i]?=A? p->(xs.zip ys)[j]?=A? p'->ts[i]?=A? T->ts[j]?=A? T->p=p':=λi j p p' T h1 h2 h3 h4=>by
  obtain⟨x,y,g1,g2,g3⟩:=rel i p T h1 h3;obtain⟨x',y',k1,k2,k3⟩:=rel j p' T h2 h4;have e:=Xm (g1.symm.trans k1);have ed:=h! Obj.data e;injection ed with Tf _;have el:=h! Array.toList Tf;have ex:x=x':=(List.cons.inj el).1;have ey:y=y':=(List.cons.inj (List.cons.inj el).2).1;subst ex ey;obtain⟨p1,p2⟩:=p;obtain⟨q1,q2⟩:=p';have f1:p1=q1:=g2.inj k2;have f2:p2=q2:=g3.inj k3;rw[f1,f2]
 have Jr:h'.objs.size∉ts:=λm=>by
  obtain⟨j,hj⟩:=List.getElem?_of_mem m;obtain⟨_,x,y,g3,_⟩:=ht j _ hj;exact g! (YT (h! Obj.cls (Xm (g3.symm.trans hS)))) (by decide)
 have EM:s2.1.1.size<h'.objs.size:=by rw[z6];lia
 have Js:∀T∈ts,h'.objs.size<=T:=λT m=>by
  obtain⟨j,hj⟩:=List.getElem?_of_mem m;exact(ht j _ hj).1
 have F7:∀b,s2.1.1.size<=b->H2 b=none:=λb hb=>I2.hok.fresh hb;have Bq:H2 h'.objs.size=none:=F7 _ (ZS EM)
 have Tg:∀(j:Nat)(p:V×V)(T:WR),(xs.zip ys)[j]?=A? p->ts[j]?=A? T->mP H2 ts (xs.zip ys) T=A? (.tup [p.1,p.2]):=λj p T hp hT=>by
  obtain⟨i,p',k1,k2,k3⟩:=qu (H:=H2) Ay (WT hT);rw[k3,same i j p' p T k2 hp k1 hT]
 have I3:Inv X U Z (upd (mP H2 ts (xs.zip ys)) h'.objs.size (.lst (ts.map i!))) {s2 with heap:=h2,toks:=s2.toks}:=by
  refine I2.laidAll Ng (λb hb=>?_) λb u hb hu=>?_
  .rw[ai (XB (Nat.lt_trans hb EM)),lA];exactλm=>g! (Nat.lt_trans hb EM) (Nat.not_lt.mpr (Js b m))
  .by_cases e:b=h'.objs.size
   .subst e;rw[ac]at hu;cases hu;refine⟨by rw[WN,Ay,List.length_zip];lia,ts.map Xl,c,?_,by rw[<-et];exact hS⟩
    exact jx (by simp) λj p t e1 e2=>by
     rw[WZ]at e1 e2;cases q:ts[j]? with
     |none=>rw[q]at e1;cases e1
     |some T=>rw[q]at e1 e2;cases e1;cases e2;rfl
   .rw[ai e]at hu;rcases rf hu with q|⟨j,p,q1,q2,q3⟩
    .rw[F7 b hb]at q;cases q
    .subst q3;obtain⟨x,y,g1,g2,g3⟩:=rel j p b q2 q1;exact⟨by show 2<=Xg;decide,[x,y],0,.cons g2 (.cons g3 .nil),g1⟩
 refine⟨.ref h'.objs.size,_,I3,D?,q h'.objs.size ts _ (λb o e=>?_) Bq ac ?_⟩
 .have hb:=I2.hok.lt e;rw[ai (XB (Nat.lt_trans hb EM)),lA]
  .exact e
  .exactλm=>g! (Nat.lt_trans hb EM) (Nat.not_lt.mpr (Js b m))
 .refine jx Ay.symm λj p T hp hT=>?_;rw[ai (show T≠h'.objs.size fromλe=>Jr (by rw[<-e];exact WT hT))];exact Tg j p T hp hT
end
section
variable{κ:Type}[DecidableEq κ]
def aN(f':List (κ×V))(k:κ):Option V:=(f'.find? λkv=>decide (kv.1=k)).map (·.2)
def putK(f':List (κ×V))(k:κ)(v:V):List (κ×V) :=
 if(f'.any λkv=>decide (kv.1=k))=C? then f'.map (λkv=>if kv.1=k then(kv.1,v)else kv)else f'++[(k,v)]
theorem bH{p:κ×V}{r:List (κ×V)}{k:κ}(e:p.1=k):aN (p::r) k=A? p.2:=by simp[aN,ZN,e]
theorem bJ{p:κ×V}{r:List (κ×V)}{k:κ}(e:¬p.1=k):aN (p::r) k=aN r k:=by simp[aN,ZN,e]
theorem eX(k:κ):∀f':List (κ×V),(f'.any λkv=>decide (kv.1=k))=(aN f' k).isSome
 | []=>rfl
 | p::r=>by
   rw[List.any_cons];by_cases e:p.1=k
   .simp only[bH e,d! e,Bool.true_or,Option.isSome_some]
   .rw[bJ e,c! e,Bool.false_or];exact eX k r
theorem p7(k j:κ)(y:V):∀f':List (κ×V),aN (f'.map λkv=>if kv.1=k then(kv.1,y)else kv) j=(aN f' j).map λx=>if j=k then y else x
 | []=>rfl
 | p::r=>by
   have ih:=p7 k j y r;rw[Xx];by_cases h:p.1=k
   .rw[b! h];by_cases e:p.1=j
    .rw[bH (p:=(p.1,y)) e,bH e,Option.map_some,b! (e.symm.trans h)]
    .rw[bJ (p:=(p.1,y)) e,bJ e,ih]
   .rw[a! h];by_cases e:p.1=j
    .rw[bH (p:=p) e,bH e,Option.map_some,a! (λz=>h (e.trans z))]
    .rw[bJ (p:=p) e,bJ e,ih]
theorem n5(k j:κ)(y:V):∀f':List (κ×V),aN f' k=B?->aN (f'++[(k,y)]) j=if j=k then A? y else aN f' j
 | [],_=>by
   by_cases e:k=j
   .rw[b! e.symm];exact bH (p:=(k,y)) e
   .rw[a! (λz=>e z.symm)];exact bJ (p:=(k,y)) e
 | p::r,hn=>by
   rw[Yo];have hk:¬p.1=k:=λz=>by rw[bH z]at hn;cases hn
   rw[bJ hk]at hn;have ih:=n5 k j y r hn;by_cases e:p.1=j
   .rw[bH e,bH e,a! (λz=>hk (e.trans z))]
   .rw[bJ e,bJ e,ih]
theorem fO(f':List (κ×V))(k j:κ)(y:V):aN (putK f' k y) j=if j=k then A? y else aN f' j:=by
 unfold putK;by_cases a:(f'.any λkv=>decide (kv.1=k))=C?
 .rw[b! a,p7];rw[eX]at a;by_cases e:j=k
  .obtain⟨x,hx⟩:=ZY.mp a;rw[b! e,e,hx,Option.map_some,b! rfl]
  .rw[a! e];cases aN f' j with
   |none=>rfl
   |some x=>rw[Option.map_some,a! e]
 .rw[a! a];refine n5 k j y f' ?_;rw[eX]at a;cases q:aN f' k with
  |none=>rfl
  |some x=>rw[q]at a;exact(a rfl).elim
theorem bz(f':List (κ×V))(k:κ)(v:V):(putK f' k v).length<=f'.length+1:=by
 unfold putK;split
 .rw[WN];lia
 .rw[Xd,W2,List.length_nil];lia
theorem ja{f':List (κ×V)}{k:κ}(v:V)(h:aN f' k=B?):putK f' k v=f'++[(k,v)]:=by
 unfold putK;rw[eX,h];exact a! (by decide)
theorem RelO.isSome_eq{o:Option V}{u:Option WU}(r:RelO o u):o.isSome=u.isSome:=by
 cases o with
 | none=>cases u with
   |none=>rfl
   |some _=>exact(show False from r).elim
 | some _=>cases u with
   |none=>exact(show False from r).elim
   |some _=>rfl
theorem RelO.getD{o:Option V}{u:Option WU}{d:V}{d':WU}(r:RelO o u)(rd:RelV d d'):RelV (o.getD d) (u.getD d'):=by
 cases o with
 | none=>cases u with
   |none=>exact rd
   |some _=>exact(show False from r).elim
 | some _=>cases u with
   |none=>exact(show False from r).elim
   |some _=>exact r
theorem KV.val{f':List (κ×V)}{vs:List (κ×WU)}(r:KV f' vs)(k:κ):RelO (aN f' k) (valueAt vs k):=by
 unfold KV at r;induction r with
 |nil=>exact YV
 | @cons p q ps qs h t ih =>
   obtain⟨h1,h2⟩:=h;by_cases e:p.1=k
   .have e':q.1=k:=h1.symm.trans e;have b:valueAt (q::qs) k=A? q.2:=by simp[valueAt,ZN,e']
    rw[bH e,b];exact h2
   .have e':¬q.1=k:=λz=>e (h1.trans z);have b:valueAt (q::qs) k=valueAt qs k:=by simp[valueAt,ZN,e']
    rw[bJ e,b];exact ih
theorem KV.any{f':List (κ×V)}{vs:List (κ×WU)}(r:KV f' vs)(k:κ):(f'.any λkv=>decide (kv.1=k))=vs.any λkv=>decide (kv.1=k):=by
 unfold KV at r;induction r with
 |nil=>rfl
 |cons h t ih=>rw[List.any_cons,List.any_cons,ih,h.1]
theorem KV.repl{f':List (κ×V)}{vs:List (κ×WU)}(r:KV f' vs)(k:κ)(ry:RelV y u) :
 KV (f'.map λkv=>if kv.1=k then(kv.1,y)else kv) (vs.map λkv=>if kv.1=k then(kv.1,u)else kv):=by
 unfold KV at r |-;induction r with
 |nil=>exact .nil
 | @cons p q ps qs h t ih =>
   rw[Xx,Xx];refine .cons ?_ ih;obtain⟨h1,h2⟩:=h;by_cases e:p.1=k
   .rw[b! e,b! (h1.symm.trans e)];exact⟨h1,ry⟩
   .rw[a! e,a! (λz=>e (h1.trans z))];exact⟨h1,h2⟩
theorem KV.put{f':List (κ×V)}{vs:List (κ×WU)}(r:KV f' vs)(k:κ)(ry:RelV y u):KV (putK f' k y) (stored vs k u):=by
 unfold putK stored;rw[r.any k];by_cases e:(vs.any λkv=>decide (kv.1=k))=C?
 .rw[b! e,b! e];exact r.repl k ry
 .rw[a! e,a! e];exact Paired.snoc r ⟨rfl,ry⟩
theorem KV.length{f':List (κ×V)}{vs:List (κ×WU)}(r:KV f' vs):f'.length=vs.length:=W3 r
end
theorem jQ{k:Key}(r:RelV (kV k) u):(au P w).is k u=true:=by
 cases k with
 |inl i=>obtain⟨t,e⟩:=(show∃t,u=Value.int i t from r);subst e;exact pU P w i t
 |inr x=>obtain⟨t,e⟩:=(show∃t,u=Value.str x t from r);subst e;exact qG P w x t
theorem mY:∀{ks:List Key}{us:List WU},Vals (ks.map kV) us->ItemsAre (au P w) ks us
 | [],_,r=>by rw[YS]at r;cases r;exact .nil
 | k::ks,_,r=>by
   rw[Xx]at r;cases r with
   |cons h t=>exact .cons (jQ h) (mY t)
abbrev KTd(H:Hp):List (List Key×V)->List (List Key×WR×WU)->Prop:=Xp λp q=>p.1=q.1/\H q.2.1=A? (.tup (p.1.map kV))/\RelV p.2 q.2.2
theorem KTd.val{f':List (List Key×V)}{xs:List (List Key×WR×WU)}(r:KTd H f' xs)(k:List Key):RelO (aN f' k) ((atKey xs k).map (·.2)):=by
 induction r with
 |nil=>exact YV
 | @cons p q ps qs h t ih =>
   obtain⟨h1,_,h2⟩:=h;by_cases e:p.1=k
   .have e':q.1=k:=h1.symm.trans e;have b:atKey (q::qs) k=A? q.2:=by simp[atKey,ZN,e']
    rw[bH e,b];exact h2
   .have e':¬q.1=k:=λz=>e (h1.trans z);have b:atKey (q::qs) k=atKey qs k:=by simp[atKey,ZN,e']
    rw[bJ e,b];exact ih
theorem KTd.repl{f':List (List Key×V)}{xs:List (List Key×WR×WU)}(r:KTd H f' xs)(k:List Key)(ry:RelV y u) :
 KTd H (f'.map λkv=>if kv.1=k then(kv.1,y)else kv) (xs.map (putAt k u)):=by
 induction r with
 |nil=>exact .nil
 | @cons p q ps qs h t ih =>
   rw[Xx,Xx];refine .cons ?_ ih;obtain⟨h1,h2,h3⟩:=h;unfold putAt;by_cases e:p.1=k
   .rw[b! e,b! (h1.symm.trans e)];exact⟨h1,h2,ry⟩
   .rw[a! e,a! (λz=>e (h1.trans z))];exact⟨h1,h2,h3⟩
theorem KTd.put{f':List (List Key×V)}{xs:List (List Key×WR×WU)}(r:KTd H f' xs)(k:List Key)(hb:H b=A? (.tup (k.map kV)))(ry:RelV y u) :
 KTd H (putK f' k y) (storedH xs k b u):=by
 have e:(f'.any λkv=>decide (kv.1=k))=(atKey xs k).isSome:=by
  rw[eX,(r.val k).isSome_eq,Option.isSome_map]
 unfold putK storedH;rw[e];by_cases q:(atKey xs k).isSome=C?
 .rw[b! q,b! q];exact r.repl k ry
 .rw[a! q,a! q];exact Paired.snoc r ⟨rfl,hb,ry⟩
theorem KTd.keeps{f':List (List Key×V)}{xs:List (List Key×WR×WU)}(r:KTd H f' xs)(ht:∀b ys,H b=A? (.tup ys)->H' b=A? (.tup ys)):KTd H' f' xs :=
 Xp.mapP r λ_ _ z=>⟨z.1,ht _ _ z.2.1,z.2.2⟩
theorem zm{u:HO}(ok:HOk P w H h)(e:Rd H a u):ObjOk P w H h a u:=e.ok ok
theorem oi{f':List (Key×V)}(ok:HOk P w H h)(e:Rd H a (.dK f')):f'.length<=Xg/\(a == YO)=CV/\∃vs,KV f' vs/\h.DictOf (au P w) a vs :=
 show ObjOk P w H h a (.dK f')from zm ok e
theorem zn{f':List (Key×V)}(ok:HOk P w H h)(e:H a=A? (.dK f')):f'.length<=Xg/\(a == YO)=CV/\∃vs,KV f' vs/\h.DictOf (au P w) a vs:=oi ok (.inl e)
theorem gd{ks:List Key}(ok:HOk P w H h)(e:H a=A? (.tup (ks.map kV))):(tupleKind (au P w)).is h ks a:=by
 obtain⟨_,its,n,r,h1⟩:=(show ObjOk P w H h a (.tup (ks.map kV))from ok a _ e);exact⟨_,its.toArray,n,h1,D?,D?,by simpa using mY r⟩
theorem nG{f':List (List Key×V)}(ok:HOk P w H h)(e:Rd H a (.dT f')):f'.length<=Xg/\(a == YO)=CV /\
 ∃xs,KTd H f' xs/\h.DictOfH (tupleKind (au P w)) a xs:=by
 obtain⟨z,y,xs,r,o,es,ep,h1,h2,h3,h4,h5⟩:=(show ObjOk P w H h a (.dT f')from zm ok e);refine⟨z,y,xs,r,o,es,ep,h1,h2,h3,h4,λx hx=>?_,h5⟩
 have all:∀{l:List (List Key×V)}{m:List (List Key×WR×WU)},KTd H l m->∀x∈m,(tupleKind (au P w)).is h x.1 x.2.1:=by
  intro l m q;induction q with
  |nil=>intro x hx;exact nomatch hx
  | @cons p q ps qs hq t ih =>
    intro x hx;rcases W7.mp hx with e|hx
    .subst e;exact gd ok (by rw[<-hq.1];exact hq.2.1)
    .exact ih x hx
 exact all r x hx
theorem pQ{f':List (List Key×V)}(ok:HOk P w H h)(e:H a=A? (.dT f')):f'.length<=Xg/\(a == YO)=CV /\
 ∃xs,KTd H f' xs/\h.DictOfH (tupleKind (au P w)) a xs:=nG ok (.inl e)
def DGet(H:Hp)(a:WR)(y:V)(r:Option V):Prop :=
 (∃f' k,Rd H a (.dK f')/\y=kV k/\r=aN f' k)\/∃f' k b,Rd H a (.dT f')/\y=.ref b/\H b=A? (.tup (k.map kV))/\r=aN f' k
def DPut(H:Hp)(a:WR)(y v:V)(H':Hp):Prop :=
 (∃f' k,H a=A? (.dK f')/\y=kV k/\f'.length<Xg/\H'=upd H a (.dK (putK f' k v))) \/
 ∃f' k b,H a=A? (.dT f')/\y=.ref b/\H b=A? (.tup (k.map kV))/\f'.length<Xg/\H'=upd H a (.dT (putK f' k v))
theorem DGet.k{f':List (Key×V)}{k:Key}(e:H a=A? (.dK f')):DGet H a (kV k) (aN f' k):=.inl ⟨f',k,.inl e,rfl,rfl⟩
theorem DGet.t{f':List (List Key×V)}{k:List Key}(e:H a=A? (.dT f'))(eb:H b=A? (.tup (k.map kV))):DGet H a (.ref b) (aN f' k):=.inr ⟨f',k,b,.inl e,rfl,eb,rfl⟩
theorem DPut.t{f':List (List Key×V)}{k:List Key}(e:H a=A? (.dT f'))(eb:H b=A? (.tup (k.map kV)))(hl:f'.length<Xg) :
 DPut H a (.ref b) v (upd H a (.dT (putK f' k v))):=.inr ⟨f',k,b,e,rfl,eb,hl,rfl⟩
section
variable{X:Cx}{r:WU}{o:Option V}
theorem Inv.big(I:Inv X U Z H s):YO<s.1.1.size:=by
 have h:Ym<s.1.1.size:=(I.mod.glob.keeps I.bk).lt;exact Nat.lt_trans (by decide) h
theorem nO(hu:A.units+1<YJ)(I:Inv X U Z H s)(g:DGet H a y (A? v))(ry:RelV y u)(h:∀w' s',Inv X U Z H s'->RelV v w'->Q w' s') :
 W9 (Xu X.prog X.w) A (getItem (.ref a) u) Q E s:=by
 rcases g with⟨f',k,e,ey,l⟩|⟨f',k,b,e,ey,eb,l⟩
 .subst ey;obtain⟨z,hd,vs,rel,dd⟩:=oi I.hok e;obtain⟨w',hw,Cv⟩:=RelO.some_of (v:=v) (o:=valueAt vs k) (by rw[l];exact rel.val k);exact wpAny_getItem_of (jQ ry) dd.mapOf hw (h w' _ (I.tok _) Cv)
 .subst ey;cases(show u=Xl b from ry);obtain⟨z,hd,xs,rel,dd⟩:=nG I.hok e;obtain⟨w',hw,Cv⟩:=RelO.some_of (v:=v) (o:=(atKey xs k).map (·.2)) (by rw[l];exact rel.val k);obtain⟨p,hp,Bs⟩:=XI.mp hw;refine wpAny_getItem_heap (tupleKind_room_in1 hu) (gd I.hok eb) dd hp ?_;rw[Bs];exact h w' _ (I.tok _) Cv
theorem ab7(hu:A.units+1<YJ)(I:Inv X U Z H s)(g:DGet H a y o)(ry:RelV y u)(h:∀s',Inv X U Z H s'->Q (.bool o.isSome) s') :
 W9 (Xu X.prog X.w) A (Zt .In u (.ref a)) Q E s:=by
 rcases g with⟨f',k,e,ey,l⟩|⟨f',k,b,e,ey,eb,l⟩
 .subst ey;obtain⟨z,hd,vs,rel,dd⟩:=oi I.hok e;refine wpAny_in_of (jQ ry) hd dd.mapOf ?_;rw[<-(rel.val k).isSome_eq,<-l];exact h _ (I.tok _)
 .subst ey;cases(show u=Xl b from ry);obtain⟨z,hd,xs,rel,dd⟩:=nG I.hok e;refine wpAny_in_heap (tupleKind_room_in1 hu) (gd I.hok eb) hd dd ?_;have q:=(rel.val k).isSome_eq;rw[Option.isSome_map]at q;rw[<-q,<-l];exact h _ (I.tok _)
theorem fU{ob:HO}(I:Inv X U Z H s)(mu:Mut (H a))(hs:YG a s.1 h')(he:∃q,h'.get? a=A? q)(new:ObjOk X.prog X.w (upd H a ob) h' a ob) :
 Inv X U Z (upd H a ob) {s with heap:=h',toks:=t'} :=
 I.write (x:=a) (e:=a) mu (.inl rfl) (λb q hb z=>(hs.2 b hb).trans z) he new
theorem vy{f':List (Key×V)}{vs:List (Key×WU)}(z:f'.length<=Xg)(hd:(a == YO)=CV)(rel:KV f' vs)(dd:h'.DictOf (au P w) a vs) :
 ObjOk P w H' h' a (.dK f'):=⟨z,hd,vs,rel,dd⟩
theorem vj{Q:Unit->WY->Prop}(hu:A.units+1<YJ)(I:Inv X U Z H s)(g:DPut H a y v H')(ry:RelV y u)(rv:RelV v r)(h:∀s',Inv X U Z H' s'->Q () s') :
 W9 (Xu X.prog X.w) A (setItem (.ref a) u r) Q E s:=by
 rcases g with⟨f',k,e,ey,l,eH⟩|⟨f',k,b,e,ey,eb,l,eH⟩
 .subst ey eH;obtain⟨z,hd,vs,rel,dd⟩:=zn I.hok e;have hz:vs.length<=Xg:=by rw[<-rel.length];exact z
  have hl:(putK f' k v).length<=Xg:=by have:=bz f' k v;lia
  refine wpAny_setItem_pairs (hsz:=hz) (jQ ry) dd λh' C5 hs=>h _ ?_;have he:∃q,h'.get? a=A? q:=let⟨q,_,_,hq,_⟩:=C5;⟨q,hq⟩
  exact fU I (by rw[e];exact YV) hs he (vy hl hd (rel.put k rv) C5)
 .subst ey eH;cases(show u=Xl b from ry);obtain⟨z,hd,xs,rel,dd⟩:=pQ I.hok e;have hz:xs.length<=Xg:=by rw[<-W3 rel];exact z
  have hl:(putK f' k v).length<=Xg:=by have:=bz f' k v;lia
  refine wpAny_setItem_heap (hsz:=hz) (tupleKind_room_in1 hu) (gd I.hok eb) dd λh' C5 hs=>h _ ?_;obtain⟨q,es,ep,hq,h2,h3,h4,_,h5⟩:=C5;refine fU I (by rw[e];exact YV) hs ⟨q,hq⟩ ⟨hl,hd,_,(rel.put k eb rv).keeps λc ys ec=>?_,q,es,ep,hq,h2,h3,h4,h5⟩;rw[ai (eY ec e (λz=>nomatch z))];exact ec
end
section
variable{X:Cx}{f':List (Key×V)}{k:Key}
end
def y9(i:X7):Prop:=∀ov iv,subscripted i CV ov iv=operate [ov,iv] (getItem ov iv)
theorem oB{value slice:X7}{T id:String}
 (hl:typeLookup (.type T) "__getitem__"=pure (A? (.builtin id))) (hs:y9 slice)
 (h:W9 (Xu prog w) A (YY value env) (λo Ab=>W9 (Xu prog w) A (YY slice env) (λi AH=>AH.TypeIs o T/\W9 (Xu prog w) A (getItem o i) Q E AH) E Ab) E s) :
 W9 (Xu prog w) A (YY (.Subscript value slice pos) env) Q E s:=by
 refine Subscript_ (Y6 h (λo Ab Ao=>Y6 Ao (λi AH AY=>?_) λ_ _ x=>x) λ_ _ x=>x);obtain⟨hT,AY⟩:=AY;unfold subscriptTail;refine WO ?_;rw[getitemInPython_of_ne hT.not_modules];refine WO (Yr hT hl ?_)
 have fin:W9 (Xu prog w) A (subscripted slice CV o i) (λr B5=>W9 (Xu prog w) A (letTemporaryGo value o r >>= λ_=>pure r) Q E B5) E AH:=by
  rw[hs o i];exact wpAny_operating (Y6 AY (λr B5 Cz=>WO (wpAny_letTemporaryGo (WX Cz))) λ_ _ x=>x)
 first
  |exact WX (WO fin)
  |exact WO (WX (WO fin))
  |exact WO fin
theorem j5{X:Cx}{o:Option V}(I:Inv X U Z H s)(g:DGet H a y o):s.TypeIs (.ref a) "dict":=by
 rcases g with⟨f',k,e,_,_⟩|⟨f',k,b,e,_,_,_⟩
 .obtain⟨_,_,vs,_,dd⟩:=oi I.hok e;exact dd.typeIs
 .obtain⟨_,_,xs,_,dd⟩:=nG I.hok e;exact dd.typeIs
def abb(td ty:TE):TE:=λZ H Q=>td Z H λx H1=>ty Z H1 λy H2=>∃a v,x=.ref a/\DGet H2 a y (A? v)/\Q v H2
def abY(ty td:TE):TE:=λZ H Q=>ty Z H λy H1=>td Z H1 λx H2=>∃a o,x=.ref a/\DGet H2 a y o/\Q (.bl o.isSome) H2
def abt(td ty tv:TE):TS:=λD Z H=>tv Z H λv H1=>td Z H1 λx H2=>ty Z H2 λy H3=>∃a H4,x=.ref a/\DPut H3 a y v H4/\D.nx Z H4
section
variable{X:Cx}{o i value:X7}{IT:Z2}{td ty tv:TE}
theorem pw(hu:X.A.units+1<YJ)(ho:PE X o td)(hi:PE X i ty)(hs:y9 i):PE X (.Subscript o i pos) (abb td ty):=by
 intro U s Z H Q I h;refine oB PySem.F.slot_dict_getitem.lookup hs (thn (ho U s Z H _ I h) λu s1⟨x,H1,I1,rx,q1⟩=>thn (hi U s1 Z H1 _ I1 q1) λiv s2⟨y,H2,I2,ry,a,v,ex,g,q2⟩=>?_);subst ex;obtain rfl:u=Xl a:=rx;exact⟨j5 I2 g,nO hu I2 g ry λw' s3 I3 Cv=>⟨v,H2,I3,Cv,q2⟩⟩
theorem aau(hu:X.A.units+1<YJ)(hi:PE X i ty)(ho:PE X o td):PC X .In i o (abY ty td):=by
 intro U s Z H Q I h;refine thn (hi U s Z H _ I h) λiv s1⟨y,H1,I1,ry,q1⟩=>thn (ho U s1 Z H1 _ I1 q1) λu s2⟨x,H2,I2,rx,a,ov,ex,g,q2⟩=>?_;subst ex;obtain rfl:u=Xl a:=rx;exact ab7 hu I2 g ry λs3 I3=>⟨.bl ov.isSome,H2,I3,rfl,q2⟩
theorem tP(hu:X.A.units+1<YJ)(ho:PE X o td)(hi:PE X i ty)(hv:PE X value tv)(hs:swapsWith value (A? (.Subscript o i pos')) pos.line X.env=pure CV) :
 PS X (.Assign [.Subscript o i pos'] value pos) (abt td ty tv):=by
 intro U s Z H D I h;refine wpAny_Assign_Subscript (thn (hv U s Z H _ I h) λr s1⟨v,H1,I1,rv,q1⟩=>thn (ho U s1 Z H1 _ I1 q1) λu s2⟨x,H2,I2,rx,q2⟩=>thn (hi U s2 Z H2 _ I2 q2) λiv s3⟨y,H3,I3,ry,a,H4,ex,g,q3⟩=>?_) hs;subst ex;obtain rfl:u=Xl a:=rx;exact vj hu I3 g ry rv λs4 I4=>⟨Z,H4,I4,q3⟩
end
theorem pG(h:Yd)(hb:YO<h.objs.size):ObjOk P w H (h.push {cls:=.type "dict",data:=.dict #[]}) h.objs.size (.dK []) :=
 ⟨Xh _,beq_eq_false_iff_ne.mpr (YR (XB hb)),[],.nil,Heap.DictOf.new h⟩
theorem rA(h:Yd)(hb:YO<h.objs.size):ObjOk P w H (h.push {cls:=.type "dict",data:=.dict #[]}) h.objs.size (.dT []) :=
 ⟨Xh _,beq_eq_false_iff_ne.mpr (YR (XB hb)),[],.nil,_,#[],0,W5 _ rfl,⟨rfl,rfl,rfl⟩,rfl,rfl,List.nodup_nil⟩
def aaD:TE:=λ_ H Q=>∀p,H p=B?->Q (.ref p) (upd H p (.dK []))
def aal:TE:=λ_ H Q=>∀p,H p=B?->Q (.ref p) (upd H p (.dT []))
section
variable{X:Cx}
theorem xG:PE X (.Dict [] [] pos) aaD:=λU s Z H Q I h =>
 wpAny_Dict_empty ⟨.ref s.1.1.size,_,I.laid (a:=s.1.1.size) (o:=.dK []) (t':=s.toks) (λ_ _ q=>WV _ q) (WW _) (pG s.1 I.big),rfl,h _ (I.hok.fresh (WW _))⟩
theorem kX:PE X (.Dict [] [] pos) aal:=λU s Z H Q I h =>
 wpAny_Dict_empty ⟨.ref s.1.1.size,_,I.laid (a:=s.1.1.size) (o:=.dT []) (t':=s.toks) (λ_ _ q=>WV _ q) (WW _) (rA s.1 I.big),rfl,h _ (I.hok.fresh (WW _))⟩
end
def sy:List (TE×TE)->St->Hp->(List (V×V)->Hp->Prop)->Prop
 | [],_,H,Q=>Q [] H
 |(tk,tv)::r,Z,H,Q=>tk Z H λx H1=>tv Z H1 λy H2=>sy r Z H2 λps H3=>Q ((x,y)::ps) H3
abbrev VV:List (V×V)->List (WU×WU)->Prop:=Xp λp q=>RelV p.1 q.1/\RelV p.2 q.2
def PPs(X:Cx)(pos:Z2)(keys:List (Option X7))(values:List X7)(Fd:List (TE×TE)):Prop :=
 ∀(U:List (WR×Zb))(s:WY)(Z:St)(H:Hp)(Q:List (V×V)->Hp->Prop),Inv X U Z H s->sy Fd Z H Q ->
   W9 (Xu X.prog X.w) X.A (evalPairs (pairTrees keys values X.env pos)) (λvs s'=>∃ps H',Inv X U Z H' s'/\VV ps vs/\Q ps H') X.xe s
theorem uu{X:Cx}:PPs X pos [] [] []:=λU s Z H Q I h=>pairTrees_nil_walk ⟨[],H,I,.nil,h⟩
theorem rj{X:Cx}{k v:X7}{ks:List (Option X7)}{vs:List X7}{tk tv:TE}{Fd:List (TE×TE)}(hk:PE X k tk)(hv:PE X v tv)(hr:PPs X pos ks vs Fd) :
 PPs X pos (A? k::ks) (v::vs) ((tk,tv)::Fd):=λU s Z H Q I h =>
 pairTrees_cons_walk (thn (hk U s Z H _ I h) λu s1⟨x,H1,I1,rx,q1⟩=>thn (hv U s1 Z H1 _ I1 q1) λw2 s2⟨y,H2,I2,ry,q2⟩ =>
  thn (hr U s2 Z H2 _ I2 q2) λws s3⟨ps,H3,I3,rel,q3⟩=>⟨(x,y)::ps,H3,I3,.cons ⟨rx,ry⟩ rel,q3⟩)
def jr(f' more:List (Key×V)):List (Key×V):=more.foldl (λacc kv=>putK acc kv.1 kv.2) f'
theorem KV.merge:∀{more:List (Key×V)}{rs:List (Key×WU)}{f':List (Key×V)}{vs:List (Key×WU)},KV more rs->KV f' vs->KV (jr f' more) (merged vs rs):=by
 intro more rs f' vs r;unfold KV at r;induction r generalizing f' vs with
 |nil=>intro q;exact q
 | @cons p q ps qs h t ih =>
   intro r0
   have e:KV (putK f' p.1 p.2) (stored vs q.1 q.2):=by
    have:=r0.put p.1 h.2;rw[<-h.1];exact this
   exact ih e
theorem im:∀(more f':List (Key×V)),(jr f' more).length<=f'.length+more.length
 | [],f'=>by show f'.length<=f'.length+0;lia
 | p::r,f'=>by
   have h1:=im r (putK f' p.1 p.2);have h2:=bz f' p.1 p.2;show(jr (putK f' p.1 p.2) r).length<=_;rw[W2];lia
theorem lS{P:W6}{w:Xo}:∀{f':List (Key×V)}{ws:List (WU×WU)},VV (f'.map λkv=>(kV kv.1,kv.2)) ws->∃rs,Carries (au P w) ws rs/\KV f' rs
 | [],_,r=>by rw[YS]at r;cases r;exact⟨[],YV,.nil⟩
 | p::f',_,r=>by
   rw[Xx]at r;cases r with
   | @cons a b as bs h t =>
     obtain⟨rs,c,q⟩:=lS (P:=P) (w:=w) t;obtain⟨b1,b2⟩:=b;exact⟨(p.1,b2)::rs,⟨jQ h.1,D?,c⟩,.cons ⟨D?,h.2⟩ q⟩
def aaT(Fd:List (TE×TE)):TE:=λZ H Q=>∀p,H p=B?->sy Fd Z (upd H p (.dK [])) λps H2=>H2 p=A? (.dK [])/\∃f':List (Key×V),ps=f'.map (λkv=>(kV kv.1,kv.2))/\f'.length<=15/\Q (.ref p) (upd H2 p (.dK (jr [] f')))
theorem tR{X:Cx}{keys:List (Option X7)}{values:List X7}{Fd:List (TE×TE)}(h:PPs X pos keys values Fd)(Ac:keys.all (·.isSome)=C?)(hl:keys.length=values.length)(h0:keys≠[])
 (Ti:keys.length<=15):PE X (.Dict keys values pos) (aaT Fd):=by
 intro U s Z H Q I q;have hn:=I.hok.fresh (WW s.1.1.size);have I1:=I.laid (a:=s.1.1.size) (o:=.dK []) (h':=s.1.push {cls:=.type "dict",data:=.dict #[]}) (t':=s.toks) (λ_ _ q=>WV _ q) (WW _) (pG s.1 I.big);refine wpAny_Dict_walk (knd:=au X.prog X.w) Ac hl h0 Ti (thn (h U _ Z _ _ I1 (q _ hn)) λws s2⟨ps,H2,I2,rel,e,f',ep,lk,q2⟩=>?_);subst ep;obtain⟨rs,c,rk⟩:=lS (P:=X.prog) (w:=X.w) rel;obtain⟨z,hd,Wm,r0,dd⟩:=zn I2.hok e;cases r0;refine⟨rs,c,dd,λh' C5 hs=>⟨.ref s.1.1.size,_,?_,D?,q2⟩⟩
 have hz:(jr [] f').length<=Xg:=by
  have h1:=im f' [];rw[List.length_nil]at h1;rw[sizeLine_eq];lia
 have he:∃q,h'.get? s.1.1.size=A? q:=let⟨q,_,_,hq,_⟩:=C5;⟨q,hq⟩
 exact fU I2 (by rw[e];exact YV) hs he (vy hz hd (rk.merge .nil) C5)
structure M2(X:Cx)(o:X7)(m:Xk)(apos:Z2)(e f:X7)(Aq:Z2):Prop where
 base:attributeBase o m X.env (YY o X.env)=YY o X.env
 few:((Z0 Aq (XF [e,f] X.env)).all (λx=>!x.1) && (backToKw Aq (keywordEach [] X.env)).all (λx=>x.1.isSome)
  && decide (([e,f]:List X7).length+([]:List Keyword).length+(if([]:List Keyword).isEmpty then 0 else 1)<30))=C?
 line:(apos.endLine == Aq.line)=C?
 trees:Z0 Aq (XF [e,f] X.env)=[(CV,YY e X.env),(CV,YY f X.env)]
def IsD(H:Hp)(a:WR):Prop:=(∃f',Rd H a (.dK f'))\/∃f',Rd H a (.dT f')
theorem aaa{X:Cx}(I:Inv X U Z H s)(d:IsD H a) :
 s.TypeIs (.ref a) "dict"/\(∀b,Xl a=.ref b->∃ob,s.1.get? b=A? ob/\ob.dict=B?)/\(a == YO)=false:=by
 rcases d with⟨f',e⟩|⟨f',e⟩
 .obtain⟨_,hd,vs,_,dd⟩:=oi I.hok e;refine⟨dd.typeIs,λb q=>?_,hd⟩;cases q;obtain⟨ob,_,_,h1,h2,_⟩:=dd;exact⟨ob,h1,h2.2.1⟩
 .obtain⟨_,hd,xs,_,dd⟩:=nG I.hok e;refine⟨dd.typeIs,λb q=>?_,hd⟩;cases q;obtain⟨ob,_,_,h1,h2,_⟩:=dd;exact⟨ob,h1,h2.2.1⟩
section
variable{X:Cx}{d:V}{r:WU}{o:Option V}
theorem aac(hu:A.units+1<YJ)(I:Inv X U Z H s)(g:DGet H a y o)(ry:RelV y u)(rd:RelV d r)(h:∀w' s',Inv X U Z H s'->RelV (o.getD d) w'->Q w' s') :
 W9 (Xu X.prog X.w) A (call (.builtin "dict.get") [.ref a,u,r]) Q E s:=by
 rcases g with⟨f',k,e,ey,l⟩|⟨f',k,b,e,ey,eb,l⟩
 .subst ey;obtain⟨z,hd,vs,rel,dd⟩:=oi I.hok e;refine call_meetsIn PySem.F.slot_dict_get dd.typeIs PySem.F.entry_dict_get (PySem.F.args_dict_get_3 _ _ _) (meets_dict_get_default (au X.prog X.w) a (jQ ry) hd r) ⟨_,dd.mapOf,h _ _ (I.tok _) ?_⟩;rw[l];exact(rel.val k).getD rd
 .subst ey;cases(show u=Xl b from ry);obtain⟨z,hd,xs,rel,dd⟩:=nG I.hok e;refine call_meetsIn PySem.F.slot_dict_get dd.typeIs PySem.F.entry_dict_get (PySem.F.args_dict_get_3 _ _ _) (meetsH_dict_get_default (tupleKind (au X.prog X.w)) a b hd r) ⟨tupleKind_room_in1 hu,k,xs,gd I.hok eb,dd,h _ _ (I.tok _) ?_⟩;rw[l];exact(rel.val k).getD rd
end
def vT(td ty tx:TE):TE:=λZ H Q=>td Z H λx H1=>∃a,x=.ref a/\IsD H1 a/\ty Z H1 λy H2=>tx Z H2 λz H3=>∃o,DGet H3 a y o/\Q (o.getD z) H3
section
variable{X:Cx}{o f:X7}{apos Aq:Z2}{td ty tx:TE}
theorem wg(hu:X.A.units+1<YJ)(ho:PE X o td)(he:PE X e ty)(hf:PE X f tx)(m:M2 X o "get" apos e f Aq):PE X (.Call (.Attribute o "get" apos) [e,f] [] Aq) (vT td ty tx):=by
 intro U s Z H Q I h;refine wpAny_Call_method m.base m.few m.line PySem.F.plainAttrs_dict PySem.F.slot_dict_get PySem.F.type_dict_get (thn (ho U s Z H _ I h) λu s1⟨x,H1,I1,rx,a,ex,d,q1⟩=>?_);subst ex;obtain rfl:u=Xl a:=rx;obtain⟨t1,t2,_⟩:=aaa I1 d;refine⟨t1,t2,?_⟩;rw[m.trees]
 refine Calls.callWith_builtin rfl (Calls.evalArgs_plain (YE (thn (he U s1 Z H1 _ I1 q1) λiv s2⟨y,H2,I2,ry,q2⟩ =>
  YE (thn (hf U s2 Z H2 _ I2 q2) λfv s3⟨z,H3,I3,rz,ov,g,q3⟩=>Y2 ?_))))
 exact aac hu I3 g ry rz λw' s4 I4 Cv=>⟨_,H3,I4,Cv,q3⟩
end
section
variable{X:Cx}{f':List (Key×V)}
end
section
variable{X:Cx}
end
inductive zE(K:WQ)(T:String)(xs:List V)(H:Hp)(Q:VK):Prop
 |mk (x:_) (b:_) (t:_) (Cg:xs=[x,.ty T]) (Ci:i5 K H x t) (DT:Z6 K t (.type T)=A? b) (EJ:Q (.bl b) H):zE K T xs H Q
def abi(K:WQ)(T:String):List V->Hp->VK->Prop:=zE K T
theorem eE{X:Cx}{T:String}:eT X (.builtin "isinstance") (abi X.K T):=by
 intro U s Z H xs us Q I r h;obtain⟨x,b,t,e,ty,k,q⟩:=h;exact xc (T:=T) (b:=b) (t:=t) U s Z H xs us Q I r ⟨x,e,ty,k,q⟩
theorem wX{J:It}(zs:List α)(p:α->Bool)(f:α->V)(hz:zs.length=xs.length)(hn:xs.length<=1000000)
 (Fb:∀i H2,Same H H2->i<xs.length->J.go i H2) (Bb:∀H2,Same H H2->J.stop xs.length H2) (B8:∀(i:Nat)H2 x H3,Same H H2->i<xs.length->J.yld i H2 x H3->H3=H2/\xs[i]?=A? x)
 (hb:∀(i:Nat)x z H2(R:VK)(R0:Hp->Prop),xs[i]?=A? x->zs[i]?=A? z->Same H H2->(p z=C?->R (f z) H2)->(p z=CV->R0 H2)->g x (cσ js Z) H2 λAx H3=>tt Ax H3 λb H4=>if b=C? then te Ax H4 R else R0 H4)
 (q:∀D,H D=B?->fin D (upd H D (.lst ((zs.filter p).map f)))) :
 ∀D,H D=B?->∃(n:Nat)(W:Nat->Hp->Prop),W 0 (upd H D (.lst []))/\gQ js g tt te Z J D n W λH'=>fin D H':=by
 intro D hD;refine⟨xs.length,λi H2=>i<=xs.length/\H2=upd H D (.lst (((zs.take i).filter p).map f)),⟨Xh _,by simp⟩,?_⟩;rintro i H2 ⟨hi,rfl⟩;have sm:∀o,Same H (upd H D o):=λo=>af hD o;by_cases h:i=xs.length
 .left;subst h;refine⟨Bb _ (sm _),?_⟩;rw[<-hz,Yh];exact q D hD
 .right;have AW:i<xs.length:=by lia
  refine⟨AW,Fb i _ (sm _) AW,λx H1 hy=>?_⟩;obtain⟨rfl,hx⟩:=B8 i _ x H1 (sm _) AW hy;have MZ:i<zs.length:=by lia
  have e1:zs[i]?=A? zs[i]:=WS MZ
  have e2:(zs.take (i+1)).filter p=(zs.take i).filter p++(if p zs[i]=C? then[zs[i]]else[]):=by
   rw[XU,e1,ZA];show _++List.filter p [zs[i]]=_;rw[X0,List.filter_nil]
  have hlen:(((zs.take i).filter p).map f).length<=1000000:=by
   rw[WN];have:=ZE p (zs.take i);rw[XS]at this;lia
  refine hb i x zs[i] _ _ _ hx e1 (sm _) (λhp=>⟨_,ac,Nat.lt_of_le_of_lt hlen (by decide),AW,?_⟩) (λhp=>⟨AW,?_⟩)
  .rw[kK,e2,b! hp,W8];rfl
  .rw[e2,a! (by rw[hp];exact W0),Xs]
theorem ir(zs:List α)(p:α->Bool)(f:α->V)(hS:SqL K H a xs)(hz:zs.length=xs.length)(hn:xs.length<=1000000)
 (hb:∀(i:Nat)x z H2(R:VK)(R0:Hp->Prop),xs[i]?=A? x->zs[i]?=A? z->Same H H2->(p z=C?->R (f z) H2)->(p z=CV->R0 H2)->g x (cσ js Z) H2 λAx H3=>tt Ax H3 λb H4=>if b=C? then te Ax H4 R else R0 H4)
 (q:∀D,H D=B?->fin D (upd H D (.lst ((zs.filter p).map f)))) :
 ∀D,H D=B?->∃(n:Nat)(W:Nat->Hp->Prop),W 0 (upd H D (.lst []))/\gQ js g tt te Z (Itl K a) D n W λH'=>fin D H' :=
 wX zs p f hz hn (λi H2 s hi=>⟨xs,xs[i],s.seq hS,WS hi⟩) (λH2 s=>⟨xs,s.seq hS,WW _⟩) (λi H2 x H3 s hi hy=>⟨hy.1,hy.2 xs (s.seq hS)⟩) hb q
theorem lB:Z6 K (.type "tuple") (.type "tuple")=A? true:=rfl
theorem xE:Z6 K (.type "str") (.type "str")=A? true:=rfl
theorem wm:Z6 K (.type "int") (.type "int")=A? true:=rfl
theorem vV:Z6 K (.type "int") (.type "bool")=A? false:=by with_unfolding_all rfl
end L2
namespace BB
open PySem L2
set_option genInjectivity true in
inductive Dv where
 |int (i:Int)
 |str (x:Xk)
 |tup (ds:List Dv)
mutual
def Dv.deep:Dv->Nat
 |.int _=>0
 |.str _=>0
 |.tup ds=>bB ds+1
def bB:List Dv->Nat
 | []=>0
 |d::ds=>max d.deep (bB ds)
end
mutual
def Dv.tot:Dv->Nat
 |.int _=>1
 |.str _=>1
 |.tup ds=>yb ds+1
def yb:List Dv->Nat
 | []=>0
 |d::ds=>d.tot+yb ds
end
mutual
def DAt(H:Hp):Dv->V->Prop
 |.int i,v=>v=.int i
 |.str x,v=>v=.str x
 |.tup ds,v=>∃a vs,v=.ref a/\H a=A? (.tup vs)/\DAts H ds vs
def DAts(H:Hp):List Dv->List V->Prop
 | [],vs=>vs=[]
 |d::ds,vs=>∃v r,vs=v::r/\DAt H d v/\DAts H ds r
end
theorem DAts.nil:DAts H [] []:=by rw[DAts]
theorem DAts.cons{d:Dv}{ds:List Dv}(h1:DAt H d v)(h2:DAts H ds vs):DAts H (d::ds) (v::vs):=by rw[DAts];exact⟨v,vs,D?,h1,h2⟩
theorem DAts.length:∀{ds:List Dv}{vs:List V},DAts H ds vs->vs.length=ds.length
 | [],vs,h=>by rw[DAts]at h;subst h;rfl
 | d::ds,vs,h=>by
   rw[DAts]at h;obtain⟨v,r,rfl,h1,h2⟩:=h;rw[W2,W2,h2.length]
theorem DAts.at:∀{ds:List Dv}{vs:List V}{i:Nat}{d:Dv},DAts H ds vs->ds[i]?=A? d->∃v,vs[i]?=A? v/\DAt H d v
 | [],vs,i,d,h,e=>by simp at e
 | d0::ds,vs,i,d,h,e=>by
   rw[DAts]at h;obtain⟨v,r,rfl,h1,h2⟩:=h;cases i with
   |zero=>simp at e;subst e;exact⟨v,D?,h1⟩
   | succ i =>
     obtain⟨u,g1,g2⟩:=h2.at (i:=i) (by simpa using e);exact⟨u,by simpa using g1,g2⟩
theorem fQ:∀{ds:List Dv}{i:Nat}{d:Dv},ds[i]?=A? d->d.deep<=bB ds
 | [],i,d,e=>by simp at e
 | d0::ds,i,d,e=>by
   rw[bB];cases i with
   |zero=>simp at e;subst e;lia
   | succ i =>
     have:=fQ (ds:=ds) (i:=i) (by simpa using e);lia
theorem t5:∀{ds:List Dv}{i:Nat}{d:Dv},ds[i]?=A? d->d.tot<=yb ds
 | [],i,d,e=>by simp at e
 | d0::ds,i,d,e=>by
   rw[yb];cases i with
   |zero=>simp at e;subst e;lia
   | succ i =>
     have:=t5 (ds:=ds) (i:=i) (by simpa using e);lia
theorem Dv.tot_pos(d:Dv):1<=d.tot:=by
 cases d with
 |int i=>rw[Dv.tot];lia
 |str x=>rw[Dv.tot];lia
 |tup ds=>rw[Dv.tot];lia
mutual
def Th.dv:Th->Dv
 |.knot n ks=>.tup (.str n::dvs ks)
 |.call s k=>.tup [.str q,.int s,.int k]
def dvs:List Th->List Dv
 | []=>[]
 |t::ts=>t.dv::dvs ts
end
mutual
theorem At.dv:∀{t:Th}{a:WR},At H t a->DAt H t.dv (.ref a)
 | .knot n ks,a,h=>by
   rw[At]at h;obtain⟨_,as,h1,h2⟩:=h;rw[Th.dv,DAt];exact⟨a,_,D?,h1,.cons (by rw[DAt]) (Ats.dvs h2)⟩
 | .call s k,a,h=>by
   rw[At]at h;rw[Th.dv,DAt];exact⟨a,_,D?,h,.cons (by rw[DAt]) (.cons (by rw[DAt]) (.cons (by rw[DAt]) .nil))⟩
theorem Ats.dvs:∀{ts:List Th}{as:List WR},Ats H ts as->DAts H (dvs ts) (as.map i!)
 | [],as,h=>by rw[Ats]at h;subst h;rw[BB.dvs];exact .nil
 | t::ts,as,h=>by
   rw[Ats]at h;obtain⟨a,r,rfl,h1,h2⟩:=h;rw[BB.dvs,Xx];exact .cons (At.dv h1) (Ats.dvs h2)
end
mutual
theorem Th.dv_deep:∀t:Th,t.dv.deep<=t.tall
 | .knot n ks=>by
   have:=jk ks;rw[Th.dv,Dv.deep,bB,Dv.deep,t!];lia
 |.call s k=>by rw[Th.dv,t!];simp[Dv.deep,bB]
theorem jk:∀ts:List Th,bB (dvs ts)<=aP ts
 | []=>by rw[dvs,bB];exact Xh _
 | t::ts=>by
   have:=t.dv_deep;have:=jk ts;rw[dvs,bB,aP];lia
end
theorem sE{ys:List V}{Q:VK}(ha:H a=A? (.tup xs))(hb:H b=A? (.tup ys))(hz:xs.length+ys.length<=1000000)(q:∀p H',j! H H'->H' p=A? (.tup (xs++ys))->Q (.ref p) H'):pH K (.ref a) (.ref b) H Q:=by
 refine⟨a,b,xs,ys,D?,D?,l! ha,l! hb,cT hz,λe=>?_,λ_ e=>?_,λ_ _ p hp=>?_⟩
 .exact q b H (.refl _) (by rw[e];exact hb)
 .exact q a H (.refl _) (by rw[e,Xs];exact ha)
 .exact q p _ (af hp _) ac
mutual
def Th.pl(pre:List Int):Th->List (List Int×Th)
 |.knot n ks=>(pre,.knot n ks)::pls pre 0 ks
 |.call s k=>[(pre,.call s k)]
def pls(pre:List Int)(i:Int):List Th->List (List Int×Th)
 | []=>[]
 |t::ts=>t.pl (pre++[i])++pls pre (i+1) ts
end
theorem Th.pl_eq(pre:List Int)(t:Th):t.pl pre=(pre,t)::pls pre 0 t.kids:=by
 cases t with
 |knot n ks=>rw[Th.pl];rfl
 |call s k=>rw[Th.pl];simp[K!,pls]
mutual
theorem Th.pl_len(pre:List Int):∀t:Th,(t.pl pre).length=t.size
 |.knot n ks=>by rw[Th.pl,q!,W2,uI pre 0 ks]
 |.call s k=>by rw[Th.pl,q!];rfl
theorem uI(pre:List Int)(i:Int):∀ts:List Th,(pls pre i ts).length=ao ts
 | []=>by rw[pls,ao];rfl
 |t::ts=>by rw[pls,ao,Xd,Th.pl_len _ t,uI pre (i+1) ts]
end
def szP:List (List Int×Th)->Nat
 | []=>0
 |p::ps=>p.2.size+szP ps
def plP:List (List Int×Th)->List (List Int×Th)
 | []=>[]
 |p::ps=>p.2.pl p.1++plP ps
theorem cG:∀a b,szP (a++b)=szP a+szP b
 | [],b=>by simp[szP]
 |p::a,b=>by rw[Yo,szP,szP,cG a b,Nat.add_assoc]
theorem kL(a:List (List Int×Th)):szP a.reverse=szP a:=by
 induction a with
 |nil=>rfl
 |cons x xs ih=>rw[X8,cG,ih,szP,szP,szP];lia
theorem ld:∀a b,plP (a++b)=plP a++plP b
 | [],b=>by simp[plP]
 |p::a,b=>by rw[Yo,plP,plP,ld a b,XJ]
theorem tD:∀a,(plP a).length=szP a
 | []=>rfl
 |p::a=>by rw[plP,szP,Xd,Th.pl_len,tD a]
theorem oJ:∀a,a.length<=szP a
 | []=>Xh _
 | p::a=>by
   have:=p.2.size_pos;have:=oJ a;rw[W2,szP];lia
def cX(pre:List Int)(i:Int):List Th->List (List Int×Th)
 | []=>[]
 |t::ts=>(pre++[i],t)::cX pre (i+1) ts
theorem gP(pre:List Int)(i:Int):∀ts,(cX pre i ts).length=ts.length
 | []=>rfl
 |t::ts=>by rw[cX,W2,W2,gP pre (i+1) ts]
theorem qt(pre:List Int)(i:Int):∀ts,plP (cX pre i ts)=pls pre i ts
 | []=>by rw[cX,plP,pls]
 |t::ts=>by rw[cX,plP,pls,qt pre (i+1) ts]
theorem iV(pre:List Int)(i:Int):∀ts,szP (cX pre i ts)=ao ts
 | []=>by rw[cX,szP,ao]
 |t::ts=>by rw[cX,szP,ao,iV pre (i+1) ts]
theorem lm(pre:List Int):∀(i:Int)(ts:List Th)(j:Nat)(t:Th),ts[j]?=A? t->(cX pre i ts)[j]?=A? (pre++[i+j],t)
 |i,[],j,t,e=>by simp at e
 |i,u::ts,0,t,e=>by simp at e;subst e;rw[cX];simp
 | i,u::ts,j+1,t,e=>by
   rw[cX,Z8,lm pre (i+1) ts j t (by simpa using e)];have:i+1+(j:Int)=i+((j+1:Nat):Int):=by lia
   rw[this]
theorem mh(pre:List Int):∀(i:Int)(ts:List Th)(p:List Int×Th),p∈cX pre i ts->p.1.length=pre.length+1/\p.2∈ts
 |i,[],p,h=>by rw[cX]at h;cases h
 | i,u::ts,p,h=>by
   rw[cX]at h;rcases W7.mp h with rfl|h
   .exact⟨by simp,Xe ..⟩
   .have:=mh pre (i+1) ts p h;exact⟨this.1,Xb _ this.2⟩
theorem P2.reverse:∀{a:List α}{b:List β},Xp F a b->Xp F a.reverse b.reverse
 |_,_,.nil=>.nil
 | _,_,.cons r t=>by
   rw[X8,X8];exact r! (P2.reverse t) (.cons r .nil)
theorem P2.snoc_inv{a:List α}{b:List β}{y:β}(h:Xp F a (b++[y])):∃us x,a=us++[x]/\Xp F us b/\F x y:=by
 have r:=P2.reverse h;rw[YD,List.reverse_singleton,List.singleton_append]at r;cases e:a.reverse with
 |nil=>rw[e]at r;cases r
 | cons x us =>
   rw[e]at r;cases r with
   | cons h1 h2 =>
     refine⟨us.reverse,x,?_,?_,h1⟩
     .rw[<-X8,<-e,Y4]
     .have:=P2.reverse h2;rw[Y4]at this;exact this
theorem oQ{t u:Th}(h:u∈t.kids):u.tall+1<=t.tall:=by
 have:=ce h;rw[t.tall_eq];lia
def Th.sub:Th->List Int->Option Th
 |t,[]=>A? t
 |t,i::r=>if 0<=i then(match t.kids[i.toNat]? with|some u=>u.sub r|none=>B?)else B?
termination_by _ p=>p.length
theorem f6(t:Th):t.sub []=A? t:=by rw[Th.sub]
theorem pS{t u:Th}{i:Int}{r:List Int}(h0:0<=i)(h:t.kids[i.toNat]?=A? u):t.sub (i::r)=u.sub r:=by rw[Th.sub,b! h0,h]
mutual
theorem xQ:∀(t:Th)(pre p:List Int)(u:Th),(p,u)∈t.pl pre->∃r,p=pre++r/\t.sub r=A? u/\r.length+u.tall<=t.tall/\u.size<=t.size
 | .knot n ks,pre,p,u,h=>by
   rw[Th.pl]at h;rcases W7.mp h with e|h
   .cases e;exact⟨[],by simp,f6 _,by simp,WW _⟩
   .obtain⟨j,v,r,h1,rfl,h3,h4,h5,h6,h7⟩:=uo ks pre 0 p u h;refine⟨(0+(j:Int))::r,by simp,?_,?_,?_⟩
    .rw[pS (u:=v) (by lia) (by rw[show(0+(j:Int)).toNat=j by lia];exact h1)];exact h3
    .rw[t!,W2];lia
    .rw[q!];lia
 | .call s k,pre,p,u,h=>by
   rw[Th.pl]at h;have e:(p,u)=(pre,z! s k):=by simpa using h
   cases e;exact⟨[],by simp,f6 _,by simp,WW _⟩
theorem uo:∀(ts:List Th)(pre:List Int)(i:Int)(p:List Int)(u:Th),(p,u)∈pls pre i ts->∃(j:Nat)(v:Th)(r:List Int),ts[j]?=A? v/\p=pre++(i+(j:Int))::r/\v.sub r=A? u/\r.length+u.tall<=v.tall/\v.tall<=aP ts/\u.size<=v.size/\v.size<=ao ts
 | [],pre,i,p,u,h=>by rw[pls]at h;cases h
 | t::ts,pre,i,p,u,h=>by
   rw[pls]at h;rcases XA.mp h with h|h
   .obtain⟨r,rfl,h1,h2,h3⟩:=xQ t (pre++[i]) p u h;exact⟨0,t,r,D?,by simp,h1,h2,by rw[aP];lia,h3,by rw[ao];lia⟩
   .obtain⟨j,v,r,h1,rfl,h3,h4,h5,h6,h7⟩:=uo ts pre (i+1) p u h;refine⟨j+1,v,r,by simpa using h1,?_,h3,h4,by rw[aP];lia,h6,by rw[ao];lia⟩;have:i+1+(j:Int)=i+((j+1:Nat):Int):=by lia
    rw[this]
end
theorem aZ:∀{ts:List Th}{t:Th},t∈ts->t.size<=ao ts
 | u::ts,t,h=>by
   rw[ao];rcases W7.mp h with rfl|h
   .lia
   .have:=aZ h;lia
theorem sf(n:Nat)(ts:List Th):ao (ts.take n)<=ao ts:=by
 have h:=bC (ts.take n) (ts.drop n);rw[Zf]at h;lia
theorem pA:∀ns:List Int,DAts H (ns.map Dv.int) (ns.map p!)
 | []=>.nil
 | n::ns=>by
   rw[Xx,Xx];exact .cons (by rw[DAt]) (pA ns)
theorem nC:∀ns:List Int,bB (ns.map Dv.int)=0
 | []=>by rw[YS,bB]
 |n::ns=>by rw[Xx,bB,nC ns,Dv.deep];rfl
end BB
open BB.Th renaming pl->B!,pl_len->D!
variable{ds:List BB.Dv}
namespace BB
open PySem L2
mutual
def Th.kn:Th->Nat
 |.knot _ ks=>kns ks+1
 |.call _ _=>0
def kns:List Th->Nat
 | []=>0
 |t::ts=>t.kn+kns ts
end
section
variable{ext:Th->List V}{t:Th}{es:List WR}
end
def Th.isCall:Th->Bool
 |.knot _ _=>CV
 |.call _ _=>C?
def oM:List Int×Th->Option (List Int×Int×Int)
 |(_,.knot _ _)=>B?
 |(p,.call s k)=>A? (p,s,k)
def callsOf(ps:List (List Int×Th)):List (List Int×Int×Int):=ps.filterMap oM
theorem eL(a b:List (List Int×Th)):callsOf (a++b)=callsOf a++callsOf b:=List.filterMap_append
theorem ku(a:List (List Int×Th)):(callsOf a).length<=a.length:=List.length_filterMap_le _ _
def CAt(H:Hp)(c:List Int×Int×Int)(a:WR):Prop:=∃pa ca,H a=A? (.tup [.ref pa,.ref ca])/\H pa=A? (.tup (c.1.map p!))/\H ca=A? (.tup [.int c.2.1,.int c.2.2])
def CsAt(H:Hp)(cs:List (List Int×Int×Int))(as:List WR):Prop:=Xp (CAt H) cs as
theorem CAt.mono(k:KT H H'){c:List Int×Int×Int}(h:CAt H c a):CAt H' c a:=by
 obtain⟨pa,ca,h1,h2,h3⟩:=h;exact⟨pa,ca,k _ _ h1,k _ _ h2,k _ _ h3⟩
theorem CsAt.mono(k:KT H H'){cs:List (List Int×Int×Int)}(h:CsAt H cs as):CsAt H' cs as:=x! (λ_ _ e=>CAt.mono k e) h
def TK(K:WQ)(H:Hp)(a:WR)(xs:List V):Prop:=H a=A? (.tup xs)\/∃(o:Zb)(its:Array WU)(n:Nat),K.lookup a=A? o/\o.cls=.type "tuple"/\o.data=.seq its n/\its.size<=Xg/\Vals xs its.toList
theorem TK.of(h:H a=A? (.tup xs)):TK K H a xs:=.inl h
theorem TK.sq(h:TK K H a xs):SqT K H a xs:=by
 rcases h with h|h
 .exact l! h
 .exact .inr h
theorem TK.mono(h:TK K H a xs)(k:KT H H'):TK K H' a xs:=by
 rcases h with h|h
 .exact .inl (k _ _ h)
 .exact .inr h
mutual
def DAtK(K:WQ)(H:Hp):Dv->V->Prop
 |.int i,v=>v=.int i
 |.str x,v=>v=.str x
 |.tup ds,v=>∃a vs,v=.ref a/\TK K H a vs/\DAtsK K H ds vs
def DAtsK(K:WQ)(H:Hp):List Dv->List V->Prop
 | [],vs=>vs=[]
 |d::ds,vs=>∃v r,vs=v::r/\DAtK K H d v/\DAtsK K H ds r
end
theorem DAtsK.nil:DAtsK K H [] []:=by rw[DAtsK]
theorem DAtsK.cons{d:Dv}(h1:DAtK K H d v)(h2:DAtsK K H ds vs):DAtsK K H (d::ds) (v::vs):=by rw[DAtsK];exact⟨v,vs,D?,h1,h2⟩
theorem DAtsK.length:∀{ds:List Dv}{vs:List V},DAtsK K H ds vs->vs.length=ds.length
 | [],vs,h=>by rw[DAtsK]at h;subst h;rfl
 | d::ds,vs,h=>by
   rw[DAtsK]at h;obtain⟨v,r,rfl,h1,h2⟩:=h;rw[W2,W2,h2.length]
theorem DAtsK.at:∀{ds:List Dv}{vs:List V}{i:Nat}{d:Dv},DAtsK K H ds vs->ds[i]?=A? d->∃v,vs[i]?=A? v/\DAtK K H d v
 | [],vs,i,d,h,e=>by simp at e
 | d0::ds,vs,i,d,h,e=>by
   rw[DAtsK]at h;obtain⟨v,r,rfl,h1,h2⟩:=h;cases i with
   |zero=>simp at e;subst e;exact⟨v,D?,h1⟩
   | succ i =>
     obtain⟨u,g1,g2⟩:=h2.at (i:=i) (by simpa using e);exact⟨u,by simpa using g1,g2⟩
mutual
theorem DAt.k:∀{d:Dv}{v:V},DAt H d v->DAtK K H d v
 |.int i,v,h=>by rw[DAt]at h;rw[DAtK];exact h
 |.str x,v,h=>by rw[DAt]at h;rw[DAtK];exact h
 | .tup ds,v,h=>by
   rw[DAt]at h;rw[DAtK];obtain⟨a,vs,e,h1,h2⟩:=h;exact⟨a,vs,e,.of h1,DAts.k h2⟩
theorem DAts.k:∀{ds:List Dv}{vs:List V},DAts H ds vs->DAtsK K H ds vs
 | [],vs,h=>by rw[DAts]at h;rw[DAtsK];exact h
 | d::ds,vs,h=>by
   rw[DAts]at h;rw[DAtsK];obtain⟨v,r,e,h1,h2⟩:=h;exact⟨v,r,e,DAt.k h1,DAts.k h2⟩
end
mutual
theorem DAtK.inj{X:Cx}(I:Inv X U Z H s):∀{d e:Dv}{v:V},DAtK X.K H d v->DAtK X.K H e v->d=e
 |.int i,.int j,v,h,g=>by rw[DAtK]at h;rw[DAtK]at g;rw[h]at g;cases g;rfl
 |.int i,.str y,v,h,g=>by rw[DAtK]at h;rw[DAtK]at g;rw[h]at g;cases g
 |.int i,.tup es,v,h,g=>by rw[DAtK]at h;rw[DAtK]at g;obtain⟨a,vs,e,_⟩:=g;rw[h]at e;cases e
 |.str x,.int j,v,h,g=>by rw[DAtK]at h;rw[DAtK]at g;rw[h]at g;cases g
 |.str x,.str y,v,h,g=>by rw[DAtK]at h;rw[DAtK]at g;rw[h]at g;cases g;rfl
 |.str x,.tup es,v,h,g=>by rw[DAtK]at h;rw[DAtK]at g;obtain⟨a,vs,e,_⟩:=g;rw[h]at e;cases e
 |.tup ds,.int j,v,h,g=>by rw[DAtK]at h;rw[DAtK]at g;obtain⟨a,vs,e,_⟩:=h;rw[e]at g;cases g
 |.tup ds,.str y,v,h,g=>by rw[DAtK]at h;rw[DAtK]at g;obtain⟨a,vs,e,_⟩:=h;rw[e]at g;cases g
 | .tup ds,.tup es,v,h,g=>by
   rw[DAtK]at h;rw[DAtK]at g;obtain⟨a,vs,e1,h1,h2⟩:=h;obtain⟨b,ws,e2,g1,g2⟩:=g;rw[e1]at e2;cases e2;have e3:=I.tuple_inj h1.sq g1.sq;subst e3;rw[DAtsK.inj I h2 g2]
theorem DAtsK.inj{X:Cx}(I:Inv X U Z H s):∀{ds es:List Dv}{vs:List V},DAtsK X.K H ds vs->DAtsK X.K H es vs->ds=es
 | [],[],vs,h,g=>rfl
 | [],e::es,vs,h,g=>by rw[DAtsK]at h;rw[DAtsK]at g;obtain⟨v,r,z,_⟩:=g;rw[h]at z;cases z
 |d::ds,[],vs,h,g=>by rw[DAtsK]at h;rw[DAtsK]at g;obtain⟨v,r,z,_⟩:=h;rw[g]at z;cases z
 | d::ds,e::es,vs,h,g=>by
   rw[DAtsK]at h;rw[DAtsK]at g;obtain⟨v,r,z,h1,h2⟩:=h;obtain⟨v',r',z',g1,g2⟩:=g;rw[z]at z';cases z';rw[DAtK.inj I h1 g1,DAtsK.inj I h2 g2]
end
end BB
namespace L2
open PySem PySem.Spec PySem.SeqAt PyProof.Rows BB
open Classical in
theorem iO[DecidableEq α]{Ai:List WU}{ds es:List α}(p1:s.1.IsTuple a its.toArray)(p2:s.1.IsTuple b Ai.toArray)(l1:its.length=ds.length)(l2:Ai.length=es.length)(hu:A.units<YJ)
 (ih:∀(j:Nat)(d e:α)(u v:WU),ds[j]?=A? d->es[j]?=A? e->its[j]?=A? u->Ai[j]?=A? v->EqAt A.in1 s u v (decide (d=e))):RcAt A s (.ref a) (.ref b) (decide (ds=es)):=by
 have Nh:RcAt A s (.ref a) (.ref b) ((Xq (min its.toArray.size Ai.toArray.size)).all (λj=>decide (ds[j]?=es[j]?)) && its.toArray.size == Ai.toArray.size):=by
  refine RcAt.tuples p1 p2 hu λj h1 h2=>?_;have EN:j<ds.length:=by rw[<-l1];simpa using h1
  have DW:j<es.length:=by rw[<-l2];simpa using h2
  have e1:ds[j]?=A? ds[j]:=WS EN;have e2:es[j]?=A? es[j]:=WS DW;have e3:decide (ds[j]?=es[j]?)=decide (ds[j]=es[j]):=by rw[e1,e2];simp
  have g1:its[j]?=A? its[j]:=WS (by rw[l1];exact EN);have g2:Ai[j]?=A? Ai[j]:=WS (by rw[l2];exact DW);rw[e3];exact ih j ds[j] es[j] its[j] Ai[j] e1 e2 g1 g2
 have e:decide (ds=es)=((Xq (min its.toArray.size Ai.toArray.size)).all (λj=>decide (ds[j]?=es[j]?)) && its.toArray.size == Ai.toArray.size):=by
  rw[W4,W4,l1,l2];by_cases h:ds=es
  .subst h;rw[d! rfl];symm;simp
  .rw[c! h];symm;by_cases hl:ds.length=es.length
   .rw[hl,Nat.min_self]
    have:¬((Xq es.length).all (λj=>decide (ds[j]?=es[j]?)))=true:=by
     intro z;apply h;apply List.ext_getElem?;intro j;by_cases hj:j<es.length
     .exact e! (List.all_eq_true.mp z j (YZ.mpr hj))
     .rw[YX (by lia),YX (by lia)]
    rw[Yj.mpr this];rfl
   .have:(ds.length == es.length)=false:=by simpa using hl
    rw[this,Bool.and_false]
 rw[e];exact Nh
open Classical in
theorem nM{X:Cx}(I:Inv X U Z H s){es:List Dv}{ws:List V}(ha:SqT X.K H a vs)(hb:SqT X.K H b ws)(C6:DAtsK X.K H ds vs)(hws:DAtsK X.K H es ws)(hu:A.units<YJ)
 (ih:∀(j:Nat)(d e:Dv)(x y:V)(u v:WU),ds[j]?=A? d->DAtK X.K H d x->DAtK X.K H e y->RelV x u->RelV y v->EqAt A.in1 s u v (decide (d=e))):RcAt A s (.ref a) (.ref b) (decide (Dv.tup ds=Dv.tup es)):=by
 obtain⟨its,r1,p1,_⟩:=I.tuple ha;obtain⟨Ai,r2,p2,_⟩:=I.tuple hb;rw[show decide (Dv.tup ds=Dv.tup es)=decide (ds=es)from decide_eq_decide.mpr ⟨λz=>Dv.tup.inj z,λz=>h! _ z⟩];refine iO (show s.1.IsTuple a its.toArray from p1) (show s.1.IsTuple b Ai.toArray from p2) (by rw[<-r1.length,C6.length]) (by rw[<-r2.length,hws.length]) hu λj d e u v e1 e2 e3 e4=>?_;obtain⟨x',A7,dx⟩:=C6.at e1;obtain⟨y',Dz,dy⟩:=hws.at e2;obtain⟨u',BV,GQ⟩:=r1.get A7;obtain⟨v',AU,DC⟩:=r2.get Dz;rw[BV]at e3;rw[AU]at e4;cases e3;cases e4;exact ih j d e x' y' _ _ e1 dx dy GQ DC
open Classical in
theorem mx{X:Cx}(I:Inv X U Z H s):∀(n:Nat)(d e:Dv),d.tot<=n->∀(x y:V)(u v:WU)(A:XG),DAtK X.K H d x->DAtK X.K H e y->RelV x u->RelV y v->A.units+d.deep<YJ->EqAt A s u v (decide (d=e))
 |0,d,e,hn,x,y,u,v,A,hd,he,ru,rv,hu=>by have:=d.tot_pos;lia
 | n+1,.int i,.int j,hn,x,y,u,v,A,hd,he,ru,rv,hu=>by
   rw[DAtK]at hd;rw[DAtK]at he;subst hd he;obtain⟨t,rfl⟩:=ru;obtain⟨t',rfl⟩:=rv
   have e:decide (Dv.int i=Dv.int j)=(i == j):=by
    by_cases h:i=j
    .subst h;simp
    .rw[c! (λz=>h (Dv.int.inj z))];simp[h]
   rw[e];exact EqAt.int_int i t j t'
 | n+1,.int i,.str b,hn,x,y,u,v,A,hd,he,ru,rv,hu=>by
   rw[DAtK]at hd;rw[DAtK]at he;subst hd he;obtain⟨t,rfl⟩:=ru;obtain⟨t',rfl⟩:=rv;rw[c! (λz=>by cases z)];exact EqAt.int_str i t b t'
 | n+1,.int i,.tup es,hn,x,y,u,v,A,hd,he,ru,rv,hu=>by
   rw[DAtK]at hd;rw[DAtK]at he;obtain⟨a,vs,rfl,ha,_⟩:=he;subst hd;obtain⟨t,rfl⟩:=ru;cases rv;obtain⟨its,_,p,_⟩:=I.tuple (ha.sq);rw[c! (λz=>by cases z)];exact EqAt.int_tuple i t (show s.1.IsTuple a its.toArray from p) (by lia)
 | n+1,.str b,.int j,hn,x,y,u,v,A,hd,he,ru,rv,hu=>by
   rw[DAtK]at hd;rw[DAtK]at he;subst hd he;obtain⟨t,rfl⟩:=ru;obtain⟨t',rfl⟩:=rv;rw[c! (λz=>by cases z)];exact EqAt.str_int b t j t'
 | n+1,.str b,.str c,hn,x,y,u,v,A,hd,he,ru,rv,hu=>by
   rw[DAtK]at hd;rw[DAtK]at he;subst hd he;obtain⟨t,rfl⟩:=ru;obtain⟨t',rfl⟩:=rv
   have e:decide (Dv.str b=Dv.str c)=(b == c):=by
    by_cases h:b=c
    .subst h;simp
    .rw[c! (λz=>h (Dv.str.inj z))];simp[h]
   rw[e];exact EqAt.str_str b t c t'
 | n+1,.str b,.tup es,hn,x,y,u,v,A,hd,he,ru,rv,hu=>by
   rw[DAtK]at hd;rw[DAtK]at he;obtain⟨a,vs,rfl,ha,_⟩:=he;subst hd;obtain⟨t,rfl⟩:=ru;cases rv;obtain⟨its,_,p,_⟩:=I.tuple (ha.sq);rw[c! (λz=>by cases z)];exact EqAt.str_tuple b t (show s.1.IsTuple a its.toArray from p) (by lia)
 | n+1,.tup ds,.int j,hn,x,y,u,v,A,hd,he,ru,rv,hu=>by
   rw[DAtK]at hd;rw[DAtK]at he;obtain⟨a,vs,rfl,ha,_⟩:=hd;subst he;cases ru;obtain⟨t,rfl⟩:=rv;obtain⟨its,_,p,_⟩:=I.tuple (ha.sq);rw[c! (λz=>by cases z)];exact EqAt.tuple_int j t (show s.1.IsTuple a its.toArray from p) (by lia)
 | n+1,.tup ds,.str b,hn,x,y,u,v,A,hd,he,ru,rv,hu=>by
   rw[DAtK]at hd;rw[DAtK]at he;obtain⟨a,vs,rfl,ha,_⟩:=hd;subst he;cases ru;obtain⟨t,rfl⟩:=rv;obtain⟨its,_,p,_⟩:=I.tuple (ha.sq);rw[c! (λz=>by cases z)];exact EqAt.tuple_str b t (show s.1.IsTuple a its.toArray from p) (by lia)
 | n+1,.tup ds,.tup es,hn,x,y,u,v,A,hd,he,ru,rv,hu=>by
   have F8:=hd;have Tj:=he;rw[DAtK]at hd;rw[DAtK]at he;obtain⟨a,vs,rfl,ha,C6⟩:=hd;obtain⟨b,ws,rfl,hb,hws⟩:=he;cases ru;cases rv;by_cases Cm:a=b
   .subst Cm;rw[d! (DAtK.inj I F8 Tj)];exact EqAt.same _
   rw[Dv.tot]at hn;rw[Dv.deep]at hu;refine EqAt.of_refs Cm (nM I ha.sq hb.sq C6 hws (by lia) λj d e x' y' u' v' e1 dx dy GQ DC=>?_);have q1:=t5 e1;have q2:=fQ e1;refine mx I n d e (by lia) x' y' u' v' A.in1 dx dy GQ DC ?_;show A.units+1+_<YJ;lia
end L2
namespace BB
open PySem PySem.Spec PyProof.Rows L2
mutual
theorem DAt.inj:∀{d e:Dv}{v:V},DAt H d v->DAt H e v->d=e
 |.int i,.int j,v,h,g=>by rw[DAt]at h;rw[DAt]at g;rw[h]at g;cases g;rfl
 |.int i,.str y,v,h,g=>by rw[DAt]at h;rw[DAt]at g;rw[h]at g;cases g
 |.int i,.tup es,v,h,g=>by rw[DAt]at h;rw[DAt]at g;obtain⟨a,vs,e,_⟩:=g;rw[h]at e;cases e
 |.str x,.int j,v,h,g=>by rw[DAt]at h;rw[DAt]at g;rw[h]at g;cases g
 |.str x,.str y,v,h,g=>by rw[DAt]at h;rw[DAt]at g;rw[h]at g;cases g;rfl
 |.str x,.tup es,v,h,g=>by rw[DAt]at h;rw[DAt]at g;obtain⟨a,vs,e,_⟩:=g;rw[h]at e;cases e
 |.tup ds,.int j,v,h,g=>by rw[DAt]at h;rw[DAt]at g;obtain⟨a,vs,e,_⟩:=h;rw[e]at g;cases g
 |.tup ds,.str y,v,h,g=>by rw[DAt]at h;rw[DAt]at g;obtain⟨a,vs,e,_⟩:=h;rw[e]at g;cases g
 | .tup ds,.tup es,v,h,g=>by
   rw[DAt]at h;rw[DAt]at g;obtain⟨a,vs,e1,h1,h2⟩:=h;obtain⟨b,ws,e2,g1,g2⟩:=g;rw[e1]at e2;cases e2;rw[h1]at g1;cases g1;rw[DAts.inj h2 g2]
theorem DAts.inj:∀{ds es:List Dv}{vs:List V},DAts H ds vs->DAts H es vs->ds=es
 | [],[],vs,h,g=>rfl
 | [],e::es,vs,h,g=>by rw[DAts]at h;rw[DAts]at g;obtain⟨v,r,z,_⟩:=g;rw[h]at z;cases z
 |d::ds,[],vs,h,g=>by rw[DAts]at h;rw[DAts]at g;obtain⟨v,r,z,_⟩:=h;rw[g]at z;cases z
 | d::ds,e::es,vs,h,g=>by
   rw[DAts]at h;rw[DAts]at g;obtain⟨v,r,z,h1,h2⟩:=h;obtain⟨v',r',z',g1,g2⟩:=g;rw[z]at z';cases z';rw[DAt.inj h1 g1,DAts.inj h2 g2]
end
end BB
namespace L2
open PySem PySem.Spec PySem.SeqAt PyProof.Rows BB
open Classical in
theorem ph{X:Cx}(I:Inv X U Z H s):∀(n:Nat)(d e:Dv),d.tot<=n->∀(x y:V)(u v:WU)(A:XG),DAt H d x->DAt H e y->RelV x u->RelV y v->A.units+d.deep<YJ->EqAt A s u v (decide (d=e)):=λn d e hn x y u v A hd he=>mx I n d e hn x y u v A hd.k he.k
def yo(K:WQ)(B:Nat):R2:=λx y H Q=>∃b ws d es,y=.ref b/\SqT K H b ws/\DAt H d x/\DAts H es ws/\bB es<=B/\∀r:Bool,(r=C?↔d∉es)->Q (.bl r) H
open Classical in
theorem uZ{X:Cx}(hu:X.A.units+B+2<YJ):OpR X (Zt .NotIn) (yo X.K B):=by
 intro U s Z H x y v u Q I rx ry h;obtain⟨b,ws,d,es,rfl,hb,hd,hws,hB,q⟩:=h;cases ry;obtain⟨its,r1,p1,_⟩:=I.tuple hb
 have key:∀(j:Nat)(z:WU),its[j]?=A? z->∃e y',es[j]?=A? e/\DAt H e y'/\RelV y' z:=by
  intro j z hz;have hj:j<its.length:=(glE hz);have l1:=r1.length;have l2:=hws.length;have Ig:j<es.length:=by lia
  obtain⟨y',Dz,dy⟩:=hws.at (WS Ig);obtain⟨v',AU,DC⟩:=r1.get Dz;rw[hz]at AU;cases AU;exact⟨_,y',WS Ig,dy,DC⟩
 have uniq:∀(z:WU)(e e':Dv)(y' Ed:V),DAt H e y'->RelV y' z->DAt H e' Ed->RelV Ed z->e=e':=by
  intro z e e' y' Ed h1 h2 h3 h4;have:=h2.inj h4;subst this;exact h1.inj h3
 refine notIn_tupleAt (λz=>decide (∃y',DAt H d y'/\RelV y' z)) (show s.1.IsTuple b its.toArray from p1) (λz hz=>?_) ⟨.bl _,H,I,rfl,q _ ?_⟩
 .obtain⟨j,hj⟩:=Xi.mp (show z∈its by simpa using hz);obtain⟨e,y',he,dy,ry⟩:=key j z hj;have hq:=fQ he
  have e3:decide (∃y',DAt H d y'/\RelV y' z)=decide (e=d):=by
   by_cases h:e=d
   .rw[d! h,d! ⟨y',h ▸ dy,ry⟩]
   .rw[c! h,c!];rintro⟨Ed,h1,h2⟩;exact h (uniq z e d y' Ed dy ry h1 h2)
  rw[e3];refine ph I _ e d (WW _) y' x z v X.A.in1 dy hd ry rx ?_;show X.A.units+1+_<YJ;lia
 .rw[Bool.not_eq_true',<-Bool.not_eq_true];refine not_congr ?_;constructor
  .intro z;obtain⟨v',h1,h2⟩:=Array.any_eq_true'.mp z;obtain⟨j,hj⟩:=Xi.mp (show v'∈its by simpa using h1);obtain⟨e,y',he,dy,ry⟩:=key j v' hj;obtain⟨Ed,h3,h4⟩:=e! h2;rw[<-uniq v' e d y' Ed dy ry h3 h4];exact WT he
  .intro z;obtain⟨j,hj⟩:=Xi.mp z;obtain⟨y',Dz,dy⟩:=hws.at hj;obtain⟨v',AU,DC⟩:=r1.get Dz;refine Array.any_eq_true'.mpr ⟨v',?_,d! ⟨y',dy,DC⟩⟩;have:=WT AU;simpa using this
end L2
namespace BB
open PySem L2
theorem tN{t u:Th}{i:Int}{r:List Int}(h:t.sub (i::r)=A? u):0<=i/\∃w,t.kids[i.toNat]?=A? w/\w.sub r=A? u:=by
 rw[Th.sub]at h;split at h
 .rename_i h0
  split at h
  .rename_i w hw
   exact⟨h0,w,hw,h⟩
  .cases h
 .cases h
theorem Ats.set:∀{ts:List Th}{as:List WR}(i:Nat){x:Th}{a:WR},Ats H ts as->At H x a->Ats H (ts.set i x) (as.set i a)
 | [],as,i,x,a,h,g=>by rw[Ats]at h;subst h;exact .nil
 | t::ts,as,i,x,a,h,g=>by
   rw[Ats]at h;obtain⟨b,r,rfl,h1,h2⟩:=h;cases i with
   |zero=>exact .cons g h2
   |succ i=>exact .cons h1 (Ats.set i h2 g)
end BB
namespace PySem
theorem bb_extendT(l:WR)(items:Array WU)(n:Nat)(b:WR)(BH:Array WU)(n2:Nat)(dd:Option WR)(sl:Array (Option WU))(g0:¬(!items.isEmpty && Zo (items.size+BH.size))=C?)(g1:items.size<=Xg)(g2:items.size+BH.size<=Xg+1) :
 Meets (Zq.«list.extend» ⟨[.ref l,.ref b],[]⟩) (λ_ R s=>s.1.get? l=A? {cls:=.type "list",dict:=B?,data:=.seq items n,slots:=#[]}/\s.1.get? b=A? {cls:=.type "tuple",dict:=dd,data:=.seq BH n2,slots:=sl}/\R (.ok (.ret Yp)) {s with heap:=s.1.update l (Yg λx=>x++BH),toks:=s.toks}) :=
 .of_wp λprog w A R s h=>by
  obtain⟨hp,g,d,tk,os⟩:=s;obtain⟨hl,hb,h⟩:=h;have f1:=AutoSeq1.idx_int;have f2:=AutoSeq1.sub_tuple_tuple;have f3:=AutoSeq1.sub_list_list;have f4:=AutoSeq1.sub_tuple_list;have f5:=AutoSeq1.sub_list_tuple;have z2:(items++BH).size<=Xg+1:=by rw[Array.size_append];exact g2
  wp_walk using(YU hl rfl (hz:=g1) (_hz':=z2)),Zr hl,Zr hb
  exact⟨_,D?,h⟩
end PySem
namespace L2
open PySem PySem.Spec PyProof.Rows
section
variable{X:Cx}
def xT(K:WQ):V->List V->Hp->VK->Prop:=λx vs H Q=>∃l b xs zs,x=.ref l/\vs=[.ref b]/\H l=A? (.lst xs)/\SqT K H b zs/\xs.length+zs.length<=Xg/\Q .non (upd H l (.lst (xs++zs)))
theorem rN:MtM X "list.extend" (xT X.K):=by
 intro U s Z H x vs v us Q I rx rv h;obtain⟨l,b,xs,zs,rfl,rfl,hH,hB,hz,q⟩:=h;cases rx;obtain⟨u,rfl,ru⟩:=rv.one;cases ru;obtain⟨z,its,n,r,hl,e⟩:=I.lstM hH;obtain⟨Ai,r2,p2,_⟩:=I.tuple hB;have Bq:=r2.length;obtain⟨⟨IV,HZ,data2,Ia⟩,e2,BS,n2,hd2⟩:=p2;simp only at BS hd2;subst BS hd2;have hsz:its.toArray.size+Ai.toArray.size<=Xg:=by rw[W4,W4];lia
 have D3:¬(!its.toArray.isEmpty && Zo (its.toArray.size+Ai.toArray.size))=true:=by
  rw[lj hsz,Bool.and_false];exact W0
 refine call_meets F.slot_list_extend ⟨_,e,rfl⟩ F.entry_list_extend (F.args_list_extend_2 _ _)
  (bb_extendT l its.toArray n b Ai.toArray n2 HZ Ia D3 (by rw[W4];lia) (by lia)) ⟨e,e2,?_⟩
 refine⟨.non,_,I.lset (its':=its++Ai) hH e (by simp) (r.append r2) ?_,D?,q⟩;rw[Xd];lia
theorem vm{bs:List Bool}(r:Vals (bs.map V.bl) its){v:WU}(h:its[i]?=A? v):∃b,bs[i]?=A? b/\v=.bool b:=by
 have hl:=r.length;have hi:i<its.length:=(glE h);rw[WN]at hl;obtain⟨u,hu,ru⟩:=r.get (i:=i) (x:=.bl bs[i]) (by rw[WZ,WS (by lia)];rfl);rw[h]at hu;cases hu;cases ru;exact⟨_,WS (by lia),D?⟩
def abG(K:WQ):List V->Hp->VK->Prop:=λxs H Q=>∃(p:WR)(bs:List Bool),xs=[.ref p]/\SqL K H p (bs.map V.bl)/\Q (.bl (bs.all id)) H
theorem wo(hc:X.calm=C?):eT X (.builtin "all") (abG X.K):=by
 intro U s Z H xs us Q I r h;obtain⟨p,bs,rfl,hl,q⟩:=h;obtain⟨u,rfl,rx⟩:=vals1 r;cases rx;obtain⟨its,rv,pl,_⟩:=I.list hl;have hlen:=rv.length;rw[WN]at hlen;have Ak:p<s.1.1.size:=by obtain⟨_,_,e,_⟩:=pl;exact Xa e
 refine call_all_walk (wpAny_pyIter_list pl.isList ?_);refine⟨s.1.1.size,[s.1.1.size,p],[s.1.1.size],its.toArray.size,_,_,λi=>(bs[i]?).getD C?,D?,Walks.list (A:=X.A.in1) (I.ok.hd hc) _ p (XB Ak) its.toArray,⟨⟨_,W5 _ rfl,D?,D?⟩,pl.isList.push _⟩,λi v s' Q' E' hP hQ=>?_,λh' tk hk=>?_⟩
 .obtain⟨b,e,rfl⟩:=vm rv (i:=i) (v:=v) (by simpa using hP);simp only[e,Option.getD_some]at hQ;exact Z4 hQ
 .have e:((Xq its.toArray.size).all λi=>(bs[i]?).getD C?)=bs.all id:=by
   rw[W4,<-hlen];exact LSm.range_all bs
  rw[e];exact⟨.bl (bs.all id),H,I.kept (LSm.kept_iter hk),D?,q⟩
end
end L2
namespace BB
open PySem L2
def kDv(k:Xk×Int):Dv:=.tup [.str k.1,.int k.2]
theorem lI:∀{ks:List (Xk×Int)}{as:List WR},Xp (KAt H) ks as->DAts H (ks.map kDv) (as.map i!)
 |_,_,.nil=>.nil
 | _,_,.cons r h=>by
   rw[Xx,Xx];refine .cons ?_ (lI h);rw[kDv,DAt];exact⟨_,_,D?,r,.cons (by rw[DAt]) (.cons (by rw[DAt]) .nil)⟩
theorem fS:∀ks:List (Xk×Int),bB (ks.map kDv)<=1
 | []=>by rw[YS,bB];exact Xh _
 | k::ks=>by
   have:=fS ks;rw[Xx,bB,kDv];simp only[Dv.deep,bB];lia
def star:Xk:=Xz "*"
theorem pF(h:Low x):x≠star:=by
 intro e;subst e;have:=h 42 (by decide +kernel);lia
open Classical in
def Th.isHole:Th->Bool
 |.knot n ks=>decide (n=star/\ks=[])
 |.call _ _=>CV
def Th.isKnot(t:Th):Bool:=!t.isCall && !t.isHole
theorem iA:∀(n:Nat)(ts:List Th),ao ts<=n->∀x∈walks ts,x.tall<=aP ts
 |_,[],_,x,h=>by simp[walks]at h
 | 0,t::ts,hn,x,h=>by
   have:=t.size_pos;rw[ao]at hn;lia
 | n+1,t::ts,hn,x,h=>by
   have hs:=t.size_eq;have ht:=t.tall_eq;rw[ao]at hn;rw[aP];rw[walks,t.walk_eq,Yo,W7,XA]at h;rcases h with rfl|h|h
   .lia
   .have:=iA n t.kids (by lia) x h;lia
   .have:=iA n ts (by lia) x h;lia
theorem vp(t x:Th)(h:x∈t.walk):x.tall<=t.tall:=by
 have:=iA _ [t] (WW _) x (by simpa[walks]using h);simpa[aP]using this
theorem yv{k:Nat}(hr:L2.Room k A):A.units+50+2<YJ:=by
 have:=hr.units;lia
end BB
open BB.Th renaming isHole->A!
namespace PySem
open Sem (wp)
namespace F
theorem bb_entry_upd:entryFor table "dict.update.loop"=A? Zq.«dict.update.loop»:=entryFor_of_tree (by kernel_rfl)
theorem bb_plain_upd:plainId "dict.update.loop"=true:=by decide +kernel
end F
section
variable{xs:Array WU}{k:Nat}
end
end PySem
open PySem.F renaming bb_plain_upd->E!
namespace L2
open PySem PySem.Spec PyProof.Rows BB
section
variable{X:Cx}
end
end L2
namespace BB
open PySem L2
end BB
namespace HT
open PySem PySem.Spec PyProof.Rows
theorem getItem_tuple_whole{t:WR}(ht:IsTup s.1 t items)(hs:s.1.IsSliceOf sl vl vu .none)(pl:IsPart vl lo)(pu:IsPart vu hi)
 (hw:sIx items.size 0 lo=0/\sIx items.size items.size hi=items.size) (h:Q (.ref t) s):W9 (Xu prog w) A (getItem (.ref t) (.ref sl)) Q E s:=by
 obtain⟨os,Ct,Cu,BC⟩:=id hs;have IW:s.TypeIs (.ref sl) "slice":=⟨os,Ct,Cu⟩;have hT:s.TypeIs (.ref t) "tuple":=ht.typeIs;unfold getItem
 try with_reducible refine Yy ?_
 first|refine WO (WX ?_)|skip
 refine WO (wpAny_sequenceKey ht.typeIs (by decide) ?_)
 refine WO (X2 (name:=Xz "__getitem__") ht.typeIs XT
  (X6 XT ht.typeIs entry_tuple_getitem ?_ (args_tuple_getitem _ _)))
 show W9 _ _ (ZV (.ref t) >>= _) _ _ s;refine WO (tupleItemsOf_ ht ?_);refine WO (ZF IW ?_);rw[b! (by decide)];refine WO (sliceApplied_gen hs pl pu ?_)
 have GR:(((sIx items.size 0 lo:Nat):Int) == 0 && (1:Int) == 1 && (sIx items.size items.size hi - sIx items.size 0 lo) == items.size)=true:=by
  rw[hw.1,hw.2];simp
 show W9 _ _ (if(((sIx items.size 0 lo:Nat):Int) == 0 && (1:Int) == 1 && (sIx items.size items.size hi - sIx items.size 0 lo) == items.size)=C? then _ else _) _ _ s;rw[b! GR];refine WO (m:=Builtin.Tuple.tupleIsExact _) ?_;unfold Builtin.Tuple.tupleIsExact;refine WO (ZF hT (WX ?_));rw[b! (by decide)];exact WO (Zw (WX ⟨_,rfl,WX h⟩))
end HT
namespace L2
open PySem PySem.Spec PyProof.Rows
end L2
namespace PySem
open Sem (wp)
section
variable{ep:Nat}{od:Zb}{es:Array DictEntry}
theorem bb_keyNext{en:DictEntry}{Q:Option WU->WY->Prop}(g:s.1.IsKeyIter it d i es.size ep)(g1:s.1.get? d=A? od)(g2:od.data=.dict es ep)(hx:es[i]?=A? en)
 (fin:∀h',h'.IsKeyIter it d (i+1) es.size ep->YG it s.1 h'->Q (A? en.key) {s with heap:=h'}):W9 (Xu prog w) A (pyNext (.ref it)) Q E s:=by
 obtain⟨o,q1,q2,q3⟩:=id g;unfold pyNext;refine WO (wpAny_attempt (X2 (name:=Xz "__next__") g.typeIs Zx (X6 Zx g.typeIs F.entry_dict_keyiterator_next ?_ (F.args_dict_keyiterator_next_1 _))));refine WO (WX ?_);refine WO ?_;refine WO ?_
 first|refine WO (wpAny_typeNameOfWhole_keyiter g.typeIs (WX ?_))|refine WO (wpAny_typeNameOf_keyiter g.typeIs (WX ?_))
 refine WO (wpAny_fieldsOf q1 q3 ?_);have own:Builtin.Dict_items.ownsTuple "dict_keyiterator"=false:=by decide
 simp only[own,Yc,if_false];show W9 _ _ (if(Xl d == Yp)=C? then _ else _) _ _ s;rw[a! (show¬((Xl d == Yp)=C?)from W0)];refine WO (WX ?_);refine WO (wpAny_dictEntries g1 g2 ?_);rw[a! (by simp)];refine WO (WX ?_);refine WO (wpAny_dictEpoch g1 g2 ?_);rw[a! (by simp)];refine WX ?_;have lt:i<es.size:=(Array.getElem?_eq_some_iff.mp hx).1;have ee:es[i]=en:=(Array.getElem?_eq_some_iff.mp hx).2;simp only[show¬((i:Int)<0)from by lia,if_false,XH,Ze lt];refine WO ?_
 first|refine WO (wpAny_typeNameOfWhole_keyiter g.typeIs (WX ?_))|refine WO (wpAny_typeNameOf_keyiter g.typeIs (WX ?_))
 refine WO (wpAny_isOneOf_keyiter g.typeIs ?_);show W9 _ _ (setField (.ref it) 1 (Y7 ((i:Int)+1)) >>= _) _ _ s;refine WO (wpAny_setField q1 q3 (by simp) ?_);have g':(s.1.update it (Obj.mapFields (·.setIfInBounds 1 (Y7 ((i:Int)+1))))).IsKeyIter it d (i+1) es.size ep:=⟨_,XR _ q1 (Obj.isFreed_of_fields (Zm q3 _)),(Obj.cls_mapFields ..).trans q2,by rw[Zm q3];simp[Y7]⟩;refine WO (Yy ?_);refine WO (wpAny_isOneOf_keyiter (s:={s with heap:=s.1.update it (Obj.mapFields (·.setIfInBounds 1 (Y7 ((i:Int)+1))))}) g'.typeIs ?_);show W9 _ _ (pure es[i].key) _ _ _;rw[ee];exact WX (WX ⟨_,rfl,WX (fin _ g' (Zg ..))⟩)
theorem bb_keyEnd{Q:Option WU->WY->Prop}(calm:A.handled=B?)(g:s.1.IsKeyIter it d i es.size ep)(g1:s.1.get? d=A? od)(g2:od.data=.dict es ep)(hx:es.size<=i)
 (fin:∀h',Heap.ExtBut it s.1 h'->Q B? {s with heap:=h'}):W9 (Xu prog w) A (pyNext (.ref it)) Q E s:=by
 obtain⟨o,q1,q2,q3⟩:=id g;unfold pyNext;refine WO (wpAny_attempt (X2 (name:=Xz "__next__") g.typeIs Zx (X6 Zx g.typeIs F.entry_dict_keyiterator_next ?_ (F.args_dict_keyiterator_next_1 _))));refine WO (WX ?_);refine WO ?_;refine WO ?_
 first|refine WO (wpAny_typeNameOfWhole_keyiter g.typeIs (WX ?_))|refine WO (wpAny_typeNameOf_keyiter g.typeIs (WX ?_))
 refine WO (wpAny_fieldsOf q1 q3 ?_);have own:Builtin.Dict_items.ownsTuple "dict_keyiterator"=false:=by decide
 simp only[own,Yc,if_false];show W9 _ _ (if(Xl d == Yp)=C? then _ else _) _ _ s;rw[a! (show¬((Xl d == Yp)=C?)from W0)];refine WO (WX ?_);refine WO (wpAny_dictEntries g1 g2 ?_);rw[a! (by simp)];refine WO (WX ?_);refine WO (wpAny_dictEpoch g1 g2 ?_);rw[a! (by simp)];refine WX ?_;simp only[show¬((i:Int)<0)from by lia,if_false,XH,Array.getElem?_eq_none hx];refine WO ?_
 first|refine WO (wpAny_typeNameOfWhole_keyiter g.typeIs (WX ?_))|refine WO (wpAny_typeNameOf_keyiter g.typeIs (WX ?_))
 show W9 _ _ (setField (.ref it) 0 .none >>= _) _ _ s;refine WO (wpAny_setField q1 q3 (by simp) ?_);show W9 _ _ (newExc (.type "StopIteration") [] >>= _) _ _ _;refine WO ?_;simp only[newExc,newTuple];refine WO (Ye ?_ (by size_fits));refine WO (m:=firstArgMember _ _) (wpAny_of_eq (a:=Yp) (by first|rfl|(simp only[firstArgMember];rfl)) ?_);refine Ye ?_ (by size_fits);simp only[raiseNew];refine WO (wpAny_handled ?_)
 first|rw[show A.in1.handled=B? from calm]|rw[calm]
 refine WO (WX (wpAny_throw ?_));refine WO (ZI (T:="StopIteration") (b:=C?) ⟨_,W5 _ rfl,rfl⟩ isSubtype_stop ?_);exact WX (fin _ (((Zg ..).extBut.push _).push _))
theorem bb_keyIter(ns:(d == YO)=CV)(g1:s.1.get? d=A? od)(gc:od.cls=.type "dict")(g2:od.data=.dict es ep)
 (fin:Q (.ref s.1.1.size) {s with heap:=s.1.push {cls:=.type "dict_keyiterator",data:=.fields #[.ref d,.int 0 0,.int es.size 0,.int ep 0]}}):W9 (Xu prog w) A (pyIter (.ref d)) Q E s:=by
 have gT:s.TypeIs (.ref d) "dict":=⟨_,g1,gc⟩;refine wpAny_pyIter_slot gT F.slot_dict_iter (X6 F.slot_dict_iter gT F.entry_dict_iter ?_ (F.args_dict_iter_1 _));unfold Zq.«dict.__iter__»;refine WO ?_;unfold Builtin.Dict.dictSlotNone;refine WO (wpAny_notOrdered_dict gT ?_);show W9 _ _ (pure (Xl d)) _ _ s;refine WX ?_;show W9 _ _ (Builtin.Dict.showsAll d >>= _) _ _ s;unfold Builtin.Dict.showsAll;rw[a! (by rw[ns];exact W0)];refine WO (WX ?_);refine WO (wpAny_dictEntries g1 g2 ?_);refine WO (wpAny_dictEpoch g1 g2 ?_);refine WO (Ye (WX ⟨_,rfl,"dict_keyiterator",_,⟨_,W5 _ rfl,rfl⟩,Zx.lookup,?_⟩));simpa[Y7]using fin
end
end PySem
namespace L2
open PySem PySem.Spec PyProof.Rows
section
variable{X:Cx}
end
end L2
namespace BB
open PySem L2
inductive Top where
 |nm (n:Xk) (m:Nat)
 |th (t:Th)
def bl:List Top->List Th
 | []=>[]
 |.nm n m::S=>.knot n ((bl S).take m)::(bl S).drop m
 |.th t::S=>t::bl S
def TopsOk:List Top->Prop
 | []=>True
 |.nm _ m::S=>m<=(bl S).length/\TopsOk S
 |.th _::S=>TopsOk S
theorem TopsOk.drop:∀{l:List Top}(i:Nat),TopsOk l->TopsOk (l.drop i)
 |l,0,h=>by rw[Z9];exact h
 | [],i+1,h=>by rw[List.drop_nil];exact h
 | .nm n m::S,i+1,h=>by
   rw[TopsOk]at h;rw[List.drop_succ_cons];exact TopsOk.drop i h.2
 | .th t::S,i+1,h=>by
   rw[TopsOk]at h;rw[List.drop_succ_cons];exact TopsOk.drop i h
theorem sM:∀l:List Top,(bl l).length<=l.length
 | []=>WW _
 | .nm n m::S=>by
   have:=sM S;rw[bl,W2,W2,List.length_drop];lia
 | .th t::S=>by
   have:=sM S;rw[bl,W2,W2];lia
mutual
def Th.fill(f:Int->Int->Th):Th->Th
 |.knot n ks=>.knot n (fills f ks)
 |.call s k=>f s k
def fills(f:Int->Int->Th):List Th->List Th
 | []=>[]
 |t::ts=>t.fill f::fills f ts
end
theorem jz(f:Int->Int->Th):∀ts:List Th,(fills f ts).length=ts.length
 | []=>by rw[fills]
 |t::ts=>by rw[fills,W2,W2,jz f ts]
mutual
theorem uC:∀t:Th,t.fill z!=t
 |.knot n ks=>by rw[Th.fill,qB ks]
 |.call s k=>by rw[Th.fill]
theorem qB:∀ts:List Th,fills z! ts=ts
 | []=>by rw[fills]
 |t::ts=>by rw[fills,uC t,qB ts]
end
def ff(f:Int->Int->Th):Th->Top
 |.knot n ks=>.nm n ks.length
 |.call s k=>.th (f s k)
theorem l8(f:Int->Int->Th):∀(n:Nat)(ts:List Th),ao ts<=n->∀S,bl ((walks ts).map (ff f)++S)=fills f ts++bl S/\(TopsOk S->TopsOk ((walks ts).map (ff f)++S))
 |_,[],_,S=>by rw[walks,fills];exact⟨D?,λh=>h⟩
 | 0,t::ts,hn,S=>by
   have:=t.size_pos;rw[ao]at hn;lia
 | n+1,t::ts,hn,S=>by
   have hs:=t.size_eq;rw[ao]at hn;have h2:=l8 f n ts (by lia) S;have e:(walks (t::ts)).map (ff f)++S=ff f t::((walks t.kids).map (ff f)++((walks ts).map (ff f)++S)):=by rw[walks,t.walk_eq];simp
   have h1:=l8 f n t.kids (by lia) ((walks ts).map (ff f)++S);rw[e];cases t with
   | knot nm ks =>
     simp only[K!]at h1 |-;refine⟨?_,λhS=>?_⟩
     .show bl (.nm nm ks.length::_)=_;rw[bl,h1.1,h2.1,<-jz f ks,List.take_left,List.drop_left,fills,Th.fill];rfl
     .show TopsOk (.nm nm ks.length::_);rw[TopsOk];refine⟨?_,h1.2 (h2.2 hS)⟩;rw[h1.1,Xd,jz];exact Zh _ _
   | call s k =>
     simp only[K!,walks,YS,Zc]at h1 |-;refine⟨?_,λhS=>?_⟩
     .show bl (.th (f s k)::_)=_;rw[bl,h2.1,fills,Th.fill];rfl
     .show TopsOk (.th (f s k)::_);rw[TopsOk];exact h2.2 hS
theorem sS(f:Int->Int->Th)(t:Th):bl (t.walk.map (ff f))=[t.fill f]/\TopsOk (t.walk.map (ff f)):=by
 have h:=l8 f _ [t] (WW _) [];have e:walks [t]=t.walk:=by simp[walks]
 rw[e,Xs]at h;refine⟨?_,h.2 (by rw[TopsOk];trivial)⟩;rw[h.1,fills,fills,bl];rfl
theorem tE(x:V)(xs:List V):jp (x::xs) B? (A? 1)=[x]:=by
 unfold jp;rw[show(A? (1:Int))=A? ((1:Nat):Int)from rfl,HT.sIx_nat,HT.sIx_none,W2,Nat.min_eq_left (by lia)];rfl
end BB
open BB.Th renaming fill->C!
namespace PySem
open Sem (wp)
end PySem
namespace L2
open PySem PySem.Spec PyProof.Rows BB
end L2
namespace BB
open PySem L2
theorem eQ{k:Nat}(hr:L2.Room k A):A.units+150+2<YJ:=by
 have:=hr.un;lia
def hole:Th:=.knot star []
def Th.name:Th->Xk
 |.knot n _=>n
 |.call _ _=>q
def aB:Th->Th->Bool
 |.knot n ks,.knot m us=>!(o! n ks).isHole && decide (n=m) && decide (ks.length=us.length)
 |_,_=>CV
mutual
def Th.sbs:Th->Th->List (Th×Th)
 |.knot n ks,r=>(.knot n ks,r)::(if aB (.knot n ks) r=C? then oW ks r.kids else[])
 |.call s k,r=>[(.call s k,r)]
def oW:List Th->List Th->List (Th×Th)
 | [],_=>[]
 | k::ks,us=>match us with
   | []=>[]
   |u::us=>k.sbs u++oW ks us
end
def wks:List (Th×Th)->List (Th×Th)
 | []=>[]
 |p::ps=>p.1.sbs p.2++wks ps
theorem my:∀a b:List (Th×Th),wks (a++b)=wks a++wks b
 | [],b=>rfl
 |p::a,b=>by rw[Yo,wks,wks,my a b,XJ]
theorem tQ:∀ks us:List Th,wks (ks.zip us)=oW ks us
 | [],_=>by rw[List.zip_nil_left,wks,oW]
 |k::ks,[]=>by rw[List.zip_nil_right,wks,oW]
 |k::ks,u::us=>by rw[Zz,wks,oW,tQ ks us]
theorem Th.sbs_eq(l r:Th):l.sbs r=(l,r)::(if aB l r=C? then wks (l.kids.zip r.kids)else[]):=by
 cases l with
 |knot n ks=>rw[Th.sbs,tQ];rfl
 | call s k =>
   rw[Th.sbs];have:aB (.call s k) r=false:=by cases r <;> rfl
   rw[this];rfl
def szL:List (Th×Th)->Nat
 | []=>0
 |p::ps=>p.1.size+szL ps
theorem eI:∀a b,szL (a++b)=szL a+szL b
 | [],b=>by simp[szL]
 |p::a,b=>by rw[Yo,szL,szL,eI a b,Nat.add_assoc]
theorem uD(a:List (Th×Th)):szL a.reverse=szL a:=by
 induction a with
 |nil=>rfl
 |cons x xs ih=>rw[X8,eI,ih,szL,szL,szL];lia
theorem jh:∀ks us:List Th,szL (ks.zip us)<=ao ks
 | [],_=>by rw[List.zip_nil_left,szL];exact Xh _
 |k::ks,[]=>by rw[List.zip_nil_right,szL];exact Xh _
 | k::ks,u::us=>by
   have:=jh ks us;rw[Zz,szL,ao];show k.size+_<=_;lia
theorem pf:∀a:List (Th×Th),a.length<=szL a
 | []=>Xh _
 | p::a=>by
   have:=p.1.size_pos;have:=pf a;rw[W2,szL];lia
theorem oI:∀(n:Nat)(ps:List (Th×Th)),szL ps<=n->(wks ps).length<=szL ps
 |_,[],_=>Xh _
 | 0,p::ps,h=>by
   have:=p.1.size_pos;rw[szL]at h;lia
 | n+1,p::ps,h=>by
   have hs:=p.1.size_eq;have hz:=jh p.1.kids p.2.kids;rw[szL]at h;have h1:=oI n ps (by lia);have h2:=oI n (p.1.kids.zip p.2.kids) (by lia);rw[wks,Th.sbs_eq,szL,Xd,W2];split
   .lia
   .rw[List.length_nil];lia
theorem yJ(l r:Th):(l.sbs r).length<=l.size:=by
 have:=oI _ [(l,r)] (WW _);rw[wks,wks,Xs,szL,szL]at this;exact this
theorem pD:∀(n:Nat)(ps:List (Th×Th)),szL ps<=n->∀x∈wks ps,∃p∈ps,x.1.tall<=p.1.tall/\x.2.tall<=p.2.tall/\x.1.size<=p.1.size/\x.2.size<=p.2.size
 |_,[],_,x,h=>nomatch h
 | 0,p::ps,h,x,_=>by
   have:=p.1.size_pos;rw[szL]at h;lia
 | n+1,p::ps,h,x,hx=>by
   have hs:=p.1.size_eq;have hz:=jh p.1.kids p.2.kids;rw[szL]at h;rw[wks,Th.sbs_eq,XA]at hx;rcases hx with hx|hx
   .rcases W7.mp hx with rfl|hx
    .exact⟨p,Xe ..,WW _,WW _,WW _,WW _⟩
    .split at hx
     .obtain⟨y,hy,h1,h2,h3,h4⟩:=pD n _ (by lia) x hx;have m1:y.1∈p.1.kids:=(ZL hy).1;have m2:y.2∈p.2.kids:=(ZL hy).2;have t1:=ce m1;have t2:=ce m2;have z1:=aZ m1;have z2:=aZ m2;have e1:=p.1.tall_eq;have e2:=p.2.tall_eq;have e4:=p.2.size_eq;exact⟨p,Xe ..,by lia,by lia,by lia,by lia⟩
     .cases hx
   .obtain⟨y,hy,r⟩:=pD n ps (by lia) x hx;exact⟨y,Xb _ hy,r⟩
theorem tw{l r:Th}{x:Th×Th}(h:x∈l.sbs r):x.1.tall<=l.tall/\x.2.tall<=r.tall/\x.1.size<=l.size/\x.2.size<=r.size:=by
 obtain⟨p,hp,r⟩:=pD _ [(l,r)] (WW _) x (by rw[wks,wks,Xs];exact h);rw[Xc]at hp;subst hp;exact r
mutual
def Th.lies:Th->Th->Bool
 |.knot n ks,r=>(o! n ks).isHole ||(aB (.knot n ks) r && bc ks r.kids)
 |.call _ _,_=>CV
def bc:List Th->List Th->Bool
 | [],_=>C?
 | k::ks,us=>match us with
   | []=>C?
   |u::us=>k.lies u && bc ks us
end
theorem fX{l r:Th}(h:l.isHole=C?):aB l r=false:=by
 cases l with
 | knot n ks =>
   cases r with
   | knot m us =>
     show(!(o! n ks).isHole && decide (n=m) && decide (ks.length=us.length))=CV;rw[h];rfl
   |call s k=>rfl
 |call s k=>cases h
mutual
def Th.noCall:Th->Prop
 |.knot _ ks=>ba ks
 |.call _ _=>False
def ba:List Th->Prop
 | []=>True
 |t::ts=>t.noCall/\ba ts
end
theorem cP:∀{ts:List Th}{t:Th},ba ts->t∈ts->t.noCall
 | [],_,_,h=>nomatch h
 | u::ts,t,hn,h=>by
   rw[ba]at hn;rcases W7.mp h with rfl|h
   .exact hn.1
   .exact cP hn.2 h
def Th.wid:Th->Nat
 |.knot _ ks=>ks.length
 |.call _ _=>2
theorem bw{l r:Th}(h:aB l r=C?):∃n ks us,l=.knot n ks/\r=.knot n us/\ks.length=us.length/\l.isHole=false:=by
 cases l with
 | knot n ks =>
   cases r with
   | knot m us =>
     have h':(!(o! n ks).isHole && decide (n=m) && decide (ks.length=us.length))=true:=h;simp only[X4,decide_eq_true_eq,Bool.not_eq_true']at h';obtain⟨⟨h1,h2⟩,h3⟩:=h';subst h2;exact⟨n,ks,us,D?,D?,h3,h1⟩
   |call s k=>cases h
 |call s k=>cases r <;> cases h
theorem wS(l r:Th)(S:List (Th×Th)):wks ((l,r)::S)=(l,r)::((if aB l r=C? then wks (l.kids.zip r.kids)else[])++wks S):=by
 rw[wks,Th.sbs_eq];rfl
theorem jV:hole.noCall:=by rw[hole,Th.noCall,ba];trivial
theorem dw:hole.isHole=true:=by
 show decide (star=star/\([]:List Th)=[])=C?;exact d! ⟨rfl,rfl⟩
theorem nZ:hole.tall=1:=by rw[hole,t!,aP]
theorem eC:hole.size=1:=by rw[hole,q!,ao]
theorem yI:star≠q:=by decide
end BB
open BB.Th renaming noCall->v!,lies->w!
namespace L2
open PySem PySem.Spec PySem.SeqAt PyProof.Rows BB
open Classical in
theorem qq{X:Cx}(I:Inv X U Z H s){es:List Dv}{ws:List V}{Ai:List WU}(r1:Vals vs its)(r2:Vals ws Ai)(C6:DAts H ds vs)(hws:DAts H es ws)(hu:A.units+bB ds+2<YJ) :
 ∀j(h1:j<its.toArray.size)(h2:j<Ai.toArray.size),EqAt A.in1 s its.toArray[j] Ai.toArray[j] (decide (ds[j]?=es[j]?)):=by
 intro j h1 h2;have l1:its.length=ds.length:=by rw[<-r1.length,C6.length]
 have l2:Ai.length=es.length:=by rw[<-r2.length,hws.length]
 have EN:j<ds.length:=by rw[<-l1];simpa using h1
 have DW:j<es.length:=by rw[<-l2];simpa using h2
 have e1:ds[j]?=A? ds[j]:=WS EN;have e2:es[j]?=A? es[j]:=WS DW;obtain⟨x',A7,dx⟩:=C6.at e1;obtain⟨y',Dz,dy⟩:=hws.at e2;obtain⟨u',BV,GQ⟩:=r1.get A7;obtain⟨v',AU,DC⟩:=r2.get Dz;have e3:decide (ds[j]?=es[j]?)=decide (ds[j]=es[j]):=by rw[e1,e2];simp
 have e4:its.toArray[j]=u':=by
  rw[WS (by rw[l1];exact EN)]at BV;simpa using BV
 have e5:Ai.toArray[j]=v':=by
  rw[WS (by rw[l2];exact DW)]at AU;simpa using AU
 rw[e3,e4,e5];have q2:=fQ e1;refine ph I _ ds[j] es[j] (WW _) x' y' u' v' A.in1 dx dy GQ DC ?_;show A.units+1+_<YJ;lia
open Classical in
theorem mj{es:List Dv}(hl:ds.length=es.length):(Xq ds.length).all (λj=>decide (ds[j]?=es[j]?))=decide (ds=es):=by
 by_cases h:ds=es
 .subst h;rw[d! rfl];simp
 .rw[c! h];refine Yj.mpr λz=>h (List.ext_getElem? λj=>?_);by_cases hj:j<ds.length
  .exact e! (List.all_eq_true.mp z j (YZ.mpr hj))
  .rw[YX (by lia),YX (by lia)]
def abu(K:WQ)(B:Nat):R2:=λx y H Q=>∃a b vs ws ds es,x=.ref a/\y=.ref b/\SqT K H a vs/\SqT K H b ws/\DAts H ds vs/\DAts H es ws/\bB ds<=B/\∀b:Bool,(b=C?↔ds≠es)->Q (.bl b) H
open Classical in
theorem wQ{X:Cx}(hu:X.A.units+B+2<YJ):OpR X (Zt .NotEq) (abu X.K B):=by
 intro U s Z H x y v u Q I rx ry h;obtain⟨a,b,vs,ws,ds,es,rfl,rfl,ha,hb,C6,hws,hB,q⟩:=h;cases rx;cases ry;obtain⟨its,r1,p1,_⟩:=I.tuple ha;obtain⟨Ai,r2,p2,_⟩:=I.tuple hb;have l1:its.length=ds.length:=by rw[<-r1.length,C6.length]
 have l2:Ai.length=es.length:=by rw[<-r2.length,hws.length]
 refine RcNeAt.tuples (show s.1.IsTuple a its.toArray from p1) (show s.1.IsTuple b Ai.toArray from p2) (by lia) (qq I r1 r2 C6 hws (by lia)) X.prog X.w X.xe _ ?_
 have e:((Xq (min its.toArray.size Ai.toArray.size)).all (λj=>decide (ds[j]?=es[j]?)) && its.toArray.size == Ai.toArray.size)=decide (ds=es):=by
  rw[W4,W4,l1,l2];by_cases hl:ds.length=es.length
  .rw[<-hl,Nat.min_self,mj hl];simp
  .rw[c! (λz=>hl (by rw[z]))];simp[hl]
 refine⟨.bl (!decide (ds=es)),H,I,by rw[e];rfl,q _ ?_⟩;simp
end L2
namespace BB
open PySem L2
mutual
def Th.hw(pre:List Int):Th->Th->List (List Int×Th)
 |.knot n ks,t=>if(o! n ks).isHole=C? then[(pre,t)]else hws pre 0 ks t.kids
 |.call _ _,_=>[]
def hws(pre:List Int)(i:Int):List Th->List Th->List (List Int×Th)
 | [],_=>[]
 | k::ks,us=>match us with
   | []=>[]
   |u::us=>k.hw (pre++[i]) u++hws pre (i+1) ks us
end
theorem iR{f:Th}(h:f.isHole=C?)(pre:List Int)(t:Th):f.hw pre t=[(pre,t)]:=by
 cases f with
 |knot n ks=>rw[Th.hw,b! h]
 |call s k=>cases h
theorem pe{f:Th}(h:f.isHole=C?):f=hole:=by
 cases f with
 | knot n ks =>
   have h':=e! (show decide (n=star/\ks=[])=C? from h);rw[h'.1,h'.2];rfl
 |call s k=>cases h
theorem cH{f t:Th}(h:f.lies t=C?):f.isHole=C?\/∃n ks us,f=.knot n ks/\t=.knot n us/\ks.length=us.length/\f.isHole=CV/\aB f t=C?/\bc ks us=true:=by
 cases f with
 | knot n ks =>
   rw[w!]at h;cases hh:(o! n ks).isHole with
   |true=>exact .inl rfl
   | false =>
     rw[hh,Bool.false_or,X4]at h;obtain⟨n',Ih,us,e1,rfl,e3,_⟩:=bw h.1;cases e1;exact .inr ⟨n,ks,us,rfl,rfl,e3,rfl,h.1,h.2⟩
 |call s k=>rw[w!]at h;cases h
theorem bL{k u:Th}{ks us:List Th}:bc (k::ks) (u::us)=(k.lies u && bc ks us):=by rw[bc]
mutual
theorem jA:∀(pre:List Int)(f t:Th),f.lies t=C?->((f.pl pre).filter λp=>p.2.isHole).map (·.1)=(f.hw pre t).map (·.1)
 | pre,.knot n ks,t,h=>by
   rcases cH h with hh|⟨n',Ih,us,e1,rfl,e3,hh,_,hl⟩
   .rw[iR hh,pe hh,hole,B!,pls];rw[X0,b! (show(o! star []).isHole=C? from dw)];rfl
   .cases e1;rw[B!,Th.hw,a! (by rw[hh];exact W0),X0,a! (show¬(o! n ks).isHole=C? by rw[hh];exact W0)];exact l9 pre 0 ks us e3 hl
 |pre,.call s k,t,h=>by rw[w!]at h;cases h
theorem l9:∀(pre:List Int)(i:Int)(ks us:List Th),ks.length=us.length->bc ks us=C?->((pls pre i ks).filter λp=>p.2.isHole).map (·.1)=(hws pre i ks us).map (·.1)
 |pre,i,[],us,_,_=>by rw[pls,hws];rfl
 |pre,i,k::ks,[],e,_=>by simp at e
 | pre,i,k::ks,u::us,e,h=>by
   rw[bL,X4]at h;rw[pls,hws,ZA,W8,W8,jA _ k u h.1,l9 pre (i+1) ks us (by simpa using e) h.2]
end
mutual
theorem qf:∀(pre:List Int)(f t:Th),f.lies t=C?->((f.sbs t).filter λp=>p.1.isHole).map (·.2)=(f.hw pre t).map (·.2)
 | pre,.knot n ks,t,h=>by
   rcases cH h with hh|⟨n',Ih,us,e1,rfl,e3,hh,hs,hl⟩
   .rw[iR hh,Th.sbs,fX hh,a! W0,X0,b! hh];rfl
   .cases e1;rw[Th.sbs,hs,b! rfl,Th.hw,a! (by rw[hh];exact W0),X0,a! (show¬(o! n ks).isHole=C? by rw[hh];exact W0)];exact ni pre 0 ks us e3 hl
 |pre,.call s k,t,h=>by rw[w!]at h;cases h
theorem ni:∀(pre:List Int)(i:Int)(ks us:List Th),ks.length=us.length->bc ks us=C?->((oW ks us).filter λp=>p.1.isHole).map (·.2)=(hws pre i ks us).map (·.2)
 |pre,i,[],us,_,_=>by rw[oW,hws];rfl
 |pre,i,k::ks,[],e,_=>by simp at e
 | pre,i,k::ks,u::us,e,h=>by
   rw[bL,X4]at h;rw[oW,hws,ZA,W8,W8,qf _ k u h.1,ni pre (i+1) ks us (by simpa using e) h.2]
end
def be:List Th->List Th->List Top
 | [],_=>[]
 |x::xs,ps=>if x.isHole=C? then .th (ps.headD hole)::be xs ps.tail else .nm x.name x.wid::be xs ps
def aY(xs:List Th):Nat:=(xs.filter A!).length
theorem dj(a b:List Th):aY (a++b)=aY a+aY b:=by unfold aY;rw[ZA,Xd]
theorem cA:∀(xs ys ps:List Th),be (xs++ys) ps=be xs ps++be ys (ps.drop (aY xs))
 | [],ys,ps=>by show _=[]++be ys (ps.drop 0);rfl
 | x::xs,ys,ps=>by
   rw[Yo,be,be];by_cases h:x.isHole=C?
   .rw[b! h,b! h];have hn:aY (x::xs)=aY xs+1:=by unfold aY;rw[X0,b! h];rfl
    rw[cA xs ys ps.tail,hn,List.drop_tail,Nat.add_comm];rfl
   .rw[a! h,a! h];have hn:aY (x::xs)=aY xs:=by unfold aY;rw[X0,a! h]
    rw[cA xs ys ps,hn];rfl
mutual
theorem oy:∀(pre:List Int)(f t:Th),f.lies t=C?->∀(P:List Th)(S:List Top),be f.walk ((f.hw pre t).map (·.2)++P)=be f.walk ((f.hw pre t).map (·.2))/\aY f.walk=(f.hw pre t).length/\bl (be f.walk ((f.hw pre t).map (·.2))++S)=t::bl S/\(TopsOk S->TopsOk (be f.walk ((f.hw pre t).map (·.2))++S))
 | pre,.knot n ks,t,h,P,S=>by
   rcases cH h with hh|⟨n',Ih,us,e1,rfl,e3,hh,_,hl⟩
   .have he:=pe hh;rw[iR hh,he];have Tn:hole.walk=[hole]:=by rw[hole,Th.walk,walks]
    have ht:∀Q:List Th,be [hole] (t::Q)=[.th t]:=λQ=>by rw[be,b! dw];rfl
    rw[Tn];refine⟨by rw[Xx,Yo,ht,YS,ht],by unfold aY;rw[X0,b! dw];rfl,?_,λhS=>?_⟩
    .rw[Xx,ht];show bl (.th t::S)=_;rw[bl]
    .rw[Xx,ht];show TopsOk (.th t::S);rw[TopsOk];exact hS
   .cases e1;have Ap:¬(o! n ks).isHole=true:=by rw[hh];exact W0
    have ih:=p6 pre 0 ks us e3 hl P S;have e:(o! n ks).hw pre (.knot n us)=hws pre 0 ks us:=by rw[Th.hw,a! Ap];rfl
    rw[e,Th.walk];have hg:∀Q:List Th,be (.knot n ks::walks ks) Q=.nm n ks.length::be (walks ks) Q:=λQ=>by rw[be,a! Ap];rfl
    refine⟨by rw[hg,hg,ih.1],?_,?_,λhS=>?_⟩
    .have:aY (o! n ks::walks ks)=aY (walks ks):=by unfold aY;rw[X0,a! Ap]
     rw[this];exact ih.2.1
    .rw[hg,Yo,bl,ih.2.2.1,e3,List.take_left,List.drop_left]
    .rw[hg,Yo,TopsOk];exact⟨by rw[ih.2.2.1,Xd,e3];exact Zh _ _,ih.2.2.2 hS⟩
 |pre,.call s k,t,h,P,S=>by rw[w!]at h;cases h
theorem p6:∀(pre:List Int)(i:Int)(ks us:List Th),ks.length=us.length->bc ks us=C?->∀(P:List Th)(S:List Top),be (walks ks) ((hws pre i ks us).map (·.2)++P)=be (walks ks) ((hws pre i ks us).map (·.2))/\aY (walks ks)=(hws pre i ks us).length/\bl (be (walks ks) ((hws pre i ks us).map (·.2))++S)=us++bl S/\(TopsOk S->TopsOk (be (walks ks) ((hws pre i ks us).map (·.2))++S))
 | pre,i,[],us,e,_,P,S=>by
   have:us=[]:=Yi.mp (by simpa using e.symm);subst this;rw[walks,hws];exact⟨D?,D?,D?,λh=>h⟩
 |pre,i,k::ks,[],e,_,P,S=>by simp at e
 | pre,i,k::ks,u::us,e,h,P,S=>by
   rw[bL,X4]at h;have i2:=p6 pre (i+1) ks us (by simpa using e) h.2 P S;have i1:=oy (pre++[i]) k u h.1 ((hws pre (i+1) ks us).map (·.2)) (be (walks ks) ((hws pre (i+1) ks us).map (·.2))++S);have To:=oy (pre++[i]) k u h.1 ((hws pre (i+1) ks us).map (·.2)++P) S
   have hd:∀Q:List Th,((k.hw (pre++[i]) u).map (·.2)++Q).drop (aY k.walk)=Q:=λQ=>by
    rw[i1.2.1,<-WN (as:=k.hw (pre++[i]) u) (f:=(·.2)),List.drop_left]
   have C7:be (walks (k::ks)) ((hws pre i (k::ks) (u::us)).map (·.2))=be k.walk ((k.hw (pre++[i]) u).map (·.2))++be (walks ks) ((hws pre (i+1) ks us).map (·.2)):=by
    rw[walks,hws,W8,cA,hd,i1.1]
   refine⟨?_,?_,?_,λhS=>?_⟩
   .rw[C7,walks,hws,W8,XJ,cA,hd,To.1,i2.1]
   .rw[walks,hws,dj,Xd,i1.2.1,i2.2.1]
   .rw[C7,XJ,i1.2.2.1,i2.2.2.1];rfl
   .rw[C7,XJ];exact i1.2.2.2 (i2.2.2.2 hS)
end
theorem tF(pre:List Int){f t:Th}(h:f.lies t=C?):bl (be f.walk ((f.hw pre t).map (·.2)))=[t]/\TopsOk (be f.walk ((f.hw pre t).map (·.2)))/\aY f.walk=(f.hw pre t).length:=by
 obtain⟨_,h2,h3,h4⟩:=oy pre f t h [] [];rw[Xs]at h3 h4;exact⟨by rw[h3,bl],h4 (by rw[TopsOk];trivial),h2⟩
theorem hX:∀(xs ps:List Th),(be xs ps).length=xs.length
 | [],_=>rfl
 | x::xs,ps=>by
   rw[be];split
   .rw[W2,W2,hX xs ps.tail]
   .rw[W2,W2,hX xs ps]
theorem i3:∀(xs ps:List Th)(t:Th),Top.th t∈be xs ps->t∈ps\/t=hole
 | [],_,t,h=>nomatch h
 | x::xs,ps,t,h=>by
   rw[be]at h;split at h
   .cases ps with
    | nil =>
      rcases W7.mp h with h|h
      .cases h;exact .inr rfl
      .exact i3 xs [] t h
    | cons p ps =>
      rcases W7.mp h with h|h
      .cases h;exact .inl (Xe ..)
      .rcases i3 xs ps t h with h|h
       .exact .inl (Xb _ h)
       .exact .inr h
   .rcases W7.mp h with h|h
    .cases h
    .exact i3 xs ps t h
theorem yw(pre:List Int){f t:Th}(h:f.lies t=C?):∀p∈f.hw pre t,p.2.size<=t.size/\p.2.tall<=t.tall:=by
 intro p hp;have h1:p.2∈(f.hw pre t).map (·.2):=Xy.mpr ⟨p,hp,rfl⟩;rw[<-qf pre f t h]at h1;obtain⟨x,hx,e⟩:=Xy.mp h1;have:=tw (Y0.mp hx).1;rw[<-e];exact⟨this.2.2.2,this.2.1⟩
theorem zO(pre:List Int){f t:Th}(h:f.lies t=C?):(f.hw pre t).length<=f.size:=by
 have h1:=(tF pre h).2.2;rw[<-h1];unfold aY;have:=ZE A! f.walk;rw[J!]at this;exact this
theorem pick{G:α->β->γ->Prop}(h:∀x a,F x a->∃c,G x a c):∀{xs:List α}{as:List β},Xp F xs as->∃cs:List γ,cs.length=as.length/\∀(i:Nat)x a c,xs[i]?=A? x->as[i]?=A? a->cs[i]?=A? c->G x a c
 |_,_,.nil=>⟨[],rfl,λi x a c e=>by simp at e⟩
 | _,_,.cons r t=>by
   obtain⟨c,hc⟩:=h _ _ r;obtain⟨cs,h1,h2⟩:=pick h t;refine⟨c::cs,by rw[W2,W2,h1],λi x a c' e1 e2 e3=>?_⟩;cases i with
   |zero=>simp at e1 e2 e3;subst e1 e2 e3;exact hc
   |succ i=>exact h2 i x a c' (by simpa using e1) (by simpa using e2) (by simpa using e3)
theorem uF{R:α->γ->Prop}(p:α->Bool):∀{xs:List α}{cs:List γ},xs.length=cs.length->(∀(i:Nat)x c,xs[i]?=A? x->cs[i]?=A? c->R x c)->Xp R (xs.filter p) (((xs.zip cs).filter λz=>p z.1).map (·.2))
 | [],[],_,_=>.nil
 | [],_::_,h,_=>by simp at h
 |_::_,[],h,_=>by simp at h
 | x::xs,c::cs,h,r=>by
   rw[Zz,X0,X0];have ih:=uF p (xs:=xs) (cs:=cs) (R:=R) (by simpa using h) λi x' c' e1 e2=>r (i+1) x' c' (by simpa using e1) (by simpa using e2);by_cases e:p x=C?
   .rw[b! e,b! e];exact .cons (r 0 x c rfl rfl) ih
   .rw[a! e,a! e];exact ih
theorem P2.mapl{R:β->γ->Prop}(f:α->β):∀{xs:List α}{cs:List γ},Xp (λx c=>R (f x) c) xs cs->Xp R (xs.map f) cs
 |_,_,.nil=>.nil
 |_,_,.cons r h=>.cons r (P2.mapl f h)
mutual
theorem jR:∀f:Th,f.noCall->∀x∈f.walk,x.noCall
 | .knot n ks,h,x,hx=>by
   rw[Th.walk]at hx;rcases W7.mp hx with rfl|hx
   .exact h
   .rw[v!]at h;exact jc ks h x hx
 |.call s k,h,x,hx=>by rw[v!]at h;exact h.elim
theorem jc:∀ts:List Th,ba ts->∀x∈walks ts,x.noCall
 | [],_,x,hx=>by rw[walks]at hx;cases hx
 | t::ts,h,x,hx=>by
   rw[ba]at h;rw[walks]at hx;rcases XA.mp hx with hx|hx
   .exact jR t h.1 x hx
   .exact jc ts h.2 x hx
end
theorem j9{C:Nat}:∀ts:List Th,(∀u∈ts,u.size<=B/\u.tall<=C)->bB (dvs ts)<=C
 | [],_=>by rw[dvs,bB];exact Xh _
 | t::ts,h=>by
   have h1:=j9 ts λu hu=>h u (Xb _ hu);have h2:=(h t (Xe ..)).2;have h3:=t.dv_deep;rw[dvs,bB];lia
inductive Rep where
 |i
 |p
def enc(s l:Int):Int:=1000 * s+l
def StV(r:Rep)(H:Hp)(s:Int)(v:V):Prop:=match r with
 |.i=>v=.int s
 |.p=>∃(a:WR)(x y:Int),v=.ref a/\H a=A? (.tup [.int x,.int y])/\s=enc x y/\0<=x/\0<=y/\y<1000
theorem StV.mono{r:Rep}(k:KT H H'){s:Int}(h:StV r H s v):StV r H' s v:=by
 cases r with
 |i=>exact h
 | p =>
   obtain⟨a,x,y,e,h1,h2⟩:=h;exact⟨a,x,y,e,k _ _ h1,h2⟩
theorem uw{x y x' y':Int}(h:enc x y=enc x' y')(h1:0<=y)(h2:y<1000)(h3:0<=y')(h4:y'<1000):x=x'/\y=y':=by
 unfold enc at h;lia
mutual
def AtK(rp:Rep)(K:WQ)(H:Hp):Th->WR->Prop
 |.knot n ks,a=>n≠q/\∃as:List WR,TK K H a (.str n::as.map i!)/\AtsK rp K H ks as
 |.call s k,a=>∃v,TK K H a [.str q,v,.int k]/\StV rp H s v
def AtsK(rp:Rep)(K:WQ)(H:Hp):List Th->List WR->Prop
 | [],as=>as=[]
 |t::ts,as=>∃a r,as=a::r/\AtK rp K H t a/\AtsK rp K H ts r
end
mutual
theorem AtK.mono(k:KT H H'):∀{t:Th}{a:WR},AtK rp K H t a->AtK rp K H' t a
 | .knot n ks,a,h=>by
   rw[AtK]at h |-;obtain⟨h0,as,h1,h2⟩:=h;exact⟨h0,as,h1.mono k,AtsK.mono k h2⟩
 | .call s c,a,h=>by
   rw[AtK]at h |-;obtain⟨v,h1,h2⟩:=h;exact⟨v,h1.mono k,h2.mono k⟩
theorem AtsK.mono(k:KT H H'):∀{ts:List Th}{as:List WR},AtsK rp K H ts as->AtsK rp K H' ts as
 | [],as,h=>by rw[AtsK]at h |-;exact h
 | t::ts,as,h=>by
   rw[AtsK]at h |-;obtain⟨a,r,e,h1,h2⟩:=h;exact⟨a,r,e,AtK.mono k h1,AtsK.mono k h2⟩
end
theorem AtsK.nil:AtsK rp K H [] []:=by rw[AtsK]
theorem AtsK.cons{t:Th}(h1:AtK rp K H t a)(h2:AtsK rp K H ts as):AtsK rp K H (t::ts) (a::as):=by rw[AtsK];exact⟨a,as,D?,h1,h2⟩
theorem AtsK.append:∀{ts us:List Th}{as bs:List WR},AtsK rp K H ts as->AtsK rp K H us bs->AtsK rp K H (ts++us) (as++bs)
 | [],us,as,bs,h,g=>by rw[AtsK]at h;subst h;exact g
 | t::ts,us,as,bs,h,g=>by
   rw[AtsK]at h;obtain⟨a,r,rfl,h1,h2⟩:=h;exact .cons h1 (h2.append g)
theorem AtsK.length:∀{ts:List Th}{as:List WR},AtsK rp K H ts as->as.length=ts.length
 | [],as,h=>by rw[AtsK]at h;subst h;rfl
 | t::ts,as,h=>by
   rw[AtsK]at h;obtain⟨a,r,rfl,h1,h2⟩:=h;rw[W2,W2,h2.length]
theorem AtsK.reverse:∀{ts:List Th}{as:List WR},AtsK rp K H ts as->AtsK rp K H ts.reverse as.reverse
 | [],as,h=>by rw[AtsK]at h;subst h;exact .nil
 | t::ts,as,h=>by
   rw[AtsK]at h;obtain⟨a,r,rfl,h1,h2⟩:=h;rw[X8,X8];exact h2.reverse.append (.cons h1 .nil)
theorem AtsK.get:∀{ts:List Th}{as:List WR}{i:Nat}{a:WR},AtsK rp K H ts as->as[i]?=A? a->∃t,ts[i]?=A? t/\AtK rp K H t a
 | [],as,i,a,h,e=>by rw[AtsK]at h;subst h;simp at e
 | t::ts,as,i,a,h,e=>by
   rw[AtsK]at h;obtain⟨b,r,rfl,h1,h2⟩:=h;cases i with
   |zero=>simp at e;subst e;exact⟨t,D?,h1⟩
   |succ i=>exact h2.get (i:=i) (by simpa using e)
theorem AtsK.at:∀{ts:List Th}{as:List WR}{i:Nat}{t:Th},AtsK rp K H ts as->ts[i]?=A? t->∃a,as[i]?=A? a/\AtK rp K H t a
 | [],as,i,a,h,e=>by simp at e
 | t::ts,as,i,a,h,e=>by
   rw[AtsK]at h;obtain⟨b,r,rfl,h1,h2⟩:=h;cases i with
   |zero=>simp at e;subst e;exact⟨b,D?,h1⟩
   |succ i=>exact h2.at (i:=i) (by simpa using e)
theorem AtsK.snoc_inv(h:AtsK rp K H ts (as++[a])):∃us t,ts=us++[t]/\AtsK rp K H us as/\AtK rp K H t a:=by
 have r:=h.reverse;rw[YD,List.reverse_singleton,List.singleton_append]at r;cases e:ts.reverse with
 |nil=>rw[e,AtsK]at r;cases r
 | cons t us =>
   rw[e,AtsK]at r;obtain⟨b,z,e1,h1,h2⟩:=r;cases e1;refine⟨us.reverse,t,?_,?_,h1⟩
   .rw[<-X8,<-e,Y4]
   .have:=h2.reverse;rw[Y4]at this;exact this
mutual
theorem AtK.dv:∀{t:Th}{a:WR},AtK .i K H t a->DAtK K H t.dv (.ref a)
 | .knot n ks,a,h=>by
   rw[AtK]at h;obtain⟨_,as,h1,h2⟩:=h;rw[Th.dv,DAtK];exact⟨a,_,D?,h1,.cons (by rw[DAtK]) (AtsK.dvs h2)⟩
 | .call s k,a,h=>by
   rw[AtK]at h;obtain⟨v,h,hv⟩:=h;cases(show v=.int s from hv);rw[Th.dv,DAtK];exact⟨a,_,D?,h,.cons (by rw[DAtK]) (.cons (by rw[DAtK]) (.cons (by rw[DAtK]) .nil))⟩
theorem AtsK.dvs:∀{ts:List Th}{as:List WR},AtsK .i K H ts as->DAtsK K H (dvs ts) (as.map i!)
 | [],as,h=>by rw[AtsK]at h;subst h;rw[BB.dvs];exact .nil
 | t::ts,as,h=>by
   rw[AtsK]at h;obtain⟨a,r,rfl,h1,h2⟩:=h;rw[BB.dvs,Xx];exact .cons (AtK.dv h1) (AtsK.dvs h2)
end
mutual
theorem At.k:∀{t:Th}{a:WR},At H t a->AtK .i K H t a
 | .knot n ks,a,h=>by
   rw[At]at h;rw[AtK];obtain⟨h0,as,h1,h2⟩:=h;exact⟨h0,as,.of h1,Ats.k h2⟩
 | .call s c,a,h=>by
   rw[At]at h;rw[AtK];exact⟨_,.of h,D?⟩
theorem Ats.k:∀{ts:List Th}{as:List WR},Ats H ts as->AtsK .i K H ts as
 | [],as,h=>by rw[Ats]at h;rw[AtsK];exact h
 | t::ts,as,h=>by
   rw[Ats]at h;rw[AtsK];obtain⟨a,r,e,h1,h2⟩:=h;exact⟨a,r,e,At.k h1,Ats.k h2⟩
end
theorem AtK.row{t:Th}(h:AtK rp K H t a):∃r,TK K H a (.str t.name::r)/\r.length=t.wid:=by
 cases t with
 | knot n ks =>
   rw[AtK]at h;obtain⟨_,as,h1,h2⟩:=h;exact⟨_,h1,by rw[WN,h2.length];rfl⟩
 | call s k =>
   rw[AtK]at h;obtain⟨v,h,_⟩:=h;exact⟨_,h,D?⟩
theorem qg{l:Th}{x:WR}(h:AtK rp K H l x)(r:Th):aB l r=(l.isKnot && (decide (l.name=r.name) && decide (l.wid=r.wid))):=by
 cases l with
 | knot n ks =>
   rw[AtK]at h;cases r with
   | knot m us =>
     show(!(o! n ks).isHole && decide (n=m) && decide (ks.length=us.length))=(!false && !(o! n ks).isHole && (decide (n=m) && decide (ks.length=us.length)));rw[Bool.and_assoc];rfl
   | call s k =>
     show CV=(_ && (decide (n=q) && _));rw[c! h.1];simp
 |call s k=>cases r <;> rfl
theorem abD{ys:List V}{Q:VK}(ha:TK K H a xs)(hb:TK K H b ys)(hz:xs.length+ys.length<=1000000)(q:∀p H',j! H H'->TK K H' p (xs++ys)->Q (.ref p) H'):pH K (.ref a) (.ref b) H Q:=by
 refine⟨a,b,xs,ys,D?,D?,ha.sq,hb.sq,cT hz,λe=>?_,λ_ e=>?_,λ_ _ p hp=>?_⟩
 .exact q b H (.refl _) (by rw[e];exact hb)
 .exact q a H (.refl _) (by rw[e,Xs];exact ha)
 .exact q p _ (af hp _) (.of ac)
def PPK(K:WQ)(H:Hp)(p:Th×Th)(a:WR):Prop:=∃x y,H a=A? (.tup [.ref x,.ref y])/\AtK .i K H p.1 x/\AtK .i K H p.2 y
theorem PPK.mono(k:KT H H'){p:Th×Th}(h:PPK K H p a):PPK K H' p a:=by
 obtain⟨x,y,h1,h2,h3⟩:=h;exact⟨x,y,k _ _ h1,h2.mono k,h3.mono k⟩
theorem ej(k:KT H H'){ps:List (Th×Th)}(h:Xp (PPK K H) ps as):Xp (PPK K H') ps as:=x! (λ_ _ e=>PPK.mono k e) h
theorem qD:∀{ks us:List Th}{as bs ts:List WR},AtsK .i K H ks as->AtsK .i K H us bs->Xp (λ(p:V×V)t=>H t=A? (.tup [p.1,p.2])) ((as.map i!).zip (bs.map i!)) ts->Xp (PPK K H) (ks.zip us) ts
 | [],us,as,bs,ts,h1,h2,h=>by
   rw[AtsK]at h1;subst h1;rw[YS,List.zip_nil_left]at h;cases h;rw[List.zip_nil_left];exact .nil
 | k::ks,[],as,bs,ts,h1,h2,h=>by
   rw[AtsK]at h2;subst h2;rw[YS,List.zip_nil_right]at h;cases h;rw[List.zip_nil_right];exact .nil
 | k::ks,u::us,as,bs,ts,h1,h2,h=>by
   rw[AtsK]at h1 h2;obtain⟨a,ar,rfl,a1,a2⟩:=h1;obtain⟨b,br,rfl,b1,b2⟩:=h2;rw[Xx,Xx,Zz]at h;cases h with
   | cons r h =>
     rw[Zz];exact .cons ⟨a,b,r,a1,b1⟩ (qD a2 b2 h)
def TopAtK(rp:Rep)(K:WQ)(H:Hp):Top->WR->Prop
 |.nm n m,a=>∃ta,H a=A? (.tup [.ref ta,.int (m:Nat)])/\n≠q/\TK K H ta [.str n]
 |.th t,a=>∃ta,H a=A? (.tup [.ref ta,.int 0])/\AtK rp K H t ta
theorem TopAtK.mono(k:KT H H'):∀{x:Top}{a:WR},TopAtK rp K H x a->TopAtK rp K H' x a
 | .nm n m,a,h=>by
   obtain⟨ta,h1,h2,h3⟩:=h;exact⟨ta,k _ _ h1,h2,h3.mono k⟩
 | .th t,a,h=>by
   obtain⟨ta,h1,h2⟩:=h;exact⟨ta,k _ _ h1,h2.mono k⟩
theorem de(k:KT H H'){l:List Top}(h:Xp (TopAtK rp K H) l as):Xp (TopAtK rp K H') l as:=x! (λ_ _ e=>TopAtK.mono k e) h
theorem AtK.whole{t:Th}(h:AtK rp K H t a):∃xs,TK K H a xs/\xs.length<=t.size+2/\∀(H':Hp)(p:WR),KT H H'->TK K H' p xs->AtK rp K H' t p:=by
 cases t with
 | knot n ks =>
   rw[AtK]at h;obtain⟨h0,as,h1,h2⟩:=h;refine⟨_,h1,?_,λH' p kt hp=>?_⟩
   .have:=h2.length;have:=cj ks;rw[W2,WN,q!];lia
   .rw[AtK];exact⟨h0,as,hp,h2.mono kt⟩
 | call s k =>
   rw[AtK]at h;obtain⟨v,h,hv⟩:=h;refine⟨_,h,by rw[q!];exact WW _,λH' p kt hp=>?_⟩;rw[AtK];exact⟨v,hp,hv.mono kt⟩
theorem vx(h:TK K H a [.str star]):AtK rp K H hole a:=by
 rw[hole,AtK];exact⟨yI,[],h,by rw[AtsK]⟩
theorem pC:∀{ts:List Th}{as:List WR},Xp (AtK rp K H) ts as->AtsK rp K H ts as
 |_,_,.nil=>.nil
 |_,_,.cons r h=>.cons r (pC h)
end BB
namespace L2
open PySem PySem.Spec PySem.SeqAt PyProof.Rows BB
def zu(K:WQ)(B:Nat):R2:=λx y H Q=>∃a b vs ws ds es,x=.ref a/\y=.ref b/\SqT K H a vs/\SqT K H b ws/\DAtsK K H ds vs/\DAtsK K H es ws/\bB ds<=B/\∀b:Bool,(b=C?↔ds=es)->Q (.bl b) H
open Classical in
theorem sX{X:Cx}(hu:X.A.units+B+2<YJ):OpR X (Zt .Eq) (zu X.K B):=by
 intro U s Z H x y v u Q I rx ry h;obtain⟨a,b,vs,ws,ds,es,rfl,rfl,ha,hb,C6,hws,hB,q⟩:=h;cases rx;cases ry
 have r:RcAt X.A s (.ref a) (.ref b) (decide (Dv.tup ds=Dv.tup es)):=nM I ha hb C6 hws (by lia) λj d e x' y' u' v' e1 dx dy GQ DC=>by
  have q2:=fQ e1;refine mx I _ d e (WW _) x' y' u' v' X.A.in1 dx dy GQ DC ?_;show X.A.units+1+_<YJ;lia
 refine r X.prog X.w X.xe _ ⟨.bl (decide (Dv.tup ds=Dv.tup es)),H,I,rfl,q _ ?_⟩;constructor
 .intro z;exact Dv.tup.inj (e! z)
 .intro z;rw[z];exact d! rfl
def abW(K:WQ):V->Option Int->Option Int->Hp->VK->Prop:=λx lo hi H Q=>∃a xs,x=.ref a/\TK K H a xs/\∀p H',Same H H'->TK K H' p (jp xs lo hi)->Q (.ref p) H'
theorem tS{X:Cx}:SlR X (abW X.K):=by
 intro U s Z H x v vl vu lo hi sl Q I rx hs pl pu h;obtain⟨a,xs,rfl,ha,q⟩:=h;by_cases hw:H! xs.length 0 lo=0/\H! xs.length xs.length hi=xs.length
 .obtain⟨its,r,p1,hz⟩:=I.tuple ha.sq;have hl:=r.length;cases rx
  have e:jp xs lo hi=xs:=by
   unfold jp;rw[hw.1,hw.2,Z9,Nat.sub_zero,Yh]
  refine⟨"tuple",_,XT.lookup,p1.typeIs,HT.getItem_tuple_whole p1 hs pl pu (by rw[W4,<-hl];exact hw) ⟨.ref a,H,I,D?,q a H (.refl _) (by rw[e];exact ha)⟩⟩
 .exact iK U s Z H _ v vl vu lo hi sl Q I rx hs pl pu ⟨a,xs,rfl,ha.sq,hw,λp hp=>q p _ (af hp _) (.of ac)⟩
end L2
namespace BB
open PySem L2
mutual
def Th.com:Th->Th->Th
 |.knot n ks,r=>if aB (.knot n ks) r=C? then .knot n (dX ks r.kids)else hole
 |.call _ _,_=>hole
def dX:List Th->List Th->List Th
 | [],_=>[]
 | k::ks,us=>match us with
   | []=>[]
   |u::us=>k.com u::dX ks us
end
theorem qR:∀ks us:List Th,dX ks us=(ks.zip us).map λp=>p.1.com p.2
 | [],_=>by rw[dX];rfl
 |k::ks,[]=>by rw[dX];rfl
 |k::ks,u::us=>by rw[dX,qR ks us];rfl
theorem iH(l r:Th):l.com r=if aB l r=C? then .knot l.name ((l.kids.zip r.kids).map λp=>p.1.com p.2)else hole:=by
 cases l with
 |knot n ks=>rw[Th.com,qR];rfl
 | call s k =>
   rw[Th.com];have:aB (.call s k) r=false:=by cases r <;> rfl
   rw[this];rfl
def topC(p:Th×Th):Top:=if aB p.1 p.2=C? then .nm p.1.name p.1.kids.length else .th hole
theorem rR:∀(n:Nat)(ps:List (Th×Th)),szL ps<=n->∀S,bl ((wks ps).map topC++S)=ps.map (λp=>p.1.com p.2)++bl S/\(TopsOk S->TopsOk ((wks ps).map topC++S))
 |_,[],_,S=>⟨rfl,λh=>h⟩
 | 0,p::ps,h,S=>by
   have:=p.1.size_pos;rw[szL]at h;lia
 | n+1,p::ps,h,S=>by
   have hs:=p.1.size_eq;have hz:=jh p.1.kids p.2.kids;rw[szL]at h;have i2:=rR n ps (by lia) S;rw[wks,Th.sbs_eq,W8,XJ,Xx,Yo];have hc:(p::ps).map (λp=>p.1.com p.2)=p.1.com p.2::ps.map (λp=>p.1.com p.2):=rfl;by_cases AS:aB p.1 p.2=C?
   .have i1:=rR n (p.1.kids.zip p.2.kids) (by lia) ((wks ps).map topC++S);obtain⟨nm,ks,us,e1,e2,e3,_⟩:=bw AS
    have hl:((p.1.kids.zip p.2.kids).map λp=>p.1.com p.2).length=p.1.kids.length:=by
     rw[WN,List.length_zip,e1,e2];simp only[K!];lia
    have ht:topC (p.1,p.2)=.nm p.1.name p.1.kids.length:=by unfold topC;rw[b! AS]
    rw[b! AS,ht];refine⟨?_,λhS=>?_⟩
    .rw[bl,i1.1,i2.1,hc,iH,b! AS,<-hl,List.take_left,List.drop_left];rfl
    .rw[TopsOk];exact⟨by rw[i1.1,Xd,hl];exact Zh _ _,i1.2 (i2.2 hS)⟩
   .have ht:topC (p.1,p.2)=.th hole:=by unfold topC;rw[a! AS]
    rw[a! AS,ht,YS,Zc];refine⟨?_,λhS=>?_⟩
    .rw[bl,i2.1,hc,iH,a! AS];rfl
    .rw[TopsOk];exact i2.2 hS
theorem aaF(l r:Th):bl ((l.sbs r).map topC)=[l.com r]/\TopsOk ((l.sbs r).map topC):=by
 have h:=rR _ [(l,r)] (WW _) [];rw[wks,wks,Xs,Xs]at h;refine⟨?_,h.2 (by rw[TopsOk];trivial)⟩;rw[h.1,bl];rfl
theorem cV(l r:Th):aB l r=aB r l:=by
 cases l with
 | knot n ks =>
   cases r with
   | knot m us =>
     show(!decide (n=star/\ks=[]) && decide (n=m) && decide (ks.length=us.length))=(!decide (m=star/\us=[]) && decide (m=n) && decide (us.length=ks.length));by_cases h1:n=m
     .subst h1;by_cases h2:ks.length=us.length
      .have h3:(n=star/\ks=[])↔(n=star/\us=[]):=by
        constructor
        .rintro⟨a,b⟩;rw[b]at h2;exact⟨a,Yi.mp h2.symm⟩
        .rintro⟨a,b⟩;rw[b]at h2;exact⟨a,Yi.mp h2⟩
       rw[decide_eq_decide.mpr h3,h2]
      .have DW:¬us.length=ks.length:=λe=>h2 e.symm;simp[h2,DW]
     .have EN:¬m=n:=λe=>h1 e.symm;simp[h1,EN]
   |call s k=>rfl
 |call s k=>cases r <;> rfl
mutual
theorem qe:∀l r:Th,(l.com r).size<=l.size/\(l.com r).tall<=l.tall
 | .knot n ks,r=>by
   have h:=n9 ks r.kids;rw[Th.com];split
   .rw[q!,q!,t!,t!];lia
   .have:=(o! n ks).size_pos;have:=(o! n ks).tall_eq;rw[eC,nZ];lia
 |.call s k,r=>by rw[Th.com,eC,nZ,q!,t!];lia
theorem n9:∀ks us:List Th,ao (dX ks us)<=ao ks/\aP (dX ks us)<=aP ks
 | [],us=>by rw[dX,ao,aP];exact⟨WW _,WW _⟩
 |k::ks,[]=>by rw[dX,ao,aP];exact⟨Xh _,Xh _⟩
 | k::ks,u::us=>by
   have h1:=qe k u;have h2:=n9 ks us;rw[dX,ao,ao,aP,aP];lia
end
mutual
theorem lR:∀l r:Th,(l.com r).noCall
 | .knot n ks,r=>by
   rw[Th.com];split
   .rw[v!];exact j3 ks r.kids
   .exact jV
 |.call s k,r=>by rw[Th.com];exact jV
theorem j3:∀ks us:List Th,ba (dX ks us)
 | [],us=>by rw[dX,ba];trivial
 |k::ks,[]=>by rw[dX,ba];trivial
 |k::ks,u::us=>by rw[dX,ba];exact⟨lR k u,j3 ks us⟩
end
theorem TK.const(h:∀H:Hp,SqT K H a xs):TK K H a xs:=by
 rcases h (λ_=>B?)with(h|⟨o,h⟩)|h
 .cases h
 .cases h
 .exact .inr h
theorem yD{t:Th}{h0:WR}{Q:VK}(hA:AtK .i K H t a)(e0:TK K H h0 [.str star])(Ay:t.tall<=150)(k:Q (.bl t.isHole) H):zu K 150 (.ref a) (.ref h0) H Q:=by
 cases t with
 | knot n ks =>
   rw[AtK]at hA;obtain⟨hn,as,h1,h2⟩:=hA;rw[t!]at Ay;have hd:=jk ks;refine⟨a,h0,_,_,.str n::dvs ks,[.str star],D?,D?,h1.sq,e0.sq,.cons (by rw[DAtK]) h2.dvs,.cons (by rw[DAtK]) .nil,by rw[bB,Dv.deep];lia,λb hb=>?_⟩
   have e:b=(o! n ks).isHole:=by
    rw[Bool.eq_iff_iff,hb];show _↔decide (n=star/\ks=[])=C?;rw[decide_eq_true_iff];constructor
    .intro z;have z1:=List.cons.inj z;refine⟨Dv.str.inj z1.1,?_⟩;cases ks with
     |nil=>rfl
     |cons x xs=>rw[dvs]at z1;cases z1.2
    .rintro⟨z1,z2⟩;rw[z1,z2,dvs]
   rw[e];exact k
 | call sn kn =>
   rw[AtK]at hA;obtain⟨v,hA,hv⟩:=hA;cases(show v=.int sn from hv);refine⟨a,h0,_,_,[.str q,.int sn,.int kn],[.str star],D?,D?,hA.sq,e0.sq,.cons (by rw[DAtK]) (.cons (by rw[DAtK]) (.cons (by rw[DAtK]) .nil)),.cons (by rw[DAtK]) .nil,by simp[bB,Dv.deep],λb hb=>?_⟩
   have e:b=(z! sn kn).isHole:=by
    show b=CV;cases b with
    |false=>rfl
    |true=>exact g! (hb.mp rfl) (by simp)
   rw[e];exact k
end BB
namespace L2
open PySem PySem.Spec PyProof.Rows BB
def aaX(K:WQ)(T:String):List V->Hp->VK->Prop:=λxs H Q=>abi K T xs H Q\/∃a ys b,xs=[.ref a,.ty T]/\SqT K H a ys/\Z6 K (.type "tuple") (.type T)=A? b/\Q (.bl b) H
theorem g8{X:Cx}{T:String}:eT X (.builtin "isinstance") (aaX X.K T):=by
 intro U s Z H xs us Q I r h;rcases h with h|⟨a,ys,b,rfl,hq,e,q⟩
 .exact eE U s Z H xs us Q I r h
 .obtain⟨u1,u2,rfl,r1,r2⟩:=vals2 r;cases r1;cases r2;obtain⟨its,rv,⟨o,h1,h2,_⟩,hz⟩:=I.tuple hq;exact YQ PySem.W.kitx_tuple I.kIn ⟨o,h1,h2⟩ e (λz=>nomatch z) λtk=>⟨.bl b,H,I.tok _,rfl,q⟩
end L2
namespace BB
open PySem L2
theorem iE{f:Th}(h:f.isHole=CV):f.lies hole=false:=by
 cases f with
 | knot n ks =>
   rw[w!,h]
   have:aB (.knot n ks) hole=false:=by
    rw[cV];exact fX dw
   rw[this];rfl
 |call s k=>rw[w!]
theorem fF{f a b:Th}(h1:aB f a=C?)(h2:aB f b=C?):aB a b=true:=by
 obtain⟨n,ks,us,rfl,rfl,e3,hh⟩:=bw h1;obtain⟨n',Ih,vs,e1,rfl,e4,_⟩:=bw h2;cases e1
 have hn:(o! n us).isHole=false:=by
  cases hz:(o! n us).isHole with
  |false=>rfl
  | true =>
    rw[cV,fX hz]at h1;cases h1
 show(!(o! n us).isHole && decide (n=n) && decide (us.length=vs.length))=C?;rw[hn];have:us.length=vs.length:=by lia
 simp[this]
theorem mU{f a b:Th}(h:aB a b=C?):aB f a=aB f b:=by
 cases h1:aB f a with
 | true =>
   cases h2:aB f b with
   |true=>rfl
   | false =>
     have:=fF (f:=a) (a:=f) (b:=b) (by rw[cV];exact h1) h;rw[h2]at this;cases this
 | false =>
   cases h2:aB f b with
   |false=>rfl
   | true =>
     have:=fF (f:=b) (a:=f) (b:=a) (by rw[cV];exact h2) (by rw[cV];exact h);rw[h1]at this;cases this
theorem qw{n:Xk}{us vs:List Th}(f:Th)(h:us.length=vs.length):aB f (.knot n us)=aB f (.knot n vs):=by
 cases f with
 |knot m ks=>show(_ && _ && decide (ks.length=us.length))=(_ && _ && decide (ks.length=vs.length));rw[h]
 |call s k=>rfl
theorem qU:∀ks us:List Th,(dX ks us).length=min ks.length us.length
 | [],us=>by rw[dX];simp
 |k::ks,[]=>by rw[dX];simp
 |k::ks,u::us=>by rw[dX,W2,qU ks us,W2,W2];lia
mutual
theorem rc:∀f a b:Th,f.lies (a.com b)=(f.lies a && f.lies b)
 |.call s k,a,b=>by rw[w!,w!,w!];rfl
 | .knot n ks,a,b=>by
   cases hh:(o! n ks).isHole with
   | true =>
     rw[w!,w!,w!,hh];rfl
   | false =>
     by_cases Cm:aB a b=C?
     .obtain⟨m,us,vs,rfl,rfl,e3,_⟩:=bw Cm;have hc:(o! m us).com (.knot m vs)=.knot m (dX us vs):=by rw[Th.com,b! Cm];rfl
      have hl:(dX us vs).length=us.length:=by rw[qU];lia
      rw[hc,w!,w!,w!,hh,Bool.false_or,Bool.false_or,Bool.false_or,qw (.knot n ks) hl,<-mU (f:=.knot n ks) Cm];cases hs:aB (.knot n ks) (.knot m us)with
      |false=>rfl
      | true =>
        show(C? && bc ks (dX us vs))=((C? && bc ks us) && (C? && bc ks vs));rw[Bool.true_and,Bool.true_and,Bool.true_and];obtain⟨_,_,_,e1,e2,e4,_⟩:=bw hs;cases e1;cases e2;exact lX ks us vs e4 (by lia)
     .have hc:a.com b=hole:=by rw[iH,a! Cm]
      rw[hc,iE hh];cases h1:(o! n ks).lies a with
      |false=>rfl
      | true =>
        cases h2:(o! n ks).lies b with
        |false=>rfl
        | true =>
          rw[w!,hh,Bool.false_or,X4]at h1 h2;exact g! (fF h1.1 h2.1) Cm
theorem lX:∀ks us vs:List Th,ks.length=us.length->ks.length=vs.length->bc ks (dX us vs)=(bc ks us && bc ks vs)
 | [],us,vs,_,_=>by rw[bc,bc,bc];rfl
 |k::ks,[],vs,h,_=>by simp at h
 |k::ks,u::us,[],_,h=>by simp at h
 | k::ks,u::us,v::vs,h1,h2=>by
   rw[dX,bL,bL,bL,rc k u v,lX ks us vs (by simpa using h1) (by simpa using h2)];cases k.lies u <;> cases k.lies v <;> cases bc ks us <;> cases bc ks vs <;> rfl
end
def PAtK(K:WQ)(H:Hp)(p:List Int×Th)(a:WR):Prop:=∃pa ta,H a=A? (.tup [.ref pa,.ref ta])/\H pa=A? (.tup (p.1.map p!))/\AtK .i K H p.2 ta
def PsAtK(K:WQ)(H:Hp)(ps:List (List Int×Th))(as:List WR):Prop:=Xp (PAtK K H) ps as
theorem PAtK.mono(k:KT H H'){p:List Int×Th}(h:PAtK K H p a):PAtK K H' p a:=by
 obtain⟨pa,ta,h1,h2,h3⟩:=h;exact⟨pa,ta,k _ _ h1,k _ _ h2,h3.mono k⟩
theorem PsAtK.mono(k:KT H H'){ps:List (List Int×Th)}(h:PsAtK K H ps as):PsAtK K H' ps as:=x! (λ_ _ e=>PAtK.mono k e) h
end BB
open BB.PsAtK renaming mono->I!
namespace L2
open PySem PySem.Spec PySem.Calls PyProof.Rows PySem.W
section
variable{g:Array GenState}{d:Drawn}{t:Nat}{os:OsState}{C:WR}{o:Zb}{K:Frag}
end
section
variable{cd:WU}{outer:List Env}{E:XK}
end
section
variable{X:Cx}
end
open PySem.SeqAt
theorem ga{k:Nat}(hr:Room k A):A.units+2<YJ:=by
 have:=hr.units;lia
end L2
namespace BB
open PySem
end BB
namespace L2
open PySem PySem.Spec PySem.Calls PyProof.Rows BB
section
variable{R:Result->WY->Prop}
end
end L2
namespace PySem
end PySem
namespace L2
open PySem PySem.Spec PySem.Calls PyProof.Rows BB
section
variable{X:Cx}
def abH(K:WQ)(tl:TE):TI:=λZ H R=>tl Z H λx H1=>∃a,x=.ref a/\(((∃xs,SqL K H1 a xs)/\R (Itl K a) H1)\/((∃xs,SqT K H1 a xs)/\R (Itt K a) H1))
theorem zV{l:X7}(hl:PE X l tl):PI X tg l (abH X.K tl):=by
 intro U s Z H R I h;refine thn (hl U s Z H _ I h) λv s1⟨x,H1,I1,r1,q1⟩=>?_;obtain⟨a,e,q⟩:=q1;subst e;cases r1
 have fp:∀b∈[s1.1.1.size],jL X U H1 b:=λb hb=>by
  have e:b=s1.1.1.size:=by simpa using hb
  subst e;exact I1.fpOk (WW _) (I1.hok.fresh (WW _))
 rcases q with⟨⟨xs,hq⟩,q⟩|⟨⟨xs,hq⟩,q⟩
 .obtain⟨its,rv,p,hz⟩:=I1.list hq;refine wpAny_pyIter_list p.isList ?_;exact⟨s1.1.1.size,[s1.1.1.size],_,_,H1,D?,I1.kept (t':=s1.toks) λb o e=>WV _ e,nj a _,⟨_,W5 _ rfl,D?,D?⟩,fp,q⟩
 .obtain⟨its,rv,p,hz⟩:=I1.tuple hq;refine ZQ (show s1.1.IsTuple a its.toArray from p) ?_;exact⟨s1.1.1.size,[s1.1.1.size],_,_,H1,D?,I1.kept (t':=s1.toks) λb o e=>WV _ e,lV a _,⟨_,W5 _ rfl,D?,D?⟩,fp,q⟩
end
end L2
namespace BB
open PySem L2
theorem uB{J:It}(zs:List α)(f:α->V)(hz:zs.length=xs.length)(hn:xs.length<=1000000)
 (Fb:∀i H2,j! H H2->i<xs.length->J.go i H2) (Bb:∀H2,j! H H2->J.stop xs.length H2) (B8:∀(i:Nat)H2 x H3,j! H H2->i<xs.length->J.yld i H2 x H3->H3=H2/\xs[i]?=A? x)
 (hb:∀(i:Nat)x z H2(R:VK)(W':Hp->Prop),xs[i]?=A? x->zs[i]?=A? z->j! H H2->(∀H3,j! H2 H3->R (f z) H3)->g x (cσ js Z) H2 λAx H3=>tt Ax H3 λb H4=>if b=C? then te Ax H4 R else W' H4)
 (BP:∀D H',H D=B?->j! H H'->H' D=A? (.lst (zs.map f))->fin D H') :
 ∀D,H D=B?->∃(n:Nat)(W:Nat->Hp->Prop),W 0 (upd H D (.lst []))/\gQ js g tt te Z J D n W λH'=>fin D H':=by
 intro D hD;refine⟨xs.length,λi H'=>i<=xs.length/\j! H H'/\H' D=A? (.lst ((zs.take i).map f)),⟨Xh _,af hD _,by rw[ac];rfl⟩,?_⟩;rintro i H' ⟨hi,s1,e1⟩;by_cases Ak:i<xs.length
 .refine .inr ⟨Ak,Fb i H' s1 Ak,λv H1 hy=>?_⟩;obtain⟨e,hx⟩:=B8 i H' v H1 s1 Ak hy;subst e;obtain⟨z,BO⟩:∃z,zs[i]?=A? z:=⟨_,WS (by lia)⟩;refine hb i v z _ _ _ hx BO s1 λH3 s3=>⟨_,s3 _ _ e1,?_,Ak,ak (s1.trans s3) hD,?_⟩
  .rw[WN,XS];have:Xg=16777216:=sizeLine_eq;lia
  .rw[ac,take_snoc BO,W8];rfl
 .have AW:i=xs.length:=by lia
  subst AW;refine .inl ⟨Bb _ s1,BP D H' hD s1 ?_⟩;rw[e1,Yn (by lia)]
theorem iW(zs:List α)(f:α->V)(hS:SqL K H a xs)(hz:zs.length=xs.length)(hn:xs.length<=1000000)
 (hb:∀(i:Nat)x z H2(R:VK)(W':Hp->Prop),xs[i]?=A? x->zs[i]?=A? z->j! H H2->(∀H3,j! H2 H3->R (f z) H3)->g x (cσ js Z) H2 λAx H3=>tt Ax H3 λb H4=>if b=C? then te Ax H4 R else W' H4)
 (BP:∀D H',H D=B?->j! H H'->H' D=A? (.lst (zs.map f))->fin D H') :
 ∀D,H D=B?->∃(n:Nat)(W:Nat->Hp->Prop),W 0 (upd H D (.lst []))/\gQ js g tt te Z (Itl K a) D n W λH'=>fin D H' :=
 uB zs f hz hn (λi H2 s hi=>⟨xs,xs[i],s.seq hS,WS hi⟩) (λH2 s=>⟨xs,s.seq hS,WW _⟩) (λi H2 x H3 s hi hy=>⟨hy.1,hy.2 xs (s.seq hS)⟩) hb BP
end BB
namespace HT
open PySem PySem.Spec PyProof.Rows
theorem adjust_back(n:Nat):Z1 B? B? (-1) (n:Int)=((n:Int) - 1,-1):=rfl
theorem places_back(n:Nat):YK ((n:Int) - 1) (-1) (-1)=n:=by
 unfold YK;have h1:¬((-1:Int) > 0):=by lia
 simp only[h1,if_false];by_cases h:n=0
 .subst h;decide
 .have h2:((n:Int) - 1) > -1:=by lia
  simp only[h2,if_true];rw[show(- -1:Int)=1 by decide,Int.ediv_one];lia
theorem pick_back(xs:Array WU):((Xq xs.size).filterMap λ(m:Nat)=>xs[(((xs.size:Nat):Int) - 1+(m:Int) * (-1)).toNat]?).toArray=xs.toList.reverse.toArray:=by
 congr 1
 have e:∀m∈Xq xs.size,xs[(((xs.size:Nat):Int) - 1+(m:Int) * (-1)).toNat]?=xs.toList.reverse[m]?:=by
  intro m hm;have F9:=YZ.mp hm;rw[List.getElem?_reverse (by rw[XN];exact F9),Array.getElem?_toList,XN];congr 1;lia
 have f:∀(l:List Nat)(f g:Nat->Option WU),(∀m∈l,f m=g m)->l.filterMap f=l.filterMap g:=by
  intro l f g;induction l with
  |nil=>intro _;rfl
  | cons y ys ih =>
    intro h;rw[Z3,Z3,h y (by simp),ih (λm hm=>h m (by simp[hm]))]
 rw[f _ _ _ e]
 have gl:∀(ys:List WU),(Xq ys.length).filterMap (λm=>ys[m]?)=ys:=by
  intro ys;have:=pick_run ys.toArray 0 ys.length;simp only[List.filterMap_map]at this
  have e3:((λx=>ys.toArray[x]?) ∘ λx=>0+x)=λm=>ys[m]?:=by
   funext m;simp
  rw[e3]at this;rw[this];simp
 have:=gl xs.toList.reverse;rw[Yt,XN]at this;exact this
theorem sliceApplied_back{t:Tok}{Q:Int×Int×Nat->WY->Prop}(hs:s.1.IsSliceOf sl .none .none (.int (-1) t))
 (h:Q ((n:Int) - 1,-1,n) s):W9 (Xu prog w) A (Builtin.Slice.sliceApplied (.ref sl) (pure (n:Int))) Q E s:=by
 obtain⟨os,Ct,Cu,BC⟩:=id hs;unfold Builtin.Slice.sliceApplied Builtin.Slice.sliceFields;refine WO (WO (XX Ct BC (x:=.none) rfl (WO (XX Ct BC (x:=.none) rfl (WO (XX Ct BC (x:=.int (-1) t) rfl (WX ?_)))))));refine WO (slicePart_int ?_);show W9 _ _ (if((-1:Int) == 0)=C? then _ else _) _ _ s;rw[a! (by decide)];refine WO (slicePart_none (WO (slicePart_none (WO (WX ?_)))));show W9 _ _ (match Z1 B? B? (-1) (n:Int)with|(lo,hi)=>pure (lo,(-1:Int),YK lo hi (-1))) _ _ s;rw[adjust_back n];show W9 _ _ (pure ((n:Int) - 1,(-1:Int),YK ((n:Int) - 1) (-1) (-1))) _ _ s;rw[places_back];exact WX h
theorem getItem_tuple_back{t:WR}{tk:Tok}(ht:IsTup s.1 t items)(hs:s.1.IsSliceOf sl .none .none (.int (-1) tk))
 (h:Q (.ref s.1.1.size) {s with heap:=s.1.push {cls:=.type "tuple",data:=.seq items.toList.reverse.toArray}})
 (hsz:items.size<=Xg):W9 (Xu prog w) A (getItem (.ref t) (.ref sl)) Q E s:=by
 have Ba:sizeOk (.seq items.toList.reverse.toArray):=by
  show items.toList.reverse.toArray.size<=Xg;rw[W4,Yt,XN];exact hsz
 obtain⟨os,Ct,Cu,BC⟩:=id hs;have IW:s.TypeIs (.ref sl) "slice":=⟨os,Ct,Cu⟩;unfold getItem
 try with_reducible refine Yy ?_
 first|refine WO (WX ?_)|skip
 refine WO (wpAny_sequenceKey ht.typeIs (by decide) ?_)
 refine WO (X2 (name:=Xz "__getitem__") ht.typeIs XT
  (X6 XT ht.typeIs entry_tuple_getitem ?_ (args_tuple_getitem _ _)))
 show W9 _ _ (ZV (.ref t) >>= _) _ _ s;refine WO (tupleItemsOf_ ht ?_);refine WO (ZF IW ?_);rw[b! (by decide)];refine WO (sliceApplied_back hs ?_)
 have C1:¬((((items.size:Nat):Int) - 1 == 0 && (-1:Int) == 1 && items.size == items.size)=C?):=by
  simp
 show W9 _ _ (if(((items.size:Nat):Int) - 1 == 0 && (-1:Int) == 1 && items.size == items.size)=C? then _ else _) _ _ s;rw[a! C1,pick_back]
 first
  |exact WO (m:=YN _) (Ye (WX ⟨_,rfl,WX h⟩) Ba)
  |exact WO (m:=YN _) (Ye (WO (WX (WX ⟨_,rfl,WX h⟩))) Ba)
  |exact WO (WO (m:=YN _) (Ye (WX (WX ⟨_,rfl,WX h⟩)) Ba))
  |exact WO (WO (m:=YN _) (Ye (WX ⟨_,rfl,WX h⟩) Ba))
end HT
namespace L2
open PySem PySem.Spec PyProof.Rows
section
variable{X:Cx}{p2 p3 p4:Z2}
def BkR(X:Cx)(r:V->Hp->VK->Prop):Prop :=
 ∀(U:List (WR×Zb))(s:WY)(Z:St)(H:Hp)(x:V)(v:WU)(t:Tok)(sl:WR)(Q:VK),Inv X U Z H s->RelV x v->s.1.IsSliceOf sl .none .none (.int (-1) t)->r x H Q ->
   ∃T id,typeLookup (.type T) "__getitem__"=pure (A? (.builtin id))/\s.TypeIs v T/\W9 (Xu X.prog X.w) X.A (getItem v (.ref sl)) (EP X U Z Q) X.xe s
def tBk(r:V->Hp->VK->Prop)(te:TE):TE:=λZ H Q=>te Z H λx H1=>r x H1 Q
theorem sW{r:V->Hp->VK->Prop}(hr:BkR X r)(he:PE X e te):PE X (.Subscript e (.Slice B? B? (A? (.UnaryOp .USub (.Constant (.int 1) 0 p3) p4)) p2) pos) (tBk r te):=by
 intro U s Z H Q I h;refine Subscript_ (thn (he U s Z H _ I h) λv s1⟨x,H1,I1,r1,q1⟩=>?_);refine wpAny_Slice ?_;rw[evalPart_none];refine WX ?_;refine WX ?_;have Tp:PO X (A? (.UnaryOp .USub (.Constant (.int 1) 0 p3) p4)) (zg (tUn (rU λi=>.int (-i)) (tC (.int 1)))):=dQ (aaO z8 ag);refine thn (Tp U s1 Z H1 (λo H'=>o=A? (-1)/\r x H' Q) I1 ⟨1,rfl,_,rfl,rfl,q1⟩) λvs s2⟨o,H2,I2,ps,ho,q2⟩=>?_;subst ho;cases ps with
 | int i t =>
   have I4:Inv X U Z H2 {s2 with heap:=s2.1.push {cls:=.type "slice",data:=.fields #[.none,.none,.int (-1) t]}}:=I2.kept (t':=s2.toks) λb ob q=>WV _ q;obtain⟨T,id,hT,ht,hg⟩:=hr U {s2 with heap:=s2.1.push {cls:=.type "slice",data:=.fields #[.none,.none,.int (-1) t]}} Z H2 x v t s2.1.1.size Q I4 r1 (Heap.IsSliceOf.new ..) q2;show W9 (Xu X.prog X.w) X.A (subscriptTail e (.Slice B? B? (A? (.UnaryOp .USub (.Constant (.int 1) 0 p3) p4)) p2) v (.ref s2.1.1.size)) (EP X U Z Q) X.xe {s2 with heap:=s2.1.push {cls:=.type "slice",data:=.fields #[.none,.none,.int (-1) t]}};exact tail_any (ops:=[v,.ref s2.1.1.size]) ht hT hg (by with_unfolding_all rfl)
def abX(K:WQ):V->Hp->VK->Prop:=λx H Q=>∃a xs,x=.ref a/\SqT K H a xs/\∀p,H p=B?->Q (.ref p) (upd H p (.tup xs.reverse))
def abK(K:WQ):V->Hp->VK->Prop:=λx H Q=>∃a xs,x=.ref a/\SqL K H a xs/\∀p,H p=B?->Q (.ref p) (upd H p (.lst xs.reverse))
theorem Vals.rev(r:Vals xs us):Vals xs.reverse us.reverse:=by
 induction r with
 |nil=>exact .nil
 |cons r1 r2 ih=>rw[X8,X8];exact ih.append (.cons r1 .nil)
theorem aaE:BkR X (abX X.K):=by
 intro U s Z H x v t sl Q I rx hs h;obtain⟨a,xs,rfl,hx,q⟩:=h;cases rx;obtain⟨its,r,ht,hz⟩:=I.tuple hx;have hlen:its.toArray.size=xs.length:=by rw[W4];exact r.length.symm
 refine⟨"tuple",_,XT.lookup,ht.typeIs,?_⟩;refine HT.getItem_tuple_back ht hs ?_ (by rw[hlen];exact hz);refine⟨.ref s.1.1.size,_,I.laid (t':=s.toks) (o:=.tup xs.reverse) (λb ob q=>WV _ q) (WW _) ?_,D?,q _ (I.hok.fresh (WW _))⟩;exact⟨by rw[Yt];exact hz,_,0,r.rev,W5 _ rfl⟩
theorem kT(its:List WU):slicePick its.toArray B? B? (A? (-1))=its.reverse.toArray:=by
 unfold slicePick;have e:sliceBounds B? B? (A? (-1)) its.toArray.size=((its.toArray.size:Int) - 1,-1,-1):=rfl;rw[e];unfold sliceRange;have h1:¬((-1:Int) > 0):=by lia
 simp only[h1,if_false]
 have hc:(if((its.toArray.size:Nat):Int) - 1 > -1 then(((its.toArray.size:Nat):Int) - 1 - -1 - -1 - 1) / (- -1)else 0).toNat=its.toArray.size:=by
  by_cases h:its.toArray.size=0
  .rw[h];decide
  .rw[b! (by lia),show(- -1:Int)=1 by decide,Int.ediv_one];lia
 rw[hc,List.filterMap_map];have:=HT.pick_back its.toArray;rw[<-this];congr 1;congr 1;funext m;show its.toArray[(((its.toArray.size:Nat):Int) - 1+-1 * (m:Int)).toNat]?=_;rw[Int.mul_comm]
theorem yE:BkR X (abK X.K):=by
 intro U s Z H x v t sl Q I rx hs h;obtain⟨a,xs,rfl,hx,q⟩:=h;cases rx;obtain⟨its,r,ht,hz⟩:=I.list hx;have hlen:=r.length;refine⟨"list",_,slot_list_getitem.lookup,ht.isList.typeIs,?_⟩;refine wpAny_getItem_list_slice ht.isList hs .none .none (.int _ _) (by simp) ?_ (by rw[W4] <;> lia);rw[kT];refine⟨.ref s.1.1.size,_,I.laid (t':=s.toks) (o:=.lst xs.reverse) (λb ob q=>WV _ q) (WW _) ?_,D?,q _ (I.hok.fresh (WW _))⟩;exact⟨by rw[Yt];exact hz,_,0,r.rev,W5 _ rfl⟩
end
open PySem.Calls
section
variable{X:Cx}
end
section
variable{X:Cx}
end
end L2
namespace BB
open PySem L2
structure cN(ks:List (Xk×Int)):Prop where
 ne:1<=ks.length
 le:ks.length<=8
 low:∀k∈ks,Low k.1/\k.1.length<=8
 num:∀k∈ks,0<=k.2/\k.2<=3
 zero:∃k∈ks,k.2=0
 nd:∀(i j:Nat)(k l:Xk×Int),ks[i]?=A? k->ks[j]?=A? l->k.1=l.1->i=j
mutual
def Th.FitS(ks:List (Xk×Int))(S C:Int):Th->Prop
 |.knot n ts=>(n,(ts.length:Int))∈ks/\FitSs ks S C ts
 |.call s k=>0<=s/\s<S/\0<=k/\k<C
def FitSs(ks:List (Xk×Int))(S C:Int):List Th->Prop
 | []=>True
 |t::ts=>t.FitS ks S C/\FitSs ks S C ts
end
theorem FitSs.of{ks:List (Xk×Int)}:∀{ts:List Th},(∀t∈ts,t.FitS ks S C)->FitSs ks S C ts
 | [],_=>by rw[FitSs];trivial
 | t::ts,h=>by
   rw[FitSs];exact⟨h t (Xe ..),FitSs.of λu hu=>h u (Xb _ hu)⟩
theorem mW(h:∀t∈ts,t.tall<=n):aP ts<=n:=by
 induction ts with
 |nil=>rw[aP];exact Xh _
 | cons t ts ih =>
   rw[aP];have h1:=h t (Xe ..);have h2:=ih λu hu=>h u (Xb _ hu);lia
def SameB(l:WR)(H H':Hp):Prop:=∀b o,b≠l->H b=A? o->H' b=A? o
theorem SameB.of{l:WR}(h:j! H H'):SameB l H H':=λb o _ e=>h b o e
def RowAt(H:Hp)(row:List Th)(a:WR):Prop:=∃as:List WR,H a=A? (.tup (as.map i!))/\Ats H row as
theorem RowAt.mono(k:KT H H'){row:List Th}(h:RowAt H row a):RowAt H' row a:=by
 obtain⟨as,h1,h2⟩:=h;exact⟨as,k _ _ h1,h2.mono k⟩
structure BookAt(H:Hp)(ins outs:List (Xk×Int))(head:Th)(rows:List (List Th))(r ia oa ha ra:WR)(Ag Az AE:List WR):Prop where
 bk:H r=A? (.tup [.ref ia,.ref oa,.ref ha,.ref ra])
 inE:H ia=A? (.tup (Ag.map i!))
 inK:KsAt H ins Ag
 outE:H oa=A? (.tup (Az.map i!))
 outK:KsAt H outs Az
 hd:At H head ha
 rl:H ra=A? (.tup (AE.map i!))
 rw:Xp (RowAt H) rows AE
theorem BookAt.mono(k:KT H H'){r:WR}{Az:List WR}(b:BookAt H ins outs head rows r ia oa ha ra Ag Az AE):BookAt H' ins outs head rows r ia oa ha ra Ag Az AE :=
 ⟨k _ _ b.bk,k _ _ b.inE,b.inK.mono k,k _ _ b.outE,b.outK.mono k,b.hd.mono k,k _ _ b.rl,x! (λ_ _ e=>e.mono k) b.rw⟩
theorem nN{ks:List (Xk×Int)}:∀{ts:List Th},FitSs ks S C ts->∀t∈ts,t.FitS ks S C
 | [],_,t,ht=>by cases ht
 | a::ts,h,t,ht=>by
   rw[FitSs]at h;rcases W7.mp ht with rfl|ht
   .exact h.1
   .exact nN h.2 t ht
def Bk(H:Hp)(ins outs:List (Xk×Int))(head:Th)(rows:List (List Th))(r:WR):Prop:=∃ia oa ha ra Ag Az AE,BookAt H ins outs head rows r ia oa ha ra Ag Az AE
theorem Bk.mono(k:KT H H'){r:WR}(b:Bk H ins outs head rows r):Bk H' ins outs head rows r:=by
 obtain⟨ia,oa,ha,ra,Ag,Az,AE,b⟩:=b;exact⟨ia,oa,ha,ra,Ag,Az,AE,b.mono k⟩
end BB
open BB.Th renaming FitS->u!
namespace L2
open PySem PySem.Spec PySem.Calls PyProof.Rows PySem.SeqAt
end L2
namespace BB
open PySem L2
end BB
namespace L2
open PySem PySem.Spec PyProof.Rows
section
variable{X:Cx}{p p2 Av:Z2}
end
end L2
namespace BB
open PySem L2
theorem ig{F:Hp->α->WR->Prop}{J:It}(zs:List α)(hF:∀H1 H2 z p,KT H1 H2->F H1 z p->F H2 z p)(hz:zs.length=xs.length)(hn:xs.length<=1000000)
 (Fb:∀i H2,j! H H2->i<xs.length->J.go i H2) (Bb:∀H2,j! H H2->J.stop xs.length H2) (B8:∀(i:Nat)H2 x H3,j! H H2->i<xs.length->J.yld i H2 x H3->H3=H2/\xs[i]?=A? x)
 (hb:∀(i:Nat)x z H2(R:VK)(W':Hp->Prop),xs[i]?=A? x->zs[i]?=A? z->j! H H2->(∀H3 p,j! H2 H3->F H3 z p->R (.ref p) H3)->g x (cσ js Z) H2 λAx H3=>tt Ax H3 λb H4=>if b=C? then te Ax H4 R else W' H4)
 (BP:∀D H' as,H D=B?->j! H H'->H' D=A? (.lst (as.map i!))->Xp (F H') zs as->fin D H') :
 ∀D,H D=B?->∃(n:Nat)(W:Nat->Hp->Prop),W 0 (upd H D (.lst []))/\gQ js g tt te Z J D n W λH'=>fin D H':=by
 intro D hD;refine⟨xs.length,λi H'=>i<=xs.length/\j! H H'/\∃as:List WR,H' D=A? (.lst (as.map i!))/\Xp (F H') (zs.take i) as,⟨Xh _,af hD _,[],by rw[ac];rfl,.nil⟩,?_⟩;rintro i H' ⟨hi,s1,as,e1,hp⟩;by_cases Ak:i<xs.length
 .refine .inr ⟨Ak,Fb i H' s1 Ak,λv H1 hy=>?_⟩;obtain⟨e,hx⟩:=B8 i H' v H1 s1 Ak hy;subst e;obtain⟨z,BO⟩:∃z,zs[i]?=A? z:=⟨_,WS (by lia)⟩;have hl:(zs.take i).length=as.length:=W3 hp;rw[XS]at hl;refine hb i v z _ _ _ hx BO s1 λH3 p s3 Ni=>⟨_,s3 _ _ e1,?_,Ak,ak (s1.trans s3) hD,as++[p],?_,?_⟩
  .rw[WN];have:Xg=16777216:=sizeLine_eq;lia
  .rw[ac,W8];rfl
  .have kt:KT H3 (upd H3 D (.lst (as.map i!++[.ref p]))):=aL (s3 _ _ e1);rw[take_snoc BO];exact r! (x! (λx y e=>hF _ _ _ _ ((k! s3).trans kt) e) hp) (.cons (hF _ _ _ _ kt Ni) .nil)
 .have AW:i=xs.length:=by lia
  subst AW;refine .inl ⟨Bb _ s1,BP D H' as hD s1 e1 ?_⟩;rw[Yn (by lia)]at hp;exact hp
end BB
namespace L2
open PySem PySem.Spec PyProof.Rows
theorem us1:∀{us:List α},us.length=1->∃a,us=[a]
 | [a],_=>⟨a,rfl⟩
theorem us2:∀{us:List α},us.length=2->∃a b,us=[a,b]
 | [a,b],_=>⟨a,b,rfl⟩
theorem us3:∀{us:List α},us.length=3->∃a b c,us=[a,b,c]
 | [a,b,c],_=>⟨a,b,c,rfl⟩
theorem us4:∀{us:List α},us.length=4->∃a b c d,us=[a,b,c,d]
 | [a,b,c,d],_=>⟨a,b,c,d,rfl⟩
theorem us5:∀{us:List α},us.length=5->∃a b c d e,us=[a,b,c,d,e]
 | [a,b,c,d,e],_=>⟨a,b,c,d,e,rfl⟩
end L2
namespace PySem
open Sem (wp)
section
variable{K:Type}[DecidableEq K]{knd:HeapKind prog w K}
end
end PySem
namespace L2
open PySem PySem.Spec PyProof.Rows BB
end L2
namespace BB
open PySem L2
theorem zR:(Xz "*")≠q:=by decide +kernel
end BB
namespace PySem
open Sem (wp)
section
variable{wr:List WR}{G:Array GenState->Array GenState->Prop}{P:Nat->WU->Prop}{St:Nat->WY->Prop}
end
end PySem
namespace L2
open PySem PySem.Spec PyProof.Rows
section
variable{X:Cx}{o:X7}{to:TE}{p2 Av apos Aq:Z2}
end
end L2
namespace PySem
open Sem (wp)
namespace F
theorem bb_list_nokeys:typeLookup (.type "list") "keys"=pure none:=by rw[Y5,Yv];kernel_rfl
end F
section
variable{xs:Array WU}{k:Nat}
theorem bb_nokeysL{Q:Option WU->WY->Prop}(hA:A.handled=B?)(hx:s.1.get? a=A? {cls:=.type "list",data:=.seq xs k})
 (q:∀h' tk,(∀b o,s.1.get? b=A? o->h'.get? b=A? o)->Q B? {s with heap:=h',toks:=tk}):W9 (Xu prog w) A (getAttr? (.ref a) "keys") Q E s:=by
 obtain⟨hp,g,d,tk,os⟩:=s;have gT:∀z,(⟨hp,g,d,z,os⟩:WY).TypeIs (.ref a) "list":=λ_=>⟨_,hx,rfl⟩;have g1:=sub_AttributeError;have g3:=F.slot_list_getattribute.lookup;have g4:=F.slot_list_getattribute.bind (.ref a);have g5:=am_list_getattr_none;unfold getAttr? getAttrBy? getAttrBy
 repeat (any_goals (first|assumption|exact gT _|((with_reducible show W9 _ _ (call (Value.builtin "list.__getattribute__") _ _) _ _ _);refine call_meets F.slot_list_getattribute (gT _) am_entry_list_getattribute (F.args_list_getattribute_2 _ _) (meets_getattribute_miss_list a xs k #[] "keys" _ F.bb_list_nokeys (by decide +kernel) (by decide)) ⟨hx,hA,λh' Tq e A7=>?_⟩)|wp_step))
 obtain⟨t',u',he⟩:=A7.there;show W9 _ _ (getattributeRaised _ _ _ _ _ _ _) _ _ _;unfold getattributeRaised
 repeat (any_goals (first|assumption|wp_step))
 exact q h' Tq A7.keeps
end
end PySem
namespace L2
open PySem PySem.Spec PyProof.Rows
def du:List (List Key×V)->List (List Key×V)->List (List Key×V)
 |f',[]=>f'
 |f',p::ps=>du (putK f' p.1 p.2) ps
def PrA(H:Hp)(pr:List Key×V)(pa:WR):Prop:=∃ka,H pa=A? (.tup [.ref ka,pr.2])/\H ka=A? (.tup (pr.1.map kV))
section
variable{X:Cx}
theorem ve{r:WU}{k:List Key}{f':List (List Key×V)}{Q:Unit->WY->Prop}(hu:(tupleKind (au X.prog X.w)).room A)(I:Inv X U Z H s)(e:H a=A? (.dT f'))(eb:H b=A? (.tup (k.map kV)))(l:f'.length<Xg)(rv:RelV v r)(h:∀h' tk,YG a s.1 h'->Inv X U Z (upd H a (.dT (putK f' k v))) {s with heap:=h',toks:=tk}->Q () {s with heap:=h',toks:=tk}) :
 W9 (Xu X.prog X.w) A (dictSet a (.ref b) r) Q E s:=by
 obtain⟨z,hd,xs,rel,dd⟩:=pQ I.hok e;have hz:xs.length<=Xg:=by rw[<-W3 rel];exact z
 have hl:(putK f' k v).length<=Xg:=by have:=bz f' k v;lia
 refine wpAny_dictSet_heap (hsz:=hz) hu (gd I.hok eb) dd λh' C5 hs=>h _ _ hs ?_;obtain⟨q,es,ep,hq,h2,h3,h4,_,h5⟩:=C5;refine fU I (by rw[e];exact YV) hs ⟨q,hq⟩ ⟨hl,hd,_,(rel.put k eb rv).keeps λc ys ec=>?_,q,es,ep,hq,h2,h3,h4,h5⟩;rw[ai (eY ec e (λz=>nomatch z))];exact ec
theorem rH{l:WR}{prs:List (List Key×V)}{ps:List WR}{R:Result->WY->Prop}(hh:A.handled=B?)(hu:A.units+8<YJ)(hn:prs.length<=10000) :
 ∀(m i:Nat)(s:WY)(tk:Tok)(H:Hp)(f':List (List Key×V)),prs.length - i=m->i<=prs.length->Inv X U Z H s->H d=A? (.dT f')->f'.length<=i->jL X U H it->s.1.IsListIter it l i->H l=A? (.lst (ps.map i!))->Xp (PrA H) prs ps ->
   (∀s',Inv X U Z (upd H d (.dT (du f' (prs.drop i)))) s'->R (.ok (.ret .none)) s') ->
   codeAny (Xu X.prog X.w) A (.builtin "dict.update.loop" ⟨[.ref d,.ref it,.int i tk,.none],[]⟩) R s:=by
 intro m;induction m with
 | zero =>
   intro i s tk H f' hk hi I ed BQ hf hit el Bn hR;have B7:i=prs.length:=by lia
   subst B7;obtain⟨its,rv,p,hz⟩:=I.list (n! (K:=X.K) el);have AK:prs.length=ps.length:=W3 Bn;have hl:=rv.length;rw[WN]at hl;obtain⟨f0,f1,f2,f3,f4,f5⟩:=hf;refine codeAny_builtin PySem.F.bb_entry_upd ?_;rw[Around.under_plainId E! _];show W9 _ A.in1 (pyNext (.ref it) >>= _) _ _ s;refine WO (wpAny_pyNext_list_end hh hit p.isList (by simp;lia) λh' eb=>?_);refine WO (WX (WX ?_));refine hR _ ?_;rw[List.drop_length]
   have e0:upd H d (.dT (du f' []))=H:=by
    funext b;by_cases hb:b=d
    .rw[hb,ac,ed];rfl
    .rw[ai hb]
   rw[e0];exact I.turned (t':=s.toks) (λb o hb e=>eb b o hb e) f0 f1 f3 f4 f5
 | succ m ih =>
   intro i s tk H f' hk hi I ed BQ hf hit el Bn hR;have Ak:i<prs.length:=by lia
   have AK:prs.length=ps.length:=W3 Bn;obtain⟨its,rv,p,hz⟩:=I.list (n! (K:=X.K) el);have hl:=rv.length;rw[WN]at hl;obtain⟨pa,DX,ka,BM,Ee⟩:=F! Bn (WS Ak);have hx:(ps.map i!)[i]?=A? (.ref pa):=by rw[WZ,DX];rfl
   obtain⟨u,Tr,ru⟩:=rv.get hx;cases ru;obtain⟨f0,f1,f2,f3,f4,f5⟩:=id hf;refine codeAny_builtin PySem.F.bb_entry_upd ?_;rw[Around.under_plainId E! _];show W9 _ A.in1 (pyNext (.ref it) >>= _) _ _ s;refine WO (wpAny_pyNext_list_item hit p.isList (x:=.ref pa) (by simpa using Tr) λh1 Nj Tt=>?_);have I1:Inv X U Z H {s with heap:=h1}:=I.turned (t':=s.toks) (λb o hb e=>(Tt.2 b hb).trans e) f0 f1 f3 f4 f5;obtain⟨_,Ai,n2,Tu,e2⟩:=(show ObjOk X.prog X.w H h1 pa (.tup [.ref ka,(prs[i]).2])from I1.hok pa _ BM)
   obtain⟨vv,rfl,Tv⟩:∃vv,Ai=[.ref ka,vv]/\RelV (prs[i]).2 vv:=by
    cases Tu with
    | cons a b =>
      cases b with
      | cons c d =>
        cases d;cases a;exact⟨_,D?,c⟩
   have Tw:(⟨h1,s.gens,s.drawn,s.toks,s.os⟩:WY).TypeIs (.ref pa) "tuple":=⟨_,e2,rfl⟩;refine WO (Yy ?_);refine WO (wpAny_tryCatch ?_);unfold Builtin.Dict.pairItems;refine WO (ZF Tw ?_);rw[b! (by decide)];refine WO (YC e2 rfl (WX ?_));show W9 _ _ (holding [.ref ka,vv] (dictSet d (.ref ka) vv)) _ _ _;refine Yy (ve (k:=(prs[i]).1) ?_ I1 ed Ee (by have:=f8;rw[sizeLine_eq];lia) Tv λh2 Wn DB I2=>?_)
   .exact tupleKind_room_in1 (by lia)
   refine WX ⟨plainId_quiet E! _,?_⟩
   have Ju:Y7 ((i:Int)+1)=.int ((i+1:Nat):Int) 0:=by
    show Value.int ((i:Int)+1) 0=_;rw[show((i+1:Nat):Int)=(i:Int)+1 by lia]
   rw[Ju];have LF:it≠d:=λz=>by rw[z,ed]at f0;cases f0
   refine ih (i+1) _ 0 _ (putK f' (prs[i]).1 (prs[i]).2) (by lia) Ak I2 ac (by have:=bz f' (prs[i]).1 (prs[i]).2;lia) ⟨by rw[ai LF];exact f0,f1,f2,f3,f4,f5⟩ ?_ ?_ ?_ λs' I'=>hR s' ?_
   .obtain⟨o,g1,r⟩:=Nj;exact⟨o,(DB.2 it LF).trans g1,r⟩
   .rw[ai (eY el ed (λz=>nomatch z))];exact el
   .refine x! (λx y e=>?_) Bn;obtain⟨Ef,g1,g2⟩:=e;exact⟨Ef,by rw[ai (eY g1 ed (λz=>nomatch z))];exact g1,by rw[ai (eY g2 ed (λz=>nomatch z))];exact g2⟩
   .rw[kK]at I';rw[List.drop_eq_getElem_cons Ak];exact I'
def aaq:List V->Hp->VK->Prop:=λxs H Q=>∃(l:WR)(ps:List WR)(prs:List (List Key×V)),xs=[.ref l]/\H l=A? (.lst (ps.map i!))/\Xp (PrA H) prs ps/\prs.length<=10000/\∀d,H d=B?->Q (.ref d) (upd H d (.dT (du [] prs)))
theorem lK(hu:X.A.units+12<YJ)(hc:X.calm=C?):eT X (.type "dict") aaq:=by
 intro U s Z H xs us Q I r h;obtain⟨l,ps,prs,rfl,el,Bn,hn,q⟩:=h;obtain⟨u,rfl,rx⟩:=vals1 r;cases rx;obtain⟨z,its,n,rv,e⟩:=(show ObjOk X.prog X.w H s.1 l (.lst (ps.map i!))from I.hok l _ el);refine callType_codes (Q₁:=λobj Ab=>obj=.ref s.1.1.size/\Ab={s with heap:=s.1.push {cls:=.type "dict",data:=.dict #[]}}) PySem.F.kt_called_dict (PySem.F.kt_typeCall_dict_1 _) PySem.F.entry_dict_init (kt_code_dict_new _ ⟨rfl,rfl⟩) ?_;rintro obj Ab ⟨rfl,rfl⟩;have gn:(s.1.push {cls:=.type "dict",data:=.dict #[]}).DictOf (au X.prog X.w) s.1.1.size []:=Heap.DictOf.new s.1;have gt:(s.1.push {cls:=.type "dict",data:=.dict #[]}).get? l=A? {cls:=.type "list",data:=.seq its.toArray n}:=WV _ e;refine⟨gn.typeIs,PySem.F.args_dict_init_2 _ _,?_⟩;have F8:=I.hok.fresh (WW s.1.1.size);have I1:Inv X U Z (upd H s.1.1.size (.dT [])) {s with heap:=s.1.push {cls:=.type "dict",data:=.dict #[]}}:=I.laid (a:=s.1.1.size) (o:=.dT []) (t':=s.toks) (λ_ _ q=>WV _ q) (WW _) (rA s.1 I.big);unfold Zq.«dict.__init__»;refine WO ?_;unfold Builtin.Dict.selfAndRest;refine WO (wpAny_notOrdered_dict gn.typeIs ?_);show W9 _ _ (pure (s.1.1.size,[Xl l])) _ _ _;refine WX ?_;show W9 _ _ (Builtin.Dict.updateFrom "dict.__init__" s.1.1.size (.ref l) [] .none) _ _ _;unfold Builtin.Dict.updateFrom;refine WO (ZF (T:="list") ⟨_,gt,rfl⟩ ?_);rw[b! (by decide)];refine WO (bb_nokeysL (A:=X.A.in1.in1) (I.ok.hd hc) gt λh1 Nk k1=>?_);have I2:Inv X U Z (upd H s.1.1.size (.dT [])) {s with heap:=h1,toks:=Nk}:=I1.kept (t':=Nk) λb o e=>k1 b o e;simp only[Option.isNone_none,if_true];refine WO (Zw ?_);obtain⟨od,es,ep,Tx,Wo⟩:=id gn;have Ak:s.1.1.size<h1.objs.size:=Xa (k1 _ _ Tx);refine WO (wpAny_pyIter_list (l:=l) (items:=its.toArray) ⟨_,k1 _ _ gt,rfl,n,rfl⟩ ?_);refine WX ⟨plainId_quiet E! _,?_⟩;have Tz:l≠s.1.1.size:=az el F8
 have Nl:Xp (PrA (upd H s.1.1.size (.dT []))) prs ps:=x! (λx y e=>by
  obtain⟨ka,g1,g2⟩:=e;exact⟨ka,by rw[ai (az g1 F8)];exact g1,by rw[ai (az g2 F8)];exact g2⟩) Bn
 have TB:(upd H s.1.1.size (.dT [])) h1.objs.size=none:=I2.hok.fresh (WW _);refine rH (A:=X.A.in1) (d:=s.1.1.size) (it:=h1.objs.size) (l:=l) (prs:=prs) (ps:=ps) (I.ok.hd hc) (by show X.A.units+1+8<YJ;lia) hn prs.length 0 _ 0 (upd H s.1.1.size (.dT [])) [] (Nat.sub_zero _) (Xh _) (I2.kept (t':=Nk) λb o e=>WV _ e) ac (WW _) (I2.fpOk (WW _) TB) ⟨_,W5 _ rfl,rfl,rfl⟩ (by rw[ai Tz];exact el) Nl λs' I'=>?_;rw[kK,Z9]at I';exact⟨D?,.ref s.1.1.size,_,I',D?,q _ F8⟩
end
end L2
namespace BB
open PySem L2
theorem yO{k:Nat}(hr:L2.Room k A):A.units+12<YJ:=by
 have:=hr.units;lia
theorem jU{R:List Key->V->Prop}:∀(prs f':List (List Key×V)),(∀k v,aN f' k=A? v->R k v)->(∀p∈prs,R p.1 p.2) ->
 (∀k v,aN (du f' prs) k=A? v->R k v)/\(∀k,((∃v,aN f' k=A? v)\/∃p∈prs,p.1=k)->∃v,aN (du f' prs) k=A? v)
 | [],f',h1,_=>⟨h1,λk h=>by
   rcases h with h|⟨p,hp,_⟩
   .exact h
   .cases hp⟩
 | p::prs,f',h1,h2=>by
   have ih:=jU (R:=R) prs (putK f' p.1 p.2) (λk v hv=>by
    rw[fO]at hv;by_cases e:k=p.1
    .rw[b! e]at hv;cases hv;rw[e];exact h2 p (Xe ..)
    .rw[a! e]at hv;exact h1 k v hv) (λx hx=>h2 x (Xb _ hx))
   refine⟨ih.1,λk h=>ih.2 k ?_⟩;by_cases e:k=p.1
   .left;exact⟨p.2,by rw[fO,b! e]⟩
   .rcases h with⟨v,hv⟩|⟨x,hx,QA⟩
    .left;exact⟨v,by rw[fO,a! e];exact hv⟩
    .rcases W7.mp hx with rfl|hx
     .exact g! QA.symm e
     .exact .inr ⟨x,hx,QA⟩
end BB
namespace PySem
theorem bb_zip_next0{TI TO:WR}{k:Nat}{xs:Array WU}{x y a b:WU}{Q:Option WU->WY->Prop}(D:ZipApart z TI TO i1 i2 l1 l2)
 (hz:IsZip s.1 z TI TO .none) (hTI:Zi s.1 TI (.ref i1) (.ref i2)) (hTO:Zi s.1 TO a b)
 (h1:s.1.IsTupleIter i1 l1 k) (h2:s.1.IsTupleIter i2 l2 k) (B9:s.1.IsTuple l1 xs) (Bq:s.1.IsTuple l2 ys) (hx:xs[k]?=A? x) (hy:ys[k]?=A? y)
 (hQ:∀h',IsZip h' z TI TO (Y7 s.1.1.size)->Zi h' TO x y->h'.IsTupleIter i1 l1 (k+1)->h'.IsTupleIter i2 l2 (k+1)->Zi h' s.1.1.size x y->h'.objs.size=s.1.1.size+1 ->
  (∀c o,c≠z->c≠TO->c≠i1->c≠i2->s.1.get? c=A? o->h'.get? c=A? o)->Q (A? (.ref s.1.1.size)) {s with heap:=h'}) :
 W9 (Xu prog w) A (pyNext (.ref z)) Q E s:=by
 have hT:s.TypeIs (.ref z) "zip":=⟨_,hz,rfl⟩;unfold pyNext;refine WO (wpAny_attempt (X2 (name:=Xz "__next__") hT F.slot_zip_next (X6 F.slot_zip_next hT F.entry_zip_next ?_ (F.args_zip_next_1 _))));exact bb_zip_itemA D hz hTI hTO h1 h2 B9 Bq hx hy λh' a1 a2 a3 a4 a5 a6 a7=>WX (hQ h' a1 a2 a3 a4 a5 a6 a7)
end PySem
namespace L2
open PySem PySem.Spec PyProof.Rows
def Itz(K:WQ)(a b:WR):It:=⟨λi H=>∃xs ys x y,SqT K H a xs/\SqT K H b ys/\xs[i]?=A? x/\ys[i]?=A? y,λi H v H'=>∃p x y,H p=B?/\v=.ref p/\H'=upd H p (.tup [x,y])/\(∀xs,SqT K H a xs->xs[i]?=A? x)/\(∀ys,SqT K H b ys->ys[i]?=A? y),λi H=>∃xs ys,SqT K H a xs/\SqT K H b ys/\(xs.length<=i\/ys.length<=i)⟩
structure ZTn(z TI TO i1 i2 a b:WR)(i:Nat)(h:Yd):Prop where
 ap:ZipApart z TI TO i1 i2 a b
 zip:IsZip h z TI TO .none
 hTI:Zi h TI (.ref i1) (.ref i2)
 hTO:∃u v,Zi h TO u v
 h1:h.IsTupleIter i1 a i
 h2:h.IsTupleIter i2 b i
theorem xN{k1}(a b z TI TO i1 i2:WR):Turn P w K (.Tuple elts k1 pos) (Itz K a b) [z,TI,TO,i1,i2] z (ZTn z TI TO i1 i2 a b) where
 mem:=by simp
 obj:=λi h st c hc=>by
  obtain⟨D,hz,hTI,⟨u,v,hTO⟩,⟨o1,a1,a2,a3⟩,⟨o2,b1,b2,b3⟩⟩:=st;simp only[W7,Z7,or_false]at hc;rcases hc with rfl|rfl|rfl|rfl|rfl
  .exact⟨_,hz,λv z=>by cases z⟩
  .exact⟨_,hTI,λv z=>by cases z⟩
  .exact⟨_,hTO,λv z=>by cases z⟩
  .exact⟨o1,a1,λv z=>by rw[a3]at z;cases z⟩
  .exact⟨o2,b1,λv z=>by rw[b3]at z;cases z⟩
 keep:=λi h h' st k=>by
  obtain⟨D,hz,hTI,⟨u,v,hTO⟩,⟨o1,a1,a2⟩,⟨o2,b1,b2⟩⟩:=st;exact⟨D,k _ (by simp) _ hz,k _ (by simp) _ hTI,⟨u,v,k _ (by simp) _ hTO⟩,⟨o1,k _ (by simp) _ a1,a2⟩,⟨o2,k _ (by simp) _ b1,b2⟩⟩
 item:=by
  intro X hP hw hK hc i U s Z H E I hf st hg;subst hP hw hK;obtain⟨xs,ys,x,y,F5,F6,hx,hy⟩:=hg;obtain⟨ia,GO,pa,Ie⟩:=I.tuple F5;obtain⟨ib,GP,pb,Nf⟩:=I.tuple F6;obtain⟨u,hu,ru⟩:=GO.get hx;obtain⟨v,hv,rv⟩:=GP.get hy;obtain⟨D,hz,hTI,⟨ta,tb,hTO⟩,h1,h2⟩:=st
  have lt:∀c∈[z,TI,TO,i1,i2],c<s.1.1.size:=λc hc=>by
   simp only[W7,Z7,or_false]at hc;rcases hc with rfl|rfl|rfl|rfl|rfl
   .exact Xa hz
   .exact Xa hTI
   .exact Xa hTO
   .obtain⟨o,e,_⟩:=h1;exact Xa e
   .obtain⟨o,e,_⟩:=h2;exact Xa e
  refine bb_zip_next0 D hz hTI hTO h1 h2 (show s.1.IsTuple a ia.toArray from pa) (show s.1.IsTuple b ib.toArray from pb) (by simpa using hu) (by simpa using hv) λEN a1 a2 a3 a4 a5 a6 a7=>?_;refine⟨_,D?,wpAny_letOwnedTupleGo_zip a1 λDW g1 sb=>?_⟩;replace sb:YG z EN DW:=sb;have Jg:H s.1.1.size=none:=I.hok.fresh (WW _)
  have IA:Inv X U Z (upd H s.1.1.size (.tup [x,y])) {s with heap:=s.1.push {cls:=.type "tuple",data:=.seq #[u,v]},toks:=s.toks} :=
   I.laid (o:=.tup [x,y]) (λb ob q=>WV _ q) (WW _) ⟨by show 2<=Xg;decide,[u,v],0,.cons ru (.cons rv .nil),W5 _ rfl⟩
  have Wq:s.1.1.size≠z:=Nat.ne_of_gt (lt z (by simp));refine⟨.ref s.1.1.size,upd H s.1.1.size (.tup [x,y]),?_,D?,⟨_,x,y,Jg,D?,D?,λzs Jv=>by rw[I.tuple_inj Jv F5];exact hx,λzs Jv=>by rw[I.tuple_inj Jv F6];exact hy⟩,?_,λc hc=>?_⟩
  .have IB:Inv X U Z (upd H s.1.1.size (.tup [x,y])) {s with heap:=DW,toks:=s.toks}:=by
    refine Inv.turnedL (s:={s with heap:=s.1.push {cls:=.type "tuple",data:=.seq #[u,v]},toks:=s.toks}) (h':=DW) (fp:=[z,TI,TO,i1,i2]) (t':=s.toks) IA (λc o hc q=>?_) λc hc=>?_
    .have n1:c≠z:=λe=>hc (by simp[e]);have n2:c≠TO:=λe=>hc (by simp[e]);have n3:c≠i1:=λe=>hc (by simp[e]);have n4:c≠i2:=λe=>hc (by simp[e]);rw[sb.2 c n1];by_cases hb2:c=s.1.1.size
     .subst hb2;have q':(s.1.push {cls:=.type "tuple",data:=.seq #[u,v]}).get? s.1.1.size=A? o:=q;rw[W5 _ rfl]at q';rw[<-q'];exact a5
     .have q':(s.1.push {cls:=.type "tuple",data:=.seq #[u,v]}).get? c=A? o:=q;rw[Heap.get?_push_ne _ _ _ hb2]at q';exact a7 c o n1 n2 n3 n4 q'
    .obtain⟨f0,f1⟩:=hf c hc;exact⟨by rw[ai (XB (lt c hc))];exact f0,f1⟩
   exact IB
  .have sT:∀c o,c≠z->EN.get? c=A? o->DW.get? c=A? o:=λc o hc e=>(sb.2 c hc).trans e;refine⟨D,g1,sT _ _ D.TIz (a7 _ _ D.TIz D.TITO D.TIi1 D.TIi2 hTI),⟨_,_,sT _ _ D.TOz a2⟩,?_,?_⟩
   .obtain⟨o,e,r⟩:=a3;exact⟨o,sT _ _ D.i1z e,r⟩
   .obtain⟨o,e,r⟩:=a4;exact⟨o,sT _ _ D.i2z e,r⟩
  .rw[ai (XB (lt c hc))];exact(hf c hc).1
 done:=by
  intro X hP hw hK hc i U s Z H E I hf st hg;subst hP hw hK;obtain⟨xs,ys,F5,F6,CH⟩:=hg;obtain⟨ia,GO,pa,Ie⟩:=I.tuple F5;obtain⟨ib,GP,pb,Nf⟩:=I.tuple F6;have Fc:=GO.length;have Te:=GP.length;obtain⟨D,hz,hTI,hTO,h1,h2⟩:=st;refine bb_zip_done (show X.A.handled=B? from I.ok.hd hc) ⟨D,.inl hz,hTI,hTO,h1,h2,pa,pb⟩ ?_ λh' kp=>⟨rfl,?_⟩
  .rcases CH with h|h
   .exact .inl (by simp;lia)
   .exact .inr (by simp;lia)
  exact I.turnedL (fp:=[z,TI,TO,i1,i2]) (t':=s.toks) (λc o hc q=>kp c o (λhm=>hc (by simp only[W7,Z7,or_false]at hm |-;rcases hm with h|h|h|h <;> simp[h])) q) hf
 self:=λ_ _ _ _ _ st h=>wpAny_pyIter_zip st.zip h
section
variable{X:Cx}{e1 e2:X7}{t:TA}{p2 Av:Z2}
def abS(K:WQ)(t:TA):TI:=λZ H R=>t Z H λvs H1=>∃a b,vs=[.ref a,.ref b]/\(∃xs,SqT K H1 a xs)/\(∃ys,SqT K H1 b ys)/\R (Itz K a b) H1
theorem xS{k1}(g2:Gl X "zip")(m2:X.mg "zip"=B?)(ha:PA X [e1,e2] t)
 (h2:XF [e1,e2] X.env=(CV,YY e1 X.env)::XF [e2] X.env:=by rfl) (h3:(Z0 Av (XF [e2] X.env)).any (·.1)=false:=by rfl):PI X (.Tuple elts k1 pos) (.Call (.Name "zip" p2) [e1,e2] [] Av) (abS X.K t):=by
 intro U s Z H R I h;refine X5 (cJ I g2 m2 boot_zip ?_);refine XQ (thn (ha Av U s Z H _ I h) λus s2⟨vs,H2,I2,r,a,b,ev,⟨xs,F5⟩,⟨ys,F6⟩,q⟩=>?_) h2 h3;subst ev;obtain⟨u1,u2,rfl,r1,r2⟩:=vals2 r;cases r1;cases r2;obtain⟨ia,GO,pa,Ie⟩:=I2.tuple F5;obtain⟨ib,GP,pb,Nf⟩:=I2.tuple F6;have Bc:a<s2.1.1.size:=by obtain⟨o,e,_⟩:=pa;exact Xa e
 have Bf:b<s2.1.1.size:=by obtain⟨o,e,_⟩:=pb;exact Xa e
 refine bb_call_zip (show s2.1.IsTuple a ia.toArray from pa) (show s2.1.IsTuple b ib.toArray from pb) λh' z1 z2 z3 z4 z5 z6 z7=>?_;have D:ZipApart (s2.1.1.size+4) (s2.1.1.size+2) (s2.1.1.size+3) s2.1.1.size (s2.1.1.size+1) a b:=zipApart_new Bc Bf;refine wpAny_pyIter_zip (s:={s2 with heap:=h'}) z1 ?_;refine⟨s2.1.1.size+4,[s2.1.1.size+4,s2.1.1.size+2,s2.1.1.size+3,s2.1.1.size,s2.1.1.size+1],_,_,H2,D?,I2.kept (t':=s2.toks) z7,xN a b _ _ _ _ _,⟨D,z1,z2,⟨_,_,z3⟩,z4,z5⟩,λc hc=>?_,q⟩
 have AO:s2.1.1.size<=c:=by
  simp only[W7,Z7,or_false]at hc;rcases hc with h|h|h|h|h <;> rw[h]
  .exact Zh _ _
  .exact Zh _ _
  .exact Zh _ _
  .exact WW _
  .exact Zh _ _
 exact I2.fpOk AO (I2.hok.fresh AO)
end
end L2
namespace BB
open PySem L2
noncomputable section
local instance:DecidableEq Th:=λ_ _=>Classical.propDecidable _
end
end BB
namespace PySem
open Sem (wp)
section
variable{K:Type}[DecidableEq K]{knd:HeapKind prog w K}
theorem bb_setDefault_heap{xs:List (K×WR×WU)}{k:K}{v:WU}(hu:knd.room A)(C0:knd.is s.1 k a)(hm:s.1.DictOfH knd d xs)
 (GS:∀p,atKey xs k=A? p->Q p.2 {s with toks:=s.toks+knd.draws k})
 (Nm:atKey xs k=B?->∀h',h'.DictOfH knd d (storedH xs k a v)->YG d s.1 h'->Q v {s with heap:=h',toks:=s.toks+knd.draws k})
 (hsz:xs.length<=Xg):W9 (Xu prog w) A (dictSetDefault d (.ref a) v) Q E s:=by
 obtain⟨o,es,ep,ho,hc,hd,he,Ii,hn⟩:=hm;unfold dictSetDefault
 try with_reducible refine Yy ?_
 refine WO (knd.pyHash hu C0 ?_);refine WO (wpAny_dictFind_heap (s:={s with toks:=s.toks+knd.draws k}) hu C0 ho hd he Ii hn ?_ ?_)
 .intro C1;have Nn:k∉xs.map (·.1):=not_mem_keys_of_get C1
  refine WO (Zw (WO (wpAny_updateDictKeys (hz:=by have e:=size_of_entries he;lia) (s:={s with toks:=s.toks+knd.draws k}) ho hd (WX (Nm (atKey_none_of_get C1) _ ⟨_,_,ep+1,XR _ ho (Obj.isFreed_of_dict (Obj.data_mapDictKeys hd _)),
   hc.mapDictKeys _,Obj.data_mapDictKeys hd _,?_,?_,?_⟩ (Zg ..))))))
  .rw[storedH_new (atKey_none_of_get C1)];simp[he,entryOfKey]
  .rw[storedH_new (atKey_none_of_get C1)];intro x hx;rcases XA.mp hx with hx|hx
   .exact knd.keeps (Ii x hx) ho hd (Zg ..)
   .simp only[Xc]at hx;subst hx;exact knd.keeps C0 ho hd (Zg ..)
  .rw[storedH_new (atKey_none_of_get C1)];rw[W8,List.nodup_append];refine⟨hn,by simp,?_⟩;intro x hx y hy;simp only[Xx,YS,Xc]at hy;subst hy;exactλe=>Nn (e ▸ hx)
 .intro j p hj;have h1:=GS _ (atKey_of_get hn hj);refine WO (wpAny_dictEntries (s:={s with toks:=s.toks+knd.draws k}) ho hd ?_);rw[entry_at he j,hj];exact WO (Zw (WX h1))
theorem bb_meets_setdefault(knd:HeapKind prog w K)(d a:WR)(dflt:WU)(hd:(d == YO)=CV) :
 MeetsIn prog w (Zq.«dict.setdefault» ⟨[.ref d,.ref a,dflt],[]⟩) (λA R s=>knd.room A.in1/\∃k xs,knd.is s.1 k a/\s.1.DictOfH knd d xs/\xs.length<=Xg /\
  (∀p,atKey xs k=A? p->R (.ok (.ret p.2)) {s with toks:=s.toks+knd.draws k}) /\
  (atKey xs k=B?->∀h',h'.DictOfH knd d (storedH xs k a dflt)->YG d s.1 h'->R (.ok (.ret dflt)) {s with heap:=h',toks:=s.toks+knd.draws k})) :=
 .of_wp λA R s⟨hu,k,xs,C0,hm,hz,h1,h2⟩=>by
  unfold Zq.«dict.setdefault»;refine WO ?_;unfold Builtin.Dict.keyAndDefault;have hT:s.TypeIs (.ref d) "dict":=hm.typeIs;refine WO (wpAny_notOrdered_dict hT ?_);show W9 _ _ (pure (d,Xl a,A? dflt)) _ _ s;refine WX ?_;show W9 _ _ (if(d == YO)=C? then _ else(dictSetDefault d (.ref a) dflt >>= _)) _ _ s;rw[a! (by rw[hd];exact W0)];exact WO (bb_setDefault_heap hu C0 hm (λp hp=>WX ⟨_,rfl,h1 p hp⟩) (λhn h' F9 Dj=>WX ⟨_,rfl,h2 hn h' F9 Dj⟩) hz)
end
end PySem
namespace L2
open PySem PySem.Spec PyProof.Rows
def y8:V->List V->Hp->VK->Prop:=λx vs H Q=>∃(a b:WR)(v:V)(k:List Key)(f':List (List Key×V)),x=.ref a/\vs=[.ref b,v]/\H a=A? (.dT f')/\H b=A? (.tup (k.map kV))/\f'.length<Xg /\
 (∀u,aN f' k=A? u->Q u H)/\(aN f' k=B?->Q v (upd H a (.dT (putK f' k v))))
theorem mR{X:Cx}(hu:X.A.units+1<YJ):MtM X "dict.setdefault" y8:=by
 intro U s Z H x vs v us Q I rx rv h;obtain⟨a,b,y,k,f',rfl,rfl,e,eb,l,q1,q2⟩:=h;cases rx;cases rv with
 |cons r1 rv =>
 cases rv with
 |cons r2 rv =>
 cases rv;cases r1;obtain⟨z,hd,xs,rel,dd⟩:=pQ I.hok e;have hz:xs.length<=Xg:=by rw[<-W3 rel];exact z
 have hl:(putK f' k y).length<=Xg:=by have:=bz f' k y;lia
 have hT:s.TypeIs (.ref a) "dict":=dd.typeIs;refine call_meetsIn Zn hT PySem.F.entry_dict_setdefault (PySem.F.args_dict_setdefault_3 _ _ _) (bb_meets_setdefault (tupleKind (au X.prog X.w)) a b _ hd) ⟨tupleKind_room_in1 hu,k,xs,gd I.hok eb,dd,hz,λp hp=>?_,λhn h' C5 hs=>?_⟩
 .have hr:=rel.val k;rw[hp]at hr;cases hv:aN f' k with
  |none=>rw[hv]at hr;exact hr.elim
  | some u =>
    rw[hv]at hr;exact⟨u,H,I.tok _,hr,q1 u hv⟩
 .have hr:=rel.val k;rw[hn]at hr;cases hv:aN f' k with
  |some u=>rw[hv]at hr;exact hr.elim
  | none =>
    refine⟨y,_,?_,r2,q2 hv⟩;obtain⟨q,es,ep,hq,h2,h3,h4,_,h5⟩:=C5;refine fU I (by rw[e];exact YV) hs ⟨q,hq⟩ ⟨hl,hd,_,(rel.put k eb r2).keeps λc ys ec=>?_,q,es,ep,hq,h2,h3,h4,h5⟩;rw[ai (eY ec e (λz=>nomatch z))];exact ec
end L2
namespace PySem
open Sem (wp)
section
variable{R:Result->WY->Prop}
theorem bb_key_loop{S:WR}{es:Array DictEntry}{ep:Nat}{od:Zb}(hh:A.in1.handled=B?)(hz:es.size<=Xg)(GU:S≠it)(Jw:S≠d)(LF:d≠it)(g2:od.data=.dict es ep)(res:WU) :
 ∀(k i:Nat)(s:WY)(acc:Array WU)(c:Nat),es.size - i=k->i<=es.size->s.1.IsKeyIter it d i es.size ep->s.1.get? d=A? od->s.1.get? S=A? {cls:=.type "list",dict:=B?,data:=.seq acc c,slots:=#[]}->acc.toList=(es.toList.take i).map (·.key) ->
 (∀h' AZ c',(∀b o,b≠S->b≠it->s.1.get? b=A? o->h'.get? b=A? o)->h'.get? S=A? {cls:=.type "list",dict:=B?,data:=.seq AZ c',slots:=#[]}->AZ.toList=es.toList.map (·.key)->R (.ok (.ret res)) {s with heap:=h'}) ->
 codeAny (Xu prog w) A (.builtin "list.extend.loop" ⟨[.ref S,.ref it,res],[]⟩) R s:=by
 intro k;induction k with
 | zero =>
   intro i s acc c hk hi hit hd hS Am hR;have B7:i=es.size:=by lia
   subst B7;refine codeAny_builtin F.entry_extend_loop ?_;rw[Around.under_plainId YH _];show W9 _ A.in1 (pyNext (.ref it) >>= _) _ _ s;refine WO (bb_keyEnd hh hit hd g2 (WW _) λh' A9=>WX ?_);refine hR h' acc c (λb o _ hb e=>A9 b o hb e) (A9 _ _ GU hS) ?_;rw[Am,Yn (by rw[XN];lia)]
 | succ k ih =>
   intro i s acc c hk hi hit hd hS Am hR;have Ak:i<es.size:=by lia
   refine codeAny_builtin F.entry_extend_loop ?_;rw[Around.under_plainId YH _];show W9 _ A.in1 (pyNext (.ref it) >>= _) _ _ s;have hx:es[i]?=A? es[i]:=Ze Ak
   have Bc:acc.size=i:=by
    have:=h! Zu Am;rw[XN,WN,XS,XN]at this;lia
   refine WO (bb_keyNext hit hd g2 hx λh' E8 A9=>?_);have DU:=(A9.2 S GU).trans hS;have Bx:=(A9.2 d LF).trans hd;show W9 _ A.in1 (updateSeq S (·.push es[i].key) >>= _) _ _ _;refine WO ?_;have CC:∀b o,b≠S->h'.get? b=A? o->(h'.update S (Yg (·.push es[i].key))).get? b=A? o:=λb o hb e=>(XW _ _ (YR hb)).trans e
   refine YU DU rfl (WX ⟨plainId_quiet YH _,ih (i+1) _ (acc.push es[i].key) _ (by lia) Ak (E8.at λo e=>CC _ _ (YR GU) e) (CC _ _ (YR Jw) Bx) (XR _ DU rfl) ?_ λJo AZ c' GL GN Ec=>?_⟩)
    (by rw[Bc];lia) (by show(acc.push _).size<=Xg+1;rw[Array.size_push,Bc];lia)
   .rw[Array.toList_push,Am,XU,WS (by rw[XN];exact Ak),W8];simp
   .exact hR Jo AZ c' (λb o hb hb2 e=>GL b o hb hb2 (CC b o hb ((A9.2 b hb2).trans e))) GN Ec
end
theorem bb_list_keys{es:Array DictEntry}{ep:Nat}{od:Zb}(hh:A.in1.in1.handled=B?)(ns:(d == YO)=CV)(hd:s.1.get? d=A? od)(gc:od.cls=.type "dict")(g2:od.data=.dict es ep)(hz:es.size<=Xg)
 (hQ:∀h' acc c,(∀b o,s.1.get? b=A? o->h'.get? b=A? o)->h'.get? s.1.1.size=A? {cls:=.type "list",dict:=B?,data:=.seq acc c,slots:=#[]}->acc.toList=es.toList.map (·.key)->Q (.ref s.1.1.size) {s with heap:=h'}) :
 W9 (Xu prog w) A (call (.type "list") [.ref d]) Q E s:=by
 have Dn:=Xa hd;have Jw:s.1.1.size≠d:=Nat.ne_of_gt Dn
 refine callType_codes (Q₁:=λobj Ab=>obj=.ref s.1.1.size/\Ab={s with heap:=s.1.push {cls:=.type "list",data:=.seq #[]}}) F.called_list (F.typeCall_list_1 _) F.entry_list_init
  (code_list_new _ ⟨rfl,rfl⟩) λobj Ab Ao=>?_
 obtain⟨rfl,rfl⟩:=Ao;have hS:(s.1.push {cls:=.type "list",data:=.seq #[]}).get? s.1.1.size=A? {cls:=.type "list",data:=.seq #[]}:=W5 _ rfl;refine⟨⟨_,hS,D?⟩,F.args_list_init_2 _ _,?_⟩;show W9 _ A.in1.in1 (do let old <-ZH (.ref s.1.1.size);Builtin.List.listUpdate (.ref s.1.1.size) (λ_=>#[]);letGo old.toList.reverse;Za (.ref s.1.1.size) (.ref d) .none) _ _ _;refine WO ?_;unfold ZH;refine WO (YC hS rfl (WX ?_));refine WO (YU hS rfl ?_);have Bj:=XR (Yg (λ_=>(#[]:Array WU))) hS rfl;refine WO (wpAny_letGo ?_);have CI:((s.1.push {cls:=.type "list",data:=.seq #[]}).update s.1.1.size (Yg (λ_=>(#[]:Array WU)))).objs.size=s.1.1.size+1:=by rw[Heap.size_update,X3]
 generalize hH:(s.1.push {cls:=.type "list",data:=.seq #[]}).update s.1.1.size (Yg (λ_=>(#[]:Array WU)))=H2 at Bj CI |-
 have old:∀b o,s.1.get? b=A? o->H2.get? b=A? o:=λb o e=>by
  rw[<-hH,XW _ _ (YR (XB (Xa e)))];exact WV _ e
 obtain⟨c2,D6⟩:∃c,H2.get? s.1.1.size=A? {cls:=.type "list",data:=.seq #[] c}:=⟨_,Bj⟩;have hd2:=old _ _ hd;have Jp:({s with heap:=H2}:WY).TypeIs (.ref d) "dict":=⟨_,hd2,gc⟩;unfold Za;refine WO (ZF Jp ?_);have h1:Zp (.ref s.1.1.size) (.ref d)=false:=by simp[Zp,Jw]
 have h2:(Zl "dict" == Zl "list")=false:=by decide
 have h3:(Zl "dict" == Zl "tuple")=false:=by decide
 simp only[h1,h2,h3,Bool.or_false,Yc,if_false];refine WO (bb_keyIter (s:={s with heap:=H2}) ns hd2 gc g2 ?_);refine WO (Yy ?_);have GV:(H2.push {cls:=.type "dict_keyiterator",data:=.fields #[.ref d,.int 0 0,.int es.size 0,.int ep 0]}).IsKeyIter H2.objs.size d 0 es.size ep:=⟨_,W5 _ rfl,rfl,rfl⟩;have Ij:∀b o,H2.get? b=A? o->(H2.push {cls:=.type "dict_keyiterator",data:=.fields #[.ref d,.int 0 0,.int es.size 0,.int ep 0]}).get? b=A? o:=λb o e=>WV _ e;have Jx:s.1.1.size≠H2.objs.size:=by rw[CI];lia
 have Np:d≠H2.objs.size:=by rw[CI];exact XB (Nat.lt_succ_of_lt Dn)
 show W9 _ _ _ _ _ ({s with heap:=H2.push {cls:=.type "dict_keyiterator",data:=.fields #[.ref d,.int 0 0,.int es.size 0,.int ep 0]}}:WY);generalize H2.push {cls:=.type "dict_keyiterator",data:=.fields #[.ref d,.int 0 0,.int es.size 0,.int ep 0]}=H3 at GV Ij |-;have QB:=Ij _ _ hd2;have Nq:=Ij _ _ D6;have Nr:({s with heap:=H3}:WY).TypeIs (.ref d) "dict":=⟨_,QB,gc⟩
 have key:∀(h:Yd)(c₁:Nat),h.IsKeyIter H2.objs.size d 0 es.size ep->(∀b o,b≠s.1.1.size->H3.get? b=A? o->h.get? b=A? o)->h.get? s.1.1.size=A? {cls:=.type "list",data:=.seq #[] c₁} ->
  codeAny (Xu prog w) A.in1 (.builtin "list.extend.loop" ⟨[.ref s.1.1.size,.ref H2.objs.size,.none],[]⟩) (wants (λr AH=>r=.none/\Q (.ref s.1.1.size) AH) E) {s with heap:=h}:=by
  intro h c₁ hit hk CA;refine bb_key_loop hh hz Jx Jw Np g2 .none es.size 0 _ #[] c₁ rfl (Xh _) hit (hk _ _ (YR Jw) QB) CA rfl λh' AZ c' hm DU Am=>?_;refine⟨D?,hQ h' AZ c' (λb o e=>?_) DU Am⟩;have hb:=XB (Xa e);exact hm b o hb (by rw[CI];exact XB (Nat.lt_succ_of_lt (Xa e))) (hk b o hb (Ij b o (old b o e)))
 unfold ZG;refine WO (Yr Nr F.slot_dict_len.lookup ?_);generalize hid:("dict.__len__":String)=GH
 wp_delta
 rw[show splitId GH=A? ("dict","__len__")from by subst hid;decide +kernel];subst hid;refine WO (ZI (T:="dict") (b:=C?) Nr (by rw[isSubtype_type];kernel_rfl) ?_);refine wpAny_ite_split (λCm=>g! Cm (by decide)) (λ_=>?_);refine wpAny_ite_split (λ_=>?_) (λCm=>g! (by decide +kernel) Cm);refine WO (ZF Nr ?_);refine WX ?_;refine wpAny_ite_split (λ_=>?_) (λ_=>WX ⟨plainId_quiet YH _,key _ c2 GV (λb o _ e=>e) Nq⟩);refine WO (Zw ?_);refine WO ?_;show W9 _ _ (updateSeq s.1.1.size (·.push .none) >>= λ_=>updateSeq s.1.1.size (·.pop)) _ _ _;refine WO (YU Nq rfl ?_);have Bl:=XR (Yg (·.push Yp)) Nq rfl;refine YU (hz:=by seq_fits) Bl rfl ?_;have CB:=XR (Yg (·.pop)) Bl rfl
 have CC:∀b o,b≠s.1.1.size->H3.get? b=A? o->((H3.update s.1.1.size (Yg (·.push Yp))).update s.1.1.size (Yg (·.pop))).get? b=A? o :=
  λb o hb e=>(XW _ _ (YR hb)).trans ((XW _ _ (YR hb)).trans e)
 exact WX ⟨plainId_quiet YH _,key _ _ (GV.at λo e=>CC _ _ (YR Jx) e) CC CB⟩
end PySem
namespace L2
open PySem PySem.Spec PyProof.Rows
def zS:List V->Hp->VK->Prop:=λxs H Q=>∃(a:WR)(f':List (List Key×V)),xs=[.ref a]/\H a=A? (.dT f')/\∀(l:WR)(bs:List WR),H l=B?->Xp (λkv b=>H b=A? (.tup (kv.1.map kV))) f' bs->Q (.ref l) (upd H l (.lst (bs.map i!)))
theorem wB{f':List (List Key×V)}{ys:List (List Key×WR×WU)}(rel:KTd H f' ys):Xp (λkv b=>H b=A? (.tup (kv.1.map kV))) f' (ys.map λy=>y.2.1):=by
 induction rel with
 |nil=>exact .nil
 |cons h t ih=>exact .cons h.2.1 ih
theorem lb{X:Cx}(hc:X.calm=C?):eT X (.type "list") zS:=by
 intro U s Z H xs us Q I r h;obtain⟨a,f',rfl,e,q⟩:=h;obtain⟨u,rfl,rx⟩:=vals1 r;cases rx;obtain⟨z,hd,ys,rel,dd⟩:=pQ I.hok e;have hT:=dd.typeIs;obtain⟨o,es,ep,ho,TC,Ik,he,Ii,hn⟩:=dd;obtain⟨o',Bw,Br⟩:=hT;have eo:o'=o:=Xm (Bw.symm.trans ho);subst eo;have hl:f'.length=ys.length:=W3 rel
 have GW:es.toList.map (·.key)=ys.map λy=>Xl y.2.1:=by
  rw[he,YA];rfl
 have hsz:es.size<=Xg:=by
  have:=h! Zu GW;rw[WN,WN,XN]at this;lia
 have hh:X.A.in1.in1.handled=none:=I.ok.hd hc;refine bb_list_keys hh hd Bw Br Ik hsz λh' acc c hk hS Am=>?_;have hp:Xp (λkv b=>H b=A? (.tup (kv.1.map kV))) f' (ys.map λy=>y.2.1):=wB rel;refine⟨.ref s.1.1.size,upd H s.1.1.size (.lst ((ys.map λy=>y.2.1).map i!)),?_,D?,q _ _ I.fresh hp⟩;refine I.laid (t':=s.toks) hk (WW _) ⟨by rw[WN,WN];lia,acc.toList,c,?_,hS⟩;rw[Am,GW];clear hn Ii he GW Am hS hl z rel hp q;induction ys with
 |nil=>exact .nil
 |cons y ys ih=>exact .cons rfl ih
open BB
theorem abT{es:List Dv}{ws:List V}(r1:Vals ws its)(hws:DAts H es ws)(j:Nat)(z:WU)(hz:its[j]?=A? z):∃e y',es[j]?=A? e/\DAt H e y'/\RelV y' z:=by
 have hj:j<its.length:=(glE hz);have l1:=r1.length;have l2:=hws.length;have Ig:j<es.length:=by lia
 obtain⟨y',Dz,dy⟩:=hws.at (WS Ig);obtain⟨v',AU,DC⟩:=r1.get Dz;rw[hz]at AU;cases AU;exact⟨_,y',WS Ig,dy,DC⟩
theorem aba{z:WU}{e e':Dv}{y' Ed:V}(h1:DAt H e y')(h2:RelV y' z)(h3:DAt H e' Ed)(h4:RelV Ed z):e=e':=by
 have:=h2.inj h4;subst this;exact h1.inj h3
def yB(K:WQ)(B:Nat):V->List V->Hp->VK->Prop:=λx vs H Q=>∃(l:WR)(y:V)(ws:List V)(d:Dv)(es:List Dv)(j:Nat),x=.ref l/\vs=[y]/\SqL K H l ws/\DAt H d y/\DAts H es ws/\bB es<=B/\es[j]?=A? d/\(∀i,i<j->es[i]?≠A? d)/\es.length<=100000/\Q (.int (j:Nat)) H
open Classical in
theorem va{X:Cx}(hu:X.A.units+B+4<YJ):MtM X "list.index" (yB X.K B):=by
 intro U s Z H x vs v us Q I rx rv h;obtain⟨l,y,ws,d,es,j,rfl,rfl,hS,hd,hws,hB,hj,C1,hz,q⟩:=h;cases rx;obtain⟨u,rfl,ru⟩:=rv.one;obtain⟨its,r,pl,_⟩:=I.list hS;have hlen:=r.length;have Bq:=hws.length;obtain⟨⟨cls,dd,data,sl⟩,ho,hc,n,Ik⟩:=pl.isList;simp only at hc Ik;subst hc Ik;have F':j<es.length:=(glE hj)
 have Nt:∀(m:Nat)(z:WU),its[m]?=A? z->∃e y',es[m]?=A? e/\DAt H e y'/\RelV y' z/\decide (∃y',DAt H d y'/\RelV y' z)=decide (e=d):=λm z hz=>by
  obtain⟨e,y',he,dy,ry⟩:=abT r hws m z hz;refine⟨e,y',he,dy,ry,?_⟩;by_cases h:e=d
  .rw[d! h,d! ⟨y',h ▸ dy,ry⟩]
  .rw[c! h,c!];rintro⟨Ed,h1,h2⟩;exact h (aba dy ry h1 h2)
 refine call_meets PySem.F.slot_list_index ⟨_,ho,rfl⟩ PySem.F.entry_list_index (PySem.F.args_list_index_2 _ _)
  (SeqAt.list_indexAt l its.toArray n dd sl u (λz=>decide (∃y',DAt H d y'/\RelV y' z)) j (by rw[W4];lia) (by lia) ?_ ?_) ⟨ho,λy hy=>?_,⟨.int (j:Nat),H,I.tok _,⟨_,rfl⟩,q⟩⟩
 .obtain⟨e,y',he,dy,ry,e3⟩:=Nt j (its.toArray[j]'(by rw[W4];lia)) (by simp);rw[hj]at he;cases he;rw[e3];exact d! rfl
 .intro m hm Ak;obtain⟨e,y',he,dy,ry,e3⟩:=Nt m (its.toArray[m]'hm) (by simp);rw[e3];exact c! λz=>C1 m Ak (by rw[he,z])
 .have Dz:y∈its:=by simpa using hy
  obtain⟨m,hm⟩:=Xi.mp Dz;obtain⟨e,y',he,dy,ry,e3⟩:=Nt m y hm;rw[e3];have hq:=fQ he;refine ph I _ e d (WW _) y' _ y u _ dy hd ry ru ?_;show X.A.units+1+_<YJ;lia
def aaI(K:WQ)(B:Nat):R2:=λx y H Q=>∃a b vs ws ds es,x=.ref a/\y=.ref b/\SqL K H a vs/\SqL K H b ws/\DAts H ds vs/\DAts H es ws/\bB ds<=B/\∀b:Bool,(b=C?↔ds=es)->Q (.bl b) H
open Classical in
theorem tK{X:Cx}(hu:X.A.units+B+2<YJ):OpR X (Zt .Eq) (aaI X.K B):=by
 intro U s Z H x y v u Q I rx ry h;obtain⟨a,b,vs,ws,ds,es,rfl,rfl,ha,hb,C6,hws,hB,q⟩:=h;cases rx;cases ry;obtain⟨its,r1,p1,_⟩:=I.list ha;obtain⟨Ai,r2,p2,_⟩:=I.list hb;have l1:its.length=ds.length:=by rw[<-r1.length,C6.length]
 have l2:Ai.length=es.length:=by rw[<-r2.length,hws.length]
 by_cases hl:ds.length=es.length
 .have hsz:its.toArray.size=Ai.toArray.size:=by rw[W4,W4];lia
  refine SeqAt.RcAt.lists p1.isList p2.isList hsz (by lia) (qq I r1 r2 C6 hws (by lia)) X.prog X.w X.xe _ ?_
  have e:(Xq its.toArray.size).all (λj=>decide (ds[j]?=es[j]?))=decide (ds=es):=by
   rw[W4,l1];exact mj hl
  refine⟨.bl (decide (ds=es)),H,I,by rw[e];rfl,q _ ?_⟩;simp
 .refine SeqAt.RcAt.lists_lengths p1.isList p2.isList (by rw[W4,W4,l1,l2];simpa using hl) (by lia) X.prog X.w X.xe _ ⟨.bl CV,H,I,rfl,q _ ?_⟩;exact⟨λz=>g! z W0,λz=>g! (by rw[z]) hl⟩
end L2
namespace PySem
open Sem (wp)
section
variable{K:Type}[DecidableEq K](knd:HeapKind prog w K)(d:WR)
theorem bb_meets_len(hd:(d == YO)=CV) :
 MeetsIn prog w (Zq.«dict.__len__» ⟨[.ref d],[]⟩) (λ_ R s=>∃xs,s.1.DictOfH knd d xs/\R (.ok (.ret (.int xs.length s.toks))) {s with toks:=s.toks+1}) :=
 .of_wp λA R s⟨xs,hm,h⟩=>by
  obtain⟨o,es,ep,ho,hc,Nu,he,hp,hn⟩:=hm;show W9 _ _ (dictSize d >>= _) _ _ s;unfold dictSize;refine WO (WO (wpAny_dictEntries ho Nu (WX ?_)));show W9 _ _ (Builtin.Dict.pendingCount d >>= _) _ _ s;refine WO (wpAny_pendingCount_other hd ?_);refine wpAny_ret_mkInt ?_
  have:es.size=xs.length:=by
   have:=h! Zu he;rw[WN,XN]at this;exact this
  rw[Nat.add_zero,this];exact h
end
section
variable{K:Type}[DecidableEq K]{knd:HeapKind prog w K}
theorem bb_call_len{xs:List (K×WR×WU)}(hd:(d == YO)=CV)(hm:s.1.DictOfH knd d xs)(DD:(xs.length:Int)<2 ^ 63)
 (h:Q (.int xs.length (s.toks+1)) {s with toks:=s.toks+1+1}):W9 (Xu prog w) A (call (.builtin "len") [.ref d]) Q E s:=by
 refine Calls.call_function_entry kind_len plain_len entry_len (args_len1 _) ?_;unfold Zq.«len»;refine WO (m:=oneArg "len" _) (WX ?_)
 refine WO (m:=callSpecial? (.ref d) (Xz "__len__")) (X2 (name:=Xz "__len__") hm.typeIs F.slot_dict_len
  (call_meetsIn F.slot_dict_len hm.typeIs F.entry_dict_len (F.args_dict_len_1 _) (bb_meets_len knd d hd) ⟨xs,hm,?_⟩))
 show W9 _ _ _ _ _ {s with toks:=s.toks+1};refine WO (Yy (WX ?_));refine WO (wpAny_letGo ?_);show W9 _ _ (if((xs.length:Nat):Int)<0 then _ else _) _ _ _;rw[a! (by lia)];show W9 _ _ (if((xs.length:Nat):Int) >= 2 ^ 63 then _ else _) _ _ _;rw[a! (by lia)];exact WO (wpAny_mkInt (WX ⟨_,rfl,h⟩))
end
end PySem
namespace L2
open PySem PySem.Spec PyProof.Rows
def abc:List V->Hp->VK->Prop:=λxs H Q=>∃(a:WR)(f':List (List Key×V)),xs=[.ref a]/\H a=A? (.dT f')/\Q (.int f'.length) H
theorem jC{X:Cx}:eT X (.builtin "len") abc:=by
 intro U s Z H xs us Q I r h;obtain⟨a,f',rfl,e,q⟩:=h;obtain⟨u,rfl,rx⟩:=vals1 r;cases rx;obtain⟨z,hd,ys,rel,dd⟩:=pQ I.hok e;have hl:f'.length=ys.length:=W3 rel;refine bb_call_len hd dd (by rw[sizeLine_eq]at z;lia) ?_;rw[<-hl];exact⟨.int f'.length,H,I.tok _,⟨_,D?⟩,q⟩
end L2
namespace BB
open PySem L2
theorem lJ:∀{ks:List (Xk×Int)}{as:List WR},KsAt H ks as->∀z∈ks.zip as,z.1∈ks/\KAt H z.1 z.2
 |_,_,.nil,z,hz=>by simp at hz
 | _,_,.cons (a:=k) (b:=a) r t,z,hz=>by
   rw[Zz]at hz;rcases W7.mp hz with rfl|hz
   .exact⟨Xe ..,r⟩
   .obtain⟨h1,h2⟩:=lJ t z hz;exact⟨Xb _ h1,h2⟩
open PySem.Builtin PySem.Builtin.Str
end BB
namespace L2
open PySem PySem.Spec PySem.Calls PyProof.Rows BB
section
variable{X:Cx}{Z:List (Option V)}
end
open PySem.Builtin PySem.Builtin.Str
variable{X:Cx}
end L2
namespace BB
open PySem L2
section
variable{t:Th}{es:List WR}
end
end BB
namespace L2
open PySem PySem.Spec PyProof.Rows BB
variable{X:Cx}
end L2
namespace L2
open PySem PySem.Spec PyProof.Rows PySem.W
open BB
variable{X:Cx}
end L2
namespace L2
open PySem PySem.Spec PySem.Calls PyProof.Rows PySem.W
end L2
namespace BB
open PySem L2 PySem.Builtin PySem.Builtin.Str
end BB
namespace L2
open PySem PySem.Spec PySem.Calls PyProof.Rows PySem.Builtin PySem.Builtin.Str BB
variable{X:Cx}
end L2
namespace L2
open PySem PySem.Spec PyProof.Rows
end L2
namespace BB
open PySem L2
end BB
namespace L2
open PySem PySem.Spec PyProof.Rows
open PySem.Calls
structure ze(P:W6)(w:Xo)(K:WQ)(mg:Xk->Option WU)(base:Yd)(CX:CXT)(k:Nat)(f:WR)(sp:Sp):Prop where
 fn:∀(A:XG)(outer:List Env)(s:WY)(H:Hp)(vs:List V)(Q:VK)(E:XK),Env0 P w K mg base A outer s H->sp vs H Q E->PySem.W.FnAt f s.1
 run:∀(A:XG)(outer:List Env)(s:WY)(H:Hp)(us:List WU)(vs:List V)(Q:VK)(E:XK),Room k A->Env0 P w K mg base A outer s H->Vals vs us->sp vs H Q E ->
  codeAny (Xu P w) A (.call (.ref f) ⟨us,[]⟩) (CR CX outer P w H s Q E) s
section
variable{X:Cx}{k:Nat}{E:XK}{p:Z2}{t:TA}
def zQ(P:W6)(w:Xo)(K:WQ)(mg:Xk->Option WU)(base:Yd)(CX:CXT)(k i:Nat)(E:XK)(t:TA):TE:=λZ H Q=>∃f sp,Z[i]?=A? (A? (.ref f))/\ze P w K mg base CX k f sp/\t Z H λvs H1=>sp vs H1 Q E
theorem sN{M:Model}{E:WU->WY->Prop}{q:WR}{rest:List X7}(h:W9 M A (spliced (Z0 pos (XF (e::rest) env))) (λvs Ab=>PySem.W.FnAt q Ab.1/\W9 M A (call (.ref q) ([]++vs)) Q E Ab) E s)
 (he:XF (e::rest) env=(CV,YY e env)::XF rest env) (BE:(Z0 pos (XF rest env)).any (·.1)=CV) :
 W9 M A (callWith pos (.ref q) [] (Z0 pos (XF (e::rest) env)) []) Q E s:=by
 rw[he]at h |-;exact PySem.W.callWith_of (by show((CV ||(Z0 pos (XF rest env)).any (·.1)) ||false)=CV;rw[BE];rfl) PySem.W.keeps_F (evalArgs_plain h)
theorem xi(hN:X.N[i]?=A? x)(hv:Vis X.env.scope x)(hr:Room k X.A)(hx:Passes CX X E)(ha:PA X (e::es) t)(Dy:(x == ("__debug__":Xk))=false:=by decide)(B4:(x == ("__classdict__":Xk))=false:=by decide)
 (he:XF (e::es) X.env=(CV,YY e X.env)::XF es X.env:=by rfl) (AK:(Z0 pos (XF es X.env)).any (·.1)=false:=by rfl) :
 PE X (.Call (.Name x p) (e::es) [] pos) (zQ X.prog X.w X.K X.mg X.base CX k i E t):=by
 intro U s Z H Q I h;obtain⟨f,sp,Nv,F,q⟩:=h;refine X5 (thn (wZ (X:=X) hN hv Dy B4 U s Z H (λv H1=>v=.ref f/\t Z H1 λvs H2=>sp vs H2 Q E) I ⟨_,Nv,rfl,q⟩) λu s1⟨v,H1,I1,r,e1,q1⟩=>?_);subst e1;obtain rfl:u=Xl f:=r;refine sN (thn (ha pos U s1 Z H1 _ I1 q1) λus s2⟨vs,H2,I2,r2,q2⟩=>⟨F.fn X.A X.stack s2 H2 vs Q E I2.env0 q2,?_⟩) he AK;refine wpAny_call (codeAny_mono (F.run X.A X.stack s2 H2 ([]++us) vs Q E hr I2.env0 r2 q2) λr s' hq=>?_);cases r with
 |error e=>exact hx U Z H2 s2 e s' I2 hq
 | ok fl =>
   cases fl with
   |ret u=>exact I2.after hq
   |next=>exact YF hq
   |brk=>exact YF hq
   |cont=>exact YF hq
end
def fgt(S:List WR)(H:Hp):Hp:=λb=>if b∈S then B? else H b
def rst(S:List WR)(H H':Hp):Hp:=λb=>if b∈S then H b else H' b
theorem ju{S:List WR}(h:b∈S):fgt S H b=none:=b! h
theorem bU{S:List WR}(h:b∉S):fgt S H b=H b:=a! h
theorem xp{S:List WR}(h:b∈S):rst S H H' b=H b:=b! h
theorem dU{S:List WR}(h:b∉S):rst S H H' b=H' b:=a! h
theorem wN{S:List WR}(h:fgt S H b=A? o):b∉S/\H b=A? o:=by
 by_cases hb:b∈S
 .rw[ju hb]at h;cases h
 .exact⟨hb,by rw[bU hb]at h;exact h⟩
def Exts(S:List WR)(H:Hp):Prop:=∀b∈S,∃φ,H b=A? (.ext φ)
theorem Exts.out{S:List WR}(x:Exts S H)(e:H b=A? o)(n:∀φ,o≠.ext φ):b∉S:=λz=>by
 obtain⟨φ,h⟩:=x b z;rw[e]at h;exact n φ (Xm h)
theorem HOk.fgt{S:List WR}(x:HOk P w H h)(hS:Exts S H):HOk P w (fgt S H) h:=λa o e=>by
 obtain⟨ha,e'⟩:=wN e;exact(x a o e').stay (λ_ _ _ q=>q) (λb q=>by rw[bU (hS.out q (by intro φ z;cases z))];exact q) λb xs q=>by rw[bU (hS.out q (by intro φ z;cases z))];exact q
theorem HOk.rst{S:List WR}(x:HOk P w H h)(x':HOk P w H' h')(hS:Exts S H)(hk:∀b∈S,∀o,h.get? b=A? o->h'.get? b=A? o)(hn:∀b∈S,H' b=B?):HOk P w (rst S H H') h':=λa o e=>by
 by_cases ha:a∈S
 .rw[xp ha]at e;obtain⟨φ,TF⟩:=hS a ha;have e2:=TF;rw[e]at e2;cases e2;obtain⟨p,⟨ob,q⟩,st⟩:=x a _ e;exact⟨st _ _ p (λo z=>hk a ha o z),⟨ob,hk a ha ob q⟩,st⟩
 .rw[dU ha]at e;have out:∀b u,H' b=A? u->b∉S:=λb u q z=>by rw[hn b z]at q;cases q
  exact(x' a o e).stay (λ_ _ _ q=>q) (λb q=>by rw[dU (out b _ q)];exact q) λb xs q=>by rw[dU (out b _ q)];exact q
def CellAt(H:Hp)(c:WR)(v:V):Prop:=∃φ,H c=A? (.ext φ)/\∀h:Yd,φ h->∃u,RelV v u/\h.IsCell c (A? u)
def CodeAt(H:Hp)(c:WR)(qual:Xk):Prop:=∃φ,H c=A? (.ext φ)/\∀h:Yd,φ h->h.CodeRec (.ref c) qual
def yC(H:Hp)(cl:List (Xk×WR))(ns:List Xk)(ws:List V):Prop:=Xp (λ(x:Xk)(v:V)=>∃c,cl.lookup x=A? c/\CellAt H c v) ns ws
theorem CellAt.mono(s:Same H H')(h:CellAt H c v):CellAt H' c v:=by
 obtain⟨φ,h1,h2⟩:=h;exact⟨φ,s _ _ h1,h2⟩
theorem CodeAt.mono(s:Same H H'){q:Xk}(h:CodeAt H c q):CodeAt H' c q:=by
 obtain⟨φ,h1,h2⟩:=h;exact⟨φ,s _ _ h1,h2⟩
theorem CellAt.now(x:HOk P w H h)(z:CellAt H c v):∃u,RelV v u/\h.IsCell c (A? u):=by
 obtain⟨φ,h1,h2⟩:=z;exact h2 h (x c _ h1).1
theorem jS(h:cl.lookup x=A? c):c∈cl.map (·.2):=Xy.mpr ⟨(x,c),Yl h,rfl⟩
theorem nU:∀{l:List (Xk×WU)}{x:Xk}{u:WU},(l.map (·.1)).Nodup->(x,u)∈l->l.lookup x=A? u
 | [],_,_,_,h=>by cases h
 | (y,v)::l,x,u,nd,h=>by
   rw[Xx,ZM]at nd;rw[YL];rcases W7.mp h with e|e
   .cases e;rw[beq_self_eq_true]
   .have Ap:(x == y)=false:=by
     rw[beq_eq_false_iff_ne];intro z;subst z;exact nd.1 (Xy.mpr ⟨_,e,rfl⟩)
    rw[Ap];exact nU nd.2 e
theorem pX(nd:ps.Nodup)(hl:us.length=ps.length)(h1:ps[i]?=A? x)(h2:us[i]?=A? u):(ps.zip us).reverse.lookup x=A? u:=by
 refine nU ?_ ?_
 .rw[List.map_reverse,List.map_fst_zip (by lia)];exact(List.pairwise_reverse.mpr (nd.imp λh z=>h z.symm))
 .rw[List.mem_reverse];exact WT (Zd.mpr ⟨h1,h2⟩)
structure Lam(mg:Xk->Option WU)(base:Yd)(c P:WR):Prop where
 hd:PySem.W.CodeHd base c P
 bl:base.BuiltinsAt mg P
def SameT(P:WR)(H H':Hp):Prop:=∀b o,b≠P->H b=A? o->H' b=A? o
def tabOf(pos:Z2)(c':WR):Array WU:=#[Y7 pos.line,Y7 pos.col,.ref c']
def TabSt(H:Hp)(P:WR)(pos:Z2)(qual:Xk):Prop:=H P=A? (.tbl #[])\/∃c',H P=A? (.tbl (tabOf pos c'))/\CodeAt H c' qual
theorem TabSt.mono(s:Same H H'){P:WR}(h:TabSt H P pos qual):TabSt H' P pos qual:=by
 rcases h with h|⟨c',h1,h2⟩
 .exact .inl (s _ _ h)
 .exact .inr ⟨c',s _ _ h1,h2.mono s⟩
theorem SameT.trans{P:WR}(a:SameT P H H1)(b:SameT P H1 H2):SameT P H H2:=λc o n e=>b c o n (a c o n e)
theorem Same.t(s:Same H H')(P:WR):SameT P H H':=λb o _ e=>s b o e
theorem SameT.kt{P:WR}(s:SameT P H H'){pp:Array WU}(hP:H P=A? (.tbl pp)):BB.KT H H':=λb xs e=>s b _ (λz=>by rw[z,hP]at e;cases e) e
theorem TabSt.kt{P:WR}(t:TabSt H P pos qual)(s:SameT P H H'):BB.KT H H':=by
 rcases t with h|⟨_,h,_⟩
 .exact s.kt h
 .exact s.kt h
theorem wM(pos:Z2)(c':WR):TriplesOk (tabOf pos c').toList:=trivial
theorem u7(pos:Z2)(c':WR):codeAmong pos (tabOf pos c').toList=A? (.ref c'):=by
 show codeAmong pos [Y7 pos.line,Y7 pos.col,.ref c']=_;simp[codeAmong,Y7]
section
variable{X:Cx}{k:Nat}{p:Z2}{t:TA}
def Trk(X:Cx)(Z:St)(cl:List (Xk×WR))(H H':Hp):Prop:=(∀b∈cl.map (·.2),H b=B?)/\(∀b,b∉cl.map (·.2)->H' b=H b)/\Exts (cl.map (·.2)) H'/\∀(i:Nat)(y:Xk)(v:V)(c:WR),X.N[i]?=A? y->Z[i]?=A? (A? v)->cl.lookup y=A? c->CellAt H' c v
def aaA(X:Cx)(cl:List (Xk×WR))(sp:Sp)(t:TA):TE:=λZ H Q=>t Z H λvs H1=>∀H2,Trk X Z cl H1 H2->sp vs H2 (λv H3=>(∀b∈cl.map (·.2),H3 b=H2 b)/\Q v (fgt (cl.map (·.2)) H3)) E0
theorem Trk.same{X:Cx}(t:Trk X Z cl H H'):Same H H':=λb o e=>by
 rw[t.2.1 b (λz=>by rw[t.1 b z]at e;cases e)];exact e
theorem Trk.back{X:Cx}{H3:Hp}(t:Trk X Z cl H H')(s:Same H' H3):Same H (fgt (cl.map (·.2)) H3):=λb o e=>by
 rw[bU (λz=>by rw[t.1 b z]at e;cases e)];exact s _ _ (t.same _ _ e)
theorem Trk.kt{X:Cx}{H3:Hp}(t:Trk X Z cl H H')(s:Same H' H3):BB.KT H3 (fgt (cl.map (·.2)) H3):=λb xs e=>by
 rw[bU λz=>?_]
 .exact e
 obtain⟨φ,h⟩:=t.2.2.1 b z;rw[s _ _ h]at e;cases e
structure i9(X:Cx)(cl:List (Xk×WR)):Prop where
 look:∀y c,(y,c)∈cl->X.env.cells.lookup y=A? c
 fn:∀y c,(y,c)∈cl->X.fn y=C?
 kind:∀y c,(y,c)∈cl->X.env.kindOf y=A? .cell
theorem abI{y:Xk}(h1:X.env.cells.lookup y=A? c)(h2:X.fn y=C?)(h3:X.env.kindOf y=A? .cell):i9 X [(y,c)] :=
 ⟨λ_ _ h=>by cases Xc.mp h;exact h1,λ_ _ h=>by cases Xc.mp h;exact h2,λ_ _ h=>by cases Xc.mp h;exact h3⟩
theorem wf(F:aU X.prog X.w X.K X.mg X.base CX0 k f fd ps sp)(hr:Room k X.A)(hg:Gl X x)(hm:X.mg x=A? (.ref f))(hk:PySem.W.keepIn X.K (.ref f)=C?)(hb:Binds X.K fd ps [])(oc:i9 X cl)
 (ha:PA X (e::es) t) (Dy:(x == ("__debug__":Xk))=false:=by decide) (he:XF (e::es) X.env=(CV,YY e X.env)::XF es X.env:=by rfl) (AK:(Z0 pos (XF es X.env)).any (·.1)=false:=by rfl) :
 PE X (.Call (.Name x p) (e::es) [] pos) (aaA X cl sp t):=by
 intro U s Z H Q I h;refine X5 (kN I hg hm ?_ Dy);refine PySem.W.callWith_K (h₀:=X.base) I.ok.mod.kin hk (thn (ha pos U s Z H _ I h) λus s1⟨vs,H1,I1,r,q⟩=>⟨I1.kIn,?_⟩) he AK
 have AA:∀b∈cl.map (·.2),∃y,(y,b)∈cl:=λb hb=>by
  obtain⟨⟨y,c⟩,h1,h2⟩:=Xy.mp hb;cases h2;exact⟨y,h1⟩
 have Bi:∀b∈cl.map (·.2),∃v o,s1.1.get? b=A? o/\o.data=.cell v:=λb hb=>by
  obtain⟨y,hy⟩:=AA b hb;obtain⟨v,o,h1,h2⟩:=I1.cell y b (oc.look y b hy);exact⟨v,o,h1,h2⟩
 have Cs:∀b∈cl.map (·.2),H1 b=none:=λb hb=>by
  obtain⟨y,hy⟩:=AA b hb;exact I1.freeC y b (oc.look y b hy)
 obtain⟨H2,QC⟩:∃H2:Hp,H2=λb=>if b∈cl.map (·.2)then A? (.ext λh=>h.get? b=s1.1.get? b/\(h.get? b).isSome=C?)else H1 b:=⟨_,rfl⟩
 have Jy:∀b∈cl.map (·.2),H2 b=A? (.ext λh=>h.get? b=s1.1.get? b/\(h.get? b).isSome=C?):=λb hb=>by rw[QC];exact b! hb
 have Bt:∀b,b∉cl.map (·.2)->H2 b=H1 b:=λb hb=>by rw[QC];exact a! hb
 have Cn:Exts (cl.map (·.2)) H2:=λb hb=>⟨_,Jy b hb⟩;have Jz:∀b u,H1 b=A? u->b∉cl.map (·.2):=λb u z hb=>by rw[Cs b hb]at z;cases z
 have Nw:HOk X.prog X.w H2 s1.1:=λa o ea=>by
  by_cases hb:a∈cl.map (·.2)
  .rw[Jy a hb]at ea;cases ea;obtain⟨v,o,h1,h2⟩:=Bi a hb
   exact⟨⟨D?,by rw[h1];rfl⟩,⟨o,h1⟩,λg1 g2 z y=>by
    obtain⟨ob,Il⟩:=ZY.mp z.2;have:=y ob Il;exact⟨by rw[this,<-Il];exact z.1,by rw[this];rfl⟩⟩
  .rw[Bt a hb]at ea;exact(I1.hok a o ea).stay (λ_ _ _ z=>z) (λb z=>by rw[Bt b (Jz b _ z)];exact z) λb xs z=>by rw[Bt b (Jz b _ z)];exact z
 have BD:∀b o,X.base.get? b=A? o->b∉cl.map (·.2):=λb o z hb=>by
  obtain⟨y,hy⟩:=AA b hb;have h1:=I1.ok.cab y b (oc.fn y b hy) (oc.look y b hy);exact g! (XO (Xa z) (XC I1.ok.bsz h1)) (Ys _)
 have JA:∀b∈frs X.stack,b∉cl.map (·.2):=λb hb hc=>by
  obtain⟨y,hy⟩:=AA b hc;rcases W7.mp (I1.stkSub b hb)with z|z
  .exact I1.cne y b (oc.look y b hy) z
  .obtain⟨_,o,ho,_⟩:=I1.ok.funs.mem z;have h1:=I1.ok.cab y b (oc.fn y b hy) (oc.look y b hy);exact g! (XO (Xa ho) h1) (Ys _)
 have e0:=I1.env0;have e2:Env0 X.prog X.w X.K X.mg X.base X.A X.stack s1 H2:=⟨e0.frames,e0.mod,λb o z=>⟨(e0.bs b o z).1,by rw[Bt b (BD b o z)];exact(e0.bs b o z).2⟩,e0.bsz,e0.funs,λb hb=>by rw[Bt b (JA b hb)];exact e0.frf b hb,Nw,e0.bare⟩
 have Nx:Trk X Z cl H1 H2:=by
  refine⟨Cs,Bt,Cn,λi y v c hN Nv hc=>?_⟩;have QD:(y,c)∈cl:=Yl hc;have TH:=oc.look y c QD;have CJ:=oc.kind y c QD;obtain⟨m,hn,hl⟩:=I1.loc;obtain⟨u,ru,l⟩:=hl i y v hN Nv (.inr (.inl CJ));rcases l with⟨z,_⟩|⟨_,c2,BS,z⟩
  .rw[CJ]at z;cases z
  .rw[TH]at BS;cases BS;refine⟨_,Jy c (jS hc),λh z'=>⟨u,ru,?_⟩⟩;obtain⟨o,ho,hd⟩:=z;exact⟨o,by rw[z'.1];exact ho,hd⟩
 have CS:=q H2 Nx;have hl:us.length=ps.length:=by rw[<-r.length];exact F.len _ _ _ _ CS
 have AD:=hb s1 us I1.kIn (by rw[Xs];exact hl);rw[Xs]at AD;refine wpAny_call (codeAny_mono (F.run X.A X.stack s1 H2 ⟨us,[]⟩ us vs _ _ hr e2 AD r CS) λrr s' hq=>?_);cases rr with
 |error e=>exact YF hq
 | ok fl =>
   cases fl with
   |next=>exact YF hq
   |brk=>exact YF hq
   |cont=>exact YF hq
   | ret u =>
     obtain⟨v,H3,os,bare,un,JB,rv,hS,q3⟩:=hq;have TJ:Exts (cl.map (·.2)) H3:=λb hb=>⟨_,(hS b hb).trans (Jy b hb)⟩;have kS:∀b∈cl.map (·.2),s'.1.get? b=s1.1.get? b:=λb hb=>((JB b _ ((hS b hb).trans (Jy b hb))).1).1;refine⟨v,fgt (cl.map (·.2)) H3,I1.call' (ch:=[]) os ⟨λb o z n hb A7=>?_,λb o z n hb A7=>?_,λb o z n A7=>?_,λb o z A7=>un.there b o z A7,λb xs z=>?_,λb o u' z=>?_,λb pp z=>?_⟩ (JB.fgt TJ) bare (λb z=>by cases z),rv,q3⟩
     .by_cases hc:b∈cl.map (·.2)
      .rw[kS b hc];exact z
      .exact un.keep b o z (by rw[Bt b hc];exact n) hb A7
     .exact un.slot b o z (by rw[Bt b (JA b hb)];exact n) hb A7
     .by_cases hc:b∈cl.map (·.2)
      .exact ju hc
      .rw[bU hc];exact un.free b o z (by rw[Bt b hc];exact n) A7
     .have hc:=Jz b _ z;rw[bU hc];exact un.tups b xs (by rw[Bt b hc];exact z)
     .have hc:=Jz b _ z;rw[bU hc];exact un.frzs b o u' (by rw[Bt b hc];exact z)
     .have hc:=Jz b _ z;rw[bU hc];exact un.tbls b pp (by rw[Bt b hc];exact z)
end
theorem Fun.okT{st:Stmt}{k:Nat}(F:Fun K x qual st f fd)(hc:fd.code=.ref c)(S:dR N ps (aJ st))(len:∀vs H Q E,sp vs H Q E->vs.length=ps.length)
 (A':∀(A:XG)(outer:List Env)(s:WY)(H:Hp)(vs:List V)(Q:VK)(E:XK),Room k (A.deeper (envOfC qual (aJ st) s.1.1.size f (.ref c)))->sp vs H Q E ->
  ∃t,PSs (qh CX0 P w K mg base N qual (aJ st) f (.ref c) A outer s H E).nox (bN st) t/\t {nx:=λ_ H'=>Q .non H',rt:=Q} (start N vs) H):aU P w K mg base CX0 (k+1) f fd ps sp:=by
 obtain⟨oc,od,kV,doc,pm,an,Ah,ct,EK,rfl,lk,B4⟩:=F.ex;have AO:Ah=.ref c:=hc;subst AO;refine zi lk B4 S len λA outer s H vs Q E hr CS=>?_;obtain⟨t,h,q⟩:=A' A outer s H vs Q E hr CS;exact⟨t,h.nox,q⟩
theorem x9{st:Stmt}{P:WR}(F:Fun K x qual st f fd)(hn:PySem.W.nsIn K Ym x=A? (A? (.ref f)))(ht:PySem.W.tabIn K x=A? (c,P)):fd.code=.ref c:=by
 obtain⟨oc,od,kV,doc,pm,an,Ah,ct,EK,rfl,lk,B4⟩:=F.ex;unfold PySem.W.tabIn at ht;rw[hn]at ht;simp only[lk]at ht;show Ah=.ref c;cases Ah with
 | ref c2 =>
   simp only[PySem.W.fnOf]at ht;split at ht
   .split at ht
    .cases ht;rfl
    .cases ht
   .cases ht
 |_=>simp[PySem.W.fnOf]at ht
theorem uS{mb:Xk->Option WU}{k:Nat}{fa T:WR}{Ab:WY}{vs:List WU}
 (KX:K.In Ab.1) (Cy:Ab.1.Ns Ym mg) (hb:Ab.1.Ns builtinsNs mb) (TL:∀x:Xk,x≠"__name__"->mb x=bootBuiltins x) (GX:Ab.1.NoLimit) (hg:Ab.gens=#[])
 (ha:Ab.1.get? a=A? {cls:=.type "list",data:=.seq vs.toArray}) (hi:IntsAre vs ns) (hl:ns.length<=Xg) (hr:Room k callerA)
 (hC:PySem.W.CodeHd Ab.1 c T) (hT:Ab.1.get? T=A? (PySem.W.tabObj #[])) (Bf:Ab.1.BuiltinsAt mg T) (Ny:K.lookup T=B?)
 (F:∀base:Yd,K.In base->base.Ns Ym mg->Lam mg base c T->aU P w K mg base CX k fa fd [x] sp) (JC:∀(s:WY)(u:WU),BindsTo s fd ⟨[u],[]⟩ [(x,u)])
 (CS:∀H:Hp,SqL K H a (ns.map p!)->H T=A? (.tbl #[])->sp [.ref a] H (λv _=>v=.bl C?) λ_ _ _=>False)
 (Nz:∀H e s',CX [] H Ab (λ_ _ _=>False) e s'->False) :
 codeAny (Xu P w) callerA (.call (.ref fa) ⟨[.ref a],[]⟩) (λr s'=>r=.ok (.ret (.bool C?))/\OldK Ab.1 s'.1/\s'.os=Ab.os/\AllBare s'.gens) Ab:=by
 have rv:=nB hi;have NA:=hi.length;have QE:a≠T:=λz=>by rw[z,hT]at ha;cases ha
 have core:∀H:Hp,(∀b,H b=B?\/(∃o xs,H b=A? (.frz o (.lst xs)))\/(b=T/\H b=A? (.tbl #[])))->H T=A? (.tbl #[])->SqL K H a (ns.map p!)->HOk P w H Ab.1->(∀b,H b≠B?->b=a\/b=T)->(H a≠B?->K.lookup a=B?) ->
  codeAny (Xu P w) callerA (.call (.ref fa) ⟨[.ref a],[]⟩) (λr s'=>r=.ok (.ret (.bool C?))/\OldK Ab.1 s'.1/\s'.os=Ab.os/\AllBare s'.gens) Ab:=by
  intro H hO NB hS hok hA hK;have By:∀{b:WR}{o:Zb},Ab.1.get? b=A? o->H b=B?->(mM Ab.1 H).get? b=A? o:=λe n=>w9 e n
  have NC:∀{b:WR}{o:Zb},Ab.1.get? b=A? o->(∀xs n,o.data≠.seq xs n)->(∀xs,o.data≠.fields xs\/o.cls≠.none)->H b=none:=λ{b o}e d1 d2=>by
   cases q:H b with
   |none=>rfl
   | some u =>
     rcases hA b (by rw[q];simp)with e'|e'
     .subst e';rw[ha]at e;cases e;exact g! rfl (d1 _ _)
     .subst e';rw[hT]at e;cases e;rcases d2 #[]with z|z
      .exact g! rfl z
      .exact g! rfl z
  have LH:∀{b:WR}{m:Xk->Option WU},Ab.1.Ns b m->(mM Ab.1 H).Ns b m:=λ{b m}⟨o,es,ep,e,d,r⟩=>⟨o,es,ep,By e (NC e (λxs n=>by rw[d];exactλz=>nomatch z) (λxs=>.inl (by rw[d];exactλz=>nomatch z))),d,r⟩
  have QF:K.In (mM Ab.1 H):=λb o e=>By (KX b o e) (by
   cases q:H b with
   |none=>rfl
   | some u =>
     rcases hA b (by rw[q];simp)with e'|e'
     .subst e';rw[hK (by rw[q];simp)]at e;cases e
     .subst e';rw[Ny]at e;cases e)
  have hM:Mod K mg (mM Ab.1 H):=⟨QF,LH Cy,⟨mb,LH hb,TL⟩,let⟨mc,h1,h2⟩:=GX;⟨mc,LH h1,h2⟩⟩
  have hL:Lam mg (mM Ab.1 H) c T:=by
   refine⟨?_,?_⟩
   .obtain⟨o,TM,file,tf,flags,tg,TN,text,tt,e1,r1,r2,r3⟩:=hC;exact⟨o,TM,file,tf,flags,tg,TN,text,tt,By e1 (NC e1 (λxs n=>by rw[r2];exactλz=>nomatch z) (λxs=>.inr (by rw[r1];exactλz=>nomatch z))),r1,r2,r3⟩
   .obtain⟨bm,o,h1,h2,h3,h4,h5,h6,h7,h8⟩:=Bf;exact⟨bm,o,h1,h2,h3,h4,By h5 (NC h5 (λxs n=>by rw[h8];exactλz=>nomatch z) (λxs=>.inl (by rw[h8];exactλz=>nomatch z))),h6,h7,h8⟩
  have e0:Env0 P w K mg (mM Ab.1 H) callerA [] Ab H:=⟨rfl,hM,λb o e=>yP e,Nat.le_of_eq (vg _ _),trivial,λb hb=>g! (show b∈([]:List WR)from hb) (by simp),hok,.of_eq hg⟩;refine codeAny_mono ((F _ QF (LH Cy) hL).run callerA [] Ab H ⟨[.ref a],[]⟩ [.ref a] [.ref a] _ _ hr e0 (JC Ab (.ref a)) (.cons rfl .nil) (CS H hS NB)) λr s' h=>?_;cases r with
  |error e=>exact(Nz H e s' h).elim
  | ok fl =>
    cases fl with
    |next=>exact YF h
    |brk=>exact YF h
    |cont=>exact YF h
    | ret u =>
      obtain⟨v,H',os,bare,un,JD,r',q⟩:=h;have q':v=.bl true:=q;subst q';obtain rfl:u=Value.bool true:=r';refine⟨D?,⟨λb o e=>?_,λb o e=>un.there b o e (by simp)⟩,os,bare⟩;cases q:H b with
      |none=>exact .inl (un.keep b o e q (by intro z;exact g! (show b∈([]:List WR)from z) (by simp)) (by simp))
      | some u =>
        rcases hO b with z|⟨ob,xs,z⟩|⟨rfl,z⟩
        .rw[q]at z;cases z
        .have z2:=un.frzs b ob _ z;obtain⟨e1,_⟩:=hok b _ z;obtain⟨e2,_⟩:=JD b _ z2;rw[e]at e1;cases e1;exact .inl e2
        .obtain⟨more,z2⟩:=un.tbls b _ z;have e2:s'.1.get? b=A? {cls:=.none,data:=.fields (#[]++more)}:=JD b _ z2;rw[hT]at e;cases e;exact .inr (.inl ⟨(hC.tab hT).isCodeTable,rfl,#[],more,rfl,e2⟩)
 have okT:∀H:Hp,ObjOk P w H Ab.1 T (.tbl #[]):=λ_=>hT;cases hk:K.lookup a with
 | some o =>
   have e:=KX a o hk;rw[ha]at e;cases e;refine core (λb=>if b=T then A? (.tbl #[])else B?) (λb=>?_) (b! rfl) (.inr ⟨_,vs.toArray,_,hk,rfl,rfl,rfl,by rw[W4,NA];exact hl,by simpa using rv⟩) (λb u z=>?_) (λb z=>?_) λz=>g! (a! QE) z
   .by_cases hb:b=T
    .exact .inr (.inr ⟨hb,b! hb⟩)
    .exact .inl (a! hb)
   .by_cases hb:b=T
    .have z':=(b! hb).symm.trans z;cases z';rw[hb];exact okT _
    .have z':=(a! hb).symm.trans z;cases z'
   .by_cases hb:b=T
    .exact .inr hb
    .exact g! (a! hb) z
 | none =>
   refine core (λb=>if b=T then A? (.tbl #[])else if b=a then A? (.frz {cls:=.type "list",data:=.seq vs.toArray} (.lst (ns.map p!)))else B?) (λb=>?_) (b! rfl) (.inl (.inr ⟨{cls:=.type "list",data:=.seq vs.toArray},(a! QE).trans (b! rfl)⟩)) (λb u z=>?_) (λb z=>?_) λ_=>hk
   .by_cases hb:b=T
    .exact .inr (.inr ⟨hb,b! hb⟩)
    .by_cases AD:b=a
     .exact .inr (.inl ⟨_,_,(a! hb).trans (b! AD)⟩)
     .exact .inl ((a! hb).trans (a! AD))
   .by_cases hb:b=T
    .have z':=(b! hb).symm.trans z;cases z';rw[hb];exact okT _
    .have z':=(a! hb).symm.trans z;by_cases AD:b=a
     .have z2:=(b! AD).symm.trans z';cases z2;subst AD;exact⟨ha,by rw[WN];exact hl,vs,_,rv,ha⟩
     .have z2:=(a! AD).symm.trans z';cases z2
   .by_cases hb:b=T
    .exact .inr hb
    .by_cases AD:b=a
     .exact .inl AD
     .exact g! ((a! hb).trans (a! AD)) z
def tabAt(o:Zb):Option WR:=match o.data with
 | .fields vs=>(match(vs[11]?:Option WU)with
   |some (.ref P)=>A? P
   |_=>B?)
 |_=>B?
theorem aag{T:WR}{sl:Array (Option WU)}{ot:Zb}(hn:PySem.W.nsIn K Ym x=A? (A? (.ref f)))(hl:K.lookup f=A? ⟨oc,od,.func fd,sl⟩)(hc:fd.code=.ref c)(ho:K.lookup c=A? ot)(ht:tabAt ot=A? T):PySem.W.tabIn K x=A? (c,T):=by
 unfold PySem.W.tabIn;rw[hn];simp only[hl,hc,ho];obtain⟨o1,o2,o3,o4⟩:=ot;unfold tabAt at ht;cases o3 with
 | fields vs =>
   simp only at ht |-;split at ht
   .rename_i e
    cases ht;simp only[e]
   .cases ht
 |_=>cases ht
theorem vz{l:PySem.W.OpenLaw}{k:Nat}{q:W6}{d dt:DefRec}{K:Params->WQ}{CX:Xo->CXT}{sp:Xo->WR->Sp}{tn:Xk}
 (hn:l.most=A? n) (IS:n<=Xg) (IY:d.params.defaults=[]) (hr:Room k callerA) (hq:(recsOf q).find? (λe=>e.name == tn)=A? dt)
 (hY:∀(w:Xo)(h:Yd),YP w h->(K w.params).In h)
 (F:∀(w:Xo)(mg:Xk->Option WU)(fa:WR)(h:Yd),(K w.params).In h->h.Ns Ym mg->mg d.name=A? (.ref fa) ->
  ∃(fd:ZU)(c T:WR),(∀(s:WY)(u:WU),BindsTo s fd ⟨[u],[]⟩ [(x,u)])/\PySem.W.tabIn (K w.params) tn=A? (c,T)/\(K w.params).lookup T=B? /\
    ∀base:Yd,(K w.params).In base->base.Ns Ym mg->Lam mg base c T->aU l.prog w (K w.params) mg base (CX w) k fa fd [x] (sp w T))
 (CS:∀(w:Xo)(T:WR)(H:Hp)(a:WR)(ns:List Int),ns.length<=n->SqL (K w.params) H a (ns.map p!)->H T=A? (.tbl #[])->sp w T [.ref a] H (λv _=>v=.bl C?) λ_ _ _=>False)
 (Nz:∀(w:Xo)(H:Hp)(s:WY)(e:WU)(s':WY),CX w [] H s (λ_ _ _=>False) e s'->False) :
 PySem.W.WalkO q loose XP YP l.row.toRowW d [] (λf vs=>PySem.call f vs):=by
 refine Att.attach_call hn IY λw s₀ Ab mg mb fa o pm cd doc a vs ns G Y ho hd B4 MR GF hints hlen hg=>?_;have KX:=hY w _ Y;obtain⟨fd,c,T,hb,ht,Ny,hF⟩:=F w mg fa _ KX G.T.g MR;obtain⟨hC,hT⟩:=PySem.W.tab_of G.T KX hq ht
 have Bf:Ab.1.BuiltinsAt mg T:=by
  obtain⟨bm,ob,b1,b2,b3,b4,b5,b6⟩:=G.T.bmain;refine⟨bm,ob,b1,b2,λz=>?_,λz=>?_,b3,b4,b5,b6⟩
  .obtain⟨o',es,ep,e,d',_⟩:=G.T.g;rw[z,e]at b3;cases b3;rw[d']at b6;cases b6
  .rw[z,hT]at b3;cases b3;cases b4
 exact uS KX G.T.g G.T.b G.T.builtins G.T.nolimit hg GF hints (XC hlen IS) hr hC hT Bf Ny hF hb (λH hS NB=>CS w T H a ns hlen hS NB) λH e s'=>Nz w H Ab e s'
end L2
namespace BB
open PySem L2
def mZ:Th->Option (Int×Int)
 |.knot _ _=>B?
 |.call s k=>A? (s,k)
def dM(t:Th):List (Int×Int):=t.walk.filterMap mZ
def stT(t:Th):List Int:=(dM t).map (·.1)
def aT(ts:List Th):List Int:=ts.flatMap stT
theorem eO(s k:Int):stT (.call s k)=[s]:=rfl
theorem cU(n:Xk)(ks:List Th):stT (.knot n ks)=aT ks:=by
 unfold stT dM aT;rw[Th.walk,Z3];show((walks ks).filterMap mZ).map (·.1)=_;induction ks with
 |nil=>rfl
 | cons t ts ih =>
   rw[walks,List.filterMap_append,W8,ih];rfl
def fc(m:List Int)(s:Int):List Int:=if s∈m then m else m++[s]
def aR(m l:List Int):List Int:=l.foldl fc m
theorem cx(m a b:List Int):aR m (a++b)=aR (aR m a) b:=List.foldl_append
theorem qL(m:List Int)(s:Int):m <+: fc m s:=by
 unfold fc;split
 .exact List.prefix_refl _
 .exact List.prefix_append _ _
theorem fb(l:List Int):∀m:List Int,m <+: aR m l:=by
 induction l with
 |nil=>exactλm=>List.prefix_refl _
 |cons s l ih=>exactλm=>(qL m s).trans (ih _)
theorem qr{s x:Int}:x∈fc m s↔x∈m\/x=s:=by
 unfold fc;split
 .rename_i h
  exact⟨.inl,λz=>z.elim id λy=>y ▸ h⟩
 .rw[XA,Xc]
theorem dE{l:List Int}:∀{m:List Int}{x:Int},x∈aR m l↔x∈m\/x∈l:=by
 induction l with
 |nil=>intro m x;simp[aR]
 | cons s l ih =>
   intro m x;show x∈aR (fc m s) l↔_;rw[ih,qr,W7,or_assoc]
theorem yW{s:Int}(h:m.Nodup):(fc m s).Nodup:=by
 unfold fc;split
 .exact h
 .rename_i hs
  refine List.nodup_append.mpr ⟨h,by simp,λa ha b hb e=>?_⟩;rw[Xc.mp hb]at e;exact hs (e ▸ ha)
theorem tU{l:List Int}:∀{m:List Int},m.Nodup->(aR m l).Nodup:=by
 induction l with
 |nil=>exactλh=>h
 |cons s l ih=>exactλh=>ih (yW h)
def bfs(R:Int->List Th):Nat->List Int->Nat->List Int
 |0,m,_=>m
 | n+1,m,i=>match m[i]? with
   |none=>m
   |some s=>bfs R n (aR m (aT (R s))) (i+1)
theorem gS(R:Int->List Th):∀(n:Nat)(m:List Int)(i:Nat),m <+: bfs R n m i
 |0,m,i=>List.prefix_refl _
 | n+1,m,i=>by
   rw[bfs];split
   .exact List.prefix_refl _
   .exact(fb _ _).trans (gS R n _ _)
theorem xF(R:Int->List Th):∀(n:Nat)(m:List Int)(i:Nat),m.Nodup->(bfs R n m i).Nodup
 |0,m,i,h=>h
 | n+1,m,i,h=>by
   rw[bfs];split
   .exact h
   .exact xF R n _ _ (tU h)
theorem xl(R:Int->List Th)(p:Int->Prop)(hR:∀s,p s->∀x∈aT (R s),p x):∀(n:Nat)(m:List Int)(i:Nat),(∀x∈m,p x)->∀x∈bfs R n m i,p x
 |0,m,i,h=>h
 | n+1,m,i,h=>by
   rw[bfs];split
   .exact h
   .rename_i s hs
    refine xl R p hR n _ _ λx hx=>?_;rcases dE.mp hx with z|z
    .exact h x z
    .exact hR s (h s (WT hs)) x z
theorem yL(R:Int->List Th)(n:Nat)(m:List Int)(i:Nat)(h:m.length<=i):bfs R n m i=m:=by
 cases n with
 |zero=>rfl
 |succ n=>rw[bfs,YX h]
def idx(M:List Int)(s:Int):Int:=(M.idxOf s:Nat)
theorem tX(h:m <+: M){s:Int}(hs:s∈m):idx M s=idx m s:=by
 obtain⟨r,rfl⟩:=h;unfold idx;rw[List.idxOf_append,b! hs]
theorem aad{s:Int}(hs:s∈M):0<=idx M s/\idx M s<(M.length:Int):=by
 have:=List.idxOf_lt_length_of_mem hs;unfold idx;lia
theorem yf(nd:M.Nodup){s:Int}(h:M[i]?=A? s):idx M s=(i:Int):=by
 obtain⟨h1,h2⟩:=YI.mp h;unfold idx;rw[<-h2,List.Nodup.idxOf_getElem nd]
theorem tY{s:Int}(hs:s∈M):M[(idx M s).toNat]?=A? s:=by
 have h:=List.idxOf_lt_length_of_mem hs;unfold idx;rw[XH,WS h,List.getElem_idxOf h]
theorem yT{a b:Int}(ha:a∈M)(hb:b∈M)(h:idx M a=idx M b):a=b:=by
 have h1:=tY ha;rw[h,tY hb]at h1;exact(Xm h1).symm
def ren(g:Int->Int)(t:Th):Th:=t.fill λs k=>.call (g s) k
theorem gO(g:Int->Int)(s k:Int):ren g (.call s k)=.call (g s) k:=by unfold ren;rw[C!]
theorem eB(f:Int->Int->Th):∀ts:List Th,fills f ts=ts.map (·.fill f)
 | []=>rfl
 |t::ts=>by rw[fills,eB f ts];rfl
theorem gA(g:Int->Int)(n:Xk)(ks:List Th):ren g (.knot n ks)=.knot n (ks.map (ren g)):=by
 unfold ren;rw[C!,eB]
mutual
theorem uv(g:Int->Int):∀t:Th,stT (ren g t)=(stT t).map g
 |.call s k=>by rw[gO,eO,eO];rfl
 |.knot n ks=>by rw[gA,cU,cU,lq g ks]
theorem lq(g:Int->Int):∀ts:List Th,aT (ts.map (ren g))=(aT ts).map g
 | []=>rfl
 | t::ts=>by
   show stT (ren g t)++aT (ts.map (ren g))=(stT t++aT ts).map g;rw[uv g t,lq g ts,W8]
end
theorem vA{t:Th}{x:Int}(ht:t∈ts)(hx:x∈stT t):x∈aT ts:=List.mem_flatMap.mpr ⟨t,ht,hx⟩
mutual
theorem sr{g h:Int->Int}:∀t:Th,(∀s∈stT t,g s=h s)->ren g t=ren h t
 |.call s k,e=>by rw[gO,gO,e s (by rw[eO];exact Xc.mpr rfl)]
 | .knot n ks,e=>by
   rw[gA,gA,ue ks λs hs=>e s (by rw[cU];exact hs)]
theorem ue{g h:Int->Int}:∀ts:List Th,(∀s∈aT ts,g s=h s)->ts.map (ren g)=ts.map (ren h)
 | [],_=>rfl
 | t::ts,e=>by
   rw[Xx,Xx,sr t λs hs=>e s (XM _ hs),ue ts λs hs=>e s (XE _ hs)]
end
mutual
theorem lH(g:Int->Int):∀t:Th,(ren g t).size=t.size/\(ren g t).tall=t.tall
 |.call s k=>by rw[gO,q!,q!,t!,t!];exact⟨D?,D?⟩
 | .knot n ks=>by
   have:=np g ks;rw[gA,q!,q!,t!,t!,this.1,this.2];exact⟨D?,D?⟩
theorem np(g:Int->Int):∀ts:List Th,ao (ts.map (ren g))=ao ts/\aP (ts.map (ren g))=aP ts
 | []=>⟨rfl,rfl⟩
 | t::ts=>by
   have h1:=lH g t;have h2:=np g ts;rw[Xx,ao,ao,aP,aP,h1.1,h1.2,h2.1,h2.2];exact⟨D?,D?⟩
end
theorem v5{g:Int->Int}{s:Int}(h:∀x∈m,g x=g s->x=s):fc (m.map g) (g s)=(fc m s).map g:=by
 unfold fc;by_cases hs:s∈m
 .rw[b! hs,b! (Xy.mpr ⟨s,hs,rfl⟩)]
 .rw[a! hs,a!,W8]
  .rfl
  .intro z;obtain⟨x,hx,e⟩:=Xy.mp z;exact hs (h x hx e ▸ hx)
theorem vW{g:Int->Int}(hg:∀x∈M,∀y∈M,g x=g y->x=y):∀{l m:List Int},(∀x∈m,x∈M)->(∀x∈l,x∈M)->aR (m.map g) (l.map g)=(aR m l).map g:=by
 intro l;induction l with
 |nil=>exactλ_ _=>rfl
 | cons s l ih =>
   intro m hm hl;have hs:=hl s (Xe ..);show aR (fc (m.map g) (g s)) (l.map g)=(aR (fc m s) l).map g;rw[v5 λx hx e=>hg x (hm x hx) s hs e];exact ih (λx hx=>(qr.mp hx).elim (hm x) λz=>z ▸ hs) λx hx=>hl x (Xb _ hx)
def rowOf(rows:List (List Th))(s:Int):List Th:=rows.getD s.toNat []
theorem lc:∀(n:Nat)(m:List Int)(i:Nat),(bfs R n m i).length<i+n->(∀j s,j<i->m[j]?=A? s->∀x∈aT (R s),x∈bfs R n m i)->∀s∈bfs R n m i,∀x∈aT (R s),x∈bfs R n m i
 | 0,m,i,hl,h=>λs hs x hx=>by
   obtain⟨j,hj⟩:=Xi.mp hs;have F':=(glE hj);exact h j s (by rw[bfs]at hl F';lia) hj x hx
 | n+1,m,i,hl,h=>by
   rw[bfs]at hl h |-;cases hi:m[i]? with
   | none =>
     rw[hi]at h;intro s hs x hx;obtain⟨j,hj⟩:=Xi.mp (show s∈m from hs);have F':=(glE hj);have:=List.getElem?_eq_none_iff.mp hi;exact h j s (by lia) hj x hx
   | some s0 =>
     rw[hi]at hl h
     have GA:(bfs R n (aR m (aT (R s0))) (i+1)).length<i+1+n:=by
      have:(bfs R n (aR m (aT (R s0))) (i+1)).length<i+(n+1):=hl;lia
     refine lc n (aR m (aT (R s0))) (i+1) GA λj s hj QG x hx=>?_;have hp:=gS R n (aR m (aT (R s0))) (i+1);have Ck:=(glE hi)
     have hm:m[j]?=A? s:=by
      obtain⟨r,hr⟩:=fb (aT (R s0)) m;rw[<-hr,Yw (by lia)]at QG;exact QG
     by_cases NF:j=i
     .rw[NF,hi]at hm;cases hm;exact hp.subset (dE.mpr (.inr hx))
     .exact h j s (by lia) hm x hx
end BB
namespace L2
open PySem PySem.Spec PySem.SeqAt PyProof.Rows
theorem qA{k l:Key}{v:WU}(hu:iu k u=C?)(hv:iu l v=C?):EqAt A s u v (decide (k=l)):=by
 rcases bo hu with⟨i,t,rfl,rfl⟩|⟨x,t,rfl,rfl⟩
 .rcases bo hv with⟨j,t',rfl,rfl⟩|⟨y,t',rfl,rfl⟩
  .have:decide ((Xn i:Key)=Xn j)=(i == j):=by
    by_cases h:i=j
    .subst h;simp
    .rw[c! (λz=>h (YM z)),beq_eq_false_iff_ne.mpr h]
   rw[this];exact EqAt.int_int i t j t'
  .rw[c! (λz=>nomatch z)];exact EqAt.int_str i t y t'
 .rcases bo hv with⟨j,t',rfl,rfl⟩|⟨y,t',rfl,rfl⟩
  .rw[c! (λz=>nomatch z)];exact EqAt.str_int x t j t'
  .have:decide ((Zs x:Key)=Zs y)=(x == y):=by
    by_cases h:x=y
    .subst h;simp
    .rw[c! (λz=>h (Sum.inr.inj z)),beq_eq_false_iff_ne.mpr h]
   rw[this];exact EqAt.str_str x t y t'
theorem jw:∀{ks:List Key}{vs:List WU}{j:Nat}{k:Key}{v:WU},ItemsAre (au P w) ks vs->ks[j]?=A? k->vs[j]?=A? v->iu k v=C?
 |_,_,0,k,v,.cons h _,e1,e2=>by cases e1;cases e2;exact h
 |_,_,j+1,k,v,.cons _ h,e1,e2=>jw (j:=j) h e1 e2
theorem vo{x y:List Key}(hx:IsTupleKey (au P w) s.1 x a)(hy:IsTupleKey (au P w) s.1 y b)(hu:A.units<YJ):EqAt A s (.ref a) (.ref b) (decide (x=y)):=by
 by_cases Cm:a=b
 .subst Cm;obtain rfl:=hx.inj hy;rw[d! rfl];exact EqAt.same _
 .obtain⟨o,its,n,ho,hc,hd,hi⟩:=hx;obtain⟨o',its',n',Bw,AO,Bx,AW⟩:=hy;have p1:s.1.IsTuple a its.toList.toArray:=⟨o,ho,hc,n,by rw[hd]⟩;have p2:s.1.IsTuple b its'.toList.toArray:=⟨o',Bw,AO,n',by rw[Bx]⟩;have:=iO (ds:=x) (es:=y) p1 p2 hi.length.symm AW.length.symm hu λj d e u v e1 e2 e3 e4=>qA (A:=A.in1) (s:=s) (jw hi e1 e3) (jw AW e2 e4);exact EqAt.of_refs Cm this
abbrev ay:=List Key×Key
theorem sD{m:Nat}{ks:List Key}{Q:Bool->WY->Prop}(hk:IsTupleKey (au P w) s.1 ks a)(h:Q C? s):W9 (Xu P w) A (eqIsQuiet (m+1) (.ref a)) Q E s:=by
 have hT:=hk.typeIs;obtain⟨o,items,n,ho,_,hd,hi⟩:=hk;unfold eqIsQuiet;refine WO (Yr hT F.slot_tuple_eq.lookup ?_);show W9 _ _ (isInstance (.ref a) (.type "tuple") >>= _) _ _ s;refine WO (ZI hT isSubtype_tuple_tuple ?_);simp only[Bool.not_true,Yc,if_false];refine WO (YC ho hd ?_);refine WO ?_;show W9 _ _ (forIn items _ _) _ _ s;rw[<-Array.forIn_toList];refine wpAny_forIn_list _ (λrest r s'=>r.1=B?/\s'=s/\∀v∈rest,carriedByValue v=C?) _ ?_ ?_ _ _ ⟨rfl,rfl,hi.byValue⟩
 .rintro v rest r s' ⟨hr,rfl,Ac⟩;rw[eqIsQuiet_byValue _ (Ac v Xe)];refine WO (WX ?_);simp only[Bool.not_true,Yc,if_false];exact WX ⟨rfl,rfl,λu BV=>Ac u (Xb _ BV)⟩
 .rintro⟨r1,r2⟩ s' ⟨hr,rfl,_⟩;simp only at hr;subst hr;exact WX h
section
variable{X:Cx}{o i value:X7}{td ty tv:TE}
end
end L2
variable{f':List (L2.ay×L2.V)}{Al:List L2.ay}
namespace BB
open PySem L2
theorem FitSs.mem'{ks:List (Xk×Int)}:∀{ts:List Th},FitSs ks S C ts->∀t∈ts,t.FitS ks S C
 | [],_,t,ht=>by cases ht
 | u::us,h,t,ht=>by
   rw[FitSs]at h;rcases W7.mp ht with e|e
   .rw[e];exact h.1
   .exact FitSs.mem' h.2 t e
structure yZ(ins outs:List (Xk×Int))(S:Int)(rows:List (List Th)):Prop where
 len:(rows.length:Int)=S
 row:∀row∈rows,row.length=ins.length/\∀(j:Nat)(p:Th)(k:Xk×Int),row[j]?=A? p->ins[j]?=A? k->p.FitS outs S k.2
mutual
def cnT:Th->Nat
 |.knot _ ks=>cD ks
 |.call _ _=>1
def cD:List Th->Nat
 | []=>0
 |t::ts=>cnT t+cD ts
end
structure Small(t:Th):Prop where
 tall:t.tall<=20
 kn:t.kn<=400
 cn:cnT t<=200
theorem zJ(t:Th):t.kn=(if t.isCall=C? then 0 else 1)+kns t.kids:=by
 cases t with
 |knot n ks=>rw[Th.kn,Th.isCall,K!,a! W0];lia
 |call s k=>rw[Th.kn,Th.isCall,K!,b! rfl,kns]
theorem zF(t:Th):cnT t=(if t.isCall=C? then 1 else 0)+cD t.kids:=by
 cases t with
 |knot n ks=>rw[cnT,Th.isCall,K!,a! W0];lia
 |call s k=>rw[cnT,Th.isCall,K!,b! rfl,cD]
theorem lw(a b:List Th):kns (a++b)=kns a+kns b:=by
 induction a with
 |nil=>rw[Zc,kns];lia
 |cons x a ih=>rw[Yo,kns,kns,ih];lia
theorem jY(a b:List Th):cD (a++b)=cD a+cD b:=by
 induction a with
 |nil=>rw[Zc,cD];lia
 |cons x a ih=>rw[Yo,cD,cD,ih];lia
mutual
theorem oC:∀t:Th,t.size=t.kn+cnT t
 |.knot n ks=>by rw[q!,Th.kn,cnT,pN ks];lia
 |.call s k=>by rw[q!,Th.kn,cnT]
theorem pN:∀ts:List Th,ao ts=kns ts+cD ts
 | []=>by rw[ao,kns,cD]
 |t::ts=>by rw[ao,kns,cD,oC t,pN ts];lia
end
theorem Small.size{t:Th}(h:Small t):t.size<=600:=by
 have:=oC t;have:=h.kn;have:=h.cn;lia
def bO(R:Int->List Th)(head:Th):List Int:=bfs R 21 (aR [] (stT head)) 0
mutual
theorem tI{q:Int->Prop}(f:Int->Int->Th){ks:List (Xk×Int)}(hf:∀s c,0<=s->s<S->0<=c->c<C->∀x∈stT (f s c),q x):∀t:Th,t.FitS ks S C->∀x∈stT (t.fill f),q x
 | .call s c,h,x,hx=>by
   rw[u!]at h;rw[C!]at hx;exact hf s c h.1 h.2.1 h.2.2.1 h.2.2.2 x hx
 | .knot n ts,h,x,hx=>by
   rw[u!]at h;rw[C!,cU]at hx;exact qa f hf ts h.2 x hx
theorem qa{q:Int->Prop}(f:Int->Int->Th){ks:List (Xk×Int)}(hf:∀s c,0<=s->s<S->0<=c->c<C->∀x∈stT (f s c),q x):∀ts:List Th,FitSs ks S C ts->∀x∈aT (fills f ts),q x
 | [],_,x,hx=>by rw[fills]at hx;cases hx
 | t::ts,h,x,hx=>by
   rw[FitSs]at h;rw[fills]at hx;have A7:x∈stT (t.fill f)++aT (fills f ts):=hx;rcases XA.mp A7 with z|z
   .exact tI f hf t h.1 x z
   .exact qa f hf ts h.2 x z
end
theorem m5(ok:yZ ins outs S rows){l:Int}(h0:0<=l)(h1:l<S):∃row,rows[l.toNat]?=A? row/\rowOf rows l=row/\row.length=ins.length/\∀t∈row,∃C,t.FitS outs S C:=by
 have hl:=ok.len;have hs:l.toNat<rows.length:=by lia
 refine⟨rows[l.toNat],WS hs,?_,(ok.row _ (List.getElem_mem hs)).1,λt ht=>?_⟩
 .unfold rowOf;rw[List.getD,WS hs];rfl
 .obtain⟨hlen,DD⟩:=ok.row _ (List.getElem_mem hs);obtain⟨j,hj⟩:=Xi.mp ht;have F':=(glE hj);exact⟨_,DD j t _ hj (WS (by lia))⟩
section
variable{mid:List (Xk×Int)}{S1 S2:Int}{Eg Eh:Th}{Ei Ej:List (List Th)}
theorem uJ(R:Int->List Th)(h:Th):(bO R h).Nodup:=xF _ _ _ _ (tU List.nodup_nil)
end
end BB
namespace L2
open PySem PySem.Spec PySem.Calls PyProof.Rows
abbrev lz:Zb:={cls:=.type "frame",data:=.dict #[]}
abbrev tO:Zb:={cls:=.type "cell",data:=.cell B?}
theorem jI{M:Model}{globals:WR}{closure:List (Xk×WR)}{binds:List (Xk×WU)}{func:Option WR}{code:WU}{builtins:WR}{Q:Env->WY->Prop}
 (hk:scope.kind=.function) (hl:∀x∈binds,scope.names.lookup x.1=A? .local)
 (hQ:∀h',h'.Ns s.1.1.size (λx=>binds.reverse.lookup x)->YG s.1.1.size (pushCells (s.1.push lz) scope.names) h' ->
  Q (newEnv scope s.1.1.size globals (cellsFrom (s.1.1.size+1) scope.names closure) qual func code B? builtins) {s with heap:=h',toks:=s.toks+binds.length}) :
 W9 M A (newFunctionEnv scope globals closure binds qual func code B? builtins) Q E s:=by
 simp only[newFunctionEnv,Option.isSome_none,Yc,if_false];refine WO (wpAny_alloc ?_);refine WO (wpAny_layCells _ (λname kind cells=>by cases TQ:kind == NameKind.cell <;> simp[TQ]) _ _ _ _ ?_);rw[show({s with heap:=s.1.push {cls:=.type "frame",data:=.dict #[]}}:WY).heap.1.size=s.1.1.size+1 from X3 ..];refine WO ?_;generalize Cu:cellsFrom (s.1.1.size+1) scope.names closure=cs at hQ |-
 refine wpAny_forIn_list _
  (λrest _ s'=>∃done h',binds=done++rest/\s'={s with heap:=h',toks:=s.toks+done.length} /\
   h'.Ns s.1.1.size (λx=>done.reverse.lookup x) /\
   YG s.1.1.size (pushCells (s.1.push lz) scope.names) h') _ ?_ ?_ binds _
  ⟨[],_,rfl,rfl,(Heap.Ns.new ..).keeps (pushCells_keeps _ _),Heap.SameBut.refl ..⟩
 .rintro⟨name,v⟩ rest _ s' ⟨done,h',hb,rfl,Cy,CT⟩
  have A9:Env.kindOf {scope,locals:=s.1.1.size,globals,cells:=cs,qual,func,code,frame:=A? s.1.1.size,builtins} name=A? .local :=
   hl (name,v) (by rw[hb];simp)
  have hp:(({scope,locals:=s.1.1.size,globals,cells:=cs,qual,func,code,frame:=A? s.1.1.size,builtins}:Env).scope.kind == .class ||(({scope,locals:=s.1.1.size,globals,cells:=cs,qual,func,code,frame:=A? s.1.1.size,builtins}:Env).scope.kind == .module &&
   ({scope,locals:=s.1.1.size,globals,cells:=cs,qual,func,code,frame:=A? s.1.1.size,builtins}:Env).locals != ({scope,locals:=s.1.1.size,globals,cells:=cs,qual,func,code,frame:=A? s.1.1.size,builtins}:Env).globals))=false:=by
   show(scope.kind == .class ||(scope.kind == .module && _))=CV;rw[hk];rfl
  simp only[storeName_local A9 hp];refine WO (wpAny_nsSet Cy λJo NG NH=>WX ⟨done++[(name,v)],Jo,by simp[hb],?_,?_,CT.trans NH⟩)
  .simp[Nat.add_assoc]
  .rw[lookup_reverse_snoc];exact NG
 .rintro _ s' ⟨done,h',hb,rfl,Cy,CT⟩;rw[Xs]at hb;subst hb;exact WX (hQ h' Cy CT)
def NestAt(H:Hp)(f c':WR)(name qual:Xk)(params:Arguments)(body:List Stmt)(scope:Z5)(cl:List (Xk×WR)):Prop:=∃φ,H f=A? (.ext φ)/\∀h:Yd,φ h->∃doc pm DE,h.get? f=A? (PySem.W.fnMade name qual params body scope cl doc pm c' DE)
theorem NestAt.mono(s:Same H H'){c':WR}{name:Xk}(h:NestAt H f c' name qual params body scope cl):NestAt H' f c' name qual params body scope cl:=by
 obtain⟨φ,h1,h2⟩:=h;exact⟨φ,s _ _ h1,h2⟩
def cxN(P:W6)(w:Xo)(K:WQ)(mg:Xk->Option WU)(base:Yd)(N:List Xk)(qual:Xk)(scope:Z5)(f:WR)(cd:WU)(y:Xk)(cl:List (Xk×WR))(A:XG)(outer:List Env)(s:WY)(H:Hp):Cx where
 prog:=P
 w:=w
 K:=K
 mg:=mg
 base:=base
 A:=A.deeper (PySem.W.envX qual scope s.1.1.size f cd ((y,s.1.1.size+1)::cl))
 N:=N
 s₀:=s
 H₀:=fgt (cl.map (·.2)) H
 env:=PySem.W.envX qual scope s.1.1.size f cd ((y,s.1.1.size+1)::cl)
 outer:=outer
 stack:=PySem.W.envX qual scope s.1.1.size f cd ((y,s.1.1.size+1)::cl)::outer
 ex:=[]
 calm:=C?
 fn:=λx=>x == y
 pn:=[]
 xe:=λ_ _=>False
structure nF(N ps fs:List Xk)(y:Xk)(cl:List (Xk×WR))(sc:Z5):Prop where
 kind:sc.kind=.function
 co:sc.isCoroutine=CV
 gen:sc.isGenerator=CV
 nd:N.Nodup
 pre:N.take (ps.length+fs.length)=ps++fs
 par:∀x∈ps,sc.names.lookup x=A? .local
 fre:∀x∈fs,sc.names.lookup x=A? .free
 cells:∀n:Nat,cellsFrom n sc.names cl=(y,n)::cl
 push:∀h:Yd,pushCells h sc.names=h.push tO
 cel:∀x,sc.names.lookup x=A? .cell->x=y
 has:∀x,sc.names.lookup x=A? .free->∃c,cl.lookup x=A? c
 inj:∀x z c,cl.lookup x=A? c->cl.lookup z=A? c->x=z
 ney:∀x∈fs,(x == y)=CV
 neq:∀x,sc.names.lookup x=A? .free->(x == y)=CV
theorem yy{k:Nat}{c':WR}{name y:Xk}{fs:List Xk}
 (S:nF N ps fs y cl scope) (bind:∀(doc pm DE:WU)(us:List WU),us.length=ps.length->bindArgs (PySem.W.fnX name qual params body scope cl .none .none doc pm B? (.ref c') DE) ⟨us,[]⟩=pure (ps.zip us))
 (CS:∀vs H Q E,sp vs H Q E->vs.length=ps.length/\NestAt H f c' name qual params body scope cl/\CodeAt H c' qual/\Exts (cl.map (·.2)) H/\∀x c,cl.lookup x=A? c->∃v,CellAt H c v)
 (A':∀(A:XG)(outer:List Env)(s:WY)(H:Hp)(vs:List V)(Q:VK)(E:XK),Room k (A.deeper (PySem.W.envX qual scope s.1.1.size f (.ref c') ((y,s.1.1.size+1)::cl)))->sp vs H Q E ->
  ∃t ws,yC H cl fs ws/\PSs (cxN P w K mg base N qual scope f (.ref c') y cl A outer s H) body t/\t {nx:=λ_ H'=>(∀b∈cl.map (·.2),H' b=B?)->Q .non (rst (cl.map (·.2)) H H'),rt:=λv H'=>(∀b∈cl.map (·.2),H' b=B?)->Q v (rst (cl.map (·.2)) H H')} (start N (vs++ws)) (fgt (cl.map (·.2)) H)) :
 ze P w K mg base CX0 (k+1) f sp where
 fn:=λA outer s H vs Q E e0 h=>by
  obtain⟨_,⟨φ,h1,h2⟩,_⟩:=CS _ _ _ _ h;obtain⟨doc,pm,DE,e⟩:=h2 _ (e0.hok f _ h1).1;exact⟨_,_,_,_,e⟩
 run:=λA outer s H us vs Q E hr e0 r h=>by
  obtain⟨hl,⟨φ,h1,h2⟩,⟨ψ,g1,g2⟩,hx,NI⟩:=CS _ _ _ _ h;obtain⟨doc,pm,DE,ef⟩:=h2 _ (e0.hok f _ h1).1;have TR:=g2 _ (e0.hok c' _ g1).1;have E7:us.length=ps.length:=by rw[<-r.length];exact hl
  have NJ:∀z∈ps.zip us,scope.names.lookup z.1=A? .local:=λ⟨n,v⟩hy=>S.par n (ZL hy).1;refine codeAny_call_function hr.depth ef rfl S.co S.gen rfl TR ?_;rw[show bindArgs _ _=_ from bind doc pm DE us E7];refine WX (jI S.kind NJ λAo Cy CT=>?_);rw[S.push]at CT;have CK:∀b o,s.1.get? b=A? o->Ao.get? b=A? o:=λb o e=>CT.extBut b o (XB (Xa e)) (WV _ (WV _ e));have NK:(s.1.push lz).objs.size=s.1.1.size+1:=X3 ..;have NL:Ao.IsCell (s.1.1.size+1) none:=⟨tO,CT.extBut _ _ (Nat.ne_of_gt (Nat.lt_succ_self _)) (by rw[<-NK];exact W5 _ rfl),rfl⟩;refine⟨e0.mod.nolimit.keeps λb o e=>CK b o (e0.bs b o e).1,codeAny_func ?_⟩;show W9 _ (A.deeper (newEnv scope s.1.1.size Ym (cellsFrom (s.1.1.size+1) scope.names cl) (qual++".<locals>.") (A? f) (.ref c') B? builtinsNs)) _ _ _ _;rw[S.cells];obtain⟨t,ws,hws,ht,hq⟩:=A' A outer s H vs Q E (hr.deeper _) h;have D4:fs.length=ws.length:=W3 hws;have AK:ps.length+fs.length<=N.length:=by have:=h! Zu S.pre;rw[XS,Xd]at this;lia
  have Br:∀x c,cl.lookup x=A? c->c∈cl.map (·.2):=λx c e=>jS e
  have Ak:∀c∈cl.map (·.2),c<s.1.1.size:=λc hc=>by
   obtain⟨GY,e⟩:=hx c hc;exact e0.hok.lt e
  have look:∀x c,((y,s.1.1.size+1)::cl).lookup x=A? c->(x=y/\c=s.1.1.size+1)\/((x == y)=CV/\cl.lookup x=A? c):=λx c e=>by
   rw[YL]at e;cases hb:x == y with
   |true=>rw[hb]at e;cases e;exact .inl ⟨beq_iff_eq.mp hb,rfl⟩
   |false=>rw[hb]at e;exact .inr ⟨rfl,e⟩
  have Ga:∀x c,(x == y)=CV->cl.lookup x=A? c->((y,s.1.1.size+1)::cl).lookup x=A? c:=λx c hb e=>by
   rw[YL,hb];exact e
  have JE:((y,s.1.1.size+1)::cl).lookup y=A? (s.1.1.size+1):=by
   rw[YL,beq_self_eq_true]
  have GZ:∀x c,((y,s.1.1.size+1)::cl).lookup x=A? c->∃v,Ao.IsCell c v:=λx c e=>by
   rcases look x c e with⟨_,rfl⟩|⟨_,e⟩
   .exact⟨_,NL⟩
   .obtain⟨v,hv⟩:=NI x c e;obtain⟨u,_,o,ho,hd⟩:=hv.now e0.hok;exact⟨_,o,CK _ _ ho,hd⟩
  have G0:∀b,H b=B?->fgt (cl.map (·.2)) H b=none:=λb e=>by
   by_cases hb:b∈cl.map (·.2)
   .exact ju hb
   .rw[bU hb];exact e
  have ndP:ps.Nodup:=by
   have:N.take (ps.length+fs.length)=ps++fs:=S.pre;have h2:(ps++fs).Nodup:=by rw[<-this];exact S.nd.sublist (List.take_sublist _ _)
   exact(List.nodup_append.mp h2).1
  have Fe:∀(i:Nat)(x:Xk),i<ps.length+fs.length->N[i]?=A? x->(ps++fs)[i]?=A? x:=λi x hi e=>by
   rw[<-S.pre,List.getElem?_take_of_lt hi];exact e
  have I:Inv (cxN P w K mg base N qual scope f (.ref c') y cl A outer s H) [] (start N (vs++ws)) (fgt (cl.map (·.2)) H) {s with heap:=Ao,toks:=s.toks+(ps.zip us).length}:=by
   refine⟨⟨e0.mod,S.kind,D?,D?,WW _,λx z c e1 e2=>?_,λx hx=>?_,λx c hf e=>?_,λ_=>hr.hd,Around.frames_deeper e0.frames,.inr ⟨D?,D?⟩,λb z=>(by cases z),λb o e=>⟨(e0.bs b o e).1,?_⟩,e0.bsz,λb _ _ z=>(by cases z),λb z=>(by cases z),e0.funs,λb hb=>?_⟩,
    rfl,e0.bare,Un.kept CK,⟨_,Cy,λi x v e1 e2 e3=>?_⟩,GZ,?_,λx c e=>?_,λp hp=>(by cases hp),?_,?_⟩
   .rcases look x c e1 with⟨rfl,h1⟩|⟨_,h1⟩ <;> rcases look z c e2 with⟨rfl,h2⟩|⟨_,h2⟩
    .rfl
    .have:=Ak c (Br _ _ h2);lia
    .have:=Ak c (Br _ _ h1);lia
    .exact S.inj x z c h1 h2
   .have A7:scope.names.lookup x=A? .cell\/scope.names.lookup x=A? .free:=hx;rcases A7 with z|z
    .exact⟨_,by rw[S.cel x z];exact JE⟩
    .obtain⟨c,hc⟩:=S.has x z;exact⟨c,Ga x c (S.neq x z) hc⟩
   .have JF:(x == y)=true:=hf;rcases look x c e with⟨_,h1⟩|⟨h1,_⟩
    .show s.1.1.size<=c;lia
    .rw[h1]at JF;cases JF
   .exact G0 b (e0.bs b o e).2
   .exact G0 b (e0.frf b hb)
   .have B7:i<(vs++ws).length:=by
     unfold start at e2;by_cases hi:i<(vs++ws).length
     .exact hi
     .rw[Y9 (by simpa using hi)]at e2;rw[List.getElem?_replicate]at e2;split at e2 <;> cases e2
    have ha:(vs++ws)[i]?=A? v:=by
     unfold start at e2;rw[Yw (by simpa using B7),WZ]at e2;cases e:(vs++ws)[i]? with
     |none=>rw[e]at e2;cases e2
     |some a=>rw[e]at e2;cases e2;rfl
    rw[Xd]at B7;have hp:=Fe i x (by lia) e1;by_cases hi:i<vs.length
    .rw[Yw hi]at ha;rw[Yw (by lia)]at hp;obtain⟨u,hu,rv⟩:=r.get ha;exact⟨u,rv,.inl ⟨S.par x (WT hp),pX ndP E7 hp hu⟩⟩
    .rw[Y9 (by lia)]at ha;rw[Y9 (by lia)]at hp;rw[hl]at ha;obtain⟨w',EO,c,hc,Bi⟩:=F! hws hp;rw[ha]at EO;cases EO;obtain⟨u,ru,o,ho,TU⟩:=Bi.now e0.hok;have hm:=WT hp;exact⟨u,ru,.inr ⟨.inr (S.fre x hm),c,Ga x c (S.ney x hm) hc,o,CK _ _ ho,TU⟩⟩
   .exact G0 _ (e0.hok.fresh (WW _))
   .rcases look x c e with⟨_,rfl⟩|⟨_,e⟩
    .exact G0 _ (e0.hok.fresh (by lia))
    .exact ju (Br x c e)
   .exact(e0.hok.fgt hx).kept CK
   .show(start N (vs++ws)).length=N.length;unfold start;rw[Xd,WN,List.length_replicate,Xd];lia
  refine Y6 (ht [] _ _ _ _ I hq) (λfl s' hs=>?_) λe s' z=>z.elim
  have fin:∀{Aa:St}{H':Hp}{v:V}{u:WU},Inv (cxN P w K mg base N qual scope f (.ref c') y cl A outer s H) [] Aa H' s'->RelV v u->((∀b∈cl.map (·.2),H' b=B?)->Q v (rst (cl.map (·.2)) H H'))->CE outer P w H s Q u s':=λ{Aa H' v u}I' rv q'=>by
   have un:Un (frs outer) [] (fgt (cl.map (·.2)) H) H' s.1 s'.1:=I'.base
   have kS:∀b∈cl.map (·.2),∀o,s.1.get? b=A? o->s'.1.get? b=A? o:=λb hb o e=>un.keep b o e (ju hb) (λz=>by
    obtain⟨GY,e'⟩:=hx b hb;rw[e0.frf b z]at e';cases e') (by simp)
   have LI:∀b∈cl.map (·.2),H' b=none:=λb hb=>by
    obtain⟨GY,e'⟩:=hx b hb;obtain⟨_,⟨o,ho⟩,_⟩:=e0.hok b _ e';exact un.free b o ho (ju hb) (by simp)
   have nS:∀b,H b=B?->b∉cl.map (·.2):=λb e hb=>by
    obtain⟨GY,e'⟩:=hx b hb;rw[e]at e';cases e'
   refine⟨v,rst (cl.map (·.2)) H H',I'.os,I'.bare,⟨λb o e n hb A7=>un.keep b o e (G0 b n) hb A7,λb o e n hb A7=>un.slot b o e (G0 b n) hb A7,λb o e n A7=>?_,λb o e A7=>un.there b o e A7,λb xs e=>?_,λb o u' e=>?_,λb pp e=>?_⟩,HOk.rst e0.hok I'.hok hx kS LI,rv,q' LI⟩
   .rw[dU (nS b n)];exact un.free b o e (G0 b n) A7
   .have hb:=hx.out e (by intro GY z;cases z);rw[dU hb];exact un.tups b xs (by rw[bU hb];exact e)
   .have hb:=hx.out e (by intro GY z;cases z);rw[dU hb];exact un.frzs b o u' (by rw[bU hb];exact e)
   .have hb:=hx.out e (by intro GY z;cases z);rw[dU hb];exact un.tbls b pp (by rw[bU hb];exact e)
  cases fl with
  | ret u =>
    obtain⟨v,Aa,H',J,rv,q⟩:=hs;exact fin J rv q
  | next =>
    obtain⟨Aa,H',J,q⟩:=hs;exact fin (v:=V.non) (u:=Yp) J rfl q
  | brk =>
    obtain⟨_,_,_,q⟩:=hs;exact YF q
  | cont =>
    obtain⟨_,_,_,q⟩:=hs;exact YF q
theorem vO{S:List WR}(s:Same (fgt S H) H'):Same H (rst S H H'):=λb o e=>by
 by_cases hb:b∈S
 .rw[xp hb];exact e
 .rw[dU hb];exact s _ _ (by rw[bU hb];exact e)
theorem v7{S:List WR}(hn:∀b∈S,H' b=B?):Same H' (rst S H H'):=λb o e=>by
 rw[dU λz=>by rw[hn b z]at e;cases e];exact e
theorem aah{S:List WR}(hx:Exts S H):BB.KT H (fgt S H):=λb xs e=>by
 rw[bU (hx.out e λφ z=>nomatch z)];exact e
def abf(X:Cx)(P:WR)(i:Nat)(name:Xk)(pos:Z2)(params:Arguments)(body:List Stmt)(scope:Z5)(cl:List (Xk×WR)):TS:=λD Z H=>TabSt H P pos (X.env.qual++name) /\
 ∀f c' H',SameT P H H'->H' P=A? (.tbl (tabOf pos c'))->CodeAt H' c' (X.env.qual++name)->NestAt H' f c' name (X.env.qual++name) params body scope cl->H f=B?->D.nx (Z.set i (A? (.ref f))) H'
theorem yx{X:Cx}{P:WR}{name:Xk}(L:Lam X.mg X.base c P)(hN:X.N.Nodup)(hi:X.N[i]?=A? name)(ER:Loc X.env.scope name)(hc:X.env.code=.ref c)(Br:closureFor scope X.env=pure cl)
 (F8:params.defaults=[]:=by rfl) (Co:params.kw_defaults=[]:=by rfl) (ha:annTrees params B? X.env=[]:=by rfl) (hq:qualnameIn X.env name name=X.env.qual++name:=by rfl) (QH:X.fn name=C?\/X.env.scope.names.lookup name=A? .local:=by first|exact .inl rfl|exact .inr rfl|assumption) :
 PS X (.FunctionDef name params body [] B? [] scope B? name pos) (abf X P i name pos params body scope cl):=by
 intro U s Z H D I h;obtain⟨tab,q⟩:=h;have NM:s.1.Ns Ym X.mg:=I.mod.glob.keeps I.bk;have C:PySem.W.CodeHd s.1 c P:=L.hd.keeps I.bk
 have hb:s.1.BuiltinsAt X.mg P:=by
  obtain⟨bm,o,h1,h2,h3,h4,h5,h6⟩:=L.bl;exact⟨bm,o,h1,h2,h3,h4,I.bk _ _ h5,h6⟩
 refine PySem.W.nestDef_K F8 Co ha ?_;rw[hq];rcases tab with hP|⟨c',hP,CW⟩
 .have LJ:s.1.get? P=A? (PySem.W.tabObj #[]):=I.hok P _ hP
  have TV:Ym≠P:=λz=>by
   obtain⟨o,es,ep,e,d,_⟩:=NM;rw[z,LJ]at e;cases e;cases d
  refine PySem.W.makeFunction_K Br I.ok.glob NM hc C LJ trivial rfl TV hb λc' DE doc h' tk hx G1 Ak JG LK=>?_;have hsz:s.1.1.size<=h'.objs.size:=XC G1 (ZS Ak);have QI:H c'=none:=I.hok.fresh G1;have nf:H h'.objs.size=none:=I.hok.fresh hsz;have TY:c'≠h'.objs.size:=XB Ak;have TZ:P≠c':=λz=>by rw[z,QI]at hP;cases hP
  have T1:P≠h'.objs.size:=λz=>by rw[z,nf]at hP;cases hP
  obtain⟨ob,Il⟩:∃ob,ob=PySem.W.fnMade name (X.env.qual++name) params body scope cl doc ((X.mg "__name__").getD .none) c' DE:=⟨_,rfl⟩;rw[<-Il];have kp:∀b o,b≠P->s.1.get? b=A? o->(h'.push ob).get? b=A? o:=λb o n e=>WV _ (hx b o n e);obtain⟨H',LL⟩:∃H',H'=upd (upd (upd H P (.tbl (tabOf pos c'))) c' (.ext λh=>h.CodeRec (.ref c') (X.env.qual++name))) h'.objs.size (.ext λh=>h.get? h'.objs.size=A? ob):=⟨_,rfl⟩;have eP:H' P=A? (.tbl (tabOf pos c')):=by rw[LL,ai T1,ai TZ,ac]
  have ec:H' c'=A? (.ext λh=>h.CodeRec (.ref c') (X.env.qual++name)):=by rw[LL,ai TY,ac]
  have ef:H' h'.objs.size=A? (.ext λh=>h.get? h'.objs.size=A? ob):=by rw[LL,ac]
  have eo:∀b,b≠P->b≠c'->b≠h'.objs.size->H' b=H b:=λb n1 n2 n3=>by rw[LL,ai n3,ai n2,ai n1]
  have es:∀b o,H b=A? o->b≠P->H' b=A? o:=λb o e n=>by rw[eo b n (λz=>by rw[z,QI]at e;cases e) (λz=>by rw[z,nf]at e;cases e)];exact e
  have un:Un X.fs [] H H' s.1 (h'.push ob):=by
   have nP:∀b,H b=B?->b≠P:=λb n z=>by rw[z,hP]at n;cases n
   refine⟨λb o e n _ _=>kp b o (nP b n) e,λb o e n _ _=>⟨o.slots,kp b o (nP b n) e⟩,λb o e n _=>?_,λb o e _=>?_,λb xs e=>es b _ e (λz=>by rw[z,hP]at e;cases e),λb o u e=>es b _ e (λz=>by rw[z,hP]at e;cases e),λb pp e=>?_⟩
   .rw[eo b (nP b n) (XB (XO (Xa e) G1)) (XB (XO (Xa e) hsz))];exact n
   .by_cases hb:b=P
    .exact⟨_,by rw[hb];exact WV _ LK⟩
    .exact⟨o,kp b o hb e⟩
   .by_cases hb:b=P
    .subst hb;rw[hP]at e;cases e;exact⟨tabOf pos c',by rw[eP];simp⟩
    .exact⟨#[],by rw[es b _ e hb];simp⟩
  have hok:HOk X.prog X.w H' (h'.push ob):=λa o e=>by
   by_cases ha:a=P
   .subst ha;rw[eP]at e;cases e;exact WV _ LK
   by_cases AO:a=c'
   .subst AO;rw[ec]at e;cases e;refine⟨JG.push _,?_,λh1 h2 z k=>?_⟩
    .obtain⟨_,oc,_,_,e1,e2,_⟩:=JG;cases e1;exact⟨oc,WV _ e2⟩
    .obtain⟨_,oc,vs,t,e1,e2,e3⟩:=z;cases e1;exact⟨_,oc,vs,t,D?,k _ e2,e3⟩
   by_cases JF:a=h'.objs.size
   .subst JF;rw[ef]at e;cases e;have LM:ob.isFreed=false:=by rw[Il];rfl
    exact⟨W5 _ LM,⟨_,W5 _ LM⟩,λh1 h2 z k=>k _ z⟩
   rw[eo a ha AO JF]at e;refine(I.hok a o e).stay (λb u hb z=>kp b u ?_ z) (λb z=>es b _ z (λy=>by rw[y,hP]at z;cases z)) λb xs z=>es b _ z (λy=>by rw[y,hP]at z;cases z);rcases hb with hb|hb
   .rw[hb];exact ha
   .exactλy=>by rw[y,hP]at hb;cases hb
  refine gF (v:=.ref h'.objs.size) (I.un un hok) hN hi ER rfl (λs2 I2=>⟨_,H',I2,q _ c' H' (λb o n e=>es b o e n) eP ⟨_,ec,λ_ z=>z⟩ ⟨_,ef,λ_ z=>⟨_,_,_,by rw[z,Il]⟩⟩ nf⟩) QH
 .have LJ:s.1.get? P=A? (PySem.W.tabObj (tabOf pos c')):=I.hok P _ hP;refine PySem.W.makeFunction_hit Br I.ok.glob NM hc C LJ (wM pos c') (u7 pos c') hb λDE doc h' tk hk hsz=>?_;have nf:H h'.objs.size=none:=I.hok.fresh hsz
  have I':=I.laid (h':=h'.push {cls:=.type "function",data:=.func (PySem.W.fnX name (X.env.qual++name) params body scope cl .none .none doc ((X.mg "__name__").getD .none) B? (.ref c') DE)}) (a:=h'.objs.size) (t':=tk)
   (o:=.ext λh=>h.get? h'.objs.size=A? (PySem.W.fnMade name (X.env.qual++name) params body scope cl doc ((X.mg "__name__").getD .none) c' DE)) (λb u e=>WV _ (hk b u e)) hsz ⟨W5 _ rfl,⟨_,W5 _ rfl⟩,λh1 h2 z k=>k _ z⟩
  have sm:Same H (upd H h'.objs.size (.ext λh=>h.get? h'.objs.size=A? (PySem.W.fnMade name (X.env.qual++name) params body scope cl doc ((X.mg "__name__").getD .none) c' DE))):=af nf _;exact gF (v:=.ref h'.objs.size) I' hN hi ER rfl (λs2 I2=>⟨_,_,I2,q _ c' _ (sm.t P) (sm _ _ hP) (CW.mono sm) ⟨_,ac,λ_ z=>⟨_,_,_,z⟩⟩ nf⟩) QH
theorem abA{X:Cx}{y z:Xk}(h1:X.env.cells.lookup y=A? c)(h2:X.fn y=C?)(h3:X.env.kindOf y=A? .cell)(g1:X.env.cells.lookup z=A? d)(g2:X.fn z=C?)(g3:X.env.kindOf z=A? .cell):i9 X [(y,c),(z,d)] :=
 ⟨λa b h=>(W7.mp h).elim (λe=>by cases e;exact h1) λe=>by cases Xc.mp e;exact g1,
  λa b h=>(W7.mp h).elim (λe=>by cases e;exact h2) λe=>by cases Xc.mp e;exact g2,
  λa b h=>(W7.mp h).elim (λe=>by cases e;exact h3) λe=>by cases Xc.mp e;exact g3⟩
end L2
namespace BB
open PySem L2
theorem oA(f:Int->Int->Th)(ts:List Th):(fills f ts).length=ts.length:=by rw[eB,WN]
mutual
theorem qE{ks:List (Xk×Int)}(f:Int->Int->Th)(hf:∀s c,0<=s->s<S->0<=c->c<C->(f s c).FitS ks S' C'):∀t:Th,t.FitS ks S C->(t.fill f).FitS ks S' C'
 | .call s c,h=>by
   rw[u!]at h;rw[C!];exact hf s c h.1 h.2.1 h.2.2.1 h.2.2.2
 | .knot n ts,h=>by
   rw[u!]at h;rw[C!,u!,oA];exact⟨h.1,nu f hf ts h.2⟩
theorem nu{ks:List (Xk×Int)}(f:Int->Int->Th)(hf:∀s c,0<=s->s<S->0<=c->c<C->(f s c).FitS ks S' C'):∀ts:List Th,FitSs ks S C ts->FitSs ks S' C' (fills f ts)
 | [],_=>by rw[fills,FitSs];trivial
 | t::ts,h=>by
   rw[FitSs]at h;rw[fills,FitSs];exact⟨qE f hf t h.1,nu f hf ts h.2⟩
end
mutual
theorem oH{ks:List (Xk×Int)}:∀t:Th,t.FitS ks S C->(∀x∈stT t,x∈M)->(ren (idx M) t).FitS ks (M.length:Int) C
 | .call s c,h,hm=>by
   rw[u!]at h;rw[gO,u!];have:=aad (hm s (by rw[eO];exact List.mem_singleton_self _));exact⟨this.1,this.2,h.2.2⟩
 | .knot n ts,h,hm=>by
   rw[u!]at h;rw[gA,u!,WN];exact⟨h.1,pR ts h.2 (by rw[cU]at hm;exact hm)⟩
theorem pR{ks:List (Xk×Int)}:∀ts:List Th,FitSs ks S C ts->(∀x∈aT ts,x∈M)->FitSs ks (M.length:Int) C (ts.map (ren (idx M)))
 | [],_,_=>by rw[YS,FitSs];trivial
 | t::ts,h,hm=>by
   rw[FitSs]at h;rw[Xx,FitSs];exact⟨oH t h.1 λx hx=>hm x (XM _ hx),pR ts h.2 λx hx=>hm x (XE _ hx)⟩
end
section
variable{mid:List (Xk×Int)}{S1 S2:Int}{Eg Eh:Th}{Ei Ej:List (List Th)}{T2 T3 T4 T5 T6 T7 T8:Nat}
end
theorem mJ:∀{ts:List Th}{as:List WR},Xp (At H) ts as->Ats H ts as
 |_,_,.nil=>.nil
 |_,_,.cons h g=>.cons h (mJ g)
end BB
namespace L2
open PySem PySem.Spec PySem.Calls PyProof.Rows
abbrev cI(z:Int×Nat×Z2):X7:=.Constant (.int z.1) z.2.1 z.2.2
end L2
namespace BB
open PySem L2
theorem qv{h:Th}(hl:(bO R h).length<=20):∀s∈bO R h,∀x∈aT (R s),x∈bO R h:=lc 21 _ 0 (Nat.lt_of_le_of_lt hl (by decide)) λj s hj=>g! hj (ZK _)
theorem yk{h:Th}:∀x∈stT h,x∈bO R h:=λx hx=>(gS R 21 _ 0).subset (dE.mpr (.inr hx))
section
variable{k0 k1 k2 k3:List (Xk×Int)}{SA SB SC:Int}{a0 b0 c0:Th}{QJ QK QL:List (List Th)}
end
section
variable{mid:List (Xk×Int)}{S1 S2:Int}{Eg Eh:Th}{Ei Ej:List (List Th)}{T2 T3 T4 T5 T6 T7 T8:Nat}
end
theorem hid{G:Prop}(k:∀F:Prop,(G->F)->F):G:=k G id
inductive Ex1{A0:Type}(p:A0->Prop):Prop
 |mk (x0:A0) (h:p x0):Ex1 p
inductive Ex2{A0 A1:Type}(p:A0->A1->Prop):Prop
 |mk (x0:A0) (x1:A1) (h:p x0 x1):Ex2 p
inductive Ex3{A0 A1 A2:Type}(p:A0->A1->A2->Prop):Prop
 |mk (x0:A0) (x1:A1) (x2:A2) (h:p x0 x1 x2):Ex3 p
inductive Ex4{A0 A1 A2 A3:Type}(p:A0->A1->A2->A3->Prop):Prop
 |mk (x0:A0) (x1:A1) (x2:A2) (x3:A3) (h:p x0 x1 x2 x3):Ex4 p
inductive Ex5{A0 A1 A2 A3 A4:Type}(p:A0->A1->A2->A3->A4->Prop):Prop
 |mk (x0:A0) (x1:A1) (x2:A2) (x3:A3) (x4:A4) (h:p x0 x1 x2 x3 x4):Ex5 p
inductive Ex6{A0 A1 A2 A3 A4 A5:Type}(p:A0->A1->A2->A3->A4->A5->Prop):Prop
 |mk (x0:A0) (x1:A1) (x2:A2) (x3:A3) (x4:A4) (x5:A5) (h:p x0 x1 x2 x3 x4 x5):Ex6 p
inductive Ex7{A0 A1 A2 A3 A4 A5 A6:Type}(p:A0->A1->A2->A3->A4->A5->A6->Prop):Prop
 |mk (x0:A0) (x1:A1) (x2:A2) (x3:A3) (x4:A4) (x5:A5) (x6:A6) (h:p x0 x1 x2 x3 x4 x5 x6):Ex7 p
inductive An2(a0 a1:Prop):Prop
 |mk (h0:a0) (h1:a1):An2 a0 a1
inductive An3(a0 a1 a2:Prop):Prop
 |mk (h0:a0) (h1:a1) (h2:a2):An3 a0 a1 a2
inductive An4(a0 a1 a2 a3:Prop):Prop
 |mk (h0:a0) (h1:a1) (h2:a2) (h3:a3):An4 a0 a1 a2 a3
inductive An5(a0 a1 a2 a3 a4:Prop):Prop
 |mk (h0:a0) (h1:a1) (h2:a2) (h3:a3) (h4:a4):An5 a0 a1 a2 a3 a4
inductive An6(a0 a1 a2 a3 a4 a5:Prop):Prop
 |mk (h0:a0) (h1:a1) (h2:a2) (h3:a3) (h4:a4) (h5:a5):An6 a0 a1 a2 a3 a4 a5
inductive An7(a0 a1 a2 a3 a4 a5 a6:Prop):Prop
 |mk (h0:a0) (h1:a1) (h2:a2) (h3:a3) (h4:a4) (h5:a5) (h6:a6):An7 a0 a1 a2 a3 a4 a5 a6
inductive An8(a0 a1 a2 a3 a4 a5 a6 a7:Prop):Prop
 |mk (h0:a0) (h1:a1) (h2:a2) (h3:a3) (h4:a4) (h5:a5) (h6:a6) (h7:a7):An8 a0 a1 a2 a3 a4 a5 a6 a7
inductive An9(a0 a1 a2 a3 a4 a5 a6 a7 a8:Prop):Prop
 |mk (h0:a0) (h1:a1) (h2:a2) (h3:a3) (h4:a4) (h5:a5) (h6:a6) (h7:a7) (h8:a8):An9 a0 a1 a2 a3 a4 a5 a6 a7 a8
inductive v9(a0 a1 a2 a3 a4 a5 a6 a7 a8 a9:Prop):Prop
 |mk (h0:a0) (h1:a1) (h2:a2) (h3:a3) (h4:a4) (h5:a5) (h6:a6) (h7:a7) (h8:a8) (h9:a9):v9 a0 a1 a2 a3 a4 a5 a6 a7 a8 a9
inductive aam(a0 a1 a2 a3 a4 a5 a6 a7 a8 a9 QM QN QO:Prop):Prop
 |mk (h0:a0) (h1:a1) (h2:a2) (h3:a3) (h4:a4) (h5:a5) (h6:a6) (h7:a7) (h8:a8) (h9:a9) (Wr:QM) (Ws:QN) (Wt:QO):aam a0 a1 a2 a3 a4 a5 a6 a7 a8 a9 QM QN QO
end BB
namespace L2
open PySem PySem.Spec PyProof.Rows
end L2
namespace BB
open PySem L2
section
variable{d:Nat}
end
end BB
namespace L2
open PySem PySem.Spec PyProof.Rows
section
variable{X:Cx}{apos Aq:Z2}
end
section
variable{X:Cx}{apos Aq:Z2}
end
end L2
namespace PySem
open Sem (wp)
section
variable{ep:Nat}{od:Zb}{es:Array DictEntry}{ok ov:WU}
end
end PySem
namespace L2
open PySem PySem.Spec PyProof.Rows
section
variable{X:Cx}{apos Aq:Z2}
end
section
variable{X:Cx}{e1 e2:X7}{t:TA}{p2 Av:Z2}
end
section
variable{X:Cx}
end
end L2
namespace BB
open PySem L2
theorem o0(pre:List Int)(n:Xk)(ts:List Th):callsOf (B! pre (.knot n ts))=callsOf (pls pre 0 ts):=by
 rw[B!];rfl
theorem oF(pre:List Int)(s k:Int):callsOf (B! pre (.call s k))=[(pre,s,k)]:=by
 rw[B!];rfl
theorem oP(pre:List Int)(i:Int)(t:Th)(ts:List Th):callsOf (pls pre i (t::ts))=callsOf (t.pl (pre++[i]))++callsOf (pls pre (i+1) ts):=by
 rw[pls,eL]
theorem ol:∀{l m:List α},l.Nodup->(∀a∈l,a∈m)->l.length<=m.length
 | [],m,_,_=>Xh _
 | a::l,m,h,hs=>by
   rw[ZM]at h;obtain⟨m1,m2,rfl⟩:=List.append_of_mem (hs a (Xe ..))
   have:l.length<=(m1++m2).length:=ol h.2 λb hb=>by
    rcases XA.mp (hs b (Xb _ hb))with z|z
    .exact XM _ z
    .rcases W7.mp z with z|z
     .exact g! (z ▸ hb) h.1
     .exact XE _ z
   rw[Xd,W2]at*;rw[W2];lia
end BB
namespace L2
open PySem
theorem wd(Pv:Nat->St->Hp->Prop)(h0:Pv 0 Z H)(hl:∀i Z H,i<=xs.length->Pv i Z H->SqT K H a xs)
 (hs:∀i x p Z H,xs[i]?=A? x->H p=B?->Pv i Z H->g (.ref p) Z (upd H p (.tup [.int (i:Nat),x])) λAx H2=>tb {D with nx:=Pv (i+1),ct:=Pv (i+1),bk:=D.nx} Ax H2) (hd:∀Z H,Pv xs.length Z H->D.nx Z H) :
 ∃W:Nat->Nat->St->Hp->Prop,(∃m,W 0 m Z H)/\∀i m Z H,W i m Z H ->
   ((Ite K a).stop i H/\D.nx Z H)\/((Ite K a).go i H/\∃N:St->Hp->Prop,(∀Aa H',N Aa H'->∃m',m'<m/\W (i+1) m' Aa H')/\∀x H',(Ite K a).yld i H x H'->g x Z H' λAx H2=>tb {D with nx:=N,ct:=N,bk:=D.nx} Ax H2):=by
 refine⟨λi m Z H=>m=xs.length - i/\i<=xs.length/\Pv i Z H,⟨xs.length,by simp,Xh _,h0⟩,?_⟩;rintro i m Z H ⟨rfl,hi,p⟩;have q:=hl i Z H hi p;by_cases Ak:i<xs.length
 .refine .inr ⟨⟨xs,xs[i],q,by simp[Ak]⟩,Pv (i+1),λAa H' p'=>⟨xs.length - (i+1),by lia,rfl,Ak,p'⟩,λx H' y=>?_⟩;obtain⟨pa,y,hp,rfl,rfl,hy⟩:=y;exact hs i y pa Z H (hy xs q) hp p
 .have e:i=xs.length:=by lia
  subst e;exact .inl ⟨⟨xs,q,rfl⟩,hd Z H p⟩
theorem t9{ys:List V}(Ff:xs.length=ys.length)(Pv:Nat->St->Hp->Prop)(h0:Pv 0 Z H)(hl:∀i Z H,i<=xs.length->Pv i Z H->SqT K H a xs/\SqT K H b ys)
 (hs:∀i x y p Z H,xs[i]?=A? x->ys[i]?=A? y->H p=B?->Pv i Z H->g (.ref p) Z (upd H p (.tup [x,y])) λAx H2=>tb {D with nx:=Pv (i+1),ct:=Pv (i+1),bk:=D.nx} Ax H2) (hd:∀Z H,Pv xs.length Z H->D.nx Z H) :
 ∃W:Nat->Nat->St->Hp->Prop,(∃m,W 0 m Z H)/\∀i m Z H,W i m Z H ->
   ((Itz K a b).stop i H/\D.nx Z H)\/((Itz K a b).go i H/\∃N:St->Hp->Prop,(∀Aa H',N Aa H'->∃m',m'<m/\W (i+1) m' Aa H')/\∀x H',(Itz K a b).yld i H x H'->g x Z H' λAx H2=>tb {D with nx:=N,ct:=N,bk:=D.nx} Ax H2):=by
 refine⟨λi m Z H=>m=xs.length - i/\i<=xs.length/\Pv i Z H,⟨xs.length,by simp,Xh _,h0⟩,?_⟩;rintro i m Z H ⟨rfl,hi,p⟩;obtain⟨q1,q2⟩:=hl i Z H hi p;by_cases Ak:i<xs.length
 .have NN:i<ys.length:=by lia
  refine .inr ⟨⟨xs,ys,xs[i],ys[i],q1,q2,by simp[Ak],by simp[NN]⟩,Pv (i+1),λAa H' p'=>⟨xs.length - (i+1),by lia,rfl,Ak,p'⟩,λx H' y=>?_⟩;obtain⟨pa,x,y,hp,rfl,rfl,hx,hy⟩:=y;exact hs i x y pa Z H (hx xs q1) (hy ys q2) hp p
 .have e:i=xs.length:=by lia
  subst e;exact .inl ⟨⟨xs,ys,q1,q2,.inl (WW _)⟩,hd Z H p⟩
end L2
namespace BB
open PySem L2
section
variable{C:WR}{Dp:DP}{ok:Th->Prop}{L:Lv}{n:Nd}{B:Lv}{Hg:Hp}{B':Lv}{sp:List (Key×V)}
end
section
variable{C:WR}{Dp:DP}{ok:Th->Prop}{H0:Hp}{L B:Lv}{L' B':Lv}
end
mutual
theorem gY{ks:List (Xk×Int)}:∀(t:Th)(pre:List Int),t.FitS ks S C->∀c∈callsOf (t.pl pre),0<=c.2.1/\c.2.1<S/\0<=c.2.2/\c.2.2<C
 | .call s k,pre,h,c,hc=>by
   rw[oF]at hc;rw[Xc.mp hc];rw[u!]at h;exact h
 | .knot n ts,pre,h,c,hc=>by
   rw[o0]at hc;rw[u!]at h;exact mD ts pre 0 h.2 c hc
theorem mD{ks:List (Xk×Int)}:∀(ts:List Th)(pre:List Int)(i:Int),FitSs ks S C ts->∀c∈callsOf (pls pre i ts),0<=c.2.1/\c.2.1<S/\0<=c.2.2/\c.2.2<C
 | [],pre,i,_,c,hc=>by rw[pls]at hc;cases hc
 | t::ts,pre,i,h,c,hc=>by
   rw[oP]at hc;rw[FitSs]at h;rcases XA.mp hc with hc|hc
   .exact gY t _ h.1 c hc
   .exact mD ts _ _ h.2 c hc
end
section
variable{mid:List (Xk×Int)}{S1 S2:Int}{Eg Eh:Th}{Ei Ej:List (List Th)}
end
end BB
namespace L2
open PySem PySem.Spec PySem.SeqAt PyProof.Rows
def IsNesm(fl:Bool)(P:W6)(w:Xo)(h:Yd)(k:ay)(a:WR):Prop:=∃(o:Zb)(n:Nat)(b:WR)(u:WU),h.get? a=A? o/\o.cls=.type "tuple"/\o.data=.seq (bif fl then #[.ref b,u]else #[u,.ref b]) n/\IsTupleKey (au P w) h k.1 b/\iu k.2 u=C?
theorem IsNesm.typeIs{k:ay}(x:IsNesm fl P w s.1 k a):s.TypeIs (.ref a) "tuple":=let⟨o,_,_,_,ho,hc,_⟩:=x;⟨o,ho,hc⟩
theorem IsNesm.inj{x y:ay}(hx:IsNesm fl P w h x a)(hy:IsNesm fl P w h y a):x=y:=by
 obtain⟨o,n,b,u,ho,_,hd,hb,hu⟩:=hx;obtain⟨o',n',b',u',Bw,_,Bx,AD,BV⟩:=hy;obtain rfl:o=o':=Xm (ho.symm.trans Bw);rw[hd]at Bx;injection Bx with h1 _
 have h2:b=b'/\u=u':=by
  cases fl <;> (have h2:=h! Array.toList h1;cases h2;exact⟨D?,D?⟩)
 obtain⟨rfl,rfl⟩:=h2;exact Prod.ext (hb.inj AD) ((au P w).inj _ _ _ hu BV)
theorem IsNesm.keeps{k:ay}{o:Zb}{es ep}(x:IsNesm fl P w h k a)(ho:h.get? d=A? o)(hd:o.data=.dict es ep)(hs:YG d h h'):IsNesm fl P w h' k a:=by
 obtain⟨o',n,b,u,Bw,hc,Bx,hb,hu⟩:=x
 have Ap:a≠d:=by
  rintro rfl;obtain rfl:o'=o:=Xm (Bw.symm.trans ho);rw[hd]at Bx;exact nomatch Bx
 exact⟨o',n,b,u,(hs.2 a Ap).trans Bw,hc,Bx,hb.keeps ho hd hs,hu⟩
theorem vt{x y:ay}(hx:IsNesm fl P w s.1 x a)(hy:IsNesm fl P w s.1 y b)(hu:A.units+1<YJ):EqAt A s (.ref a) (.ref b) (decide (x=y)):=by
 by_cases Cm:a=b
 .subst Cm;obtain rfl:=hx.inj hy;rw[d! rfl];exact EqAt.same _
 .obtain⟨o,n,c,u,ho,hc,hd,hb,hk⟩:=hx;obtain⟨o',n',c',u',Bw,AO,Bx,AD,A9⟩:=hy;have p1:s.1.IsTuple a (bif fl then[Xl c,u]else[u,Xl c]).toArray:=⟨o,ho,hc,n,by rw[hd];cases fl <;> rfl⟩;have p2:s.1.IsTuple b (bif fl then[Xl c',u']else[u',Xl c']).toArray:=⟨o',Bw,AO,n',by rw[Bx];cases fl <;> rfl⟩
  have h1:EqAt A.in1 s u u' (decide ((Zs x.2:Sum (List Key) Key)=Zs y.2)):=by
   rw[show decide ((Zs x.2:Sum (List Key) Key)=Zs y.2)=decide (x.2=y.2)from decide_eq_decide.mpr ⟨λz=>Sum.inr.inj z,λz=>h! _ z⟩];exact qA (A:=A.in1) (s:=s) hk A9
  have h2:EqAt A.in1 s (.ref c) (.ref c') (decide ((Xn x.1:Sum (List Key) Key)=Xn y.1)):=by
   rw[show decide ((Xn x.1:Sum (List Key) Key)=Xn y.1)=decide (x.1=y.1)from decide_eq_decide.mpr ⟨λz=>YM z,λz=>h! _ z⟩];exact vo (A:=A.in1) hb AD (show A.units+1<YJ from hu)
  have:=iO (A:=A) (ds:=bif fl then[Xn x.1,(Zs x.2:Sum (List Key) Key)]else[Zs x.2,Xn x.1]) (es:=bif fl then[Xn y.1,Zs y.2]else[Zs y.2,Xn y.1]) p1 p2 (by cases fl <;> rfl) (by cases fl <;> rfl) (by lia) λj d e v v' e1 e2 e3 e4=>by
   cases fl <;> (match j with
   |0=>cases e1;cases e2;cases e3;cases e4;first|exact h1|exact h2
   |1=>cases e1;cases e2;cases e3;cases e4;first|exact h1|exact h2
   |j+2=>cases e1)
  refine EqAt.of_refs Cm ?_
  have e:decide (x=y)=decide ((bif fl then[Xn x.1,(Zs x.2:Sum (List Key) Key)]else[Zs x.2,Xn x.1])=bif fl then[Xn y.1,Zs y.2]else[Zs y.2,Xn y.1]):=decide_eq_decide.mpr ⟨λz=>by rw[z],λz=>by
   cases fl <;> (injection z with z1 z2;injection z2 with z2 _;first|exact Prod.ext (YM z1) (Sum.inr.inj z2)|exact Prod.ext (YM z2) (Sum.inr.inj z1))⟩
  rw[e];exact this
def iT(fl:Bool)(P:W6)(w:Xo)(k:ay):Int:=reduceHash (Yb (bif fl then[YW (au P w) k.1,(au P w).hash k.2]else[(au P w).hash k.2,YW (au P w) k.1]))
theorem qk{k:ay}{Q:Int->WY->Prop}(hu:A.units+1<YJ)(hk:IsNesm fl P w s.1 k a)(h:Q (iT fl P w k) {s with toks:=s.toks+(k.1.length+3)}) :
 W9 (Xu P w) A (pyHash (.ref a)) Q E s:=by
 cases fl with
 | false =>
   have hT:=hk.typeIs;obtain⟨o,n,c,u,ho,hc,hd,hb,hk⟩:=hk;unfold pyHash
   first|unfold pyHashByItsType|skip
   first|refine WO (wpAny_cRoomFor_or (.inr (by lia)) ?_)|skip
   refine WO (Yr hT Zv.lookup ?_);show W9 _ _ (if(A? (Value.builtin "tuple.__hash__") == A? Yp)=C? then _ else _) Q E s;rw[a! (by rw[beq_builtin_none];exact W0)];refine WO (Yr hT Zv.lookup ?_);show W9 _ _ (callSpecialIfBoundUnlessNone? (.ref a) "__hash__" _ >>= _) Q E s;refine WO (wpAny_callSpecialIfBoundUnlessNone?_slot hT Zv (X6 Zv hT F.entry_tuple_hash ?_ (F.args_tuple_hash_1 _)));show W9 _ _ (ZV (.ref a) >>= _) _ _ s;refine WO (wpAny_tupleItemsOf ho hd ?_);refine WO ?_;rw[<-Array.forIn_toList]
   refine wpAny_forIn_list _
    (λrest(b:Array Int)s'=>(rest=[u,.ref c]/\b=#[]/\s'=s)\/(rest=[.ref c]/\b=#[(au P w).hash k.2]/\s'={s with toks:=s.toks+1})\/(rest=[]/\b=#[(au P w).hash k.2,YW (au P w) k.1]/\s'={s with toks:=s.toks+1+(k.1.length+1)}))
    _ ?_ ?_ _ _ (.inl ⟨rfl,rfl,rfl⟩)
   .rintro x rest b s' (⟨e1,rfl,rfl⟩|⟨e1,rfl,rfl⟩|⟨e1,_⟩)
    .cases e1;refine WO ((au P w).pyHash hk ?_)
     first
      |exact WX (.inr (.inl ⟨rfl,rfl,rfl⟩))
      |exact WO (WX (WX (.inr (.inl ⟨rfl,rfl,rfl⟩))))
    .cases e1;refine WO (wpAny_pyHash_tuple (by show _<YJ;first|exact hu|lia) hb ?_)
     first
      |exact WX (.inr (.inr ⟨rfl,rfl,rfl⟩))
      |exact WO (WX (WX (.inr (.inr ⟨rfl,rfl,rfl⟩))))
    .cases e1
   .rintro b s' (⟨e1,_⟩|⟨e1,_⟩|⟨_,rfl,rfl⟩)
    .cases e1
    .cases e1
    show W9 _ _ (retInt (Yb [(au P w).hash k.2,YW (au P w) k.1])) _ _ _;refine wpAny_ret_mkInt ?_;show W9 _ _ (if(decide (-(2:Int) ^ 63<=Yb [(au P w).hash k.2,YW (au P w) k.1]) && decide (Yb [(au P w).hash k.2,YW (au P w) k.1]<2 ^ 63))=C? then _ else _) Q E _;unfold iT reduceHash at h;simp only[cond_true,cond_false]at h;by_cases hr:(decide (-(2:Int) ^ 63<=Yb [(au P w).hash k.2,YW (au P w) k.1]) && decide (Yb [(au P w).hash k.2,YW (au P w) k.1]<2 ^ 63))=C?
    .rw[b! hr];rw[b! hr]at h;exact WX (by rw[show k.1.length+3=1+(k.1.length+2)by lia]at h;simpa[Nat.add_assoc]using h)
    .rw[a! hr];rw[a! hr]at h;exact WO (Zw (WX (by rw[show k.1.length+3=1+(k.1.length+2)by lia]at h;simpa[Nat.add_assoc]using h)))
 | true =>
   have hT:=hk.typeIs;obtain⟨o,n,c,u,ho,hc,hd,hb,hk⟩:=hk;unfold pyHash
   first|unfold pyHashByItsType|skip
   first|refine WO (wpAny_cRoomFor_or (.inr (by lia)) ?_)|skip
   refine WO (Yr hT Zv.lookup ?_);show W9 _ _ (if(A? (Value.builtin "tuple.__hash__") == A? Yp)=C? then _ else _) Q E s;rw[a! (by rw[beq_builtin_none];exact W0)];refine WO (Yr hT Zv.lookup ?_);show W9 _ _ (callSpecialIfBoundUnlessNone? (.ref a) "__hash__" _ >>= _) Q E s;refine WO (wpAny_callSpecialIfBoundUnlessNone?_slot hT Zv (X6 Zv hT F.entry_tuple_hash ?_ (F.args_tuple_hash_1 _)));show W9 _ _ (ZV (.ref a) >>= _) _ _ s;refine WO (wpAny_tupleItemsOf ho hd ?_);refine WO ?_;rw[<-Array.forIn_toList]
   refine wpAny_forIn_list _
    (λrest(b:Array Int)s'=>(rest=[.ref c,u]/\b=#[]/\s'=s)\/(rest=[u]/\b=#[YW (au P w) k.1]/\s'={s with toks:=s.toks+(k.1.length+1)})\/(rest=[]/\b=#[YW (au P w) k.1,(au P w).hash k.2]/\s'={s with toks:=s.toks+(k.1.length+1)+1}))
    _ ?_ ?_ _ _ (.inl ⟨rfl,rfl,rfl⟩)
   .rintro x rest b s' (⟨e1,rfl,rfl⟩|⟨e1,rfl,rfl⟩|⟨e1,_⟩)
    .cases e1;refine WO (wpAny_pyHash_tuple (by show _<YJ;first|exact hu|lia) hb ?_)
     first
      |exact WX (.inr (.inl ⟨rfl,rfl,rfl⟩))
      |exact WO (WX (WX (.inr (.inl ⟨rfl,rfl,rfl⟩))))
    .cases e1;refine WO ((au P w).pyHash hk ?_)
     first
      |exact WX (.inr (.inr ⟨rfl,rfl,rfl⟩))
      |exact WO (WX (WX (.inr (.inr ⟨rfl,rfl,rfl⟩))))
    .cases e1
   .rintro b s' (⟨e1,_⟩|⟨e1,_⟩|⟨_,rfl,rfl⟩)
    .cases e1
    .cases e1
    show W9 _ _ (retInt (Yb [YW (au P w) k.1,(au P w).hash k.2])) _ _ _;refine wpAny_ret_mkInt ?_;show W9 _ _ (if(decide (-(2:Int) ^ 63<=Yb [YW (au P w) k.1,(au P w).hash k.2]) && decide (Yb [YW (au P w) k.1,(au P w).hash k.2]<2 ^ 63))=C? then _ else _) Q E _;unfold iT reduceHash at h;simp only[cond_true,cond_false]at h;by_cases hr:(decide (-(2:Int) ^ 63<=Yb [YW (au P w) k.1,(au P w).hash k.2]) && decide (Yb [YW (au P w) k.1,(au P w).hash k.2]<2 ^ 63))=C?
    .rw[b! hr];rw[b! hr]at h;exact WX (by simpa[Nat.add_assoc]using h)
    .rw[a! hr];rw[a! hr]at h;exact WO (Zw (WX (by simpa[Nat.add_assoc]using h)))
theorem rT{k:ay}{Q:Bool->WY->Prop}(hk:IsNesm fl P w s.1 k a)(h:Q C? s):W9 (Xu P w) A (eqIsQuiet 8 (.ref a)) Q E s:=by
 have hT:=hk.typeIs;obtain⟨o,n,c,u,ho,hc,hd,hb,hk⟩:=hk;unfold eqIsQuiet;refine WO (Yr hT F.slot_tuple_eq.lookup ?_);show W9 _ _ (isInstance (.ref a) (.type "tuple") >>= _) _ _ s;refine WO (ZI hT isSubtype_tuple_tuple ?_);simp only[Bool.not_true,Yc,if_false];refine WO (YC ho hd ?_);refine WO ?_;show W9 _ _ (forIn (bif fl then #[Xl c,u]else #[u,Xl c]) _ _) _ _ s;rw[<-Array.forIn_toList];refine wpAny_forIn_list _ (λrest r s'=>r.1=B?/\s'=s/\∀v∈rest,v=.ref c\/v=u) _ ?_ ?_ _ _ ⟨rfl,rfl,λv hv=>by cases fl <;> simpa[or_comm]using hv⟩
 .rintro v rest r s' ⟨hr,rfl,Ac⟩;have Ge:∀z∈rest,z=.ref c\/z=u:=λz hz=>Ac z (Xb _ hz);rcases Ac v Xe with rfl|rfl
  .refine WO (sD hb ?_);simp only[Bool.not_true,Yc,if_false];exact WX ⟨rfl,rfl,Ge⟩
  .rw[eqIsQuiet_byValue _ ((au P w).byValue _ _ hk)];refine WO (WX ?_);simp only[Bool.not_true,Yc,if_false];exact WX ⟨rfl,rfl,Ge⟩
 .rintro⟨r1,r2⟩ s' ⟨hr,rfl,_⟩;simp only at hr;subst hr;exact WX h
def b9(fl:Bool)(P:W6)(w:Xo):HeapKind P w ay where
 is:=IsNesm fl P w
 hash:=iT fl P w
 draws:=λk=>k.1.length+3
 room:=λA=>A.units+1<YJ
 inj:=λhx hy=>hx.inj hy
 keeps:=λx ho hd hs=>x.keeps ho hd hs
 pyHash:=λhu hk h=>qk hu hk h
 eqBool:=λhu hx hy h=>vt hx hy hu _ _ _ _ h
 quiet:=λhk h=>rT hk h
def qY(fl:Bool)(P:W6)(w:Xo)(xs:List (ay×WR×WU))(a:WR)(h:Yd):Prop:=∃o es ep,h.get? a=A? o/\o.ExactDict/\o.data=.dict es ep/\es.toList=xs.map (entryOfKey (b9 fl P w))/\(xs.map (·.1)).Nodup
def MKAt(fl:Bool)(H:Hp)(k:ay)(b:WR):Prop:=∃c,H b=A? (.tup (bif fl then[.ref c,kV k.2]else[kV k.2,.ref c]))/\H c=A? (.tup (k.1.map kV))
abbrev KTm(fl:Bool)(H:Hp):List (ay×V)->List (ay×WR×WU)->Prop:=Xp λp q=>p.1=q.1/\MKAt fl H q.1 q.2.1/\RelV p.2 q.2.2
def DM(fl:Bool)(P:W6)(w:Xo)(H:Hp)(a:WR)(f':List (ay×V)):Prop:=f'.length<=Xg/\(a == YO)=CV/\∃xs φ,H a=A? (.ext φ)/\(∀h,φ h->qY fl P w xs a h)/\KTm fl H f' xs
theorem MKAt.mono(k:BB.KT H H'){n:ay}(h:MKAt fl H n b):MKAt fl H' n b:=by
 obtain⟨c,h1,h2⟩:=h;exact⟨c,k _ _ h1,k _ _ h2⟩
theorem KTm.mono(k:BB.KT H H'){xs:List (ay×WR×WU)}(r:KTm fl H f' xs):KTm fl H' f' xs:=Xp.mapP r λ_ _ z=>⟨z.1,z.2.1.mono k,z.2.2⟩
theorem DM.mono(s:Same H H')(h:DM fl P w H a f'):DM fl P w H' a f':=by
 obtain⟨z,hd,xs,φ,e,f,r⟩:=h;exact⟨z,hd,xs,φ,s _ _ e,f,KTm.mono (k! s) r⟩
theorem fg{k:ay}(ok:HOk P w H h)(e:MKAt fl H k b):IsNesm fl P w h k b:=by
 obtain⟨c,h1,h2⟩:=e;obtain⟨_,its,n,r,e1⟩:=(show ObjOk P w H h b (.tup (bif fl then[.ref c,kV k.2]else[kV k.2,.ref c]))from ok b _ h1);cases fl with
 | false =>
   cases r with
   |cons r1 r =>
   cases r with
   |cons r2 r =>
   cases r;cases r2;exact⟨_,n,c,_,e1,D?,D?,gd ok h2,jQ (P:=P) (w:=w) r1⟩
 | true =>
   cases r with
   |cons r1 r =>
   cases r with
   |cons r2 r =>
   cases r;cases r1;exact⟨_,n,c,_,e1,D?,D?,gd ok h2,jQ (P:=P) (w:=w) r2⟩
theorem jn(ok:HOk P w H h)(e:DM fl P w H a f'):f'.length<=Xg/\(a == YO)=CV/\∃xs φ,H a=A? (.ext φ)/\KTm fl H f' xs/\h.DictOfH (b9 fl P w) a xs:=by
 obtain⟨z,y,xs,φ,ea,f,r⟩:=e;obtain⟨o,es,ep,h1,h2,h3,h4,h5⟩:=f h (ok a _ ea).1;refine⟨z,y,xs,φ,ea,r,o,es,ep,h1,h2,h3,h4,λx hx=>?_,h5⟩
 have all:∀{l:List (ay×V)}{m:List (ay×WR×WU)},KTm fl H l m->∀x∈m,(b9 fl P w).is h x.1 x.2.1:=by
  intro l m q;induction q with
  |nil=>intro x hx;exact nomatch hx
  | @cons p q ps qs hq t ih =>
    intro x hx;rcases W7.mp hx with e|hx
    .subst e;exact fg ok hq.2.1
    .exact ih x hx
 exact all r x hx
theorem KTm.val{xs:List (ay×WR×WU)}(r:KTm fl H f' xs)(k:ay):RelO (aN f' k) ((atKey xs k).map (·.2)):=by
 induction r with
 |nil=>exact YV
 | @cons p q ps qs hq t ih =>
   by_cases e:p.1=k
   .rw[bH e];have:atKey (q::qs) k=A? q.2:=by simp[atKey,ZN,<-hq.1,e]
    rw[this];exact hq.2.2
   .rw[bJ e];have:atKey (q::qs) k=atKey qs k:=by simp[atKey,ZN,<-hq.1,e]
    rw[this];exact ih
theorem KTm.put{xs:List (ay×WR×WU)}(r:KTm fl H f' xs)(k:ay)(hb:MKAt fl H k b)(ry:RelV y u):KTm fl H (putK f' k y) (storedH xs k b u):=by
 have hv:=KTm.val r k;cases e:aN f' k with
 | none =>
   rw[e]at hv
   have hn:atKey xs k=none:=by
    cases q:atKey xs k with
    |none=>rfl
    |some p=>rw[q]at hv;exact hv.elim
   rw[ja y e,storedH_new hn];exact r! r (.cons ⟨rfl,hb,ry⟩ .nil)
 | some v0 =>
   rw[e]at hv
   obtain⟨p,hp⟩:∃p,atKey xs k=A? p:=by
    cases q:atKey xs k with
    |none=>rw[q]at hv;exact hv.elim
    |some p=>exact⟨p,D?⟩
   rw[storedH_old hp];unfold putK;rw[b! (by rw[eX,e];rfl)]
   have all:∀{l:List (ay×V)}{m:List (ay×WR×WU)},KTm fl H l m->KTm fl H (l.map λkv=>if kv.1=k then(kv.1,y)else kv) (m.map (putAt k u)):=by
    intro l m q;induction q with
    |nil=>exact .nil
    | @cons p q ps qs hq t ih =>
      refine .cons ?_ ih;unfold putAt;dsimp only;by_cases z:p.1=k
      .rw[b! z,b! (by rw[<-hq.1];exact z)];exact⟨hq.1,hq.2.1,ry⟩
      .rw[a! z,a! (by rw[<-hq.1];exact z)];exact hq
   exact all r
section
variable{X:Cx}{o i value:X7}{td ty tv:TE}
inductive vQ(fl:Bool)(P:W6)(w:Xo)(x y:V)(H:Hp)(Q:VK):Prop
 |mk (a b:WR) (k:ay) (f':List (ay×V)) (v:V) (z0:x=.ref a) (z1:y=.ref b) (z2:DM fl P w H a f') (z3:MKAt fl H k b) (z4:aN f' k=A? v) (z5:Q v H):vQ fl P w x y H Q
def aaC(fl:Bool)(P:W6)(w:Xo)(td ty:TE):TE:=λZ H Q=>td Z H λx H1=>ty Z H1 λy H2=>vQ fl P w x y H2 Q
theorem wu(hu:X.A.units+2<YJ)(ho:PE X o td)(hi:PE X i ty)(hs:y9 i):PE X (.Subscript o i pos) (aaC fl X.prog X.w td ty):=by
 intro U s Z H Q I h;refine oB PySem.F.slot_dict_getitem.lookup hs (thn (ho U s Z H _ I h) λu s1⟨x,H1,I1,rx,q1⟩=>thn (hi U s1 Z H1 _ I1 q1) λiv s2⟨y,H2,I2,ry,q2⟩=>?_);obtain⟨a,b,k,f',v,rfl,rfl,hd,hk,hv,q⟩:=q2;obtain rfl:u=Xl a:=rx;obtain rfl:iv=Xl b:=ry;obtain⟨_,_,xs,φ,ea,rel,dd⟩:=jn I2.hok hd;obtain⟨w',hw,Cv⟩:=RelO.some_of (v:=v) (o:=(atKey xs k).map (·.2)) (by rw[<-hv];exact KTm.val rel k);obtain⟨p,hp,Bs⟩:=XI.mp hw;refine⟨dd.typeIs,wpAny_getItem_heap (knd:=b9 fl X.prog X.w) (show X.A.units+1+1<YJ from hu) (fg I2.hok hk) dd hp ?_⟩;rw[Bs];exact⟨v,H2,I2.tok _,Cv,q⟩
inductive xq(fl:Bool)(P:W6)(w:Xo)(x y v:V)(H:Hp)(R:Hp->Prop):Prop
 |mk (a b:WR) (k:ay) (f':List (ay×V)) (z0:x=.ref a) (z1:y=.ref b) (z2:DM fl P w H a f') (z3:MKAt fl H k b) (z4:f'.length<Xg) (z5:∀H',(∀c o,c≠a->H c=A? o->H' c=A? o)->DM fl P w H' a (putK f' k v)->R H'):xq fl P w x y v H R
def aap(fl:Bool)(P:W6)(w:Xo)(td ty tv:TE):TS:=λD Z H=>tv Z H λv H1=>td Z H1 λx H2=>ty Z H2 λy H3=>xq fl P w x y v H3 λH4=>D.nx Z H4
theorem qO(hu:X.A.units+2<YJ)(ho:PE X o td)(hi:PE X i ty)(hv:PE X value tv)(hs:swapsWith value (A? (.Subscript o i pos')) pos.line X.env=pure CV) :
 PS X (.Assign [.Subscript o i pos'] value pos) (aap fl X.prog X.w td ty tv):=by
 intro U s Z H D I h;refine wpAny_Assign_Subscript (thn (hv U s Z H _ I h) λr s1⟨v,H1,I1,rv,q1⟩=>thn (ho U s1 Z H1 _ I1 q1) λu s2⟨x,H2,I2,rx,q2⟩=>thn (hi U s2 Z H2 _ I2 q2) λiv s3⟨y,H3,I3,ry,q3⟩=>?_) hs;obtain⟨a,b,k,f',rfl,rfl,hd,hk,hl,q⟩:=q3;obtain rfl:u=Xl a:=rx;obtain rfl:iv=Xl b:=ry;obtain⟨z,Bx,xs,φ,ea,rel,dd⟩:=jn I3.hok hd;have hz:xs.length<=Xg:=by rw[<-W3 rel];exact z
 have GA:(putK f' k v).length<=Xg:=by have:=bz f' k v;lia
 refine wpAny_setItem_heap (knd:=b9 fl X.prog X.w) (hsz:=hz) (show X.A.units+1+1<YJ from hu) (fg I3.hok hk) dd λh' C5 hs=>?_;obtain⟨ob,es,ep,hq,h2,h3,h4,_,h5⟩:=C5;have ne:qY fl X.prog X.w (storedH xs k b r) a h':=⟨ob,es,ep,hq,h2,h3,h4,h5⟩
 have I4:=fU (ob:=.ext (qY fl X.prog X.w (storedH xs k b r) a)) (t':=s3.toks+(b9 fl X.prog X.w).draws k) I3 (by rw[ea];exact YV) hs ⟨ob,hq⟩ ⟨ne,⟨ob,hq⟩,λh1 h2 p kk=>by
  obtain⟨o1,JH,JI,g1,g2⟩:=p;exact⟨o1,JH,JI,kk _ g1,g2⟩⟩
 have kt:BB.KT H3 (upd H3 a (.ext (qY fl X.prog X.w (storedH xs k b r) a))):=λc ys ec=>by
  rw[ai (eY ec ea (λz=>nomatch z))];exact ec
 exact⟨Z,_,I4,q _ (λc o hc e=>by rw[ai hc];exact e) ⟨GA,Bx,_,_,ac,λ_ p=>p,KTm.mono kt (KTm.put rel k hk rv)⟩⟩
def aae(fl:Bool)(P:W6)(w:Xo):TE:=λ_ H Q=>∀p H',H p=B?->Same H H'->DM fl P w H' p []->Q (.ref p) H'
theorem mn:PE X (.Dict [] [] pos) (aae fl X.prog X.w):=λU s Z H Q I h=>by
 have hn:H s.1.1.size=none:=I.hok.fresh (WW _);have ne:qY fl X.prog X.w [] s.1.1.size (s.1.push {cls:=.type "dict",data:=.dict #[]}):=⟨_,#[],0,W5 _ rfl,⟨rfl,rfl,rfl⟩,rfl,rfl,List.nodup_nil⟩;refine wpAny_Dict_empty ⟨.ref s.1.1.size,_,I.laid (a:=s.1.1.size) (o:=.ext (qY fl X.prog X.w [] s.1.1.size)) (t':=s.toks) (λ_ _ q=>WV _ q) (WW _) ⟨ne,⟨_,W5 _ rfl⟩,λh1 h2 p kk=>?_⟩,rfl,h _ _ hn (af hn _) ⟨Xh _,beq_eq_false_iff_ne.mpr (YR (XB I.big)),[],_,ac,λ_ p=>p,.nil⟩⟩;obtain⟨o1,JH,JI,g1,g2⟩:=p;exact⟨o1,JH,JI,kk _ g1,g2⟩
end
section
variable{X:Cx}{o i f:X7}{apos Aq:Z2}{td ty tx:TE}
theorem tG{xs:List (ay×WR×WU)}(rel:KTm fl H f' xs)(k:ay):(aN f' k).isSome=(atKey xs k).isSome:=by
 have q:=(KTm.val rel k).isSome_eq;rw[Option.isSome_map]at q;exact q
inductive zD(fl:Bool)(f:Bool->Bool)(P:W6)(w:Xo)(y x:V)(H:Hp)(Q:VK):Prop
 |mk (a b:WR) (k:ay) (f':List (ay×V)) (z0:x=.ref a) (z1:y=.ref b) (z2:DM fl P w H a f') (z3:MKAt fl H k b) (z4:Q (.bl (f (aN f' k).isSome)) H):zD fl f P w y x H Q
def zf(fl:Bool)(f:Bool->Bool)(P:W6)(w:Xo)(ty td:TE):TE:=λZ H Q=>ty Z H λy H1=>td Z H1 λx H2=>zD fl f P w y x H2 Q
theorem x8(hu:X.A.units+2<YJ)(hi:PE X i ty)(ho:PE X o td):PC X .In i o (zf fl (λb=>b) X.prog X.w ty td):=by
 intro U s Z H Q I h;refine thn (hi U s Z H _ I h) λiv s1⟨y,H1,I1,ry,q1⟩=>thn (ho U s1 Z H1 _ I1 q1) λu s2⟨x,H2,I2,rx,q2⟩=>?_;obtain⟨a,b,k,f',rfl,rfl,hd,hk,q⟩:=q2;obtain rfl:u=Xl a:=rx;obtain rfl:iv=Xl b:=ry;obtain⟨_,Bx,xs,φ,ea,rel,dd⟩:=jn I2.hok hd;refine wpAny_in_heap (knd:=b9 fl X.prog X.w) (show X.A.units+1+1<YJ from hu) (fg I2.hok hk) Bx dd ?_;rw[<-tG rel k];exact⟨.bl _,H2,I2.tok _,D?,q⟩
theorem sh(hu:X.A.units+2<YJ)(hi:PE X i ty)(ho:PE X o td):PC X .NotIn i o (zf fl (λb=>!b) X.prog X.w ty td):=by
 intro U s Z H Q I h;refine thn (hi U s Z H _ I h) λiv s1⟨y,H1,I1,ry,q1⟩=>thn (ho U s1 Z H1 _ I1 q1) λu s2⟨x,H2,I2,rx,q2⟩=>?_;obtain⟨a,b,k,f',rfl,rfl,hd,hk,q⟩:=q2;obtain rfl:u=Xl a:=rx;obtain rfl:iv=Xl b:=ry;obtain⟨_,Bx,xs,φ,ea,rel,dd⟩:=jn I2.hok hd;refine wpAny_notIn_heap (knd:=b9 fl X.prog X.w) (show X.A.units+1+1<YJ from hu) (fg I2.hok hk) Bx dd ?_;rw[<-tG rel k];exact⟨.bl _,H2,I2.tok _,D?,q⟩
inductive t6(fl:Bool)(P:W6)(w:Xo)(x y z:V)(H:Hp)(Q:VK):Prop
 |mk (a b:WR) (k:ay) (f':List (ay×V)) (z0:x=.ref a) (z1:y=.ref b) (z2:DM fl P w H a f') (z3:MKAt fl H k b) (z4:Q ((aN f' k).getD z) H):t6 fl P w x y z H Q
def yq(fl:Bool)(P:W6)(w:Xo)(td ty tx:TE):TE:=λZ H Q=>td Z H λx H1=>∃a f',x=.ref a/\DM fl P w H1 a f'/\ty Z H1 λy H2=>tx Z H2 λz H3=>t6 fl P w x y z H3 Q
theorem xB(I:Inv X U Z H s)(d:DM fl X.prog X.w H a f'):s.TypeIs (.ref a) "dict"/\(∀b,Xl a=.ref b->∃ob,s.1.get? b=A? ob/\ob.dict=B?):=by
 obtain⟨_,hd,xs,φ,_,_,dd⟩:=jn I.hok d;refine⟨dd.typeIs,λb q=>?_⟩;cases q;obtain⟨ob,_,_,h1,h2,_⟩:=dd;exact⟨ob,h1,h2.2.1⟩
theorem uV(hu:X.A.units+2<YJ)(ho:PE X o td)(he:PE X e ty)(hf:PE X f tx)(m:M2 X o "get" apos e f Aq):PE X (.Call (.Attribute o "get" apos) [e,f] [] Aq) (yq fl X.prog X.w td ty tx):=by
 intro U s Z H Q I h;refine wpAny_Call_method m.base m.few m.line PySem.F.plainAttrs_dict PySem.F.slot_dict_get PySem.F.type_dict_get (thn (ho U s Z H _ I h) λu s1⟨x,H1,I1,rx,a,T9,ex,d,q1⟩=>?_);subst ex;obtain rfl:u=Xl a:=rx;obtain⟨t1,t2⟩:=xB I1 d;refine⟨t1,t2,?_⟩;rw[m.trees]
 refine Calls.callWith_builtin rfl (Calls.evalArgs_plain (YE (thn (he U s1 Z H1 _ I1 q1) λiv s2⟨y,H2,I2,ry,q2⟩ =>
  YE (thn (hf U s2 Z H2 _ I2 q2) λfv s3⟨z,H3,I3,rz,q3⟩=>Y2 ?_))))
 obtain⟨a',b,k,f',MO,rfl,hd,hk,q⟩:=q3;cases MO;obtain rfl:iv=Xl b:=ry;obtain⟨_,Bx,xs,φ,ea,rel,dd⟩:=jn I3.hok hd;refine call_meetsIn PySem.F.slot_dict_get dd.typeIs PySem.F.entry_dict_get (PySem.F.args_dict_get_3 _ _ _) (meetsH_dict_get_default (b9 fl X.prog X.w) a b Bx fv) ⟨(show X.A.units+1+1<YJ from hu),k,xs,fg I3.hok hk,dd,?_⟩;exact⟨_,H3,I3.tok _,(KTm.val rel k).getD rz,q⟩
inductive pO(fl:Bool)(P:W6)(w:Xo)(x:V)(vs:List V)(H:Hp)(Q:VK):Prop
 |mk (a b:WR) (v:V) (k:ay) (f':List (ay×V)) (z0:x=.ref a) (z1:vs=[.ref b,v]) (z2:DM fl P w H a f') (z3:MKAt fl H k b) (z4:f'.length<Xg)
  (z5:∀u,aN f' k=A? u->Q u H) (z6:aN f' k=B?->∀H',(∀c o,c≠a->H c=A? o->H' c=A? o)->DM fl P w H' a (putK f' k v)->Q v H'):pO fl P w x vs H Q
theorem gD(hu:X.A.units+2<YJ):MtM X "dict.setdefault" (pO fl X.prog X.w):=by
 intro U s Z H x vs v us Q I rx rv h;obtain⟨a,b,y,k,f',rfl,rfl,e,eb,l,q1,q2⟩:=h;cases rx;cases rv with
 |cons r1 rv =>
 cases rv with
 |cons r2 rv =>
 cases rv;cases r1;obtain⟨z,hd,xs,φ,ea,rel,dd⟩:=jn I.hok e;have hz:xs.length<=Xg:=by rw[<-W3 rel];exact z
 have hl:(putK f' k y).length<=Xg:=by have:=bz f' k y;lia
 have hT:s.TypeIs (.ref a) "dict":=dd.typeIs;refine call_meetsIn Zn hT PySem.F.entry_dict_setdefault (PySem.F.args_dict_setdefault_3 _ _ _) (bb_meets_setdefault (b9 fl X.prog X.w) a b _ hd) ⟨(show X.A.units+1+1<YJ from hu),k,xs,fg I.hok eb,dd,hz,λp hp=>?_,λhn h' C5 hs=>?_⟩
 .have hr:=KTm.val rel k;rw[hp]at hr;cases hv:aN f' k with
  |none=>rw[hv]at hr;exact hr.elim
  | some u =>
    rw[hv]at hr;exact⟨u,H,I.tok _,hr,q1 u hv⟩
 .have hr:=KTm.val rel k;rw[hn]at hr;cases hv:aN f' k with
  |some u=>rw[hv]at hr;exact hr.elim
  | none =>
    obtain⟨ob,es,ep,hq,h2,h3,h4,_,h5⟩:=C5;have ne:qY fl X.prog X.w (storedH xs k b _) a h':=⟨ob,es,ep,hq,h2,h3,h4,h5⟩
    have I4:=fU (t':=s.toks+(b9 fl X.prog X.w).draws k) I (by rw[ea];exact YV) hs ⟨ob,hq⟩ (ob:=.ext (qY fl X.prog X.w (storedH xs k b _) a)) ⟨ne,⟨ob,hq⟩,λh1 h2 p kk=>by
     obtain⟨o1,JH,JI,g1,g2⟩:=p;exact⟨o1,JH,JI,kk _ g1,g2⟩⟩
    have kt:∀ψ:Yd->Prop,BB.KT H (upd H a (.ext ψ)):=λψ c ys ec=>by
     rw[ai (eY ec ea (λz=>nomatch z))];exact ec
    exact⟨y,_,I4,r2,q2 hv _ (λc o hc e=>by rw[ai hc];exact e) ⟨hl,hd,_,_,ac,λ_ p=>p,KTm.mono (kt _) (KTm.put rel k eb r2)⟩⟩
inductive xW(fl:Bool)(P:W6)(w:Xo)(xs:List V)(H:Hp)(Q:VK):Prop
 |mk (a:WR) (f':List (ay×V)) (z0:xs=[.ref a]) (z1:DM fl P w H a f') (z2:∀(l:WR)(bs:List WR),H l=B?->Xp (λkv b=>MKAt fl H kv.1 b) f' bs->Q (.ref l) (upd H l (.lst (bs.map i!)))):xW fl P w xs H Q
theorem ww{ys:List (ay×WR×WU)}(rel:KTm fl H f' ys):Xp (λkv b=>MKAt fl H kv.1 b) f' (ys.map λy=>y.2.1):=by
 induction rel with
 |nil=>exact .nil
 |cons h t ih=>exact .cons (by rw[h.1];exact h.2.1) ih
theorem sk(hc:X.calm=C?):eT X (.type "list") (xW fl X.prog X.w):=by
 intro U s Z H xs us Q I r h;obtain⟨a,f',rfl,e,q⟩:=h;obtain⟨u,rfl,rx⟩:=vals1 r;cases rx;obtain⟨z,hd,ys,φ,ea,rel,dd⟩:=jn I.hok e;have hT:=dd.typeIs;obtain⟨o,es,ep,ho,TC,Ik,he,Ii,hn⟩:=dd;obtain⟨o',Bw,Br⟩:=hT;have eo:o'=o:=Xm (Bw.symm.trans ho);subst eo;have hl:f'.length=ys.length:=W3 rel
 have GW:es.toList.map (·.key)=ys.map λy=>Xl y.2.1:=by
  rw[he,YA];rfl
 have hsz:es.size<=Xg:=by
  have:=h! Zu GW;rw[WN,WN,XN]at this;lia
 have hh:X.A.in1.in1.handled=none:=I.ok.hd hc;refine bb_list_keys hh hd Bw Br Ik hsz λh' acc c hk hS Am=>?_;have hp:Xp (λkv b=>MKAt fl H kv.1 b) f' (ys.map λy=>y.2.1):=ww rel;refine⟨.ref s.1.1.size,upd H s.1.1.size (.lst ((ys.map λy=>y.2.1).map i!)),?_,D?,q _ _ I.fresh hp⟩;refine I.laid (t':=s.toks) hk (WW _) ⟨by rw[WN,WN];lia,acc.toList,c,?_,hS⟩;rw[Am,GW];clear hn Ii he GW Am hS hl z rel hp q;induction ys with
 |nil=>exact .nil
 |cons y ys ih=>exact .cons rfl ih
def abL(fl:Bool)(P:W6)(w:Xo)(r:V->List V->Hp->VK->Prop)(to:TE)(t:TA):TE:=λZ H Q=>to Z H λx H1=>(∃a f',x=.ref a/\DM fl P w H1 a f')/\t Z H1 λxs H2=>r x xs H2 Q
theorem xR{to:TE}{t:TA}{name:Xk}{id:String}{r:V->List V->Hp->VK->Prop}(slot:Slot "dict" name id)(IX:typeOf (.builtin id)=pure (.type "method_descriptor"))(hm:MtR X id r)(ho:PE X o to)(ha:PA X (e::es) t)
 (BD:attributeBase o name X.env (YY o X.env)=YY o X.env:=by rfl)
 (GD:((Z0 Aq (XF (e::es) X.env)).all (λx=>!x.1) && (backToKw Aq (keywordEach [] X.env)).all (λx=>x.1.isSome)
  && decide ((e::es).length+([]:List Keyword).length+(if([]:List Keyword).isEmpty then 0 else 1)<30))=true:=by rfl)
 (Cw:(apos.endLine == Aq.line)=true:=by rfl) (hs:XF (e::es) X.env=(CV,YY e X.env)::XF es X.env:=by rfl) (BE:(Z0 Aq (XF es X.env)).any (·.1)=false:=by rfl) :
 PE X (.Call (.Attribute o name apos) (e::es) [] Aq) (abL fl X.prog X.w r to t):=by
 intro U s Z H Q I h;refine wpAny_Call_method_late BD GD Cw rfl (thn (ho U s Z H _ I h) λv s1⟨x,H1,I1,r1,⟨a,f',ex,hd⟩,q1⟩=>?_);subst ex;obtain rfl:v=Xl a:=r1;obtain⟨h1,h2⟩:=xB I1 hd;refine⟨"dict",id,PySem.F.plainAttrs_dict,slot,IX,h1,h2,?_⟩;have hA:=ha Aq U s1 Z H1 _ I1 q1;rw[hs]at hA |-;refine Calls.callWith_builtin (by show(CV ||(Z0 Aq (XF es X.env)).any (·.1))=CV;rw[BE] <;> rfl) (Calls.evalArgs_plain ?_);exact thn hA λvs s2⟨xs,H2,I2,rv,q2⟩=>hm U s2 Z H2 (.ref a) xs (.ref a) vs Q I2 rfl rv q2
end
end L2
namespace BB
open PySem L2
theorem mX:∀{ps:List (List Int×Th)}{as:List WR},PsAtK K H ps as->∃bs,Xp (λ(p:List Int×Th)b=>H b=A? (.tup (p.1.map p!))) ps bs/\bs.length=as.length/\∀(i:Nat)x b,(as.map i!)[i]?=A? x->bs[i]?=A? b->∃a ta,x=.ref a/\H a=A? (.tup [.ref b,.ref ta])
 |_,_,.nil=>⟨[],.nil,rfl,λi x b h=>by simp at h⟩
 | _,_,.cons r h=>by
   obtain⟨pa,ta,h1,h2,_⟩:=r;obtain⟨bs,g1,g2,g3⟩:=mX h;refine⟨pa::bs,.cons h2 g1,by rw[W2,W2,g2],λi x b hx hb=>?_⟩;cases i with
   | zero =>
     simp at hx hb;subst hx;subst hb;exact⟨_,ta,D?,h1⟩
   |succ i=>exact g3 i x b (by simpa using hx) (by simpa using hb)
theorem wF{F:Hp->α->WR->Prop}{J:It}(zs:List α)(p:α->Bool)(hF:∀H1 H2 z p,KT H1 H2->F H1 z p->F H2 z p)(hz:zs.length=xs.length)(hn:xs.length<=1000000)
 (Fb:∀i H2,j! H H2->i<xs.length->J.go i H2) (Bb:∀H2,j! H H2->J.stop xs.length H2) (B8:∀(i:Nat)H2 x H3,j! H H2->i<xs.length->J.yld i H2 x H3->H3=H2/\xs[i]?=A? x)
 (hb:∀(i:Nat)x z H2(R:VK)(W':Hp->Prop),xs[i]?=A? x->zs[i]?=A? z->j! H H2->(p z=C?->∀H3 q,j! H2 H3->F H3 z q->R (.ref q) H3)->(p z=CV->∀H3,j! H2 H3->W' H3)->g x (cσ js Z) H2 λAx H3=>tt Ax H3 λb H4=>if b=C? then te Ax H4 R else W' H4)
 (BP:∀D H' as,H D=B?->j! H H'->H' D=A? (.lst (as.map i!))->Xp (F H') (zs.filter p) as->fin D H') :
 ∀D,H D=B?->∃(n:Nat)(W:Nat->Hp->Prop),W 0 (upd H D (.lst []))/\gQ js g tt te Z J D n W λH'=>fin D H':=by
 intro D hD;refine⟨xs.length,λi H'=>i<=xs.length/\j! H H'/\∃as:List WR,H' D=A? (.lst (as.map i!))/\Xp (F H') ((zs.take i).filter p) as,⟨Xh _,af hD _,[],by rw[ac];rfl,.nil⟩,?_⟩;rintro i H' ⟨hi,s1,as,e1,hp⟩;by_cases Ak:i<xs.length
 .refine .inr ⟨Ak,Fb i H' s1 Ak,λv H1 hy=>?_⟩;obtain⟨e,hx⟩:=B8 i H' v H1 s1 Ak hy;subst e;obtain⟨z,BO⟩:∃z,zs[i]?=A? z:=⟨_,WS (by lia)⟩;have hl:((zs.take i).filter p).length=as.length:=W3 hp;have Bq:=ZE p (zs.take i);rw[XS]at Bq;refine hb i v z _ _ _ hx BO s1 (λIm H3 q s3 Ni=>⟨_,s3 _ _ e1,?_,Ak,ak (s1.trans s3) hD,as++[q],?_,?_⟩) (λIm H3 s3=>⟨Ak,s1.trans s3,as,s3 _ _ e1,?_⟩)
  .rw[WN];have:Xg=16777216:=sizeLine_eq;lia
  .rw[ac,W8];rfl
  .have kt:KT H3 (upd H3 D (.lst (as.map i!++[.ref q]))):=aL (s3 _ _ e1);rw[take_snoc BO,ZA,X0,b! Im,List.filter_nil];exact r! (x! (λx y e=>hF _ _ _ _ ((k! s3).trans kt) e) hp) (.cons (hF _ _ _ _ kt Ni) .nil)
  .rw[take_snoc BO,ZA,X0,a! (by rw[Im];exact W0),List.filter_nil,Xs];exact x! (λx y e=>hF _ _ _ _ (k! s3) e) hp
 .have AW:i=xs.length:=by lia
  subst AW;refine .inl ⟨Bb _ s1,BP D H' as hD s1 e1 ?_⟩;rw[Yn (by lia)]at hp;exact hp
def eG(ins:List (Xk×Int)):Th:=.knot (((ins.filter λk=>decide (k.2=0))[0]?.map (·.1)).getD (Xz "")) []
theorem jB{k:Xk×Int}(h:(ins.filter λk=>decide (k.2=0))[0]?=A? k):eG ins=.knot k.1 []:=by
 unfold eG;rw[h];rfl
theorem r8(g:cN ins):∃k,(ins.filter λk=>decide (k.2=0))[0]?=A? k/\k.2=0:=by
 obtain⟨k,hk,hz⟩:=g.zero;have hm:k∈ins.filter λk=>decide (k.2=0):=Y0.mpr ⟨hk,d! hz⟩;have hl:0<(ins.filter λk=>decide (k.2=0)).length:=List.length_pos_of_mem hm;refine⟨_,WS hl,?_⟩;exact e! (Y0.mp (List.getElem_mem hl)).2
def df(ins:List (Xk×Int)):Nat:=ins.findIdx λk=>decide (k.2=0)
theorem jt:∀{ins:List (Xk×Int)}{k:Xk×Int},(ins.filter λk=>decide (k.2=0))[0]?=A? k->ins[df ins]?=A? k
 | [],k,h=>by simp at h
 | x::xs,k,h=>by
   unfold df;by_cases hx:x.2=0
   .rw[X0,b! (d! hx)]at h;rw[List.findIdx_cons,d! hx];simpa using h
   .rw[X0,a! (by simpa using hx)]at h;rw[List.findIdx_cons,c! hx];simpa[df]using jt h
def MkAt(H:Hp)(ins:List (Xk×Int))(rows:List (List Th))(f':List (List Key×V)):Prop :=
 ∀(s k:Nat)(row:List Th)(p:Th),k<3->rows[s]?=A? row->row[df ins]?=A? p->∃a,aN f' [Xn (s:Int),Xn (k:Int)]=A? (.ref a)/\At H p a
theorem MkAt.mono(kt:KT H H'){f':List (List Key×V)}(h:MkAt H ins rows f'):MkAt H' ins rows f':=λs k row p hk hr hp=>by
 obtain⟨a,h1,h2⟩:=h s k row p hk hr hp;exact⟨a,h1,h2.mono kt⟩
theorem sP:∀{ts:List Th}{i:Nat},(dvs ts)[i]?=(ts[i]?).map Th.dv
 | [],i=>by rw[dvs];simp
 |t::ts,0=>by rw[dvs];rfl
 |t::ts,i+1=>by rw[dvs,Z8,Z8];exact sP
theorem tV:∀ts:List Th,(dvs ts).length=ts.length
 | []=>by rw[dvs];rfl
 |t::ts=>by rw[dvs,W2,W2,tV ts]
theorem p9{f:α->Th}:∀{zs:List α}{as:List WR},Xp (λz a=>At H (f z) a) zs as->Ats H (zs.map f) as
 |_,_,.nil=>.nil
 |_,_,.cons r h=>.cons r (p9 h)
theorem cQ{x:List Int×Th}:∀{ts:List Th}{i:Int},x∈pls pre i ts↔∃(j:Nat)(t:Th),ts[j]?=A? t/\x∈t.pl (pre++[i+(j:Int)])
 | [],i=>by rw[pls];simp
 | t::ts,i=>by
   rw[pls,XA,cQ (ts:=ts) (i:=i+1)];constructor
   .rintro(h|⟨j,u,hu,h⟩)
    .exact⟨0,t,D?,by simpa using h⟩
    .refine⟨j+1,u,by simpa using hu,?_⟩;rw[show i+((j+1:Nat):Int)=i+1+(j:Int)by lia];exact h
   .rintro⟨j,u,hu,h⟩;cases j with
    | zero =>
      simp at hu;subst hu;exact .inl (by simpa using h)
    | succ j =>
      refine .inr ⟨j,u,by simpa using hu,?_⟩;rw[show i+1+(j:Int)=i+((j+1:Nat):Int)by lia];exact h
theorem gK{n:Xk}{ks:List Th}{t:Th}(h:ks[j]?=A? t){x:List Int×Th}(hx:x∈t.pl (pre++[(j:Int)])):x∈(o! n ks).pl pre:=by
 rw[B!];refine Xb _ (cQ.mpr ⟨j,t,h,?_⟩);rw[Yq];exact hx
theorem dk(t:Th)(pre:List Int):(pre,t)∈t.pl pre:=by rw[Th.pl_eq];exact Xe ..
theorem xH:∀(n:Nat)(l r:Th)(pre:List Int),l.size<=n->∀x∈(l.com r).pl pre,∃u,(x.1,u)∈l.pl pre
 |0,l,r,pre,hn=>by have:=l.size_pos;lia
 | n+1,.call a b,r,pre,hn=>λx hx=>by
   rw[iH,aB]at hx
   .rw[a! W0,hole,B!,pls]at hx;rw[Xc.mp hx];exact⟨_,dk _ _⟩
   .intro _ _ _ _ h;cases h
 | n+1,.knot m ks,r,pre,hn=>λx hx=>by
   rw[iH]at hx;by_cases hs:aB (.knot m ks) r=C?
   .rw[b! hs,B!]at hx;rcases W7.mp hx with rfl|hx
    .exact⟨_,dk _ _⟩
    .obtain⟨j,t,ht,hx⟩:=cQ.mp hx;rw[Yq]at hx;rw[WZ,XI]at ht;obtain⟨p,hp,rfl⟩:=ht;obtain⟨h1,h2⟩:=Zd.mp hp;rw[q!]at hn;have hz:p.1.size<=ao ks:=aZ (WT h1);obtain⟨u,hu⟩:=xH n p.1 p.2 _ (by lia) x hx;exact⟨u,gK h1 hu⟩
   .rw[a! hs,hole,B!,pls]at hx;rw[Xc.mp hx];exact⟨_,dk _ _⟩
mutual
def Th.cut(D:List Int->Bool)(pre:List Int):Th->Th
 |.knot n ks=>if(o! n ks).isHole=C?\/D pre=C? then hole else .knot n (cr D pre 0 ks)
 |.call _ _=>hole
def cr(D:List Int->Bool)(pre:List Int)(i:Int):List Th->List Th
 | []=>[]
 |t::ts=>t.cut D (pre++[i])::cr D pre (i+1) ts
end
theorem iU{D:List Int->Bool}:∀{ts:List Th}{i:Int}{j:Nat},(cr D pre i ts)[j]?=(ts[j]?).map λt=>t.cut D (pre++[i+(j:Int)])
 | [],i,j=>by rw[cr];simp
 |t::ts,i,0=>by rw[cr];simp
 | t::ts,i,j+1=>by
   rw[cr,Z8,Z8,iU,show i+1+(j:Int)=i+((j+1:Nat):Int)by lia]
theorem dD{D:List Int->Bool}:∀{ts:List Th}{i:Int},(cr D pre i ts).length=ts.length
 | [],i=>by rw[cr]
 |t::ts,i=>by rw[cr,W2,W2,dD]
theorem fY:∀{as bs:List Th},(∀(i:Nat)(a b:Th),as[i]?=A? a->bs[i]?=A? b->a.lies b=C?)->bc as bs=C?
 | [],bs,_=>by rw[bc]
 |a::as,[],_=>by rw[bc]
 | a::as,b::bs,h=>by
   rw[bc,h 0 a b rfl rfl,fY λi x y hx hy=>h (i+1) x y (by simpa using hx) (by simpa using hy)];rfl
theorem gZ:∀{as bs:List Th},bc as bs=C?->∀(i:Nat)(a b:Th),as[i]?=A? a->bs[i]?=A? b->a.lies b=C?
 | [],bs,_,i,a,b,ha,_=>by simp at ha
 |x::as,[],_,i,a,b,_,hb=>by simp at hb
 | x::as,y::bs,h,i,a,b,ha,hb=>by
   rw[bc,X4]at h;cases i with
   | zero =>
     simp at ha hb;subst ha;subst hb;exact h.1
   |succ i=>exact gZ h.2 i a b (by simpa using ha) (by simpa using hb)
theorem ql{n:Xk}{ks:List Th}{r:Th}(h:aB (.knot n ks) r=C?):∃us,r=.knot n us/\ks.length=us.length/\(o! n ks).isHole=false:=by
 cases r with
 |call a b=>rw[aB]at h;exact g! h W0;intro _ _ _ _ _ h;cases h
 | knot m us =>
   rw[aB,X4,X4]at h;obtain⟨⟨h1,h2⟩,h3⟩:=h;obtain rfl:=e! h2;exact⟨us,D?,e! h3,by simpa using h1⟩
theorem f9{n:Xk}{ks us:List Th}(h1:(o! n ks).isHole=CV)(h2:ks.length=us.length):aB (.knot n ks) (.knot n us)=true:=by
 rw[aB,h1,d! rfl,d! h2];rfl
theorem lies_of{n:Xk}{ks:List Th}{r:Th}(h:(o! n ks).lies r=C?)(hh:(o! n ks).isHole=CV):∃us,r=.knot n us/\ks.length=us.length/\bc ks us=true:=by
 rw[w!,hh,Bool.false_or,X4]at h;obtain⟨us,rfl,hl,_⟩:=ql h.1;exact⟨us,D?,hl,h.2⟩
theorem iL(r:Th):hole.lies r=true:=by
 rw[hole,w!];have:(o! star []).isHole=true:=dw;rw[this];rfl
theorem qS{n:Xk}{ks cs:List Th}(hl:cs.length=ks.length)(h:(o! n ks).isHole=CV):(o! n cs).isHole=false:=by
 rw[A!,decide_eq_false_iff_not]at h |-;rintro⟨h1,h2⟩;rw[h2]at hl;exact h ⟨h1,Yi.mp hl.symm⟩
theorem cO{c:List Int×Int×Int}{ps:List (List Int×Th)}:c∈callsOf ps↔(c.1,z! c.2.1 c.2.2)∈ps:=by
 unfold callsOf;rw[List.mem_filterMap];constructor
 .rintro⟨⟨pl,t⟩,hx,e⟩;cases t with
  |knot n ks=>rw[oM]at e;cases e
  |call a b=>rw[oM]at e;cases e;exact hx
 .intro h;exact⟨_,h,by rw[oM]⟩
theorem qF{n:Xk}{ks:List Th}{t:Th}(h:ks[j]?=A? t){c:List Int×Int×Int}(hc:c∈callsOf (t.pl (pre++[(j:Int)]))):c∈callsOf ((o! n ks).pl pre):=cO.mpr (gK h (cO.mp hc))
section
variable{D:Int->List Int->Bool}{mk f0:Int->Th}
theorem om{s l:Int}{q:List Int}(Hl:∀(r:List Int)(u:Th),D l r=C?->(q++r,u)∈(f0 s).pl []->D s (q++r)=C?)(Hh:∀(r:List Int)(u:Th),(r,u)∈(f0 l).pl []->u.isHole=C?->D l r=C?) :
 ∀(n:Nat)(f g m:Th)(r:List Int),f.size<=n->(∀x∈f.pl (q++r),x∈(f0 s).pl [])->(∀x∈g.pl r,x∈(f0 l).pl [])->f.noCall->g.noCall->f.lies m=C?->g.lies m=C?->(f.cut (D s) (q++r)).lies (g.cut (D l) r)=C?
 |0,f,g,m,r,hn=>by have:=f.size_pos;lia
 |n+1,.call a b,g,m,r,_=>λ_ _ h=>by rw[v!]at h;exact h.elim
 |n+1,.knot nm ks,.call a b,m,r,_=>λ_ _ _ h=>by rw[v!]at h;exact h.elim
 | n+1,.knot nm ks,.knot gm vs,m,r,hn=>λhF hG nf ng hf hg=>by
   rw[Th.cut];by_cases hc:(o! nm ks).isHole=C?\/D s (q++r)=C?
   .rw[b! hc];exact iL _
   .rw[a! hc];have h1:(o! nm ks).isHole=false:=Yj.mpr λz=>hc (.inl z);have h2:¬D s (q++r)=true:=λz=>hc (.inr z);have h3:¬D l r=true:=λz=>h2 (Hl r _ z (hF _ (dk _ _)));have h4:(o! gm vs).isHole=false:=Yj.mpr λz=>h3 (Hh r _ (hG _ (dk _ _)) z);obtain⟨us,rfl,l1,b1⟩:=lies_of hf h1;obtain⟨Ua,e,l2,b2⟩:=lies_of hg h4;cases e;rw[Th.cut,a! (by rintro(z|z);(rw[h4]at z;cases z);exact h3 z)];rw[w!,f9 (qS dD h1) (by rw[dD,dD];lia)];rw[q!]at hn;rw[v!]at nf ng
    have:bc (cr (D s) (q++r) 0 ks) (cr (D l) r 0 vs)=true:=fY λi a b ha hb=>by
     rw[iU,XI]at ha hb;obtain⟨k,hk,rfl⟩:=ha;obtain⟨v,hv,rfl⟩:=hb;have BQ:=(glE hk);obtain⟨u,hu⟩:∃u,us[i]?=A? u:=⟨_,WS (by lia)⟩;have hz:=aZ (WT hk);rw[Yq,XJ];refine om Hl Hh n k v u (r++[(i:Int)]) (by lia) (λx hx=>hF x (gK hk (by rw[XJ];exact hx))) (λx hx=>hG x (gK hv hx)) (cP nf (WT hk)) (cP ng (WT hv)) (gZ b1 i k u hk hu) (gZ b2 i v u hv hu)
    show((o! nm (cr (D s) (q++r) 0 ks)).isHole ||(C? && bc (cr (D s) (q++r) 0 ks) (o! nm (cr (D l) r 0 vs)).kids))=C?;rw[show(o! nm (cr (D l) r 0 vs)).kids=cr (D l) r 0 vs from rfl,this,Bool.or_comm];rfl
theorem kR{s:Int}{pat:Th}(Hc:∀c∈callsOf (pat.pl []),(f0 c.2.1).lies (mk c.2.1)=C?/\(f0 c.2.1).noCall/\(∀(r:List Int)(u:Th),(r,u)∈(f0 c.2.1).pl []->u.isHole=C?->D c.2.1 r=C?)/\∀(r:List Int)(u:Th),D c.2.1 r=C?->(c.1++r,u)∈(f0 s).pl []->D s (c.1++r)=C?) :
 ∀(n:Nat)(f p:Th)(q:List Int),f.size<=n->(∀x∈f.pl q,x∈(f0 s).pl [])->(∀c∈callsOf (p.pl q),c∈callsOf (pat.pl []))->f.noCall->f.lies (p.fill λl _=>mk l)=C?->(f.cut (D s) q).lies (p.fill λl _=>(f0 l).cut (D l) [])=C?
 |0,f,p,q,hn=>by have:=f.size_pos;lia
 |n+1,.call a b,p,q,_=>λ_ _ h=>by rw[v!]at h;exact h.elim
 | n+1,.knot nm ks,.call l k,q,hn=>λhF hC nf hf=>by
   obtain⟨g1,g2,g3,g4⟩:=Hc (q,l,k) (hC _ (cO.mpr (dk _ _)));rw[C!]at hf |-;have:=om (q:=q) g4 g3 (n+1) (.knot nm ks) (f0 l) (mk l) [] hn (by rw[Xs];exact hF) (λx hx=>hx) nf g2 hf g1;rw[Xs]at this;exact this
 | n+1,.knot nm ks,.knot pm ps,q,hn=>λhF hC nf hf=>by
   rw[Th.cut];by_cases hc:(o! nm ks).isHole=C?\/D s q=C?
   .rw[b! hc];exact iL _
   .rw[a! hc];have h1:(o! nm ks).isHole=false:=Yj.mpr λz=>hc (.inl z);rw[C!,eB]at hf |-;obtain⟨us,e,l1,b1⟩:=lies_of hf h1;cases e;rw[WN]at l1;rw[w!,f9 (qS dD h1) (by rw[dD,WN];lia)];rw[q!]at hn;rw[v!]at nf
    have:bc (cr (D s) q 0 ks) (ps.map λt=>t.fill λl _=>(f0 l).cut (D l) [])=true:=fY λi a b ha hb=>by
     rw[iU,XI]at ha;rw[WZ,XI]at hb;obtain⟨k,hk,rfl⟩:=ha;obtain⟨v,hv,rfl⟩:=hb;have hz:=aZ (WT hk);rw[Yq];refine kR Hc n k v (q++[(i:Int)]) (by lia) (λx hx=>hF x (gK hk hx)) (λc CW=>hC c (qF hv CW)) (cP nf (WT hk)) (gZ b1 i k _ hk (gmE hv))
    show((o! nm (cr (D s) q 0 ks)).isHole ||(C? && bc (cr (D s) q 0 ks) (o! nm (ps.map λt=>t.fill λl _=>(f0 l).cut (D l) [])).kids))=C?;rw[show(o! nm (ps.map λt=>t.fill λl _=>(f0 l).cut (D l) [])).kids=ps.map λt=>t.fill λl _=>(f0 l).cut (D l) []from rfl,this,Bool.or_comm];rfl
end
theorem jE:∀(n:Nat)(t:Th),t.size<=n->t.noCall->t.lies t=C?
 |0,t,hn,_=>by have:=t.size_pos;lia
 |n+1,.call a b,_,h=>by rw[v!]at h;exact h.elim
 | n+1,.knot m ks,hn,h=>by
   by_cases hh:(o! m ks).isHole=C?
   .rw[w!,hh];rfl
   .have Ub:(o! m ks).isHole=false:=Yj.mpr hh;rw[q!]at hn;rw[v!]at h;rw[w!,f9 Ub rfl]
    have:bc ks ks=true:=fY λi a b ha hb=>by
     rw[ha]at hb;cases hb;have:=aZ (WT ha);exact jE n a (by lia) (cP h (WT ha))
    show((o! m ks).isHole ||(C? && bc ks (o! m ks).kids))=C?;rw[show(o! m ks).kids=ks from rfl,this,Bool.or_comm];rfl
def mkF(ins:List (Xk×Int))(rows:List (List Th))(l:Int):Th:=(rowOf rows l).getD (df ins) hole
def frF(mk:Int->Th)(m:Th)(row:List Th):Th:=row.foldl (λf p=>f.com (p.fill λl _=>mk l)) m
theorem qi(mk:Int->Th)(m:Th)(row:List Th)(p:Th):frF mk m (row++[p])=(frF mk m row).com (p.fill λl _=>mk l):=by
 unfold frF;rw[List.foldl_append];rfl
theorem ss{mk:Int->Th}{m:Th}(h:m.noCall):∀row:List Th,(frF mk m row).noCall:=λrow=>by
 cases hr:row.reverse with
 | nil =>
   have:row=[]:=by simpa using hr
   subst this;exact h
 | cons p ps =>
   have:row=ps.reverse++[p]:=by
    have:=h! List.reverse hr;simpa using this
   rw[this,qi];exact lR _ _
theorem i7(mk:Int->Th)(m:Th)(row:List Th):(frF mk m row).size<=m.size/\(frF mk m row).tall<=m.tall:=by
 unfold frF;induction row generalizing m with
 |nil=>exact⟨WW _,WW _⟩
 | cons p row ih =>
   rw[List.foldl_cons];have h1:=ih (m.com (p.fill λl _=>mk l));have h2:=qe m (p.fill λl _=>mk l);lia
theorem wn(mk:Int->Th)(m:Th)(row:List Th):∀x∈(frF mk m row).pl [],∃u,(x.1,u)∈m.pl []:=by
 unfold frF;induction row generalizing m with
 |nil=>exactλx hx=>⟨x.2,hx⟩
 | cons p row ih =>
   rw[List.foldl_cons];intro x hx;obtain⟨u,hu⟩:=ih _ x hx;exact xH _ m _ [] (WW _) (x.1,u) hu
theorem rn{mk:Int->Th}(f:Th):∀(row:List Th)(m:Th),f.lies (frF mk m row)=C?->f.lies m=C?/\∀p∈row,f.lies (p.fill λl _=>mk l)=C?
 | [],m,h=>⟨h,λp hp=>by cases hp⟩
 | p::row,m,h=>by
   have h':f.lies (frF mk (m.com (p.fill λl _=>mk l)) row)=true:=h;obtain⟨h1,h2⟩:=rn f row _ h';rw[rc,X4]at h1;refine⟨h1.1,λx hx=>?_⟩;rcases W7.mp hx with rfl|hx
   .exact h1.2
   .exact h2 x hx
def nk(s:Int)(pl:List Int):ay:=(pl.map Xn,Xn s)
theorem vX{s s':Int}{p p':List Int}(h:nk s p=nk s' p'):s=s'/\p=p':=by
 unfold nk at h;injection h with h1 h2;refine⟨YM h2,?_⟩;exact(List.map_inj_right (λ_ _ e=>YM e)).mp h1
theorem nq{s:Int}{pl:List Int}(h1:H b=A? (.tup [.int s,.ref c]))(h2:H c=A? (.tup (pl.map p!))):MKAt CV H (nk s pl) b:=by
 refine⟨c,h1,?_⟩;rw[h2];unfold nk;rw[YA];rfl
def But(p:WR)(H H':Hp):Prop:=∀c o,c≠p->H c=A? o->H' c=A? o
theorem But.refl(p:WR)(H:Hp):But p H H:=λ_ _ _ e=>e
theorem But.trans{JJ:Hp}(a:But p H H')(b:But p H' JJ):But p H JJ:=λc o hc e=>b c o hc (a c o hc e)
theorem Same.but(a:j! H H'):But p H H':=λc o _ e=>a c o e
theorem But.kt{φ:Yd->Prop}(a:But p H H')(e:H p=A? (.ext φ)):KT H H':=λc ys ec=>a c _ (λz=>by rw[z,e]at ec;cases ec) ec
theorem cy(h:DM CV P w H a f'):∃φ,H a=A? (.ext φ):=by
 obtain⟨_,_,xs,φ,e,_⟩:=h;exact⟨φ,e⟩
theorem dZ{k:ay}(h:aN f' k=B?):k∉f'.map (·.1):=by
 intro hk;obtain⟨p,hp,rfl⟩:=Xy.mp hk;have:=eX p.1 f';rw[h]at this;have h2:(f'.any λkv=>decide (kv.1=p.1))=true:=List.any_eq_true.mpr ⟨p,hp,d! rfl⟩;rw[h2]at this;cases this
theorem fL{k:ay}(h:aN f' k=A? v):(k,v)∈f':=by
 induction f' with
 |nil=>cases h
 | cons p f' ih =>
   by_cases e:p.1=k
   .rw[bH e]at h;cases h;rw[<-e];exact Xe ..
   .rw[bJ e]at h;exact Xb _ (ih h)
mutual
theorem t7{u:Th}:∀(t:Th)(pre:List Int),u∈t.walk->∃pl,(pl,u)∈t.pl pre
 | .call a b,pre,h=>by
   rw[Th.walk]at h;rw[Xc.mp h];exact⟨pre,dk _ _⟩
 | .knot n ks,pre,h=>by
   rw[Th.walk]at h;rcases W7.mp h with rfl|h
   .exact⟨pre,dk _ _⟩
   .obtain⟨pl,hp⟩:=qP ks pre 0 h;exact⟨pl,by rw[B!];exact Xb _ hp⟩
theorem qP{u:Th}:∀(ts:List Th)(pre:List Int)(i:Int),u∈walks ts->∃pl,(pl,u)∈pls pre i ts
 | [],pre,i,h=>by rw[walks]at h;cases h
 | t::ts,pre,i,h=>by
   rw[walks]at h;rw[pls];rcases XA.mp h with h|h
   .obtain⟨pl,hp⟩:=t7 t (pre++[i]) h;exact⟨pl,XM _ hp⟩
   .obtain⟨pl,hp⟩:=qP ts pre (i+1) h;exact⟨pl,XE _ hp⟩
end
theorem jO{ks:List (Xk×Int)}{t:Th}(h:t.FitS ks S C){s k:Int}(hm:z! s k∈t.walk):0<=s/\s<S/\0<=k/\k<C:=by
 obtain⟨pl,hp⟩:=t7 t [] hm;exact gY t [] h (pl,s,k) (cO.mpr hp)
theorem jZ{ks:List (Xk×Int)}:∀(n:Nat)(t:Th),t.size<=n->t.FitS ks S 0->t.noCall
 |0,t,hn,_=>by have:=t.size_pos;lia
 |n+1,.call a b,_,h=>by rw[u!]at h;lia
 | n+1,.knot m us,hn,h=>by
   rw[u!]at h;rw[q!]at hn;rw[v!]
   have:∀(l:List Th),(∀t∈l,t.noCall)->ba l:=λl=>by
    induction l with
    |nil=>intro _;rw[ba];trivial
    |cons x l ih=>intro hl;rw[ba];exact⟨hl x (Xe ..),ih λt ht=>hl t (Xb _ ht)⟩
   refine this us λt ht=>?_;have hz:=aZ ht;exact jZ n t (by lia) (FitSs.mem' h.2 t ht)
mutual
theorem xz:∀(t:Th)(a b:List Int),t.pl (a++b)=(t.pl b).map λx=>(a++x.1,x.2)
 |.call s k,a,b=>by rw[B!,B!];rfl
 |.knot n ks,a,b=>by rw[B!,B!,Xx,uc ks a b 0]
theorem uc:∀(ts:List Th)(a b:List Int)(i:Int),pls (a++b) i ts=(pls b i ts).map λx=>(a++x.1,x.2)
 | [],a,b,i=>by rw[pls,pls];rfl
 |t::ts,a,b,i=>by rw[pls,pls,W8,XJ,xz t a (b++[i]),uc ts a b (i+1)]
end
theorem dP{t:Th}{a:List Int}{x:List Int×Th}:x∈t.pl a↔∃r,x.1=a++r/\(r,x.2)∈t.pl []:=by
 have:=xz t a [];rw[Xs]at this;rw[this,Xy];constructor
 .rintro⟨y,hy,rfl⟩;exact⟨y.1,D?,hy⟩
 .rintro⟨r,h1,h2⟩;exact⟨(r,x.2),h2,by rw[<-h1]⟩
theorem uh:∀(n:Nat){t u v:Th}{a r:List Int},t.size<=n->(a,u)∈t.pl []->(r,v)∈u.pl []->(a++r,v)∈t.pl []
 |0,t,_,_,_,_,hn=>by have:=t.size_pos;lia
 | n+1,.call s k,u,v,a,r,hn=>λh1 h2=>by
   rw[B!]at h1;cases Xc.mp h1;exact h2
 | n+1,.knot m ks,u,v,a,r,hn=>λh1 h2=>by
   rw[B!]at h1;rcases W7.mp h1 with h1|h1
   .cases h1;exact h2
   .obtain⟨j,t,ht,hx⟩:=cQ.mp h1;obtain⟨r',e,AR⟩:=dP.mp hx;dsimp only at e AR;rw[Yq,Zc]at e;rw[q!]at hn;have hz:=aZ (WT ht);have:=uh n (by lia) AR h2;refine gK ht (dP.mpr ⟨r'++r,?_,this⟩);show a++r=[]++[(j:Int)]++(r'++r);rw[e,Zc,XJ]
theorem qx:∀(n:Nat){t v:Th}{a r:List Int}{u:Th},t.size<=n->(a++r,v)∈t.pl []->(∃w,(a,w)∈t.pl []/\(r,v)∈w.pl [])
 |0,t,_,_,_,_,hn=>by have:=t.size_pos;lia
 |n+1,t,v,[],r,_,hn=>λh=>⟨t,dk _ _,h⟩
 | n+1,.call s k,v,x::a,r,_,hn=>λh=>by
   rw[B!]at h;have:=h! Prod.fst (Xc.mp h);cases this
 | n+1,.knot m ks,v,x::a,r,u,hn=>λh=>by
   rw[B!]at h;rcases W7.mp h with h|h
   .have:=h! Prod.fst h;cases this
   .obtain⟨j,t,ht,hx⟩:=cQ.mp h;obtain⟨r',e,AR⟩:=dP.mp hx;dsimp only at e AR;rw[Yq,Zc]at e;injection e with e1 e2;have e2:a++r=r':=e2;rw[q!]at hn;have hz:=aZ (WT ht);rw[<-e2]at AR;obtain⟨w,h1,h2⟩:=qx n (u:=u) (by lia) AR;refine⟨w,gK ht (dP.mpr ⟨a,?_,h1⟩),h2⟩;show x::a=[]++[(j:Int)]++a;rw[e1];rfl
abbrev VlT:=Nat->ay->Th->Th->Prop
def PtV(H:Hp)(R:Th->Th->Prop)(v:V):Prop:=∃(pr ta tb:WR)(t1 t2:Th),v=.ref pr/\H pr=A? (.tup [.ref ta,.ref tb])/\At H t1 ta/\At H t2 tb/\R t1 t2
theorem PtV.mono(k:KT H H'){R:Th->Th->Prop}(h:PtV H R v):PtV H' R v:=by
 obtain⟨pr,ta,tb,t1,t2,e,h1,h2,h3,h4⟩:=h;exact⟨pr,ta,tb,t1,t2,e,k _ _ h1,h2.mono k,h3.mono k,h4⟩
structure Pt(P:W6)(w:Xo)(Vl:VlT)(H:Hp)(pt:WR)(f':List (ay×V))(Al:List ay):Prop where
 dm:DM CV P w H pt f'
 nd:(f'.map (·.1)).Nodup
 al:∀p∈f',p.1∈Al
 vl:∀(j:Nat)(p:ay×V),f'[j]?=A? p->PtV H (Vl j p.1) p.2
theorem Pt.same{Vl:VlT}{pt:WR}(h:Pt P w Vl H pt f' Al)(s:j! H H'):Pt P w Vl H' pt f' Al:=⟨h.dm.mono s,h.nd,h.al,λj p hp=>(h.vl j p hp).mono (k! s)⟩
theorem Pt.len{Vl:VlT}{pt:WR}(h:Pt P w Vl H pt f' Al):f'.length<=Al.length:=by
 have:=ol (m:=Al) h.nd λk hk=>by
  obtain⟨p,hp,rfl⟩:=Xy.mp hk;exact h.al p hp
 rwa [WN]at this
theorem Pt.put{Vl:VlT}{pt:WR}(h:Pt P w Vl H pt f' Al){k:ay}(hn:aN f' k=B?)(hb:But pt H H')(hd:DM CV P w H' pt (putK f' k v))(hv:PtV H (Vl f'.length k) v)(hk:k∈Al):Pt P w Vl H' pt (putK f' k v) Al/\(putK f' k v).map (·.1)=f'.map (·.1)++[k]:=by
 obtain⟨φ,e⟩:=cy h.dm;have kt:=hb.kt e;rw[ja v hn]at hd |-;refine⟨⟨hd,?_,λp hp=>?_,λj p hp=>?_⟩,by rw[W8];rfl⟩
 .rw[W8];refine List.nodup_append.mpr ⟨h.nd,by simp,λa ha b AD=>?_⟩;simp at AD;subst AD;exactλz=>dZ hn (z ▸ ha)
 .rcases XA.mp hp with hp|hp
  .exact h.al p hp
  .rw[Xc.mp hp];exact hk
 .by_cases hj:j<f'.length
  .rw[Yw hj]at hp;exact(h.vl j p hp).mono kt
  .rw[Y9 (by lia)]at hp
   have Uc:j - f'.length=0:=by
    have:=(glE hp);have h1:[(k,v)].length=1:=rfl;lia
   rw[Uc]at hp;have F':j=f'.length:=by lia
   cases hp;rw[F'];exact hv.mono kt
end BB
open BB.Same renaming but->G!
variable{Vl:BB.VlT}
namespace BB
open PySem L2
theorem sL:∀(n:Nat){t u v:Th}{a:List Int},t.size<=n->(a,u)∈t.pl []->(a,v)∈t.pl []->u=v
 |0,t,_,_,_,hn=>by have:=t.size_pos;lia
 | n+1,.call s k,u,v,a,hn=>λh1 h2=>by
   rw[B!]at h1 h2;cases Xc.mp h1;cases Xc.mp h2;rfl
 | n+1,.knot m ks,u,v,a,hn=>λh1 h2=>by
   rw[B!]at h1 h2;rcases W7.mp h1 with h1|h1
   .cases h1;rcases W7.mp h2 with h2|h2
    .cases h2;rfl
    .obtain⟨j,t,ht,hx⟩:=cQ.mp h2;obtain⟨r',e,_⟩:=dP.mp hx;cases e
   .obtain⟨j,t,ht,hx⟩:=cQ.mp h1;obtain⟨r',e,AR⟩:=dP.mp hx;rcases W7.mp h2 with h2|h2
    .cases h2;cases e
    .obtain⟨j2,t2,G2,Cn⟩:=cQ.mp h2;obtain⟨r2,e2,G4⟩:=dP.mp Cn;dsimp only at e e2 AR G4;rw[e]at e2;have e3:(0+(j:Int))::r'=(0+(j2:Int))::r2:=e2;injection e3 with e4 e5;have:j=j2:=by lia
     subst this;rw[ht]at G2;cases G2;subst e5;rw[q!]at hn;have hz:=aZ (WT ht);exact sL n (by lia) AR G4
abbrev LkT:=ay->Int->List Int->Xk×Int->Int->Prop
def LE(H:Hp)(ins:List (Xk×Int))(Al:List ay)(Lk:LkT)(k0:ay)(a:WR):Prop:=∃(s kid:Int)(pl:List Int)(pa ka:WR)(kd:Xk×Int),H a=A? (.tup [.int s,.ref pa,.ref ka,.int kid])/\H pa=A? (.tup (pl.map p!))/\KAt H kd ka/\kd∈ins/\nk s pl∈Al/\Lk k0 s pl kd kid
theorem LE.mono(k:KT H H'){Lk:LkT}{k0:ay}(h:LE H ins Al Lk k0 a):LE H' ins Al Lk k0 a:=by
 obtain⟨s,kid,pl,pa,ka,kd,h1,h2,h3,h4,h5⟩:=h;exact⟨s,kid,pl,pa,ka,kd,k _ _ h1,k _ _ h2,k _ _ h3,h4,h5⟩
abbrev LG:=List (ay×WR×List WR)
def lkv(G:LG):List (ay×V):=G.map λg=>(g.1,i! g.2.1)
structure LkI(P:W6)(w:Xo)(ins:List (Xk×Int))(Al:List ay)(Lk:LkT)(H0 H:Hp)(la:WR)(G:LG)(N:Nat):Prop where
 sm:j! H0 H
 la0:H0 la=B?
 dm:DM CV P w H la (lkv G)
 kn:(G.map (·.1)).Nodup
 an:(G.map (·.2.1)).Nodup
 ls:∀g∈G,H0 g.2.1=B?/\H g.2.1=A? (.lst (g.2.2.map i!))/\g.2.2.length<=N/\∀a∈g.2.2,LE H ins Al Lk g.1 a
 le:G.length<=N
def ii(H:Hp)(G:LG)(k:ay)(s:Int)(pl:List Int):Prop:=∃g∈G,g.1=k/\∃a∈g.2.2,∃(pa ka:WR)(kid:Int),H a=A? (.tup [.int s,.ref pa,.ref ka,.int kid])/\H pa=A? (.tup (pl.map p!))
def LSub(H H':Hp)(G G':LG):Prop:=∀k s pl,ii H G k s pl->ii H' G' k s pl
theorem LSub.refl(H:Hp)(G:LG):LSub H H G G:=λ_ _ _ h=>h
theorem LSub.trans{JJ:Hp}{G G' QP:LG}(a:LSub H H' G G')(b:LSub H' JJ G' QP):LSub H JJ G QP:=λk s pl h=>b k s pl (a k s pl h)
theorem LSub.kt(k:KT H H')(G:LG):LSub H H' G G:=λ_ _ _⟨g,hg,e,a,ha,pa,ka,kid,h1,h2⟩=>⟨g,hg,e,a,ha,pa,ka,kid,k _ _ h1,k _ _ h2⟩
theorem ui(h:DM CV P w H a f')(k:KT H H')(e:∀o,H a=A? o->H' a=A? o):DM CV P w H' a f':=by
 obtain⟨z,hd,xs,φ,e1,f,r⟩:=h;exact⟨z,hd,xs,φ,e _ e1,f,KTm.mono k r⟩
section
variable{Lk:LkT}{H0:Hp}{G:LG}{N:Nat}
theorem LkI.ne(h:LkI P w ins Al Lk H0 H la G N){g:ay×WR×List WR}(hg:g∈G):g.2.1≠la:=λz=>by
 obtain⟨φ,e⟩:=cy h.dm;have:=(h.ls g hg).2.1;rw[z,e]at this;cases this
theorem LkI.same(h:LkI P w ins Al Lk H0 H la G N)(s:j! H H'):LkI P w ins Al Lk H0 H' la G N:=by
 refine⟨h.sm.trans s,h.la0,h.dm.mono s,h.kn,h.an,λg hg=>?_,h.le⟩;obtain⟨a,b,c,d⟩:=h.ls g hg;exact⟨a,s _ _ b,c,λx hx=>(d x hx).mono (k! s)⟩
theorem LkI.up(h:LkI P w ins Al Lk H0 H la G N){M:Nat}(hm:N<=M):LkI P w ins Al Lk H0 H la G M:=by
 refine⟨h.sm,h.la0,h.dm,h.kn,h.an,λg hg=>?_,XC h.le hm⟩;obtain⟨a,b,c,d⟩:=h.ls g hg;exact⟨a,b,XC c hm,d⟩
theorem LkI.new(h:LkI P w ins Al Lk H0 H la G N){k:ay}{l:WR}(hn:aN (lkv G) k=B?)(hb:But la H H')(hd:DM CV P w H' la (putK (lkv G) k (.ref l)))(EL:H0 l=B?)(hl:H l=A? (.lst []))(hf:∀g∈G,g.2.1≠l):LkI P w ins Al Lk H0 H' la (G++[(k,l,[])]) (N+1)/\LSub H H' G (G++[(k,l,[])]):=by
 obtain⟨φ,e⟩:=cy h.dm;have kt:=hb.kt e;have NO:l≠la:=λz=>by rw[z,e]at hl;cases hl
 refine⟨⟨λc o ec=>hb c o (λz=>by rw[z,h.la0]at ec;cases ec) (h.sm _ _ ec),h.la0,?_,?_,?_,λg hg=>?_,by rw[Xd];have:=h.le;show G.length+1<=N+1;lia⟩,λk' s pl h'=>?_⟩
 .rw[ja _ hn]at hd;unfold lkv at hd |-;rw[W8];exact hd
 .rw[W8];refine List.nodup_append.mpr ⟨h.kn,by simp,λa ha b AD=>?_⟩;simp at AD;subst AD;intro z;subst z;refine dZ hn ?_;unfold lkv;rw[YA];exact ha
 .rw[W8];refine List.nodup_append.mpr ⟨h.an,by simp,λa ha b AD=>?_⟩;simp at AD;subst AD;obtain⟨g,hg,rfl⟩:=Xy.mp ha;exact hf g hg
 .rcases XA.mp hg with hg|hg
  .obtain⟨a,b,c,d⟩:=h.ls g hg;exact⟨a,hb _ _ (h.ne hg) b,by lia,λx hx=>(d x hx).mono kt⟩
  .rw[Xc.mp hg];exact⟨EL,hb _ _ NO hl,Xh _,λx hx=>by cases hx⟩
 .obtain⟨g,hg,r⟩:=LSub.kt kt G k' s pl h';exact⟨g,XM _ hg,r⟩
def f7(l en:WR)(g:ay×WR×List WR):ay×WR×List WR:=if g.2.1=l then(g.1,g.2.1,g.2.2++[en])else g
theorem eK(l en:WR)(g:ay×WR×List WR):(f7 l en g).1=g.1/\(f7 l en g).2.1=g.2.1:=by
 unfold f7;split <;> exact⟨D?,D?⟩
theorem LkI.app(h:LkI P w ins Al Lk H0 H la G N){g:ay×WR×List WR}(hg:g∈G){en:WR}(he:LE H ins Al Lk g.1 en):LkI P w ins Al Lk H0 (upd H g.2.1 (.lst (g.2.2.map i!++[.ref en]))) la (G.map (f7 g.2.1 en)) (N+1)/\KT H (upd H g.2.1 (.lst (g.2.2.map i!++[.ref en])))/\LSub H (upd H g.2.1 (.lst (g.2.2.map i!++[.ref en]))) G (G.map (f7 g.2.1 en))/\(∀(s:Int)(pl:List Int)(pa ka:WR)(kid:Int),H en=A? (.tup [.int s,.ref pa,.ref ka,.int kid])->H pa=A? (.tup (pl.map p!))->ii (upd H g.2.1 (.lst (g.2.2.map i!++[.ref en]))) (G.map (f7 g.2.1 en)) g.1 s pl):=by
 obtain⟨gl,ge,gn,Ud⟩:=h.ls g hg;have kt:KT H (upd H g.2.1 (.lst (g.2.2.map i!++[.ref en]))):=aL ge;have Fc:=h.ne hg;have k1:(G.map (f7 g.2.1 en)).map (·.1)=G.map (·.1):=by rw[YA];exact List.map_congr_left λx _=>(eK _ _ x).1
 have k2:(G.map (f7 g.2.1 en)).map (·.2.1)=G.map (·.2.1):=by rw[YA];exact List.map_congr_left λx _=>(eK _ _ x).2
 have k3:lkv (G.map (f7 g.2.1 en))=lkv G:=by
  unfold lkv;rw[YA];refine List.map_congr_left λx _=>?_;show((f7 g.2.1 en x).1,i! (f7 g.2.1 en x).2.1)=_;rw[(eK _ _ x).1,(eK _ _ x).2]
 refine⟨⟨ak h.sm gl,h.la0,?_,by rw[k1];exact h.kn,by rw[k2];exact h.an,λx hx=>?_,by rw[WN];have:=h.le;lia⟩,kt,λk s pl hh=>?_,λs pl pa ka kid h1 h2=>?_⟩
 .rw[k3];exact ui h.dm kt λo eo=>by rw[ai Fc.symm];exact eo
 .obtain⟨y,hy,rfl⟩:=Xy.mp hx;obtain⟨a,b,c,d⟩:=h.ls y hy;by_cases hc:y.2.1=g.2.1
  .have Ue:y=g:=by
    obtain⟨i,hi⟩:=Xi.mp hy;obtain⟨j,hj⟩:=Xi.mp hg
    have Gf:i=j:=by
     have h1:(G.map (·.2.1))[i]?=A? y.2.1:=by rw[WZ,hi];rfl
     have h2:(G.map (·.2.1))[j]?=A? y.2.1:=by rw[WZ,hj,hc];rfl
     exact(List.getElem?_inj (by have:=(glE h1);exact this) h.an).mp (h1.trans h2.symm)
    subst Gf;rw[hi]at hj;exact Xm hj
   subst Ue;unfold f7;rw[b! rfl];refine⟨a,?_,?_,λx hx=>?_⟩
   .show(upd H y.2.1 _) y.2.1=_;rw[ac];show A? (HO.lst (y.2.2.map i!++[.ref en]))=A? (.lst ((y.2.2++[en]).map i!));rw[W8];rfl
   .show(y.2.2++[en]).length<=N+1;rw[Xd];show y.2.2.length+1<=N+1;lia
   .rcases XA.mp hx with hx|hx
    .exact(d x hx).mono kt
    .rw[Xc.mp hx];exact he.mono kt
  .unfold f7;rw[a! hc];exact⟨a,by rw[ai hc];exact b,by lia,λx hx=>(d x hx).mono kt⟩
 .obtain⟨x,hx,e,a,ha,pa,ka,kid,h1,h2⟩:=hh;refine⟨f7 g.2.1 en x,Xy.mpr ⟨x,hx,D?⟩,by rw[(eK _ _ x).1];exact e,a,?_,pa,ka,kid,kt _ _ h1,kt _ _ h2⟩;unfold f7;split
  .exact XM _ ha
  .exact ha
 .refine⟨f7 g.2.1 en g,Xy.mpr ⟨g,hg,D?⟩,(eK _ _ g).1,en,?_,pa,ka,kid,kt _ _ h1,kt _ _ h2⟩;unfold f7;rw[b! rfl];exact XE _ (Xe ..)
end
theorem wU:∀{ps:List (List Int×Th)}{as:List WR},PsAtK K H ps as->∃prs:List (List Key×V),Xp (PrA H) prs as/\(∀p∈prs,∃x∈ps,p.1=x.1.map Xn/\∃a,p.2=.ref a/\AtK .i K H x.2 a)/\∀x∈ps,∃p∈prs,p.1=x.1.map Xn
 |_,_,.nil=>⟨[],.nil,(λp hp=>by cases hp),(λp hp=>by cases hp)⟩
 | _,_,.cons (a:=x) r h=>by
   obtain⟨pa,ta,h1,h2,h3⟩:=r;obtain⟨prs,g1,g2,g3⟩:=wU h;refine⟨(x.1.map Xn,.ref ta)::prs,.cons ⟨pa,h1,by rw[h2,YA];rfl⟩ g1,λp hp=>?_,λy hy=>?_⟩
   .rcases W7.mp hp with rfl|hp
    .exact⟨x,Xe ..,D?,ta,D?,h3⟩
    .obtain⟨y,hy,r⟩:=g2 p hp;exact⟨y,Xb _ hy,r⟩
   .rcases W7.mp hy with rfl|hy
    .exact⟨_,Xe ..,D?⟩
    .obtain⟨p,hp,e⟩:=g3 y hy;exact⟨p,Xb _ hp,e⟩
structure LQ(P:W6)(w:Xo)(ins:List (Xk×Int))(Al:List ay)(Lk:LkT)(H0:Hp)(la:WR)(Hb:Hp)(Gb:LG)(Hc:Hp)(Gc:LG)(n:Nat):Prop where
 lk:LkI P w ins Al Lk H0 Hc la Gc n
 sub:LSub Hb Hc Gb Gc
 fr:∀c o,Hb c=A? o->c≠la->(∀g∈Gb,g.2.1≠c)->Hc c=A? o
 dom:∀c o,Hb c=A? o->∃o',Hc c=A? o'
 ext:∀g∈Gc,(∃g0∈Gb,g0.2.1=g.2.1)\/Hb g.2.1=B?
section
variable{Lk:LkT}{H0 Hb Hc Hd:Hp}{Gb Gc Gd:LG}{m:Nat}
theorem LQ.refl(h:LkI P w ins Al Lk H0 Hb la Gb n):LQ P w ins Al Lk H0 la Hb Gb Hb Gb n:=⟨h,LSub.refl _ _,λ_ _ e _ _=>e,λc o e=>⟨o,e⟩,λg hg=>.inl ⟨g,hg,rfl⟩⟩
theorem LQ.same(h:LQ P w ins Al Lk H0 la Hb Gb Hc Gc n)(s:j! Hc Hd):LQ P w ins Al Lk H0 la Hb Gb Hd Gc n :=
 ⟨h.lk.same s,h.sub.trans (LSub.kt (k! s) _),λc o e h1 h2=>s _ _ (h.fr c o e h1 h2),λc o e=>by obtain⟨o',e'⟩:=h.dom c o e;exact⟨o',s _ _ e'⟩,h.ext⟩
theorem LQ.up(h:LQ P w ins Al Lk H0 la Hb Gb Hc Gc n)(hm:n<=m):LQ P w ins Al Lk H0 la Hb Gb Hc Gc m:=⟨h.lk.up hm,h.sub,h.fr,h.dom,h.ext⟩
theorem LQ.trans(a:LQ P w ins Al Lk H0 la Hb Gb Hc Gc n)(b:LQ P w ins Al Lk H0 la Hc Gc Hd Gd m):LQ P w ins Al Lk H0 la Hb Gb Hd Gd m:=by
 refine⟨b.lk,a.sub.trans b.sub,λc o e h1 h2=>b.fr c o (a.fr c o e h1 h2) h1 λg hg=>?_,λc o e=>?_,λg hg=>?_⟩
 .rcases a.ext g hg with⟨g0,h3,h4⟩|h3
  .rw[<-h4];exact h2 g0 h3
  .intro z;rw[z,e]at h3;cases h3
 .obtain⟨o',e'⟩:=a.dom c o e;exact b.dom c o' e'
 .rcases b.ext g hg with⟨g0,h3,h4⟩|h3
  .rw[<-h4];exact a.ext g0 h3
  .refine .inr ?_;cases hh:Hb g.2.1 with
   |none=>rfl
   | some o =>
     obtain⟨o',e'⟩:=a.dom _ o hh;rw[h3]at e';cases e'
theorem LQ.kt(h:LQ P w ins Al Lk H0 la Hb Gb Hc Gc n)(L:LkI P w ins Al Lk H0 Hb la Gb m):KT Hb Hc:=λc ys e=>by
 obtain⟨φ,el⟩:=cy L.dm;refine h.fr c _ e (λz=>by rw[z,el]at e;cases e) λg hg z=>?_;have:=(L.ls g hg).2.1;rw[z,e]at this;cases this
theorem LQ.newG(a:LQ P w ins Al Lk H0 la Hb Gb Hc Gc n){k:ay}{l:WR}{He:Hp}(hl:Hc l=B?)(hn:aN (lkv Gc) k=B?)(hb:But la (upd Hc l (.lst [])) He)(hd:DM CV P w He la (putK (lkv Gc) k (.ref l))):LQ P w ins Al Lk H0 la Hb Gb He (Gc++[(k,l,[])]) (n+1):=by
 have s1:j! Hc (upd Hc l (.lst [])):=af hl _;have L1:=a.lk.same s1
 obtain⟨h1,h2⟩:=L1.new hn hb hd (a.lk.sm.free hl) ac λg hg z=>by
  have:=(a.lk.ls g hg).2.1;rw[z,hl]at this;cases this
 refine a.trans ⟨h1,(LSub.kt (k! s1) _).trans h2,λc o e hc _=>hb c o hc (s1 _ _ e),λc o e=>?_,λg hg=>?_⟩
 .by_cases hc:c=la
  .obtain⟨φ,e'⟩:=cy hd;exact⟨_,by rw[hc];exact e'⟩
  .exact⟨o,hb c o hc (s1 _ _ e)⟩
 .rcases XA.mp hg with hg|hg
  .exact .inl ⟨g,hg,rfl⟩
  .rw[Xc.mp hg];exact .inr hl
theorem LQ.appG(a:LQ P w ins Al Lk H0 la Hb Gb Hc Gc n){g:ay×WR×List WR}(hg:g∈Gc){en:WR}(he:LE Hc ins Al Lk g.1 en):LQ P w ins Al Lk H0 la Hb Gb (upd Hc g.2.1 (.lst (g.2.2.map i!++[.ref en]))) (Gc.map (f7 g.2.1 en)) (n+1)/\∀(s:Int)(pl:List Int)(pa ka:WR)(kid:Int),Hc en=A? (.tup [.int s,.ref pa,.ref ka,.int kid])->Hc pa=A? (.tup (pl.map p!))->ii (upd Hc g.2.1 (.lst (g.2.2.map i!++[.ref en]))) (Gc.map (f7 g.2.1 en)) g.1 s pl:=by
 obtain⟨h1,h2,h3,h4⟩:=a.lk.app hg he;refine⟨⟨h1,a.sub.trans h3,λc o e hc hf=>?_,λc o e=>?_,λx hx=>?_⟩,h4⟩
 .rw[ai]
  .exact a.fr c o e hc hf
  .intro z;rcases a.ext g hg with⟨g0,h5,h6⟩|h5
   .exact hf g0 h5 (h6.trans z.symm)
   .rw[<-z,e]at h5;cases h5
 .by_cases hc:c=g.2.1
  .exact⟨_,by rw[hc];exact ac⟩
  .rw[ai hc];exact a.dom c o e
 .obtain⟨y,hy,rfl⟩:=Xy.mp hx;rw[(eK _ _ y).2];exact a.ext y hy
theorem t8{G:LG}{k:ay}{u:V}(h:aN (lkv G) k=A? u):∃g∈G,g.1=k/\u=.ref g.2.1:=by
 have:=fL h;unfold lkv at this;obtain⟨g,hg,e⟩:=Xy.mp this;cases e;exact⟨g,hg,D?,D?⟩
end
theorem zo:∀(n:Nat)(t:Th)(pre:List Int),t.size<=n->∀x∈t.pl pre,x.2.size<=t.size/\x.2.tall<=t.tall
 |0,t,_,hn=>by have:=t.size_pos;lia
 | n+1,.call a b,pre,hn=>λx hx=>by
   rw[B!]at hx;rw[Xc.mp hx];exact⟨WW _,WW _⟩
 | n+1,.knot m ks,pre,hn=>λx hx=>by
   rw[B!]at hx;rcases W7.mp hx with rfl|hx
   .exact⟨WW _,WW _⟩
   .obtain⟨j,t,ht,hx⟩:=cQ.mp hx;rw[q!]at hn;have hz:=aZ (WT ht);have G2:=ce (WT ht);obtain⟨h1,h2⟩:=zo n t _ (by lia) x hx;rw[q!,t!];lia
theorem fI(h:n<=16000000):n<Xg:=by
 have:Xg=16777216:=sizeLine_eq;lia
theorem wY:∀(n:Nat)(t:Th)(pre:List Int),t.size<=n->∀x∈t.pl pre,x.1.length<=pre.length+t.tall
 |0,t,_,hn=>by have:=t.size_pos;lia
 | n+1,.call a b,pre,hn=>λx hx=>by
   rw[B!]at hx;rw[Xc.mp hx];exact Zh _ _
 | n+1,.knot m ks,pre,hn=>λx hx=>by
   rw[B!]at hx;rcases W7.mp hx with rfl|hx
   .exact Zh _ _
   .obtain⟨j,t,ht,hx⟩:=cQ.mp hx;rw[q!]at hn;have hz:=aZ (WT ht);have G2:=ce (WT ht);have h1:=wY n t _ (by lia) x hx;rw[Xd]at h1;rw[t!];have h2:[(0:Int)+(j:Int)].length=1:=rfl;lia
structure LkR(P:W6)(w:Xo)(ins:List (Xk×Int))(Al:List ay)(Lk:LkT)(H:Hp)(la:WR)(G:LG):Prop where
 dm:DM CV P w H la (lkv G)
 ls:∀g∈G,H g.2.1=A? (.lst (g.2.2.map i!))/\∀a∈g.2.2,LE H ins Al Lk g.1 a
 kn:(G.map (·.1)).Nodup
theorem LkI.r{Lk:LkT}{H0:Hp}{G:LG}{N:Nat}(h:LkI P w ins Al Lk H0 H la G N):LkR P w ins Al Lk H la G:=⟨h.dm,λg hg=>⟨(h.ls g hg).2.1,(h.ls g hg).2.2.2⟩,h.kn⟩
theorem LkR.but{Lk:LkT}{pt:WR}{G:LG}{φ:Yd->Prop}(h:LkR P w ins Al Lk H la G)(hb:But pt H H')(e:H pt=A? (.ext φ))(hn:pt≠la):LkR P w ins Al Lk H' la G:=by
 have kt:=hb.kt e;refine⟨ui h.dm kt λo eo=>hb _ _ hn.symm eo,λg hg=>?_,h.kn⟩;obtain⟨h1,h2⟩:=h.ls g hg;exact⟨hb _ _ (λz=>by rw[z,e]at h1;cases h1) h1,λa ha=>(h2 a ha).mono kt⟩
theorem LkR.at{Lk:LkT}{G:LG}(h:LkR P w ins Al Lk H la G){g:ay×WR×List WR}(hg:g∈G){s:Int}{pl:List Int}(hh:ii H G g.1 s pl):∃a∈g.2.2,∃(pa ka:WR)(kid:Int),H a=A? (.tup [.int s,.ref pa,.ref ka,.int kid])/\H pa=A? (.tup (pl.map p!)):=by
 obtain⟨g',MY,e,r⟩:=hh
 have:g'=g:=by
  obtain⟨i,hi⟩:=Xi.mp MY;obtain⟨j,hj⟩:=Xi.mp hg;have h1:(G.map (·.1))[i]?=A? g.1:=by rw[WZ,hi,<-e];rfl
  have h2:(G.map (·.1))[j]?=A? g.1:=by rw[WZ,hj];rfl
  have Gf:i=j:=(List.getElem?_inj (by have:=(glE h1);exact this) h.kn).mp (h1.trans h2.symm);subst Gf;rw[hi]at hj;exact Xm hj
 subst this;exact r
theorem vI{G:LG}{k:ay}(h:aN (lkv G) k=B?){s:Int}{pl:List Int}:¬ii H G k s pl:=λ⟨g,hg,e,_⟩=>by
 refine dZ h ?_;unfold lkv;rw[YA];exact Xy.mpr ⟨g,hg,e⟩
theorem qZ{a b:List Int}(h:a.map p!=b.map p!):a=b:=(List.map_inj_right (λ_ _ e=>V.int.inj e)).mp h
theorem LkR.back{Lk:LkT}{G:LG}(R:LkR P w ins Al Lk H la G)(kt:KT H H'){k:ay}{s:Int}{pl:List Int}(hh:ii H' G k s pl):ii H G k s pl:=by
 obtain⟨g,hg,e,a,ha,pa,ka,kid,h1,h2⟩:=hh;obtain⟨s',Cc,BW,ES,Ef,Wu,g1,g2,_⟩:=(R.ls g hg).2 a ha;have e1:=kt _ _ g1;rw[h1]at e1;cases e1;have e2:=kt _ _ g2;rw[h2]at e2;have:pl=BW:=qZ (by injection e2 with e3;injection e3);subst this;exact⟨g,hg,e,a,ha,pa,ka,kid,g1,g2⟩
def Dk(f':List (ay×V))(s:Int)(pl:List Int):Bool:=(aN f' (nk s pl)).isSome
theorem lE{s:Int}{pl:List Int}:Dk f' s pl=C?↔nk s pl∈f'.map (·.1):=by
 unfold Dk;constructor
 .intro h;obtain⟨v,hv⟩:=ZY.mp h;exact Xy.mpr ⟨_,fL hv,rfl⟩
 .intro h;cases hv:aN f' (nk s pl)with
  |none=>exact g! h (dZ hv)
  |some v=>rfl
def iM(D:List Int->Bool)(As:List (List Int×Th)):List Th:=As.flatMap λx=>(x.2.cut D x.1).walk
theorem rB(D:List Int->Bool)(a b:List (List Int×Th)):iM D (a++b)=iM D a++iM D b:=by unfold iM;rw[List.flatMap_append]
theorem nQ(D:List Int->Bool)(pre:List Int):∀(i:Int)(ks:List Th),iM D (cX pre i ks)=walks (cr D pre i ks)
 |i,[]=>by rw[cX,cr,walks];rfl
 | i,k::ks=>by
   rw[cX,cr,walks,<-nQ D pre (i+1) ks];rfl
theorem rD(D:List Int->Bool):∀(n:Nat)(t:Th)(pre:List Int),t.size<=n->(t.cut D pre).size<=t.size
 |0,t,_,hn=>by have:=t.size_pos;lia
 |n+1,.call a b,pre,hn=>by rw[Th.cut,eC,q!];exact WW _
 | n+1,.knot m ks,pre,hn=>by
   rw[Th.cut];split
   .rw[eC,q!];lia
   .rw[q!]at hn;rw[q!,q!]
    have:∀(us:List Th)(i:Int),ao us<=n->ao (cr D pre i us)<=ao us:=λus=>by
     induction us with
     |nil=>intro i _;rw[cr];exact WW _
     | cons u us ih =>
       intro i h;rw[ao]at h;rw[cr,ao,ao];have h1:=ih (i+1) (by lia);have h2:=rD D n u (pre++[i]) (by lia);lia
    have:=this ks 0 (by lia);lia
inductive In:Th->List Int->Th->Prop
 |here {t:Th}:In t [] t
 |kid {n:Xk} {ks:List Th} {j:Nat} {u v:Th} {r:List Int} (h:ks[j]?=A? u) (i:In u r v):In (.knot n ks) ((j:Int)::r) v
theorem In.of:∀(n:Nat){t v:Th}{pl:List Int},t.size<=n->(pl,v)∈t.pl []->In t pl v
 |0,t,_,_,hn,_=>by have:=t.size_pos;lia
 | n+1,.call s k,v,pl,hn,h=>by
   rw[B!]at h;cases Xc.mp h;exact .here
 | n+1,.knot m ks,v,pl,hn,h=>by
   rw[B!]at h;rcases W7.mp h with h|h
   .cases h;exact .here
   .obtain⟨j,t,ht,hx⟩:=cQ.mp h;obtain⟨r,e,hr⟩:=dP.mp hx;dsimp only at e hr;rw[Yq,Zc]at e;rw[q!]at hn;have hz:=aZ (WT ht);have e2:pl=(j:Int)::r:=e;rw[e2];exact .kid ht (In.of n (by lia) hr)
theorem In.to{t v:Th}{pl:List Int}(h:In t pl v):(pl,v)∈t.pl []:=by
 induction h with
 |here=>exact dk _ _
 | kid h i ih =>
   refine gK h (dP.mpr ⟨_,?_,ih⟩);rfl
theorem In.iff{t v:Th}{pl:List Int}:(pl,v)∈t.pl []↔In t pl v:=⟨In.of _ (WW _),In.to⟩
structure FrK(ins outs:List (Xk×Int))(rows:List (List Th)):Prop where
 gi:cN ins
 fit:yZ ins outs (rows.length:Nat) rows
 le:rows.length<=20
 sz:∀row∈rows,∀p∈row,p.size<=200/\p.tall<=100
theorem FrK.mkd(F:FrK ins outs rows){l:Int}(h0:0<=l)(h1:l<(rows.length:Nat)):∃row p,rows[l.toNat]?=A? row/\row[df ins]?=A? p/\mkF ins rows l=p/\p.size<=200/\p.tall<=100/\p.FitS outs (rows.length:Nat) 0:=by
 obtain⟨k0,Co,Jq⟩:=r8 F.gi;have hI:=jt Co;obtain⟨row,hr,er,hl,_⟩:=m5 F.fit h0 h1;have Ug:=(glE hI);obtain⟨p,hp⟩:∃p,row[df ins]?=A? p:=⟨_,WS (by lia)⟩;have hm:=WT hr;obtain⟨z1,z2⟩:=F.sz row hm p (WT hp);have hf:=(F.fit.row row hm).2 _ p k0 hp hI;rw[Jq]at hf;exact⟨row,p,hr,hp,by unfold mkF;rw[er,List.getD,hp];rfl,z1,z2,hf⟩
def frS(ins:List (Xk×Int))(rows:List (List Th))(s:Nat):Th:=frF (mkF ins rows) (mkF ins rows (s:Nat)) ((rows[s]?).getD [])
inductive Met(ins:List (Xk×Int))(rows:List (List Th)):Nat->List Int->Prop
 |hol {s i:Nat} {row:List Th} {x:List Int×Th} (hr:rows[s]?=A? row) (hi:i<=row.length) (hx:x∈(frF (mkF ins rows) (mkF ins rows (s:Nat)) (row.take i)).pl []) (hh:x.2.isHole=C?):Met ins rows s x.1
 |lnk {s:Nat} {row:List Th} {p u:Th} {c:List Int×Int×Int} {x:List Int×Th} (hr:rows[s]?=A? row) (hp:p∈row) (hc:c∈callsOf (p.pl [])) (hu:(c.1,u)∈(frS ins rows s).pl []) (hx:x∈u.pl []) (m:Met ins rows c.2.1.toNat x.1):Met ins rows s (c.1++x.1)
def Lk0(ins:List (Xk×Int))(rows:List (List Th)):LkT:=λk s pl kd kid=>∃(sn:Nat)(row:List Th)(i:Nat)(p:Th)(q x:List Int)(l:Int),s=(sn:Nat)/\rows[sn]?=A? row/\row[i]?=A? p/\ins[i]?=A? kd/\In p q (.call l kid)/\k=nk l x/\pl=q++x/\(∃u y,(q,u)∈(frS ins rows sn).pl []/\(x,y)∈u.pl [])
theorem wv{ks:List (Xk×Int)}{n:Xk}{us:List Th}(h:(o! n us).FitS ks S C){u:Th}(hu:us[j]?=A? u):u.FitS ks S C:=by
 rw[u!]at h;exact FitSs.mem' h.2 u (WT hu)
theorem In.fit{ks:List (Xk×Int)}{p v:Th}{q:List Int}(h:In p q v):p.FitS ks S C->v.FitS ks S C:=by
 induction h with
 |here=>exactλh=>h
 |kid h i ih=>exactλhf=>ih (wv hf h)
def gL(ins:List (Xk×Int))(n:Nat)(kid:Int)(t:Th):List Th:=(Xq n).map λ(i:Nat)=>if(i:Int)=kid then t else eG ins
theorem l7(ins:List (Xk×Int))(n:Nat)(kid:Int)(t:Th):(gL ins n kid t).length=n:=by unfold gL;rw[WN,Xj]
def VlM(ins:List (Xk×Int))(rows:List (List Th)):VlT:=λ_ k _ _=>∃(s:Nat)(pl:List Int),k=nk (s:Nat) pl/\Met ins rows s pl
theorem wt{s:Nat}{row:List Th}(Af:rows[s]?=A? row)(i:Nat)(p:Th)(kd:Xk×Int)(pl:List Int)(u:Th)(j:Nat)(hp:row[i]?=A? p)(hk:ins[i]?=A? kd)(hu:(pl,u)∈(frF (mkF ins rows) (mkF ins rows (s:Nat)) (row.take (i+1))).pl [])(hh:u.isHole=C?)(hv:∀v,(pl,v)∈(frF (mkF ins rows) (mkF ins rows (s:Nat)) (row.take i)).pl []->v.isHole=CV):VlM ins rows j (nk (s:Nat) pl) (eG ins) (.knot kd.1 (List.replicate kd.2.toNat (eG ins))) :=
 ⟨s,pl,rfl,.hol (x:=(pl,u)) (i:=i+1) Af (by have:=(glE hp);lia) hu hh⟩
theorem yz(F:FrK ins outs rows)(i j:Nat)(k:ay)(t1 t2:Th)(s:Int)(pl:List Int)(kd:Xk×Int)(kid:Int)(Gf:i<j)(hv:VlM ins rows i k t1 t2)(hk:kd∈ins)(hL:Lk0 ins rows k s pl kd kid)(t3 t4:Th):VlM ins rows j (nk s pl) t3 t4:=by
 obtain⟨s',BW,e,NP⟩:=hv;obtain⟨sn,row,i',p,q,x,l,rfl,hr,hp,hi,B7,e2,rfl,u0,y0,NQ,Ek⟩:=hL;have e3:=e.symm.trans e2;obtain⟨rfl,rfl⟩:=vX e3;exact⟨sn,q++BW,D?,.lnk (c:=(q,((s':Nat):Int),kid)) (x:=(BW,y0)) hr (WT hp) (cO.mpr (In.to B7)) NQ Ek (by rw[XH];exact NP)⟩
theorem yu(hn:(f'.map (·.1)).Nodup){p:ay×V}(h:f'[j]?=A? p)(hv:aN f' p.1=A? v):v=p.2:=by
 obtain⟨i,hi⟩:=Xi.mp (fL hv);have h1:(f'.map (·.1))[i]?=A? p.1:=by rw[WZ,hi];rfl
 have h2:(f'.map (·.1))[j]?=A? p.1:=by rw[WZ,h];rfl
 have Gf:i=j:=(List.getElem?_inj (by have:=(glE h1);exact this) hn).mp (h1.trans h2.symm);subst Gf;rw[h]at hi;have e:=Xm hi;rw[e]
theorem vR{s:Nat}{row:List Th}(h:rows[s]?=A? row):frS ins rows s=frF (mkF ins rows) (mkF ins rows (s:Nat)) row:=by
 unfold frS;rw[h];rfl
structure FrD(ins:List (Xk×Int))(rows:List (List Th))(ks:List ay):Prop where
 hl:∀(s i:Nat)(row:List Th),rows[s]?=A? row->i<=row.length->∀x∈(frF (mkF ins rows) (mkF ins rows (s:Nat)) (row.take i)).pl [],x.2.isHole=C?->nk (s:Nat) x.1∈ks
 cl:∀(s:Nat)(row:List Th),rows[s]?=A? row->∀p∈row,∀c∈callsOf (p.pl []),∀u,(c.1,u)∈(frS ins rows s).pl []->∀x∈u.pl [],nk c.2.1 x.1∈ks->nk (s:Nat) (c.1++x.1)∈ks
theorem FrD.hol{ks:List ay}(h:FrD ins rows ks)(s:Nat)(hs:s<rows.length):∀x∈(frS ins rows s).pl [],x.2.isHole=C?->nk (s:Nat) x.1∈ks:=λx hx hh=>by
 obtain⟨row,hr⟩:∃row,rows[s]?=A? row:=⟨_,WS hs⟩;rw[vR hr]at hx;exact h.hl s row.length row hr (WW _) x (by rw[Yh];exact hx) hh
theorem FrD.met(F:FrK ins outs rows){ks:List ay}(h:FrD ins rows ks){s:Nat}{pl:List Int}(m:Met ins rows s pl):nk (s:Nat) pl∈ks:=by
 induction m with
 |hol hr hi hx hh=>exact h.hl _ _ _ hr hi _ hx hh
 | lnk hr hp hc hu hx m ih =>
   rename_i s row p u c x
   refine h.cl _ _ hr _ hp _ hc _ hu _ hx ?_;obtain⟨j,hj⟩:=Xi.mp hp;have C8:=(F.fit.row row (WT hr)).1;obtain⟨k0,Co⟩:∃k0,ins[j]?=A? k0:=⟨_,WS (by have:=(glE hj);lia)⟩;have:=gY p [] ((F.fit.row row (WT hr)).2 j p k0 hj Co) c hc;rw[Yu this.1]at ih;exact ih
def KeyM(ins:List (Xk×Int))(rows:List (List Th))(f':List (ay×V)):Prop:=∀(s:Nat)(pl:List Int),Dk f' (s:Nat) pl=C?↔Met ins rows s pl
theorem yF(F:FrK ins outs rows)(h:FrD ins rows (f'.map (·.1)))(hv:∀p∈f',∃j t1 t2,VlM ins rows j p.1 t1 t2):KeyM ins rows f':=λs pl=>by
 constructor
 .intro hd;obtain⟨p,hp,e⟩:=Xy.mp (lE.mp hd);obtain⟨j,t1,t2,s',BW,e2,hm⟩:=hv p hp;have e3:=e2.symm.trans e;obtain⟨e4,rfl⟩:=vX e3;have:s'=s:=by lia
  subst this;exact hm
 .exactλm=>lE.mpr (h.met F m)
theorem KeyM.eq{k1 k2:List (ay×V)}(h1:KeyM ins rows k1)(h2:KeyM ins rows k2)(s:Nat):Dk k1 (s:Nat)=Dk k2 (s:Nat):=funext λpl=>by
 rw[Bool.eq_iff_iff,h1,h2]
end BB
namespace L2
open PySem PySem.Spec PyProof.Rows
def xJ(K:WQ)(a:WR):It:=⟨λi H=>∃xs x,SqL K H a xs/\xs[i]?=A? x,λi H x H'=>∃p y,H p=B?/\x=.ref p/\H'=upd H p (.tup [.int (i:Nat),y])/\∀xs,SqL K H a xs->xs[i]?=A? y,λi H=>∃xs,SqL K H a xs/\xs.length=i⟩
theorem sF{k1}(a e it:WR):Turn P w K (.Tuple elts k1 pos) (xJ K a) [e,it] e (λi h=>(∃old,IsEnum h e it ((i:Nat):Int) old)/\h.IsListIter it a i) where
 mem:=by simp
 obj:=λi h st b hb=>by
  obtain⟨⟨old,he⟩,o,e1,e2,e3⟩:=st;rcases W7.mp hb with rfl|hb
  .exact⟨_,he,λv z=>by cases z⟩
  .have:b=it:=by simpa using hb
   subst this;exact⟨o,e1,λv z=>by rw[e3]at z;cases z⟩
 keep:=λi h h' st k=>by
  obtain⟨⟨old,he⟩,o,e1,e2⟩:=st;exact⟨⟨old,k e (by simp) _ he⟩,o,k it (by simp) _ e1,e2⟩
 item:=by
  intro X hP hw hK hc i U s Z H E I hf st hg;subst hP hw hK;obtain⟨xs,x,hq,hx⟩:=hg;obtain⟨its,rv,p,hz⟩:=I.list hq;obtain⟨u,hu,ru⟩:=rv.get hx;obtain⟨⟨old,he⟩,hi⟩:=st
  have GI:e≠it:=by
   rintro rfl;obtain⟨o,e1,e2,_⟩:=hi;rw[he]at e1;cases e1;exact g! (YT e2) (by decide)
  have GJ:a≠it:=by
   rintro rfl;obtain⟨o,e1,e2,_⟩:=hi;obtain⟨o',CD,Cj,_⟩:=p.isList;rw[CD]at e1;cases e1;rw[Cj]at e2;exact g! (YT e2) (by decide)
  have M1:a≠e:=by
   rintro rfl;obtain⟨o',CD,Cj,_⟩:=p.isList;rw[he]at CD;cases CD;exact g! (YT Cj) (by decide)
  have Ak:i<its.toArray.size:=by
   have:=(glE hu);simpa using this
  have M3:e<s.1.1.size:=Xa he;have Ck:it<s.1.1.size:=by obtain⟨o,e1,_⟩:=hi;exact Xa e1
  refine wpAny_pyNext_enum_itemD (Draws.list (A:=X.A.in1) (show X.A.in1.handled=B? from I.ok.hd hc) it a GJ its.toArray) he ⟨hi,p.isList⟩ Ak GI (by simp[GI,M1.symm]) λy h1 tk hy ho M4 hT hsz hk=>?_
  have M5:y=u:=by
   have:its[i]?=A? y:=by simpa using hy
   rw[hu]at this;exact(Xm this).symm
  subst M5;refine⟨_,D?,wpAny_letOwnedTupleGo_enum ho λh2 M6 DB=>?_⟩;replace DB:YG e h1 h2:=DB
  have Ap:∀b∈[e,it],b<s.1.1.size:=λb hb=>by
   rcases W7.mp hb with rfl|hb
   .exact M3
   .have:b=it:=by simpa using hb
    subst this;exact Ck
  have Jg:H s.1.1.size=none:=I.hok.fresh (WW _)
  have IA:Inv X U Z (upd H s.1.1.size (.tup [.int (i:Nat),x])) {s with heap:=s.1.push {cls:=.type "tuple",data:=.seq #[.int (i:Nat) tk,y]},toks:=tk} :=
   I.laid (o:=.tup [.int (i:Nat),x]) (λb ob q=>WV _ q) (WW _) ⟨by show 2<=Xg;decide,[.int (i:Nat) tk,y],0,.cons ⟨tk,rfl⟩ (.cons ru .nil),W5 _ rfl⟩
  refine⟨.ref s.1.1.size,upd H s.1.1.size (.tup [.int (i:Nat),x]),?_,D?,⟨_,x,Jg,D?,D?,λys Jc=>by rw[I.list_inj Jc hq];exact hx⟩,⟨⟨y,by simpa using M6⟩,?_⟩,λb hb=>?_⟩
  .have IB:Inv X U Z (upd H s.1.1.size (.tup [.int (i:Nat),x])) {s with heap:=h2,toks:=tk+1}:=by
    refine Inv.turnedL (s:={s with heap:=s.1.push {cls:=.type "tuple",data:=.seq #[.int (i:Nat) tk,y]},toks:=tk}) (h':=h2) (fp:=[e,it]) (t':=tk+1) IA (λb o hb q=>?_) λb hb=>?_
    .have Dx:b≠e:=λz=>hb (by simp[z]);have M7:b≠it:=λz=>hb (by simp[z]);rw[DB.2 b Dx];by_cases hb2:b=s.1.1.size
     .subst hb2;rw[hT];have q':(s.1.push {cls:=.type "tuple",data:=.seq #[.int (i:Nat) tk,y]}).get? s.1.1.size=A? o:=q;rw[W5 _ rfl]at q';exact q'
     .have Bf:b<(s.1.push {cls:=.type "tuple",data:=.seq #[.int (i:Nat) tk,y]}).objs.size:=Xa q;rw[X3]at Bf;refine hk b o Dx M7 ?_;have q':(s.1.push {cls:=.type "tuple",data:=.seq #[.int (i:Nat) tk,y]}).get? b=A? o:=q;rw[Heap.get?_push_ne _ _ _ hb2]at q';exact q'
    .obtain⟨f0,f1⟩:=hf b hb;exact⟨by rw[ai (XB (Ap b hb))];exact f0,f1⟩
   exact IB
  .obtain⟨o,e1,r⟩:=M4.1;exact⟨o,(DB.2 it (YR GI)).trans e1,r⟩
  .rw[ai (XB (Ap b hb))];exact(hf b hb).1
 done:=by
  intro X hP hw hK hc i U s Z H E I hf st hg;subst hP hw hK;obtain⟨xs,hq,hx⟩:=hg;obtain⟨its,rv,p,hz⟩:=I.list hq;obtain⟨⟨old,he⟩,hi⟩:=st
  have GJ:a≠it:=by
   rintro rfl;obtain⟨o,e1,e2,_⟩:=hi;obtain⟨o',CD,Cj,_⟩:=p.isList;rw[CD]at e1;cases e1;rw[Cj]at e2;exact g! (YT e2) (by decide)
  have hn:its.toArray.size=i:=by
   have:=rv.length;rw[W4];lia
  refine wpAny_pyNext_enum_endD (Draws.list (A:=X.A.in1) (show X.A.in1.handled=B? from I.ok.hd hc) it a GJ its.toArray) he (by rw[hn];exact⟨hi,p.isList⟩) λh' eb=>⟨rfl,?_⟩;exact I.turnedL (fp:=[e,it]) (t':=s.toks) (λb o hb q=>eb b o (λz=>hb (by simp[z])) q) hf
 self:=λ_ _ _ _ _ st h=>by
  obtain⟨⟨old,he⟩,_⟩:=st;exact wpAny_pyIter_enum he h
section
variable{X:Cx}{p2 Av:Z2}
def aaG(K:WQ)(tl:TE):TI:=λZ H R=>tl Z H λx H1=>∃a,x=.ref a/\(∃xs,SqL K H1 a xs)/\R (xJ K a) H1
theorem lg{k1}(g2:Gl X "enumerate")(m2:X.mg "enumerate"=B?)(he:PE X e te)(h2:XF [e] X.env=[(CV,YY e X.env)]:=by rfl):PI X (.Tuple elts k1 pos) (.Call (.Name "enumerate" p2) [e] [] Av) (aaG X.K te):=by
 intro U s Z H R I h;refine X5 (cJ I g2 m2 boot_enumerate (XQ ?_ h2 rfl));rw[h2];show W9 _ _ (spliced ((CV,YY e X.env)::[])) _ _ s;refine YE (thn (he U s Z H _ I h) λu s1⟨x,H1,I1,r1,a,ex,⟨xs,hq⟩,q⟩=>Y2 ?_);subst ex;cases r1;obtain⟨its,rv,p,hz⟩:=I1.list hq;refine call_enumerate_list (show s1.1.IsList a its.toArray from p.isList) λh' g1 g2 g3 g4=>?_;refine wpAny_pyIter_enum (s:={s1 with heap:=h'}) g1 ?_;refine⟨s1.1.1.size+1,[s1.1.1.size+1,s1.1.1.size],_,_,H1,D?,I1.kept (t':=s1.toks) g4,sF a _ _,⟨⟨_,g1⟩,g2⟩,λb hb=>?_,q⟩
 have AD:s1.1.1.size<=b:=by
  rcases W7.mp hb with rfl|hb
  .lia
  .have:b=s1.1.1.size:=by simpa using hb
   exact Nat.le_of_eq this.symm
 exact I1.fpOk AD (I1.hok.fresh AD)
end
theorem nE(Pv:Nat->St->Hp->Prop)(h0:Pv 0 Z H)(hl:∀i Z H,i<=xs.length->Pv i Z H->SqL K H a xs)
 (hs:∀i x p Z H,xs[i]?=A? x->H p=B?->Pv i Z H->g (.ref p) Z (upd H p (.tup [.int (i:Nat),x])) λAx H2=>tb {D with nx:=Pv (i+1),ct:=Pv (i+1),bk:=D.nx} Ax H2) (hd:∀Z H,Pv xs.length Z H->D.nx Z H) :
 ∃W:Nat->Nat->St->Hp->Prop,(∃m,W 0 m Z H)/\∀i m Z H,W i m Z H ->
   ((xJ K a).stop i H/\D.nx Z H)\/((xJ K a).go i H/\∃N:St->Hp->Prop,(∀Aa H',N Aa H'->∃m',m'<m/\W (i+1) m' Aa H')/\∀x H',(xJ K a).yld i H x H'->g x Z H' λAx H2=>tb {D with nx:=N,ct:=N,bk:=D.nx} Ax H2):=by
 refine⟨λi m Z H=>m=xs.length - i/\i<=xs.length/\Pv i Z H,⟨xs.length,by simp,Xh _,h0⟩,?_⟩;rintro i m Z H ⟨rfl,hi,p⟩;have q:=hl i Z H hi p;by_cases Ak:i<xs.length
 .refine .inr ⟨⟨xs,xs[i],q,by simp[Ak]⟩,Pv (i+1),λAa H' p'=>⟨xs.length - (i+1),by lia,rfl,Ak,p'⟩,λx H' y=>?_⟩;obtain⟨pa,y,hp,rfl,rfl,hy⟩:=y;exact hs i y pa Z H (hy xs q) hp p
 .have e:i=xs.length:=by lia
  subst e;exact .inl ⟨⟨xs,q,rfl⟩,hd Z H p⟩
section
variable{X:Cx}{o i:X7}{td ty:TE}
def zX(P:W6)(w:Xo)(H:Hp)(a:WR)(y v:V):Prop:=DGet H a y (A? v)\/∃(fl:Bool)(b:WR)(k:ay)(f':List (ay×V)),y=.ref b/\DM fl P w H a f'/\MKAt fl H k b/\aN f' k=A? v
def aak(P:W6)(w:Xo)(td ty:TE):TE:=λZ H Q=>td Z H λx H1=>ty Z H1 λy H2=>∃a v,x=.ref a/\zX P w H2 a y v/\Q v H2
theorem xC(hu:X.A.units+2<YJ)(ho:PE X o td)(hi:PE X i ty)(hs:y9 i):PE X (.Subscript o i pos) (aak X.prog X.w td ty):=by
 intro U s Z H Q I h;refine oB PySem.F.slot_dict_getitem.lookup hs (thn (ho U s Z H _ I h) λu s1⟨x,H1,I1,rx,q1⟩=>thn (hi U s1 Z H1 _ I1 q1) λiv s2⟨y,H2,I2,ry,a,v,ex,g,q⟩=>?_);subst ex;obtain rfl:u=Xl a:=rx;rcases g with g|⟨fl,b,k,f',rfl,hd,hk,hv⟩
 .exact⟨j5 I2 g,nO (Nat.lt_of_succ_lt hu) I2 g ry λw' s3 I3 Cv=>⟨v,H2,I3,Cv,q⟩⟩
 obtain rfl:iv=Xl b:=ry;obtain⟨_,_,xs,φ,ea,rel,dd⟩:=jn I2.hok hd;obtain⟨w',hw,Cv⟩:=RelO.some_of (v:=v) (o:=(atKey xs k).map (·.2)) (by rw[<-hv];exact KTm.val rel k);obtain⟨p,hp,Bs⟩:=XI.mp hw;refine⟨dd.typeIs,wpAny_getItem_heap (knd:=b9 fl X.prog X.w) (show X.A.units+1+1<YJ from hu) (fg I2.hok hk) dd hp ?_⟩;rw[Bs];exact⟨v,H2,I2.tok _,Cv,q⟩
end
open BB
open PySem.Calls
abbrev cL(z:List (Int×Nat×Z2)×Z2):X7:=.List (z.1.map cI) z.2
def wG(zs:List Int):TA:=λ_ H Q=>Q (zs.map p!) H
theorem uA{X:Cx}:∀(zs:List (Int×Nat×Z2)),PA X (zs.map cI) (wG (zs.map (·.1)))
 | []=>ab
 | z::zs=>by
   have h:PA X (cI z::zs.map cI) (aI (tC (.int z.1)) (wG (zs.map (·.1)))):=aa (X:=X) ag (uA zs) rfl;exact h
def uW:List (List Int)->TA
 | []=>cK
 |z::zs=>aI (wT (wG z)) (uW zs)
theorem wD{X:Cx}:∀(zs:List (List (Int×Nat×Z2)×Z2)),PA X (zs.map cL) (uW (zs.map λz=>z.1.map (·.1)))
 | []=>ab
 |z::zs=>aa (X:=X) (bx (uA z.1)) (wD zs) rfl
theorem aav{X:Cx}(zs:List (List (Int×Nat×Z2)×Z2)):PE X (.List (zs.map cL) pos) (wT (uW (zs.map λz=>z.1.map (·.1)))):=bx (wD zs)
theorem nW{X:Cx}{i:Nat}{x:Xk}{p0 p1 p2 p3:Z2}{e:X7}{te:TE}(zs:List (List (Int×Nat×Z2)×Z2))(hN:X.N.Nodup)(hi:X.N[i]?=A? x)(hx:Loc X.env.scope x)(hf:X.fn x=C?\/X.env.scope.names.lookup x=A? .local)(he:PE X e te)(hs:tH e) :
 PS X (.Assign [.Name x p0] (.Subscript (.List (zs.map cL) p1) e p2) p3) (xP (tOp (xy X.K) (wT (uW (zs.map λz=>z.1.map (·.1)))) te) (av i)):=vC hN hi hx (aA bD (aav zs) he hs) rfl hf
theorem pV:∀(zs:List (List Int))(Z:St)(H:Hp)(Q:List V->Hp->Prop),(∀z∈zs,z.length<=1000)->(∀(as:List WR)(H':Hp),j! H H'->Xp (λz a=>H' a=A? (.lst (z.map p!))) zs as->Q (as.map i!) H')->uW zs Z H Q
 | [],Z,H,Q,_,q=>q [] H (.refl _) .nil
 | z::zs,Z,H,Q,hz,q=>by
   have hl:=hz z (Xe ..);refine⟨cT (by rw[WN];lia),λp hp=>?_⟩;refine gU hp λH1 s1 e1=>?_;refine pV zs Z H1 _ (λy hy=>hz y (Xb _ hy)) λas H' s2 h2=>?_;exact q (p::as) H' (s1.trans s2) (.cons (s2 _ _ e1) h2)
theorem j1{zs:List (List Int)}{Q:VK}(hz:∀z∈zs,z.length<=1000)(hl:zs.length<=1000)(q:∀(D:WR)(as:List WR)(H1:Hp),j! H H1->H1 D=A? (.lst (as.map i!))->Xp (λz a=>H1 a=A? (.lst (z.map p!))) zs as->te Z H1 λy H2=>xy K (.ref D) y H2 Q):tOp (xy K) (wT (uW zs)) te Z H Q:=by
 refine pV zs Z H _ hz λas H1 s1 h1=>⟨cT (by rw[WN,<-W3 h1];lia),λp hp=>?_⟩;exact q p as _ (s1.trans (af hp _)) ac (x! (λ_ _ e=>(af hp _) _ _ e) h1)
end L2
namespace BB
open PySem L2
mutual
def Th.nh:Th->Nat
 |.knot n ks=>if(o! n ks).isHole=C? then 1 else nhs ks
 |.call _ _=>0
def nhs:List Th->Nat
 | []=>0
 |t::ts=>t.nh+nhs ts
end
mutual
def Th.hg(g:Nat->Th):Th->Nat->Th
 |.knot n ks,i=>if(o! n ks).isHole=C? then g i else .knot n (hgs g ks i)
 |.call s k,_=>.call s k
def hgs(g:Nat->Th):List Th->Nat->List Th
 | [],_=>[]
 |t::ts,i=>t.hg g i::hgs g ts (i+t.nh)
end
theorem pz(g:Nat->Th):∀(ts:List Th)(i:Nat),(hgs g ts i).length=ts.length
 | [],i=>by rw[hgs]
 |t::ts,i=>by rw[hgs,W2,W2,pz g ts]
theorem oX{n:Xk}{ks us:List Th}(hl:ks.length=us.length)(hh:(o! n ks).isHole=CV)(h:bc ks us=C?):(o! n ks).lies (.knot n us)=true:=by
 rw[w!,f9 hh hl,show(o! n us).kids=us from rfl,h,Bool.or_comm];rfl
theorem iN{f t:Th}(h:f.isHole=C?):f.lies t=true:=by rw[pe h];exact iL _
mutual
theorem fZ(g:Nat->Th):∀(f:Th)(i:Nat),f.noCall->f.lies (f.hg g i)=C?
 | .knot n ks,i,h=>by
   cases hh:(o! n ks).isHole with
   |true=>exact iN hh
   | false =>
     rw[Th.hg,a! (by rw[hh];exact W0)];exact oX (pz ..).symm hh (qm g ks i h)
 |.call s k,i,h=>by rw[v!]at h;exact h.elim
theorem qm(g:Nat->Th):∀(fs:List Th)(i:Nat),ba fs->bc fs (hgs g fs i)=C?
 | [],i,h=>by rw[bc]
 | f::fs,i,h=>by
   rw[ba]at h;rw[hgs,bc,fZ g f i h.1,qm g fs _ h.2];rfl
end
mutual
theorem rb:∀(pre:List Int)(f t:Th),f.lies t=C?->(f.hw pre t).length=f.nh
 | pre,.knot n ks,t,h=>by
   rcases cH h with hh|⟨n',Ih,us,e1,rfl,e3,hh,_,hl⟩
   .rw[iR hh,Th.nh,b! hh];rfl
   .cases e1;rw[Th.hw,Th.nh,a! (by rw[hh];exact W0),a! (by rw[hh];exact W0)];exact xV pre 0 ks us e3 hl
 |pre,.call s k,t,h=>by rw[w!]at h;cases h
theorem xV:∀(pre:List Int)(i:Int)(ks us:List Th),ks.length=us.length->bc ks us=C?->(hws pre i ks us).length=nhs ks
 |pre,i,[],us,_,_=>by rw[hws,nhs];rfl
 |pre,i,k::ks,[],e,_=>by simp at e
 | pre,i,k::ks,u::us,e,h=>by
   rw[bL,X4]at h;rw[hws,Xd,nhs,rb _ k u h.1,xV pre (i+1) ks us (by simpa using e) h.2]
end
mutual
theorem vS(g:Nat->Th):∀(pre:List Int)(f:Th)(i:Nat),f.noCall->(f.hw pre (f.hg g i)).map (·.2)=(List.range' i f.nh).map g
 | pre,.knot n ks,i,h=>by
   cases hh:(o! n ks).isHole with
   | true =>
     rw[iR hh,Th.hg,Th.nh,b! hh,b! hh];rfl
   | false =>
     rw[Th.hg,Th.nh,a! (by rw[hh];exact W0),a! (by rw[hh];exact W0),Th.hw,a! (by rw[hh];exact W0)];exact xM g pre 0 ks i h
 |pre,.call s k,i,h=>by rw[v!]at h;exact h.elim
theorem xM(g:Nat->Th):∀(pre:List Int)(c:Int)(fs:List Th)(i:Nat),ba fs->(hws pre c fs (hgs g fs i)).map (·.2)=(List.range' i (nhs fs)).map g
 |pre,c,[],i,h=>by rw[hws,nhs];rfl
 | pre,c,f::fs,i,h=>by
   rw[ba]at h;rw[hgs,hws,nhs,W8,vS g _ f i h.1,xM g pre (c+1) fs (i+f.nh) h.2,<-W8,List.range'_append_1]
end
mutual
theorem lW:∀(f a b:Th),f.lies a=C?->a.lies b=C?->f.lies b=C?
 | .knot n ks,a,b,h,g=>by
   rcases cH h with hh|⟨n',Ih,us,e1,rfl,e3,hh,_,hl⟩
   .exact iN hh
   .cases e1;rcases cH g with gh|⟨n',Ua,vs,e1,rfl,e4,gh,_,gl⟩
    .rw[A!,decide_eq_true_iff]at gh;rw[A!,decide_eq_false_iff_not]at hh;exact g! ⟨gh.1,Yi.mp (by rw[e3,gh.2];rfl)⟩ hh
    .cases e1;exact oX (e3.trans e4) hh (j6 ks us vs e3 e4 hl gl)
 |.call s k,a,b,h,g=>by rw[w!]at h;cases h
theorem j6:∀(fs as bs:List Th),fs.length=as.length->as.length=bs.length->bc fs as=C?->bc as bs=C?->bc fs bs=C?
 | [],as,bs,_,_,_,_=>by rw[bc]
 |f::fs,[],bs,e,_,_,_=>by simp at e
 |f::fs,a::as,[],_,e,_,_=>by simp at e
 | f::fs,a::as,b::bs,e1,e2,h,g=>by
   rw[bL,X4]at h g;rw[bL,lW f a b h.1 g.1,j6 fs as bs (by simpa using e1) (by simpa using e2) h.2 g.2];rfl
end
mutual
theorem nR{A B:Int->Int->Th}(JL:∀s k,0<=s->s<S->0<=k->k<C->(A s k).lies (B s k)=C?):∀(p f:Th),p.FitS BX S C->f.lies (p.fill A)=C?->f.lies (p.fill B)=C?
 | .call s k,f,hp,h=>by
   rw[u!]at hp;rw[C!]at h |-;exact lW _ _ _ h (JL s k hp.1 hp.2.1 hp.2.2.1 hp.2.2.2)
 | .knot m ps,f,hp,h=>by
   rw[u!]at hp;rw[C!]at h |-;rcases cH h with hh|⟨n',ks,us,rfl,e2,e3,hh,_,hl⟩
   .exact iN hh
   .cases e2;exact oX (by rw[e3,eB,eB,WN,WN]) hh (mH JL ps ks hp.2 hl)
theorem mH{A B:Int->Int->Th}(JL:∀s k,0<=s->s<S->0<=k->k<C->(A s k).lies (B s k)=C?):∀(ps fs:List Th),FitSs BX S C ps->bc fs (fills A ps)=C?->bc fs (fills B ps)=C?
 | [],fs,hp,h=>by rw[fills]at h |-;exact h
 |p::ps,[],hp,h=>by rw[bc]
 | p::ps,f::fs,hp,h=>by
   rw[FitSs]at hp;rw[fills,bL,X4]at h;rw[fills,bL,nR JL p f hp.1 h.1,mH JL ps fs hp.2 h.2];rfl
end
mutual
theorem vE:∀(pre:List Int)(f t:Th),∀x∈f.hw pre t,∃r,x.1=pre++r/\t.sub r=A? x.2
 | pre,.knot n ks,t,x,hx=>by
   rw[Th.hw]at hx;by_cases hh:(o! n ks).isHole=C?
   .rw[b! hh]at hx;rw[Xc.mp hx];exact⟨[],(Xs _).symm,f6 t⟩
   .rw[a! hh]at hx;obtain⟨j,u,r,h1,h2,h3⟩:=tJ pre 0 ks t.kids x hx;rw[Yq]at h2;exact⟨_,h2,by rw[pS (Int.natCast_nonneg j) (by rw[XH];exact h1)];exact h3⟩
 |pre,.call s k,t,x,hx=>by rw[Th.hw]at hx;cases hx
theorem tJ:∀(pre:List Int)(i:Int)(ks us:List Th),∀x∈hws pre i ks us,∃(j:Nat)(u:Th)(r:List Int),us[j]?=A? u/\x.1=pre++((i+(j:Int))::r)/\u.sub r=A? x.2
 |pre,i,[],us,x,hx=>by rw[hws]at hx;cases hx
 |pre,i,k::ks,[],x,hx=>by rw[hws]at hx;cases hx
 | pre,i,k::ks,u::us,x,hx=>by
   rw[hws]at hx;rcases XA.mp hx with hx|hx
   .obtain⟨r,h1,h2⟩:=vE (pre++[i]) k u x hx;exact⟨0,u,r,D?,by rw[h1,XJ];simp,h2⟩
   .obtain⟨j,v,r,h1,h2,h3⟩:=tJ pre (i+1) ks us x hx;exact⟨j+1,v,r,by simpa using h1,by rw[h2,show i+((j+1:Nat):Int)=i+1+(j:Int)by lia],h3⟩
end
theorem tL:∀{ts:List Th}{t:Th},t∈ts->t.kn<=kns ts/\cnT t<=cD ts
 | u::ts,t,h=>by
   rw[kns,cD];rcases W7.mp h with rfl|h
   .lia
   .have:=tL h;lia
theorem m8:∀{r:List Int}{t u:Th},t.sub r=A? u->Small t->Small u
 | [],t,u,h,hs=>by
   rw[f6]at h;cases h;exact hs
 | i::r,t,u,h,hs=>by
   obtain⟨h0,w,hw,h⟩:=tN h;have hm:=WT hw;have h1:=tL hm;have h2:=zJ t;have h3:=zF t;have h4:=t.tall_eq;have h5:=ce hm;obtain⟨a,b,c⟩:=hs;exact m8 h ⟨by lia,by lia,by lia⟩
def hgF(F:Nat->Th)(l k:Int):Th:=(F l.toNat).hg (λj=>.call (enc l (j:Nat)) k) 0
mutual
theorem sY{g:Nat->Th}(hg:∀j,(g j).size<=1/\(g j).tall<=1):∀(f:Th)(i:Nat),(f.hg g i).size<=f.size/\(f.hg g i).tall<=f.tall
 | .knot n ks,i=>by
   rw[Th.hg];by_cases hh:(o! n ks).isHole=C?
   .rw[b! hh];have:=hg i;have:=(o! n ks).size_pos;rw[t!];lia
   .rw[a! hh,q!,q!,t!,t!];have:=qp hg ks i;lia
 |.call s k,i=>⟨WW _,WW _⟩
theorem qp{g:Nat->Th}(hg:∀j,(g j).size<=1/\(g j).tall<=1):∀(fs:List Th)(i:Nat),ao (hgs g fs i)<=ao fs/\aP (hgs g fs i)<=aP fs
 | [],i=>⟨WW _,WW _⟩
 | f::fs,i=>by
   rw[hgs,ao,ao,aP,aP];have h1:=sY hg f i;have h2:=qp hg fs (i+f.nh);lia
end
theorem lh(F:Nat->Th)(l k:Int):(hgF F l k).size<=(F l.toNat).size/\(hgF F l k).tall<=(F l.toNat).tall:=sY (λj=>by rw[q!,t!];decide) _ _
mutual
theorem oo(f:Int->Int->Th):∀t:Th,t.size<=(t.fill f).size
 | .call s k=>by
   have:=(f s k).size_pos;rw[C!,q!];lia
 | .knot n ks=>by
   have:=qj f ks;rw[C!,q!,q!];lia
theorem qj(f:Int->Int->Th):∀ts:List Th,ao ts<=ao (fills f ts)
 | []=>by rw[fills];exact WW _
 | t::ts=>by
   have h1:=oo f t;have h2:=qj f ts;rw[fills,ao,ao];lia
end
def eaP(F:Nat->Th)(p:Th):Th:=p.fill (hgF F)
def eaU(F:Nat->Th)(x:Int)(p:Th):Th:=(((F (x / 1000).toNat).hw [] (eaP F p))[(x%1000).toNat]?.map (·.2)).getD hole
def eaR(F:Nat->Th)(rows:List (List Th))(x:Int):List Th:=(rowOf rows (x / 1000)).map (eaU F x)
structure EaOk(ins outs:List (Xk×Int))(F:Nat->Th)(head:Th)(rows:List (List Th)):Prop where
 gi:cN ins
 fit:yZ ins outs (rows.length:Nat) rows
 hd:head.FitS outs (rows.length:Nat) 1
 fr:∀s,s<rows.length->(F s).noCall/\(F s).size<=200/\(F s).tall<=100
 clo:∀(s:Nat)(row:List Th)(p:Th),rows[s]?=A? row->p∈row->(F s).lies (p.fill λl _=>F l.toNat)=C?
 smH:Small (eaP F head)
 smR:∀row∈rows,∀p∈row,Small (eaP F p)
 many:((Xq rows.length).map λs=>(F s).nh).sum<=20
def mO(F:Nat->Th)(N:Nat)(x:Int):Prop:=0<=x / 1000/\(x / 1000).toNat<N/\(x%1000).toNat<(F (x / 1000).toNat).nh
section
variable{F:Nat->Th}
theorem xk:∀{l:List Nat}{s:Nat}(f:Nat->Nat),s∈l->f s<=(l.map f).sum
 | x::l,s,f,h=>by
   rw[Xx,List.sum_cons];rcases W7.mp h with rfl|h
   .lia
   .have:=xk f h;lia
theorem EaOk.nh(J:EaOk ins outs F head rows){s:Nat}(hs:s<rows.length):(F s).nh<=20:=XC (xk (λs=>(F s).nh) (YZ.mpr hs)) J.many
theorem y6{l:Int}(hj:j<1000):enc l (j:Nat) / 1000=l/\(enc l (j:Nat)%1000).toNat=j:=by
 unfold enc;lia
mutual
theorem zC{g:Nat->Th}{q:Int->Prop}:∀(f:Th)(i:Nat),f.noCall->(∀j,i<=j->j<i+f.nh->∀x∈stT (g j),q x)->∀x∈stT (f.hg g i),q x
 | .knot n ks,i,h,hq,x,hx=>by
   rw[Th.hg]at hx;rw[Th.nh]at hq;by_cases hh:(o! n ks).isHole=C?
   .rw[b! hh]at hx hq;exact hq i (WW _) (by lia) x hx
   .rw[a! hh]at hx hq;rw[cU]at hx;exact xn ks i h hq x hx
 |.call s k,i,h,_,x,hx=>by rw[v!]at h;exact h.elim
theorem xn{g:Nat->Th}{q:Int->Prop}:∀(fs:List Th)(i:Nat),ba fs->(∀j,i<=j->j<i+nhs fs->∀x∈stT (g j),q x)->∀x∈aT (hgs g fs i),q x
 | [],i,h,_,x,hx=>by rw[hgs]at hx;cases hx
 | f::fs,i,h,hq,x,hx=>by
   rw[ba]at h;rw[nhs]at hq;rw[hgs]at hx;have A7:x∈stT (f.hg g i)++aT (hgs g fs (i+f.nh)):=hx;rcases XA.mp A7 with hx|hx
   .exact zC f i h.1 (λj h1 h2=>hq j h1 (by lia)) x hx
   .exact xn fs _ h.2 (λj h1 h2=>hq j (by lia) (by lia)) x hx
end
theorem EaOk.st(J:EaOk ins outs F head rows){p:Th}(hp:p.FitS outs (rows.length:Nat) C):∀x∈stT (eaP F p),mO F rows.length x:=by
 refine tI (hgF F) (λs c h0 h1 _ _ x hx=>?_) p hp;have hs:s.toNat<rows.length:=by lia
 have hn:=J.nh hs;refine zC (F s.toNat) 0 (J.fr _ hs).1 (λj _ hj y hy=>?_) x hx;rw[eO,Xc]at hy;obtain⟨e1,e2⟩:=y6 (l:=s) (j:=j) (by lia);rw[hy];exact⟨by rw[e1];exact h0,by rw[e1];exact hs,by rw[e1,e2];lia⟩
theorem EaOk.row(J:EaOk ins outs F head rows){x:Int}(hx:mO F rows.length x):∃row,rows[(x / 1000).toNat]?=A? row/\rowOf rows (x / 1000)=row/\row.length=ins.length/\∀p∈row,∃C,p.FitS outs (rows.length:Nat) C/\C<=3:=by
 obtain⟨row,h1,h2,h3,_⟩:=m5 J.fit hx.1 (by have:=hx.2.1;lia);refine⟨row,h1,h2,h3,λp hp=>?_⟩;obtain⟨j,hj⟩:=Xi.mp hp;obtain⟨k,hk⟩:∃k,ins[j]?=A? k:=⟨_,WS (by have:=(glE hj);lia)⟩;exact⟨k.2,(J.fit.row row (WT h1)).2 j p k hj hk,(J.gi.num k (WT hk)).2⟩
theorem EaOk.lies(J:EaOk ins outs F head rows){s:Nat}{row:List Th}{p:Th}(hr:rows[s]?=A? row)(hp:p∈row)(hf:p.FitS outs (rows.length:Nat) C):(F s).lies (eaP F p)=true:=by
 refine nR (λl k h0 h1 _ _=>?_) p (F s) hf (J.clo s row p hr hp);exact fZ _ _ _ (J.fr _ (by lia)).1
theorem EaOk.at(J:EaOk ins outs F head rows){x:Int}(hx:mO F rows.length x){row:List Th}{p:Th}(hr:rows[(x / 1000).toNat]?=A? row)(hp:p∈row):∃pl,(F (x / 1000).toNat).hw [] (eaP F p)≠[]/\((F (x / 1000).toNat).hw [] (eaP F p))[(x%1000).toNat]?=A? (pl,eaU F x p)/\(eaP F p).sub pl=A? (eaU F x p)/\Small (eaU F x p):=by
 obtain⟨row',AR,_,_,hf⟩:=J.row hx;rw[hr]at AR;cases AR;obtain⟨C,hC,_⟩:=hf p hp;have hl:=J.lies hr hp hC;have hn:=rb [] _ _ hl;have Ak:(x%1000).toNat<((F (x / 1000).toNat).hw [] (eaP F p)).length:=by rw[hn];exact hx.2.2
 obtain⟨y,hy⟩:∃y,((F (x / 1000).toNat).hw [] (eaP F p))[(x%1000).toNat]?=A? y:=⟨_,WS Ak⟩
 have e:eaU F x p=y.2:=by
  unfold eaU;rw[hy];rfl
 obtain⟨r,h1,h2⟩:=vE [] _ _ y (WT hy);rw[Zc]at h1;rw[<-h1]at h2;refine⟨y.1,List.ne_nil_of_length_pos (by lia),by rw[hy,e],by rw[e];exact h2,?_⟩;rw[e];exact m8 h2 (J.smR row (WT hr) p hp)
theorem wR:∀{r:List Int}{t u:Th},t.sub r=A? u->∀x∈stT u,x∈stT t
 | [],t,u,h,x,hx=>by
   rw[f6]at h;cases h;exact hx
 | i::r,t,u,h,x,hx=>by
   obtain⟨h0,w,hw,h⟩:=tN h;have:=wR h x hx;cases t with
   |call s k=>cases hw
   |knot n ks=>rw[cU];exact vA (WT hw) this
theorem EaOk.stR(J:EaOk ins outs F head rows){x:Int}(hx:mO F rows.length x):∀y∈aT (eaR F rows x),mO F rows.length y:=λy hy=>by
 obtain⟨t,ht,hy⟩:=List.mem_flatMap.mp hy;obtain⟨p,hp,rfl⟩:=Xy.mp ht;obtain⟨row,hr,e,_,hf⟩:=J.row hx;rw[e]at hp;obtain⟨pl,_,_,h3,_⟩:=J.at hx hr hp;obtain⟨C,hC,_⟩:=hf p hp;exact J.st hC y (wR h3 y hy)
theorem EaOk.met(J:EaOk ins outs F head rows):∀x∈bO (eaR F rows) (eaP F head),mO F rows.length x :=
 xl _ (mO F rows.length) (λs hs x hx=>J.stR hs x hx) _ _ _ λx hx=>(dE.mp hx).elim (λz=>by cases z) (J.st J.hd x)
def eaA(F:Nat->Th)(N:Nat):List Int:=(Xq N).flatMap λs=>(Xq (F s).nh).map λj=>enc (s:Nat) (j:Nat)
theorem we[DecidableEq α]:∀{l m:List α},l.Nodup->(∀x∈l,x∈m)->l.length<=m.length
 | [],m,_,_=>Xh _
 | a::l,m,h,hs=>by
   have ha:=hs a (Xe ..);have h1:=we (l:=l) (m:=m.erase a) (ZM.mp h).2 λx hx=>(List.mem_erase_of_ne (λz=>(ZM.mp h).1 (by rw[<-z];exact hx))).mpr (hs x (Xb _ hx));rw[List.length_erase_of_mem ha]at h1;have:=List.length_pos_of_mem ha;rw[W2];lia
theorem EaOk.len(J:EaOk ins outs F head rows):(bO (eaR F rows) (eaP F head)).length<=20:=by
 have h:=we (m:=eaA F rows.length) (uJ _ _) λx hx=>by
  obtain⟨h0,h1,h2⟩:=J.met x hx;refine List.mem_flatMap.mpr ⟨(x / 1000).toNat,YZ.mpr h1,Xy.mpr ⟨(x%1000).toNat,YZ.mpr h2,?_⟩⟩;unfold enc;lia
 refine XC h (XC (Nat.le_of_eq ?_) J.many);unfold eaA;rw[List.length_flatMap];congr 1;exact List.map_congr_left λs _=>by rw[WN,Xj]
theorem EaOk.small(J:EaOk ins outs F head rows){x:Int}(hx:mO F rows.length x):(eaR F rows x).length<=8/\∀t∈eaR F rows x,Small t:=by
 obtain⟨row,hr,e,hl,_⟩:=J.row hx;unfold eaR;rw[e];refine⟨by rw[WN,hl];exact J.gi.le,λt ht=>?_⟩;obtain⟨p,hp,rfl⟩:=Xy.mp ht;obtain⟨_,_,_,_,h⟩:=J.at hx hr hp;exact h
end
end BB
namespace L2
open PySem
theorem aby{X:Cx}{y z u:Xk}{e:WR}(h1:X.env.cells.lookup y=A? c)(h2:X.fn y=C?)(h3:X.env.kindOf y=A? .cell)(g1:X.env.cells.lookup z=A? d)(g2:X.fn z=C?)(g3:X.env.kindOf z=A? .cell)(k1:X.env.cells.lookup u=A? e)(k2:X.fn u=C?)(k3:X.env.kindOf u=A? .cell):i9 X [(y,c),(z,d),(u,e)]:=by
 have h:=abA h1 h2 h3 g1 g2 g3;have k:=abI k1 k2 k3;have hm:∀{p:Xk×WR},p∈[(y,c),(z,d),(u,e)]->p∈[(y,c),(z,d)]\/p∈[(u,e)]:=λhp=>XA.mp (by exact hp);exact⟨λa b hp=>(hm hp).elim (h.1 a b) (k.1 a b),λa b hp=>(hm hp).elim (h.2 a b) (k.2 a b),λa b hp=>(hm hp).elim (h.3 a b) (k.3 a b)⟩
theorem aai(nd:(cl.map (·.2)).Nodup){y:Xk}(h1:cl.lookup x=A? c)(h2:cl.lookup y=A? c):x=y:=by
 obtain⟨i,hi⟩:=Xi.mp (Yl h1);obtain⟨j,hj⟩:=Xi.mp (Yl h2);have e:(cl.map (·.2))[i]?=(cl.map (·.2))[j]?:=by rw[WZ,WZ,hi,hj];rfl
 have:=(List.getElem?_inj (by rw[WN];exact(glE hi)) nd).mp e;subst this;rw[hi]at hj;cases hj;rfl
theorem qV{S:List WR}(hx:Exts S H)(e:H b=A? o)(hn:∀φ,o≠.ext φ):fgt S H b=A? o:=by
 rw[bU λz=>?_]
 .exact e
 .obtain⟨φ,h⟩:=hx b z;rw[h]at e;cases e;exact hn φ rfl
end L2
namespace BB
open PySem L2
mutual
def Th.lf:Th->Nat
 |.knot _ ks=>max 1 (lfs ks)
 |.call _ _=>1
def lfs:List Th->Nat
 | []=>0
 |t::ts=>t.lf+lfs ts
end
def szB(W:Nat):Nat->Nat
 |0=>1
 |n+1=>1+W * szB W n
theorem sU(W n:Nat):1<=szB W n:=by cases n <;> unfold szB <;> lia
structure PB(outs:List (Xk×Int))(S k:Int)(W d:Nat)(t:Th):Prop where
 fit:t.FitS outs S k
 tall:t.tall<=d+1
 lf:t.lf<=W ^ d
 sz:t.size<=szB W d
theorem um:∀{ts:List Th},(∀t∈ts,t.lf<=B)->lfs ts<=ts.length * B
 | [],_=>Xh _
 | t::ts,h=>by
   have h1:=h t (Xe ..);have h2:=um (ts:=ts) λu hu=>h u (Xb _ hu);rw[lfs,W2,Nat.succ_mul];lia
theorem nH:∀{ts:List Th},(∀t∈ts,t.size<=B)->ao ts<=ts.length * B
 | [],_=>Xh _
 | t::ts,h=>by
   have h1:=h t (Xe ..);have h2:=nH (ts:=ts) λu hu=>h u (Xb _ hu);rw[ao,W2,Nat.succ_mul];lia
theorem PB.call{k s c:Int}{d:Nat}(hW:1<=W)(h:(z! s c).FitS outs S k):PB outs S k W d (.call s c) :=
 ⟨h,by rw[t!];lia,by rw[Th.lf];exact Nat.pow_pos hW,by rw[q!];exact sU _ _⟩
theorem PB.over{k:Int}{d:Nat}(hW:1<=W){n:Xk}(hm:(n,(ts.length:Int))∈outs)(hl:ts.length<=W)(h:∀t∈ts,PB outs S k W d t):PB outs S k W (d+1) (.knot n ts):=by
 have hp:1<=W ^ d:=Nat.pow_pos hW;have h1:=um λt ht=>(h t ht).lf;have h2:=nH λt ht=>(h t ht).sz;have h3:ts.length * W ^ d<=W * W ^ d:=Y3 _ hl;have h4:ts.length * szB W d<=W * szB W d:=Y3 _ hl;have h5:1 * 1<=W * W ^ d:=Nat.mul_le_mul hW hp;have h6:=mW λt ht=>(h t ht).tall;refine⟨by rw[u!];exact⟨hm,FitSs.of λt ht=>(h t ht).fit⟩,by rw[t!];lia,?_,?_⟩
 .rw[Th.lf,Nat.pow_succ,Nat.mul_comm];lia
 .rw[q!,szB];lia
theorem PB.leaf{k:Int}(d:Nat)(hW:1<=W){n:Xk}(hm:(n,(0:Int))∈outs):PB outs S k W d (.knot n []) :=
 ⟨by rw[u!];exact⟨hm,by rw[FitSs];trivial⟩,by rw[t!,aP];lia,by rw[Th.lf,lfs];exact Nat.pow_pos hW,by rw[q!,ao];exact sU _ _⟩
theorem aax(hW:1<=W)(n:Nat):szB W n<=szB W (n+1):=by
 rw[show szB W (n+1)=1+W * szB W n from rfl];have:1 * szB W n<=W * szB W n:=Y3 _ hW;lia
mutual
theorem oK{ks:List (Xk×Int)}(hS:S<=S')(hC:C<=C'):∀t:Th,t.FitS ks S C->t.FitS ks S' C'
 |.call s k,h=>by rw[u!]at h |-;lia
 |.knot n ts,h=>by rw[u!]at h |-;exact⟨h.1,rC hS hC ts h.2⟩
theorem rC{ks:List (Xk×Int)}(hS:S<=S')(hC:C<=C'):∀ts:List Th,FitSs ks S C ts->FitSs ks S' C' ts
 | [],_=>by rw[FitSs];trivial
 |t::ts,h=>by rw[FitSs]at h |-;exact⟨oK hS hC t h.1,rC hS hC ts h.2⟩
end
theorem PB.up{k k':Int}{d:Nat}{t:Th}(hW:1<=W)(hS:S<=S')(hk:k<=k')(h:PB outs S k W d t):PB outs S' k' W (d+1) t :=
 ⟨oK hS hk t h.fit,Nat.le_succ_of_le h.tall,XC h.lf (Nat.pow_le_pow_right hW (Nat.le_succ _)),XC h.sz (aax hW _)⟩
theorem PB.wide{k k':Int}{d:Nat}{t:Th}(hS:S<=S')(hk:k<=k')(h:PB outs S k W d t):PB outs S' k' W d t :=
 ⟨oK hS hk t h.fit,h.tall,h.lf,h.sz⟩
structure Drw(ins outs:List (Xk×Int))(W D:Nat)(head:Th)(rows:List (List Th)):Prop where
 gi:cN ins
 go:cN outs
 w1:1<=W
 hd:PB outs (rows.length:Nat) 1 W D head
 row:∀row∈rows,row.length=ins.length/\∀(j:Nat)(p:Th)(k:Xk×Int),row[j]?=A? p->ins[j]?=A? k->PB outs (rows.length:Nat) k.2 W D p
 le:rows.length<=5
 lim:D<=3/\W ^ D<=9/\szB W D<=15/\rows.length * W ^ D<=20
section
variable{D:Nat}
theorem Drw.fit(h:Drw ins outs W D head rows):yZ ins outs (rows.length:Nat) rows:=⟨rfl,λrow hr=>⟨(h.row row hr).1,λj p k hp hk=>((h.row row hr).2 j p k hp hk).fit⟩⟩
theorem Drw.pat(h:Drw ins outs W D head rows){row:List Th}(hr:row∈rows){p:Th}(hp:p∈row):∃C,C<=3/\PB outs (rows.length:Nat) C W D p:=by
 obtain⟨j,hj⟩:=Xi.mp hp;obtain⟨hl,hf⟩:=h.row row hr;obtain⟨k,hk⟩:∃k,ins[j]?=A? k:=⟨_,WS (by have:=(glE hj);lia)⟩;exact⟨k.2,(h.gi.num k (WT hk)).2,hf j p k hj hk⟩
mutual
theorem xD:∀(n:Nat)(l r:Th),l.size<=n->(l.com r).lf<=l.lf
 |0,l,r,h=>by have:=l.size_pos;lia
 | n+1,l,r,h=>by
   rw[iH];have hl:1<=l.lf:=by cases l <;> rw[Th.lf] <;> lia
   by_cases hs:aB l r=C?
   .rw[b! hs];obtain⟨m,ks,us,rfl,rfl,e,_⟩:=bw hs;rw[q!]at h;have:=tW n ks us (by lia);show(o! m ((ks.zip us).map λp=>p.1.com p.2)).lf<=_;rw[Th.lf,Th.lf];lia
   .rw[a! hs,hole,Th.lf,lfs];lia
theorem tW:∀(n:Nat)(ks us:List Th),ao ks<=n->lfs ((ks.zip us).map λp=>p.1.com p.2)<=lfs ks
 |n,[],us,h=>by rw[List.zip_nil_left];exact WW _
 |n,k::ks,[],h=>by rw[List.zip_nil_right];exact Xh _
 | n,k::ks,u::us,h=>by
   rw[ao]at h;have h1:=xD n k u (by lia);have h2:=tW n ks us (by lia);rw[Zz,Xx,lfs,lfs];show(k.com u).lf+_<=_;lia
end
theorem wV(mk:Int->Th):∀(row:List Th)(m:Th),(frF mk m row).lf<=m.lf
 | [],m=>WW _
 |p::row,m=>XC (wV mk row _) (xD _ m _ (WW _))
mutual
theorem vY(D:List Int->Bool):∀(t:Th)(pre:List Int),(t.cut D pre).lf<=t.lf/\(t.cut D pre).tall<=t.tall/\(t.cut D pre).noCall
 | .call a b,pre=>by
   rw[Th.cut,Th.lf,t!,hole,Th.lf,t!,v!,lfs,aP,ba];exact⟨WW _,WW _,trivial⟩
 | .knot n ks,pre=>by
   rw[Th.cut];obtain⟨h1,h2,h3⟩:=tz D ks pre 0;split
   .rw[hole,Th.lf,t!,Th.lf,t!,v!,lfs,aP,ba];exact⟨by lia,by lia,trivial⟩
   .rw[Th.lf,t!,Th.lf,t!,v!];exact⟨by lia,by lia,h3⟩
theorem tz(D:List Int->Bool):∀(ts:List Th)(pre:List Int)(i:Int),lfs (cr D pre i ts)<=lfs ts/\aP (cr D pre i ts)<=aP ts/\ba (cr D pre i ts)
 | [],pre,i=>by rw[cr,ba];exact⟨WW _,WW _,trivial⟩
 | t::ts,pre,i=>by
   obtain⟨h1,h2,h3⟩:=vY D t (pre++[i]);obtain⟨g1,g2,g3⟩:=tz D ts pre (i+1);rw[cr,lfs,lfs,aP,aP,ba];exact⟨by lia,by lia,h3,g3⟩
end
mutual
theorem xf:∀t:Th,t.nh<=t.lf
 |.call a b=>Xh _
 | .knot n ks=>by
   rw[Th.nh,Th.lf];have:=xb ks;split <;> lia
theorem xb:∀ts:List Th,nhs ts<=lfs ts
 | []=>WW _
 | t::ts=>by
   have h1:=xf t;have h2:=xb ts;rw[nhs,lfs];lia
end
mutual
theorem zq:∀t:Th,cnT t<=t.lf
 |.call a b=>WW _
 | .knot n ks=>by
   rw[cnT,Th.lf];have:=wb ks;lia
theorem wb:∀ts:List Th,cD ts<=lfs ts
 | []=>WW _
 | t::ts=>by
   have h1:=zq t;have h2:=wb ts;rw[cD,lfs];lia
end
mutual
theorem tq(f:Int->Int->Th){m:Nat}(hf:∀s k,0<=s->s<S->0<=k->k<C->cnT (f s k)<=m):∀t:Th,t.FitS BX S C->cnT (t.fill f)<=cnT t * m
 | .call s k,h=>by
   rw[u!]at h;rw[C!,cnT,Nat.one_mul];exact hf s k h.1 h.2.1 h.2.2.1 h.2.2.2
 | .knot n ts,h=>by
   rw[u!]at h;rw[C!,cnT,cnT];exact qc f hf ts h.2
theorem qc(f:Int->Int->Th){m:Nat}(hf:∀s k,0<=s->s<S->0<=k->k<C->cnT (f s k)<=m):∀ts:List Th,FitSs BX S C ts->cD (fills f ts)<=cD ts * m
 | [],_=>Xh _
 | t::ts,h=>by
   rw[FitSs]at h;have h1:=tq f hf t h.1;have h2:=qc f hf ts h.2;rw[fills,cD,cD,Nat.add_mul];lia
end
mutual
theorem ux(f:Int->Int->Th){m l:Nat}(hm:1<=m)(hf:∀s k,0<=s->s<S->0<=k->k<C->(f s k).size<=m/\(f s k).tall<=l+1):∀t:Th,t.FitS BX S C->(t.fill f).size<=t.size * m/\(t.fill f).tall<=t.tall+l
 | .call s k,h=>by
   rw[u!]at h;have:=hf s k h.1 h.2.1 h.2.2.1 h.2.2.2;rw[C!,q!,t!];lia
 | .knot n ts,h=>by
   rw[u!]at h;have:=pT f hm hf ts h.2;rw[C!,q!,t!,q!,t!,Nat.add_mul];lia
theorem pT(f:Int->Int->Th){m l:Nat}(hm:1<=m)(hf:∀s k,0<=s->s<S->0<=k->k<C->(f s k).size<=m/\(f s k).tall<=l+1):∀ts:List Th,FitSs BX S C ts->ao (fills f ts)<=ao ts * m/\aP (fills f ts)<=aP ts+l
 | [],_=>⟨Xh _,Xh _⟩
 | t::ts,h=>by
   rw[FitSs]at h;have h1:=ux f hm hf t h.1;have h2:=pT f hm hf ts h.2;rw[fills,ao,ao,aP,aP,Nat.add_mul];lia
end
mutual
theorem zp{g:Nat->Th}(hg:∀j,cnT (g j)<=1):∀(f:Th)(i:Nat),f.noCall->cnT (f.hg g i)<=f.nh
 | .knot n ks,i,h=>by
   rw[Th.hg,Th.nh];split
   .exact hg i
   .rw[cnT];exact wL hg ks i h
 |.call s k,i,h=>by rw[v!]at h;exact h.elim
theorem wL{g:Nat->Th}(hg:∀j,cnT (g j)<=1):∀(fs:List Th)(i:Nat),ba fs->cD (hgs g fs i)<=nhs fs
 | [],i,_=>Xh _
 | f::fs,i,h=>by
   rw[ba]at h;have h1:=zp hg f i h.1;have h2:=wL hg fs (i+f.nh) h.2;rw[hgs,cD,nhs];lia
end
theorem Drw.small(h:Drw ins outs W D head rows){F:Nat->Th}(hF:∀s,s<rows.length->(F s).noCall/\(F s).lf<=W ^ D/\(F s).size<=15/\(F s).tall<=4){p:Th}(hp:PB outs (rows.length:Nat) C W D p):Small (eaP F p):=by
 obtain⟨l1,l2,l3,_⟩:=h.lim;have hc:=tq (hgF F) (m:=9) (λs k h0 h1 _ _=>?_) p hp.fit
 .have hz:=ux (hgF F) (m:=15) (l:=3) (by decide) (λs k h0 h1 _ _=>?_) p hp.fit
  .have z1:=oC (p.fill (hgF F));have z2:p.size * 15<=15 * 15:=Y3 _ (XC hp.sz l3);have z3:=hp.tall;have z4:cnT p * 9<=9 * 9:=Y3 _ (XC (zq p) (XC hp.lf l2));exact⟨by show(p.fill (hgF F)).tall<=20;lia,by show(p.fill (hgF F)).kn<=400;lia,by show cnT (p.fill (hgF F))<=200;lia⟩
  .have hs:=hF s.toNat (by lia);have:=lh F s k;lia
 .have hs:=hF s.toNat (by lia);have:=zp (g:=λj=>z! (enc s (j:Nat)) k) (λj=>WW _) (F s.toNat) 0 hs.1;have:=xf (F s.toNat);show cnT ((F s.toNat).hg _ 0)<=9;lia
theorem Drw.many(h:Drw ins outs W D head rows){F:Nat->Th}(hF:∀s,s<rows.length->(F s).lf<=W ^ D):((Xq rows.length).map λs=>(F s).nh).sum<=20:=by
 refine XC ?_ h.lim.2.2.2
 have:∀(l:List Nat),(∀s∈l,(F s).nh<=W ^ D)->(l.map λs=>(F s).nh).sum<=l.length * W ^ D:=λl=>by
  induction l with
  |nil=>intro _;exact Xh _
  | cons x l ih =>
    intro hl;have h1:=hl x (Xe ..);have h2:=ih λs hs=>hl s (Xb _ hs);rw[Xx,List.sum_cons,W2,Nat.succ_mul];lia
 have h2:=this (Xq rows.length) λs hs=>XC (xf _) (hF s (YZ.mp hs));rw[Xj]at h2;exact h2
end
theorem kg{kr:WR}{Bg:List WR}{ks:List (Xk×Int)}(p:Xk×Int->Bool)(e:H kr=A? (.tup (Bg.map i!)))(BY:KsAt H ks Bg)(hl:ks.length<=1000)
 (Je:∀(z:Xk×Int)(ka:WR)(H2:Hp)(R:Bool->Hp->Prop),j! H H2->KAt H2 z ka->R (p z) H2->tt ((cσ js Z).set 0 (A? (.ref ka))) H2 R)
 (Jf:∀(ka:WR)(H2:Hp)(R:VK),R (.ref ka) H2->te ((cσ js Z).set 0 (A? (.ref ka))) H2 R)
 (q:∀(D:WR)(bs:List ((Xk×Int)×WR))(H':Hp),H D=B?->H'=upd H D (.lst (bs.map λz=>i! z.2))->((∃k∈ks,p k=C?)->1<=bs.length)->bs.length<=ks.length->(∀z∈bs,z.1∈ks/\p z.1=C?/\KAt H z.1 z.2)->fin D H') :
 ∀D,H D=B?->∃(n:Nat)(W:Nat->Hp->Prop),W 0 (upd H D (.lst []))/\gQ js (av 0) tt te Z (Itt K kr) D n W λH'=>fin D H':=by
 have BQ:ks.length=Bg.length:=W3 BY;have QS:(ks.zip Bg).length=ks.length:=by rw[List.length_zip];lia
 have Ie:∀(i:Nat)(x:V)(z:(Xk×Int)×WR),(Bg.map i!)[i]?=A? x->(ks.zip Bg)[i]?=A? z->x=.ref z.2:=λi x z hx hz=>by
  obtain⟨ka,rfl,BI⟩:=aH hx;obtain⟨h1,h2⟩:=Zd.mp hz;rw[BI]at h2;cases h2;rfl
 refine pJ (ks.zip Bg) (λz=>p z.1) (λz=>.ref z.2) (l! e) (by rw[QS,WN];exact BQ) (by rw[WN];lia) (λi x z H2 R hx hz sm r=>?_) (λi x z H2 R hx hz _ sm r=>?_) (λD hD=>?_)
 .rw[Ie i x z hx hz];have:=(lJ BY z (WT hz)).2;exact Je z.1 z.2 H2 R sm (sm _ _ this) r
 .rw[Ie i x z hx hz];exact Jf z.2 H2 R r
 .refine q D _ _ hD rfl ?_ ?_ ?_
  .rintro⟨k,hk,Ui⟩;obtain⟨i,hi,rfl⟩:=List.getElem_of_mem hk;have hz:(ks.zip Bg)[i]'(by lia)∈(ks.zip Bg).filter λz=>p z.1:=Y0.mpr ⟨List.getElem_mem _,by rw[List.getElem_zip];exact Ui⟩;exact List.length_pos_of_mem hz
  .exact XC (ZE _ _) (by lia)
  .intro z hz;obtain⟨h1,h2⟩:=Y0.mp hz;obtain⟨h3,h4⟩:=lJ BY z h1;exact⟨h3,h2,h4⟩
section
variable{F:Nat->Th}
def eaB(F:Nat->Th)(rows:List (List Th))(M:List Int):List (List Th):=M.map λx=>(eaR F rows x).map (ren (idx M))
section
variable(J:EaOk ins outs F head rows)(hM:M=bO (eaR F rows) (eaP F head))
include J hM
theorem vU:∀x∈stT (eaP F head),x∈M:=λx hx=>by
 rw[hM];exact(gS _ _ _ _).subset (dE.mpr (.inr hx))
theorem yX:∀x∈M,∀y∈aT (eaR F rows x),y∈M:=by
 rw[hM];exact qv J.len
theorem zW:∀x∈M,mO F rows.length x:=by
 rw[hM];exact J.met
theorem uf:(eaB F rows M).length=M.length:=by unfold eaB;rw[WN]
end
end
end BB
namespace L2
open PySem PySem.Spec PyProof.Rows
def abl(t:TA):TE:=λZ H Q=>t Z H λvs H1=>∃j:Nat,vs=[.int (j:Nat)]/\j<=1000000/\∀l:WR,H1 l=B?->Q (.ref l) (upd H1 l (.lst ((Xq j).map λ(i:Nat)=>p! (i:Nat))))
theorem wA{acc:List WU}:∀(n k:Nat),acc.length=n->(∀i v,acc[i]?=A? v->∃t,v=Value.int ((k+i:Nat):Int) t)->Vals ((List.range' k n).map λ(i:Nat)=>p! (i:Nat)) acc:=by
 induction acc with
 |nil=>intro n k hn _;subst hn;exact .nil
 | cons a acc ih =>
   intro n k hn h;subst hn;rw[W2,List.range'_succ,Xx];refine .cons ?_ (ih _ (k+1) rfl λi v hv=>?_)
   .obtain⟨t,e⟩:=h 0 a rfl;exact⟨t,e⟩
   .obtain⟨t,e⟩:=h (i+1) v hv;refine⟨t,?_⟩;rw[e];congr 2;lia
section
variable{X:Cx}{t:TA}{p p2 Av:Z2}
theorem yR(hc:X.calm=C?)(g1:Gl X "list")(m1:X.mg "list"=B?)(g2:Gl X "range")(m2:X.mg "range"=B?)(ha:PA X [e] t)
 (h1:XF [.Call (.Name "range" p2) [e] [] Av] X.env=[(CV,YY (.Call (.Name "range" p2) [e] [] Av) X.env)]:=by rfl) (h2:XF [e] X.env=[(CV,YY e X.env)]:=by rfl) :
 PE X (.Call (.Name "list" p) [.Call (.Name "range" p2) [e] [] Av] [] pos) (abl t):=by
 intro U s Z H Q I h;refine X5 (cJ I g1 m1 boot_list (XQ ?_ h1 rfl));rw[h1];show W9 _ _ (spliced ((CV,YY (.Call (.Name "range" p2) [e] [] Av) X.env)::[])) _ _ s;refine YE ?_;refine X5 (cJ I g2 m2 boot_range (XQ (thn (ha Av U s Z H _ I h) λus s2⟨vs,H2,I2,r,j,ev,hj,q⟩=>?_) h2 rfl));subst ev;obtain⟨u,rfl,rx⟩:=vals1 r;obtain⟨tu,rfl⟩:=rx;refine call_range_1 (Y2 ?_);have hh:X.A.handled=none:=I2.ok.hd hc
 have hs:Builtin.Range.rangeSize 0 (j:Nat) 1=(j:Nat):=by
  rw[rangeSize_one];split <;> lia
 refine call_list_range hh (IsRange.new ..) (small_one (by lia) (by lia) (by lia) (by lia)) hs (by lia) λh' tk acc c hk hS Am=>?_;have I3:Inv X U Z H2 {s2 with heap:=s2.1.push {cls:=.type "range",data:=.fields #[.int 0 s2.toks,.int (j:Nat) tu,.int 1 (s2.toks+1)]},toks:=s2.toks+1+1}:=I2.kept λb o e=>WV _ e;refine⟨.ref (s2.1.push {cls:=.type "range",data:=.fields #[.int 0 s2.toks,.int (j:Nat) tu,.int 1 (s2.toks+1)]}).objs.size,_,?_,D?,q _ (I3.hok.fresh (WW _))⟩;refine I3.laid (t':=tk) hk (WW _) ⟨by rw[WN,Xj];exact XC hj (by decide),acc.toList,c,?_,hS⟩;obtain⟨hsz,hit⟩:=Am
 have:=wA (acc:=acc.toList) j 0 (by rw[XN];exact hsz) λi v hv=>by
  obtain⟨t,e⟩:=hit i v (by simpa using hv);exact⟨t,by rw[e];congr 1;lia⟩
 rw[<-List.range_eq_range']at this;exact this
end
end L2
namespace BB
open PySem L2
theorem uq{c:List Int}:∀(n:Nat)(m:List Int)(i:Nat),i<=m.length->aR [] (c++(m.take i).flatMap λs=>aT (R s))=m->(bfs R n m i).length<i+n->aR [] (c++(bfs R n m i).flatMap λs=>aT (R s))=bfs R n m i
 | 0,m,i,hi,h,hl=>by
   rw[bfs]at hl |-;rw[Yn (by lia)]at h;exact h
 | n+1,m,i,hi,h,hl=>by
   rw[bfs]at hl |-;cases e:m[i]? with
   | none =>
     have:=List.getElem?_eq_none_iff.mp e;rw[Yn (by lia)]at h;exact h
   | some s =>
     rw[e]at hl;have Ck:=(glE e);obtain⟨r,hr⟩:=fb (aT (R s)) m
     have hlen:i+1<=(aR m (aT (R s))).length:=by
      rw[<-hr,Xd];lia
     refine uq n (aR m (aT (R s))) (i+1) hlen ?_ (by
      have:(bfs R n (aR m (aT (R s))) (i+1)).length<i+(n+1):=hl;lia)
     have ht:(aR m (aT (R s))).take (i+1)=m.take i++[s]:=by
      rw[<-hr,List.take_append_of_le_length (by lia),XU,e];rfl
     rw[ht,List.flatMap_append,<-XJ,cx,h];simp
theorem xw{h:Th}(hl:(bO R h).length<=20):aR [] (stT h++(bO R h).flatMap λs=>aT (R s))=bO R h:=by
 refine uq 21 (aR [] (stT h)) 0 (Xh _) ?_ (Nat.lt_of_le_of_lt hl (by decide));simp
theorem yU(nd:M.Nodup):M.map (idx M)=(Xq M.length).map λ(i:Nat)=>(i:Int):=by
 refine List.ext_getElem? λi=>?_;rw[WZ,WZ];by_cases hi:i<M.length
 .rw[XY hi,WS hi,Option.map_some,Option.map_some,yf nd (WS hi)]
 .rw[YX (by lia),YX (by rw[Xj];lia)];rfl
theorem aat{F:Nat->Th}{h:Th}(hl:(bO (eaR F rows) h).length<=20) :
 aR [] (stT (ren (idx (bO (eaR F rows) h)) h)++(eaB F rows (bO (eaR F rows) h)).flatMap aT)=(Xq (bO (eaR F rows) h).length).map λ(i:Nat)=>(i:Int):=by
 have hc:=qv hl;have hh:=yk (R:=eaR F rows) (h:=h);have ho:=xw hl;have JM:=uJ (eaR F rows) h;generalize bO (eaR F rows) h=M at*
 have e:stT (ren (idx M) h)++(eaB F rows M).flatMap aT=(stT h++M.flatMap λs=>aT (eaR F rows s)).map (idx M):=by
  rw[W8,uv,List.map_flatMap,eaB,List.flatMap_map];congr 1;congr 1;funext x;exact lq _ _
 rw[e,<-yU JM]
 have:=vW (g:=idx M) (M:=M) (λx hx y hy z=>yT hx hy z) (l:=stT h++M.flatMap λs=>aT (eaR F rows s)) (m:=[]) (λx hx=>by cases hx) λx hx=>by
  rcases XA.mp hx with z|z
  .exact hh x z
  .obtain⟨s,hs,hx⟩:=List.mem_flatMap.mp z;exact hc s hs x hx
 rw[ho]at this;exact this
end BB
namespace LAW
open PySem L2 BB
def top(i:Nat):Stmt:=PySem.Challenge.pw_boughbook_k64_early_books_shaped.main.body.getD i (.Pass ⟨0,0,0,0⟩)
theorem scm{P:List Xk}(a:sc.kind=.function:=by rfl)(b:sc.isCoroutine=false:=by rfl)(c:sc.isGenerator=false:=by rfl)(d:N.Nodup:=by decide +kernel)(e:N.take P.length=P:=by rfl)(f:∀x∈P,sc.names.lookup x=A? .local\/sc.names.lookup x=A? .cell:=by decide +kernel)(g:∀y∈sc.names,y.2≠.free:=by decide +kernel):dR N P sc:=⟨a,b,c,d,e,f,g⟩
abbrev ND(l:List Xk):Prop:=l.Nodup
abbrev sC(N:List Xk)(k i:Nat):Prop:=dR N (N.take k) (aJ (top i))
theorem pi:sC ["thing"] 1 8:=scm
theorem re:sC ["number","bound"] 2 9:=scm
theorem si:sC ["thing"] 1 10:=scm
theorem g9:sC ["thing","met","ahead","part"] 1 11:=scm
theorem eh:sC ["thing","met","ahead","place","part","kids"] 1 12:=scm
theorem iX:sC ["tops","done","top","many"] 1 13:=scm
theorem uP:sC ["tree"] 1 14:=scm
theorem m7:sC ["thing","number","kids"] 2 15:=scm
theorem gq:sC ["tree","place","part","number"] 2 16:=scm
theorem rO:sC ["thing"] 1 19:=scm
theorem rG:sC ["thing"] 1 20:=scm
theorem rM:sC ["thing"] 1 21:=scm
theorem px:sC ["call"] 1 22:=scm
theorem qb:sC ["pattern"] 1 23:=scm
theorem oO:sC ["pattern"] 1 24:=scm
theorem qo:sC ["front"] 1 25:=scm
theorem n8:sC ["part","many"] 1 26:=scm
theorem jy:sC ["pattern","table","tops","part"] 2 27:=scm
theorem fq:sC ["pattern","names","table","state","kid"] 2 28:=scm
theorem jl:sC ["front","parts","tops","used","part"] 2 29:=scm
theorem qK:sC ["one","two"] 2 30:=scm
theorem b8:sC ["one","two","met","ahead","left","right"] 2 31:=scm
theorem gW:sC ["one","two","tops","left","right"] 2 32:=scm
theorem ky:dR ["self"] ["self"] (aJ (inClass (top 38) 0)):=scm
theorem jq:dR ["self","part","row"] ["self","part","row"] (aJ (inClass (top 38) 1)):=scm
theorem dB:sC ["pattern","measure","ahead","part","row"] 1 39:=scm
theorem vf:sC ["book"] 1 40:=scm
theorem sJ:sC ["book"] 1 41:=scm
theorem rK:sC ["book"] 1 42:=scm
theorem pY:sC ["book"] 1 43:=scm
theorem o9:sC ["book"] 1 44:=scm
theorem mS:sC ["ins"] 1 46:=scm
theorem fG:sC ["ins","kind","kids","name","many"] 3 47:=scm
theorem bt:sC ["book","names","at","made","state","patterns","kid"] 1 48:=scm
theorem bI:sC ["book","state","made","partings","ins","front","kind","pattern","place"] 4 49:=scm
theorem bQ:sC ["book","state","front","links","parts","kind","pattern","place","lower","kid","inner"] 4 50:=scm
theorem ck:sC ["ins","links","partings","holes","at","one","two","state","place","kind","kid"] 3 51:=scm
theorem cB:sC ["front","state","partings","tops","ahead","place","part","kids"] 3 52:=scm
theorem bA:sC ["book","made","partings","firsts","links","state","front"] 1 53:=scm
theorem gg:sC ["book","fronts","partings"] 1 54:=scm
theorem iF:sC ["pattern","numbers","thing","kid"] 2 56:=scm
theorem dz:sC ["ins","outs","head","patterns_of","numbers","fresh_head","rules","thing"] 4 57:=scm
theorem bX:sC ["fronts","table","state","front","kid","calls"] 1 59:=scm
theorem sI:sC ["pattern"] 1 60:=scm
abbrev iB:Stmt:=top 61
theorem fo:sC ["book","fronts","table","patterns_of"] 1 61:=scm
theorem kF:sC ["script","k"] 2 63:=scm
theorem iz:sC ["cell","k","stir"] 2 64:=scm
theorem iQ:sC ["base","n","tail"] 2 65:=scm
theorem mQ:sC ["base","menu"] 2 66:=scm
theorem cF:sC ["cell","deep","outs","states","kids","some","kind","parts"] 5 67:=scm
theorem cz:sC ["seed","cell","deep","outs","states","kids","some","kind","parts","j"] 6 68:=scm
theorem di:sC ["script","many","cells","k","more"] 2 69:=scm
theorem aG:sC ["script","first","menu","ins","outs","states","deep","cells","rules","s","seed","row","j"] 1 70:=scm
theorem dq:sC ["pattern","found","part"] 1 71:=scm
theorem mL:sC ["found"] 1 72:=scm
theorem iC:sC ["found","outs","states","kids"] 4 73:=scm
theorem dI:sC ["found","ins","outs","row","k"] 3 74:=scm
theorem bu:sC ["book","met","row","pattern","due","state"] 1 75:=scm
theorem rP:sC ["script","book","found"] 1 76:=scm
structure FX(K:WQ)(mg:Xk->Option WU)(n:Xk)(i:Nat)(ps:List Xk) where
 f:WR
 d:ZU
 F:Fun K n n (top i) f d
 b:Binds K d ps []
 m:mg n=A? (.ref f)
structure CTX(K:WQ)(mg:Xk->Option WU)(n:Xk)(xs:List V) where
 a:WR
 c:mg n=A? (.ref a)
 q:∀H:Hp,SqT K H a xs
structure FT(K:WQ)(mg:Xk->Option WU)(n:Xk)(i:Nat)(ps:List Xk) extends FX K mg n i ps where
 tc:WR
 tp:WR
 th:d.code=.ref tc
 t:PySem.W.tabIn K n=A? (tc,tp)
 u:K.lookup tp=B?
structure FM(K:WQ)(e:WR)(n q:Xk)(s:Stmt)(ps:List Xk) where
 f:WR
 d:ZU
 F:Fun K n q s f d
 b:Binds K d ps []
 me:Meth K e n f
section
open PySem.W
variable{K:Frag}{n q:Xk}{st:Stmt}{e:WR}{kV dc pm cd ct:WU}{an:Option WR}{sl:Array (Option WU)}{tk:Tok}
abbrev HB(n q:Xk)(st:Stmt)(ps:List Xk):Prop:=∀(kV dc pm:WU)(an:Option WR)(cd ct:WU)(us:List WU),us.length=ps.length->bindArgs (fnOf n q (bZ st) (bN st) (aJ st) .none kV dc pm an cd ct) ⟨us,[]⟩=pure (ps.zip us)
theorem hb1{p0:Xk}(h:∀(kV dc pm:WU)(an:Option WR)(cd ct u0:WU),bindArgs (fnOf n q (bZ st) (bN st) (aJ st) .none kV dc pm an cd ct) ⟨[u0],[]⟩=pure [(p0,u0)]):HB n q st [p0]:=λa b c d e f us hl=>by obtain⟨u0,rfl⟩:=us1 hl;exact h a b c d e f u0
theorem hb2{p0:Xk}(h:∀(kV dc pm:WU)(an:Option WR)(cd ct u0 u1:WU),bindArgs (fnOf n q (bZ st) (bN st) (aJ st) .none kV dc pm an cd ct) ⟨[u0,u1],[]⟩=pure [(p0,u0),(p1,u1)]):HB n q st [p0,p1]:=λa b c d e f us hl=>by obtain⟨u0,u1,rfl⟩:=us2 hl;exact h a b c d e f u0 u1
theorem hb3{p0:Xk}(h:∀(kV dc pm:WU)(an:Option WR)(cd ct u0 u1 u2:WU),bindArgs (fnOf n q (bZ st) (bN st) (aJ st) .none kV dc pm an cd ct) ⟨[u0,u1,u2],[]⟩=pure [(p0,u0),(p1,u1),(p2,u2)]):HB n q st [p0,p1,p2]:=λa b c d e f us hl=>by obtain⟨u0,u1,u2,rfl⟩:=us3 hl;exact h a b c d e f u0 u1 u2
theorem hb4{p0:Xk}(h:∀(kV dc pm:WU)(an:Option WR)(cd ct u0 u1 u2 u3:WU),bindArgs (fnOf n q (bZ st) (bN st) (aJ st) .none kV dc pm an cd ct) ⟨[u0,u1,u2,u3],[]⟩=pure [(p0,u0),(p1,u1),(p2,u2),(p3,u3)]):HB n q st [p0,p1,p2,p3]:=λa b c d e f us hl=>by obtain⟨u0,u1,u2,u3,rfl⟩:=us4 hl;exact h a b c d e f u0 u1 u2 u3
theorem hb5{p0 p4:Xk}(h:∀(kV dc pm:WU)(an:Option WR)(cd ct u0 u1 u2 u3 u4:WU),bindArgs (fnOf n q (bZ st) (bN st) (aJ st) .none kV dc pm an cd ct) ⟨[u0,u1,u2,u3,u4],[]⟩=pure [(p0,u0),(p1,u1),(p2,u2),(p3,u3),(p4,u4)]):HB n q st [p0,p1,p2,p3,p4]:=λa b c d e f us hl=>by obtain⟨u0,u1,u2,u3,u4,rfl⟩:=us5 hl;exact h a b c d e f u0 u1 u2 u3 u4
theorem hb6{p0 p4 p5:Xk}(h:∀(kV dc pm:WU)(an:Option WR)(cd ct u0 u1 u2 u3 u4 u5:WU),bindArgs (fnOf n q (bZ st) (bN st) (aJ st) .none kV dc pm an cd ct) ⟨[u0,u1,u2,u3,u4,u5],[]⟩=pure [(p0,u0),(p1,u1),(p2,u2),(p3,u3),(p4,u4),(p5,u5)]):HB n q st [p0,p1,p2,p3,p4,p5]:=λa b c d e f us hl=>match us,hl with| [u0,u1,u2,u3,u4,u5],_=>h a b c d e f u0 u1 u2 u3 u4 u5
noncomputable def fm(a:findIn K (.ref e) n=A? (A? (.ref f)):=by k_is)(i:isFn K (.ref f)=true:=by k_is)(l:K.lookup f=A? ⟨oc,od,.func (fnOf n q (bZ st) (bN st) (aJ st) .none kV dc pm an cd ct),sl⟩:=by k_is)(c:codeIn K cd q=true:=by k_is)(k:keepIn K (.ref f)=true:=by k_is)(hb:HB n q (st) ps:=by first|exact LAW.hb1 λ_ _ _ _ _ _ _=>rfl|exact LAW.hb2 λ_ _ _ _ _ _ _ _=>rfl|exact LAW.hb3 λ_ _ _ _ _ _ _ _ _=>rfl|exact LAW.hb4 λ_ _ _ _ _ _ _ _ _ _=>rfl|exact LAW.hb5 λ_ _ _ _ _ _ _ _ _ _ _=>rfl|exact LAW.hb6 λ_ _ _ _ _ _ _ _ _ _ _ _=>rfl):FM K e n q st ps:=⟨f,_,lN l c k,(lN l c k).binds hb,⟨a,i,k⟩⟩
theorem na(a:findIn K (.ref e) n=A? none:=by k_is):NoAttr K e n:=a
variable(X:K.In h)(G:h.Ns Ym mg)
noncomputable def fx{i:Nat}(a:nsIn K Ym n=A? (A? (.ref f)):=by k_is)(l:K.lookup f=A? ⟨oc,od,.func (fnOf n n (bZ (top i)) (bN (top i)) (aJ (top i)) .none kV dc pm an cd ct),sl⟩:=by k_is)(c:codeIn K cd n=true:=by k_is)(k:keepIn K (.ref f)=true:=by k_is)(hb:HB n n (top i) ps:=by first|exact LAW.hb1 λ_ _ _ _ _ _ _=>rfl|exact LAW.hb2 λ_ _ _ _ _ _ _ _=>rfl|exact LAW.hb3 λ_ _ _ _ _ _ _ _ _=>rfl|exact LAW.hb4 λ_ _ _ _ _ _ _ _ _ _=>rfl|exact LAW.hb5 λ_ _ _ _ _ _ _ _ _ _ _=>rfl|exact LAW.hb6 λ_ _ _ _ _ _ _ _ _ _ _ _=>rfl):FX K mg n i ps:=⟨f,_,lN l c k,(lN l c k).binds hb,mg_of X G a⟩
noncomputable def ft{i:Nat}{tc tp:WR}{to:Zb}(a:nsIn K Ym n=A? (A? (.ref f)):=by k_is)(l:K.lookup f=A? ⟨oc,od,.func (fnOf n n (bZ (top i)) (bN (top i)) (aJ (top i)) .none kV dc pm an cd ct),sl⟩:=by k_is)(c:codeIn K cd n=true:=by k_is)(k:keepIn K (.ref f)=true:=by k_is)(hb:HB n n (top i) ps:=by first|exact LAW.hb1 λ_ _ _ _ _ _ _=>rfl|exact LAW.hb2 λ_ _ _ _ _ _ _ _=>rfl|exact LAW.hb3 λ_ _ _ _ _ _ _ _ _=>rfl|exact LAW.hb4 λ_ _ _ _ _ _ _ _ _ _=>rfl|exact LAW.hb5 λ_ _ _ _ _ _ _ _ _ _ _=>rfl|exact LAW.hb6 λ_ _ _ _ _ _ _ _ _ _ _ _=>rfl)(e:cd=.ref tc:=by rfl)(v:K.lookup tc=A? to:=by k_is)(x:tabAt to=A? tp:=by rfl)(u:K.lookup tp=none:=by kernel_rfl):FT K mg n i ps:=have t:=aag a l e v x;⟨fx X G a l c k hb,tc,tp,x9 (lN l c k) a t,t,u⟩
include X G
theorem bn(a:nsIn K Ym n=A? none:=by k_is):mg n=none:=mg_none_of X G a
theorem gn(a:nsIn K Ym n=A? (A? (.ref f)):=by k_is):mg n=A? (.ref f):=mg_of X G a
theorem cs(a:nsIn K Ym n=A? (A? (.str x tk)):=by k_is):∃tk,mg n=A? (.str x tk):=⟨tk,mg_of X G a⟩
theorem ci{x:Int}(a:nsIn K Ym n=A? (A? (.int x tk)):=by k_is):∃tk,mg n=A? (.int x tk):=⟨tk,mg_of X G a⟩
noncomputable def ck1{oc:Option WR}{m:Nat}{sc:Array (Option WU)}{x0:Xk}{t0:Tok}(a:nsIn K Ym n=A? (A? (.ref f)):=by k_is)(w:K.lookup f=A? ⟨.type "tuple",oc,.seq #[.str x0 t0] m,sc⟩:=by k_is):CTX K mg n [.str x0]:=⟨f,mg_of X G a,λH=>.inr ⟨_,_,_,w,rfl,rfl,(by show 1<=Xg;decide),.cons ⟨_,rfl⟩ (.nil)⟩⟩
end
theorem pcF{X:Cx}{kk k:Nat}{n:Xk}{st:Nat}{t:TA}{p:Z2}(g:FX X.K X.mg n st ps)(F:aU X.prog X.w X.K X.mg X.base CX0 k g.f g.d ps sp)(hr:Room kk X.A)(ha:PA X (e::es) t)(hle:k<=kk:=by first|decide|lia)(hg:Gl X n:=by rfl)(Dy:(n == ("__debug__":Xk))=false:=by decide)(he:XF (e::es) X.env=(CV,YY e X.env)::XF es X.env:=by rfl)(AK:(Z0 pos (XF es X.env)).any (·.1)=false:=by rfl):PE X (.Call (.Name n p) (e::es) [] pos) (cZ sp [] E0 t) :=
 dY F (hr.mono hle) hg g.m g.F.kp g.b .nil gy ha Dy he AK
structure TX(K:WQ)(mg:Xk->Option WU) where
 c_CALL_SIGN:∃tk,mg "CALL_SIGN"=A? (.str (Xz "?") tk)
 c_MOST_KIDS:∃tk,mg "MOST_KIDS"=A? (.int (3) tk)
 k_HOLE:CTX K mg "HOLE" [.str (Xz "*")]
 c_MOST_STATES:∃tk,mg "MOST_STATES"=A? (.int (20) tk)
 c_MOST_ROWS:∃tk,mg "MOST_ROWS"=A? (.int (20) tk)
 c_MOST_KNOTS:∃tk,mg "MOST_KNOTS"=A? (.int (400) tk)
 c_MOST_CALLS:∃tk,mg "MOST_CALLS"=A? (.int (200) tk)
 g_0:FX K mg "is_number" 8 ["thing"]
 g_1:FX K mg "is_below" 9 ["number","bound"]
 g_2:FX K mg "kids_of" 10 ["thing"]
 g_3:FX K mg "walked" 11 ["thing"]
 g_4:FX K mg "placed" 12 ["thing"]
 g_5:FX K mg "built" 13 ["tops"]
 g_6:FX K mg "places" 14 ["tree"]
 g_7:FX K mg "kid_at" 15 ["thing","number"]
 g_8:FX K mg "knot_at" 16 ["tree","place"]
 g_9:FX K mg "is_call" 19 ["thing"]
 g_10:FX K mg "is_hole" 20 ["thing"]
 g_11:FX K mg "is_knot" 21 ["thing"]
 g_12:FX K mg "called_by" 22 ["call"]
 g_13:FX K mg "calls_in" 23 ["pattern"]
 g_14:FX K mg "called_in" 24 ["pattern"]
 g_15:FX K mg "holes_in" 25 ["front"]
 g_16:FX K mg "top_of" 26 ["part"]
 g_17:FX K mg "filled" 27 ["pattern","table"]
 g_18:FX K mg "restated" 28 ["pattern","names"]
 g_19:FX K mg "hung" 29 ["front","parts"]
 g_20:FX K mg "same_top" 30 ["one","two"]
 g_21:FX K mg "side_by_side" 31 ["one","two"]
 g_22:FX K mg "common" 32 ["one","two"]
 g_25:FX K mg "is_small" 39 ["pattern"]
 g_26:FX K mg "ins_of" 40 ["book"]
 g_27:FX K mg "outs_of" 41 ["book"]
 g_28:FX K mg "head_of" 42 ["book"]
 g_29:FX K mg "rules_of" 43 ["book"]
 g_30:FX K mg "states_of" 44 ["book"]
 g_31:FX K mg "small_tree" 46 ["ins"]
 g_32:FX K mg "knot_above" 47 ["ins","kind","kids"]
 g_33:FX K mg "first_makings" 48 ["book"]
 g_34:FX K mg "first_front" 49 ["book","state","made","partings"]
 g_35:FX K mg "put_links" 50 ["book","state","front","links"]
 g_36:FX K mg "spread" 51 ["ins","links","partings"]
 g_37:FX K mg "cut_front" 52 ["front","state","partings"]
 g_38:FX K mg "found_fronts" 53 ["book"]
 g_39:FX K mg "fronts_of" 54 ["book"]
 g_40:FX K mg "renamed" 56 ["pattern","numbers"]
 g_41:FX K mg "numbered" 57 ["ins","outs","head","patterns_of"]
 g_42:FX K mg "early_table" 59 ["fronts"]
 g_43:FX K mg "checked" 60 ["pattern"]
 g_44:FT K mg "earliest" 61 ["book"]
 g_45:FX K mg "_law_cell_at" 63 ["script","k"]
 g_46:FX K mg "_law_mixed" 64 ["cell","k"]
 g_47:FX K mg "_law_name" 65 ["base","n"]
 g_48:FX K mg "_law_kinds" 66 ["base","menu"]
 g_49:FX K mg "_law_pattern" 67 ["cell","deep","outs","states","kids"]
 g_50:FX K mg "_law_capped" 68 ["seed","cell","deep","outs","states","kids"]
 g_51:FX K mg "_law_cells" 69 ["script","many"]
 g_52:FX K mg "_law_book" 70 ["script"]
 g_53:FX K mg "_law_calls" 71 ["pattern"]
 g_54:FX K mg "_law_whole" 72 ["found"]
 g_55:FX K mg "_law_is_pattern" 73 ["found","outs","states","kids"]
 g_56:FX K mg "_law_is_book" 74 ["found","ins","outs"]
 g_57:FX K mg "_law_in_order" 75 ["book"]
 g_58:FX K mg "law" 76 ["script"]
 e_Measure:WR
 x_Measure:mg "Measure"=A? (.ref e_Measure)
 cl_Measure:Cls K e_Measure
 g_23:FM K e_Measure "__init__" "Measure.__init__" (inClass (top 38) 0) ["self"]
 g_24:FM K e_Measure "takes" "Measure.takes" (inClass (top 38) 1) ["self","part","row"]
 mi_Measure:PySem.W.makesIn K e_Measure=C?/\PySem.W.keepIn K (.ref e_Measure)=C?
 na_Measure_met_knots:NoAttr K e_Measure "met_knots"
 na_Measure_met_calls:NoAttr K e_Measure "met_calls"
 n_0:mg "all"=B?
 n_1:mg "bool"=B?
 n_2:mg "dict"=B?
 n_3:mg "enumerate"=B?
 n_4:mg "int"=B?
 n_5:mg "isinstance"=B?
 n_6:mg "len"=B?
 n_7:mg "list"=B?
 n_8:mg "max"=B?
 n_9:mg "min"=B?
 n_10:mg "range"=B?
 n_11:mg "reversed"=B?
 n_12:mg "str"=B?
 n_13:mg "tuple"=B?
 n_14:mg "zip"=B?
theorem yK:ND ["number","kid","place"]:=by decide +kernel
theorem ab2:ND ["number","done"]:=by decide +kernel
theorem abj:ND ["place","knot"]:=by decide +kernel
theorem y4:ND ["place","part"]:=by decide +kernel
theorem yV:ND ["name","many"]:=by decide +kernel
theorem abU:ND ["kid","kids","ins"]:=by decide +kernel
theorem ab1:ND ["state","book","made","partings"]:=by decide +kernel
theorem aaR:ND ["state","front","partings"]:=by decide +kernel
theorem abB:ND ["kid","row"]:=by decide +kernel
theorem abJ:ND ["part"]:=by decide +kernel
theorem aa7:ND ["pattern","numbers"]:=by decide +kernel
theorem aaJ:ND ["hole","kid","state"]:=by decide +kernel
theorem aa6:ND ["pattern","place","table"]:=by decide +kernel
theorem aa8:ND ["n","base","menu"]:=by decide +kernel
theorem aaZ:ND ["kind","deep"]:=by decide +kernel
theorem abk:ND ["j","outs","states","kids","cell","deep"]:=by decide +kernel
theorem aa4:ND ["kind","seed"]:=by decide +kernel
theorem aa2:ND ["k"]:=by decide +kernel
theorem zj:ND ["call"]:=by decide +kernel
theorem abm:ND ["part","outs","states","kids"]:=by decide +kernel
section
variable(T:TX K mg)
inductive lu(K:WQ)(vs:List V)(H:Hp)(Q:VK)(_E:XK):Prop
 |mk {rq:Rep} (a:WR) (t:Th):vs=[.ref a]->AtK rq K H t a->(∀(r:WR)(as:List WR)(H':Hp),j! H H'->H' r=A? (.tup (as.map i!))->AtsK rq K H' t.kids as->Q (.ref r) H')->lu K vs H Q _E
theorem eN:aU P w K mg base CX0 1 T.g_2.f T.g_2.d ["thing"] (lu K):=by
 refine T.g_2.F.okA si λAh A outer s H vs Q E hr h=>?_;obtain@⟨rq,a,t,rfl,hA,k⟩:=h
 refine⟨_,(ad (bK (aW fR (aA aD (pv 0) ag (λ_ _=>rfl)) (cC (v:=.str (Xz "?")) rfl T.c_CALL_SIGN.choose_spec ⟨_,D?⟩) (aQ _)) (ae (aw (aE ab))) bh)
  (ae (aw (dC iK (pv 0) (dQ ag) fk)))),?_⟩
 try dsimp only[Aw,Ad]
 cases t with
 | knot n ks =>
   rw[AtK]at hA;refine hid λZZ kZ=>?_;obtain⟨hn,as,h1,h2⟩:=hA;refine kZ ?_;refine⟨_,D?,a,_,0,.str n,D?,D?,h1.sq,at0,D?,_,D?,?_⟩;refine cu (λc=>g! (e! c) (λz=>hn (V.str.inj z))) (λ_=>?_);refine⟨_,D?,1,D?,a,_,D?,h1.sq,?_,λr hr=>?_⟩
   .intro z;have:=z.1;simp[H!]at this
   .rw[fN];exact k r as _ (af hr _) ac (h2.mono (dJ hr))
 | call sn kn =>
   rw[AtK]at hA;obtain⟨v,hA,_⟩:=hA;refine⟨_,D?,a,_,0,.str q,D?,D?,hA.sq,at0,D?,_,D?,?_⟩;refine cu (λ_=>?_) (λc=>g! (d! rfl) c);refine⟨by show 0<=Xg;decide,λr hr=>?_⟩;exact k r [] _ (af hr _) ac .nil
inductive nY(K:WQ)(vs:List V)(H:Hp)(Q:VK)(_E:XK):Prop
 |mk {rq:Rep} (a:WR) (t:Th):vs=[.ref a]->AtK rq K H t a->t.size<=100000->(∀(r:WR)(as:List WR)(H':Hp),j! H H'->H r=B?->H' r=A? (.lst (as.map i!))->AtsK rq K H' t.walk as->Q (.ref r) H')->nY K vs H Q _E
theorem jo:aU P w K mg base CX0 2 T.g_3.f T.g_3.d ["thing"] (nY K):=by
 refine T.g_3.F.okA g9 λAh A outer s H vs Q E hr h=>?_;obtain@⟨rq,a,t,rfl,hA,hsz,k⟩:=h
 refine⟨_,(ad (am 1 g9.nd (bx ab))
  (ad (am 2 g9.nd (bx (aa (pv 0) ab)))
  (ad (eV Xr (aF (pv 2) (λ_=>rfl)) (ad (am 3 g9.nd (jN Xf ZD ZC jF (pv 2)))
  (ad (aS (bW Xf Xw Xv aO (pv 1) (aa (pv 3) ab)))
  (ae (aS (bW Xf ZX ZW rN (pv 2) (aa (sW aaE (pcF T.g_2 (eN T) hr (aa (pv 3) ab))) ab)))))))
  (ae (aw (pv 1)))))),?_⟩
 try dsimp only[Aw,Ad]
 refine⟨by show 0<=Xg;decide,λmt Cp=>?_⟩;refine⟨_,D?,by show 1<=Xg;decide,λah Bz=>?_⟩;have BZ:H ah=none:=(af Cp _).free Bz;have Ap:ah≠mt:=λz=>by rw[z,ac]at Bz;cases Bz
 refine⟨λm Z H2=>Ex5 λ(ms as:List WR)(Ms As:List Th)(p:Option V)=>An8 (Z=[A? (.ref a),A? (.ref mt),A? (.ref ah),p]) (j! H H2) (H2 mt=A? (.lst (ms.map i!))) (H2 ah=A? (.lst (as.map i!))) (AtsK rq K H2 Ms ms) (AtsK rq K H2 As as) (Ms++walks As.reverse=t.walk) (m=ao As),⟨_,[],[a],[],[t],B?,D?,?_,?_,?_,.nil,.cons (hA.mono ?_) .nil,?_,D?⟩,?_⟩
 .exact ak (af Cp _) BZ
 .rw[ai Ap.symm,ac];rfl
 .rw[ac];rfl
 .exact k! (ak (af Cp _) BZ)
 .simp[walks]
 rintro m Z H2 ⟨ms,as,Ms,As,p,rfl,sm,e1,e2,a1,a2,hw,rfl⟩
 have hlen:ms.length+ao As<=100000:=by
  have h1:=h! Zu hw;rw[Xd,jK,J!,<-a1.length]at h1;have h2:=oh As;lia
 refine⟨_,D?,_,.inl ⟨_,n! e2,D?⟩,?_⟩;refine cu (λc=>?_) (λc=>?_)
 ·-- a part is taken off
  refine⟨λAa H'=>∃m',m'<ao As/\Ex5 λ(ms as:List WR)(Ms As:List Th)(p:Option V)=>An8 (Aa=[A? (.ref a),A? (.ref mt),A? (.ref ah),p]) (j! H H') (H' mt=A? (.lst (ms.map i!))) (H' ah=A? (.lst (as.map i!))) (AtsK rq K H' Ms ms) (AtsK rq K H' As as) (Ms++walks As.reverse=t.walk) (m'=ao As),λAa H' h=>h,?_⟩;have Bd:as≠[]:=by intro z;subst z;simp at c
  obtain⟨Ar,b,rfl⟩:∃Ar b,as=Ar++[b]:=⟨as.dropLast,as.getLast Bd,(Y1 Bd).symm⟩;obtain⟨Us,x,rfl,a3,a4⟩:=a2.snoc_inv;have hs:ao (Us++[x])=ao Us+x.size:=by rw[bC,ao,ao];lia
  have Fg:=x.size_eq;rw[hs]at hlen;refine⟨_,D?,.inl ⟨D?,_,n! e2⟩,ah,_,.ref b,D?,D?,e2,by simp,?_⟩;have d1:((Ar++[b]).map i!).dropLast=Ar.map i!:=by simp
  rw[d1];refine⟨_,D?,.inl ⟨D?,_,n! (by rw[ai Ap.symm];exact e1)⟩,_,D?,mt,_,.ref b,D?,D?,by rw[ai Ap.symm];exact e1,lbE (by lia),?_⟩;have k1:KT H2 (upd (upd H2 ah (.lst (Ar.map i!))) mt (.lst (ms.map i!++[.ref b]))):=(aL e2).trans (aL (xs:=ms.map i!) (by rw[ai Ap.symm];exact e1));refine⟨_,D?,.inl ⟨D?,_,n! (by rw[ai Ap,ac])⟩,_,D?,b,x,D?,a4.mono k1,λr ks H3 s3 e3 a5=>?_⟩;refine⟨r,_,D?,l! e3,λl hl=>?_⟩;have l1:l≠ah:=λz=>by rw[z,s3 ah _ (by rw[ai Ap,ac])]at hl;cases hl
  have l2:l≠mt:=λz=>by rw[z,s3 mt _ ac]at hl;cases hl
  refine⟨ah,l,_,_,D?,D?,by rw[ai l1.symm];exact s3 ah _ (by rw[ai Ap,ac]),l! ac,ZS (bR ?_),?_⟩
  .have q1:=a3.length;have q2:=a5.length;have q3:=cj Us;have q4:=cj x.kids;rw[WN,Yt,WN];lia
  .have k2:KT H2 (upd (upd H3 l (.tup (ks.map i!).reverse)) ah (.lst (Ar.map i!++(ks.map i!).reverse))) :=
    k1.trans ((k! s3).trans ((dJ hl).trans (aL (xs:=Ar.map i!) (by rw[ai l1.symm];exact s3 ah _ (by rw[ai Ap,ac])))))
   have k3:KT H3 (upd (upd H3 l (.tup (ks.map i!).reverse)) ah (.lst (Ar.map i!++(ks.map i!).reverse))) :=
    (dJ hl).trans (aL (xs:=Ar.map i!) (by rw[ai l1.symm];exact s3 ah _ (by rw[ai Ap,ac])))
   refine⟨ao (Us++x.kids.reverse),?_,ms++[b],Ar++ks.reverse,Ms++[x],Us++x.kids.reverse,A? (.ref b),D?,?_,?_,?_,?_,?_,?_,D?⟩
   .rw[bC,oh,hs];lia
   .have s4:j! H (upd (upd H2 ah (.lst (Ar.map i!))) mt (.lst (ms.map i!++[.ref b]))):=ak (ak sm BZ) Cp;have nl:H l=none:=s4.free (s3.free hl);exact ak (ak (s4.trans s3) nl) BZ
   .rw[ai Ap.symm,ai l2.symm,s3 mt _ ac,W8];rfl
   .rw[ac,W8,List.map_reverse]
   .exact(a1.mono k2).append (.cons (a4.mono k2) .nil)
   .exact(a3.mono k2).append (a5.mono k3).reverse
   .rw[<-hw,XJ,YD,YD,Y4,jm];show Ms++([x]++(walks x.kids++walks Us.reverse))=Ms++walks (x::Us.reverse);rw[walks,x.walk_eq];rfl
 .have hz:as=[]:=by
   cases as with
   |nil=>rfl
   |cons y ys=>simp at c
  subst hz;have El:As=[]:=Yi.mp a2.length.symm;subst El;refine⟨_,D?,k mt ms H2 sm Cp e1 ?_⟩;have EO:Ms=t.walk:=by simpa[walks]using hw
  rw[<-EO];exact a1
inductive nL(K:WQ)(vs:List V)(H:Hp)(Q:VK)(_E:XK):Prop
 |mk (a:WR) (t:Th):vs=[.ref a]->AtK .i K H t a->t.size<=100000->t.tall<=100000->(∀(r:WR)(as:List WR)(H':Hp),j! H H'->H r=B?->H' r=A? (.lst (as.map i!))->PsAtK K H' (t.pl []) as->Q (.ref r) H')->nL K vs H Q _E
theorem gR:aU P w K mg base CX0 2 T.g_4.f T.g_4.d ["thing"] (nL K):=by
 refine T.g_4.F.okA eh λAh A outer s H vs Q E hr h=>?_;obtain⟨a,t,rfl,hA,hsz,Ay,k⟩:=h
 refine⟨_,(ad (am 1 eh.nd (bx ab))
  (ad (am 2 eh.nd (bx (aa (aE (aa (aE ab) (aa (pv 0) ab))) ab)))
  (ad (eV Xr (aF (pv 2) (λ_=>rfl)) (ad (fw (jN Xf ZD ZC jF (pv 2)) (bp rfl (aj (pgN 3 eh.nd) (aj (pgN 4 eh.nd) aV))))
  (ad (aS (bW Xf Xw Xv aO (pv 1) (aa (aE (aa (pv 3) (aa (pv 4) ab))) ab)))
  (ad (dr (i:=5) (N:=["number","kid","place"]) (js:=[B?,B?,A? 3]) (g:=(mV K 2 (cY (av 0) (cY (av 1) mN)))) (tt:=bE) (te:=(kD (aI (tOp (pH K) (bi 2) (kD (aI (bi 0) cK))) (aI (bi 1) cK)))) eh.nd rfl (Or.inl rfl) rfl (cp rfl (by decide +kernel) (by decide +kernel) rfl rfl rfl) (oT rfl T.n_3 (pcF T.g_2 (eN T) hr (aa (pv 4) ab))) (λ_ _ _ _ _ _=>(bp rfl (aj (pgN 0 yK) (aj (pgN 1 yK) aV)))) (gN (bT bd (aK rfl) (bT bd (aK rfl) gI))) (λ_ _ _ _ _ _=>bM) (λ_ _ _ _ _ _=>(aE (aa (aC fT (pv 2) (aE (aa (pv 0) ab))) (aa (pv 1) ab)))))
  (ae (aS (bW Xf ZX ZW gX (pv 2) (aa (sW yE (pv 5)) ab))))))))
  (ae (aw (pv 1)))))),?_⟩
 try dsimp only[Aw,Ad]
 refine⟨lnE rfl,λmt Cp=>?_⟩;have s1:j! H (upd H mt (.lst [])):=af Cp _;have G7:(upd H mt (.lst [])) mt=A? (.lst []):=ac;generalize upd H mt (.lst [])=H1 at s1 G7 |-;refine⟨lnE rfl,λp0 Fh=>?_⟩;refine⟨_,D?,lnE rfl,λp1 DV=>?_⟩;refine⟨lnE rfl,λah Bz=>?_⟩;have s2:j! H1 (upd (upd H1 p0 (.tup [])) p1 (.tup [.ref p0,.ref a])):=(af Fh _).trans (af DV _);have e1:(upd (upd H1 p0 (.tup [])) p1 (.tup [.ref p0,.ref a])) p1=A? (.tup [.ref p0,.ref a]):=ac;have e0:(upd (upd H1 p0 (.tup [])) p1 (.tup [.ref p0,.ref a])) p0=A? (.tup []):=af DV _ _ _ ac;generalize(upd (upd H1 p0 (.tup [])) p1 (.tup [.ref p0,.ref a]))=H2 at s2 e1 e0 Bz |-;have C9:H1 ah=none:=s2.free Bz;have BZ:H ah=none:=s1.free C9;have Ap:ah≠mt:=λz=>by rw[z,G7]at C9;cases C9
 refine⟨λm Z H3=>Ex7 λ(ms as:List WR)(Ms As:List (List Int×Th))(c3 c4 c5:Option V)=>An9 (Z=[A? (.ref a),A? (.ref mt),A? (.ref ah),c3,c4,c5]) (j! H H3) (H3 mt=A? (.lst (ms.map i!))) (H3 ah=A? (.lst (as.map i!))) (PsAtK K H3 Ms ms) (PsAtK K H3 As as) (Ms++plP As.reverse=t.pl []) ((∀p∈As,p.1.length+p.2.tall<=100000)) (m=szP As),⟨_,[],[p1],[],[([],t)],B?,B?,B?,D?,?_,?_,?_,.nil,.cons ⟨p0,a,?_,?_,?_⟩ .nil,?_,?_,D?⟩,?_⟩
 .exact ak (s1.trans s2) BZ
 .rw[ai Ap.symm];exact s2 _ _ G7
 .rw[ac];rfl
 .exact af Bz _ _ _ e1
 .exact af Bz _ _ _ e0
 .exact hA.mono (k! (ak (s1.trans s2) BZ))
 .simp[plP]
 .intro p hp;rw[Xc]at hp;subst hp;simpa using Ay
 rintro m Z H3 ⟨ms,as,Ms,As,c3,c4,c5,rfl,sm,em,ea,a1,a2,hw,hb,rfl⟩
 have hlen:ms.length+szP As<=100000:=by
  have h1:=h! Zu hw;rw[Xd,tD,D!,kL]at h1;have h2:=W3 a1;lia
 refine⟨_,D?,_,.inl ⟨_,n! ea,D?⟩,?_⟩;refine cu (λc=>?_) (λc=>?_)
 .refine⟨λAa H'=>∃m',m'<szP As/\Ex7 λ(ms as:List WR)(Ms As:List (List Int×Th))(c3 c4 c5:Option V)=>An9 (Aa=[A? (.ref a),A? (.ref mt),A? (.ref ah),c3,c4,c5]) (j! H H') (H' mt=A? (.lst (ms.map i!))) (H' ah=A? (.lst (as.map i!))) (PsAtK K H' Ms ms) (PsAtK K H' As as) (Ms++plP As.reverse=t.pl []) ((∀p∈As,p.1.length+p.2.tall<=100000)) (m'=szP As),λAa H' h=>h,?_⟩;have Bd:as≠[]:=by intro z;subst z;simp at c
  refine hid λZZ kZ=>?_;obtain⟨Ar,b,rfl⟩:∃Ar b,as=Ar++[b]:=⟨as.dropLast,as.getLast Bd,(Y1 Bd).symm⟩;obtain⟨Us,⟨pre,x⟩,rfl,a3,pa,ta,eb,BM,Dq⟩:=P2.snoc_inv a2;refine kZ ?_;have JN:szP (Us++[(pre,x)])=szP Us+x.size:=by rw[cG,szP,szP];rfl
  have Fg:=x.size_eq;rw[JN]at hlen;have LN:=hb (pre,x) (by simp);simp only at LN BM Dq;refine⟨_,D?,.inl ⟨D?,_,n! ea⟩,ah,_,.ref b,D?,D?,ea,by simp,?_⟩;have d1:((Ar++[b]).map i!).dropLast=Ar.map i!:=by simp
  rw[d1];have k1:KT H3 (upd H3 ah (.lst (Ar.map i!))):=aL ea;have Gg:j! H (upd H3 ah (.lst (Ar.map i!))):=ak sm BZ;have Dr:(upd H3 ah (.lst (Ar.map i!))) mt=A? (.lst (ms.map i!)):=by rw[ai Ap.symm];exact em
  have G9:(upd H3 ah (.lst (Ar.map i!))) ah=A? (.lst (Ar.map i!)):=ac;generalize(upd H3 ah (.lst (Ar.map i!)))=H4 at k1 Gg Dr G9 |-;refine⟨b,_,D?,l! (k1 _ _ eb),D?,_,_,D?,_,_,D?,D?,?_⟩
  refine⟨_,D?,.inl ⟨D?,_,n! Dr⟩,_,D?,_,D?,lnE rfl,λpr Bu=>?_⟩;have NR:mt≠pr:=az Dr Bu;refine⟨mt,_,_,D?,D?,af Bu _ _ _ Dr,lbE (by lia),?_⟩;have NS:(upd H4 pr (.tup [.ref pa,.ref ta])) mt=A? (.lst (ms.map i!)):=af Bu _ _ _ Dr;have k2:KT H4 (upd (upd H4 pr (.tup [.ref pa,.ref ta])) mt (.lst (ms.map i!++[.ref pr]))):=(dJ Bu).trans (aL NS);have NT:j! H (upd (upd H4 pr (.tup [.ref pa,.ref ta])) mt (.lst (ms.map i!++[.ref pr]))):=ak (ak Gg (Gg.free Bu)) Cp;have QT:(upd (upd H4 pr (.tup [.ref pa,.ref ta])) mt (.lst (ms.map i!++[.ref pr]))) mt=A? (.lst ((ms++[pr]).map i!)):=uAE;have QU:(upd (upd H4 pr (.tup [.ref pa,.ref ta])) mt (.lst (ms.map i!++[.ref pr]))) ah=A? (.lst (Ar.map i!)):=by rw[ai Ap,ai (az G9 Bu)];exact G9
  have Io:(upd (upd H4 pr (.tup [.ref pa,.ref ta])) mt (.lst (ms.map i!++[.ref pr]))) pr=A? (.tup [.ref pa,.ref ta]):=by rw[ai NR.symm,ac]
  generalize(upd (upd H4 pr (.tup [.ref pa,.ref ta])) mt (.lst (ms.map i!++[.ref pr])))=H5 at k2 NT QT QU Io |-;have Ip:KT H3 H5:=k1.trans k2;have NU:=Ip _ _ BM
  refine⟨_,D?,ta,x,D?,Dq.mono Ip,λr ks H6 s6 er BY=>⟨r,D?,⟨_,l! er⟩,?_⟩⟩;have BQ:ks.length=x.kids.length:=BY.length;have JO:=cj x.kids;intro D hD;have NV:=s6 _ _ NU;refine⟨ks.length,λj H7=>An3 (j<=ks.length) (j! H6 H7) (Ex1 λ(bs:List WR)=>An2 (H7 D=A? (.lst (bs.map i!))) (PsAtK K H7 ((cX pre 0 x.kids).take j) bs)),⟨Xh _,af hD _,[],ac,.nil⟩,?_⟩;rintro j H7 ⟨hj,s7,bs,eD,An⟩;by_cases B0:j=ks.length
  .left;refine⟨⟨_,l! (s7 _ _ er),by rw[WN];exact B0.symm⟩,?_⟩;have Ac:(cX pre 0 x.kids).take j=cX pre 0 x.kids:=by rw[B0,BQ,<-gP pre 0 x.kids,Yh]
   rw[Ac]at An;have NW:=s7 _ _ (s6 _ _ QU);have DF:=s7 _ _ (s6 _ _ QT)
   have Bf:bs.length=x.kids.length:=by
    have:=W3 An;rw[gP]at this;exact this.symm
   refine⟨_,D?,.inl ⟨D?,_,n! NW⟩,_,D?,D,_,D?,n! eD,λl hl=>?_⟩;have Fc:ah≠l:=az NW hl;have Fi:mt≠l:=az DF hl;have JP:(upd H7 l (.lst (bs.map i!).reverse)) ah=A? (.lst (Ar.map i!)):=by rw[ai Fc];exact NW
   have q3:Ar.length=Us.length:=(W3 a3).symm;have q4:=oJ Us;refine⟨ah,l,_,_,D?,D?,JP,ac,cT ?_,?_⟩
   .rw[WN,Yt,WN];lia
   have k8:KT H7 (upd (upd H7 l (.lst (bs.map i!).reverse)) ah (.lst (Ar.map i!++(bs.map i!).reverse))):=(dJ hl).trans (aL JP);have Gh:KT H3 (upd (upd H7 l (.lst (bs.map i!).reverse)) ah (.lst (Ar.map i!++(bs.map i!).reverse))):=Ip.trans ((k! (s6.trans s7)).trans k8);refine⟨szP (Us++(cX pre 0 x.kids).reverse),?_,ms++[pr],Ar++bs.reverse,Ms++[(pre,x)],Us++(cX pre 0 x.kids).reverse,_,_,_,D?,?_,?_,?_,?_,?_,?_,?_,D?⟩
   .rw[cG,kL,iV,JN];lia
   .exact ak (ak ((NT.trans s6).trans s7) ((NT.trans s6).trans s7 |>.free hl)) BZ
   .rw[ai Ap.symm,ai Fi];exact DF
   .rw[ac,W8,List.map_reverse]
   .exact r! (a1.mono Gh) (.cons ⟨pa,ta,k8 _ _ (s7 _ _ (s6 _ _ Io)),Gh _ _ BM,Dq.mono Gh⟩ .nil)
   .exact r! (I! Gh a3) (P2.reverse (I! k8 An))
   .rw[<-hw,XJ,YD,YD,Y4,ld,qt];show Ms++([(pre,x)]++(pls pre 0 x.kids++plP Us.reverse))=Ms++plP ((pre,x)::Us.reverse);rw[plP,x.pl_eq pre];rfl
   .intro p hp;rcases XA.mp hp with hp|hp
    .exact hb p (XM _ hp)
    .obtain⟨g1,g2⟩:=mh pre 0 x.kids p (List.mem_reverse.mp hp);have:=oQ g2;lia
  .right;have Au:j<ks.length:=by lia
   refine⟨Au,⟨_,.ref ks[j],l! (s7 _ _ er),by rw[WZ,WS Au];rfl⟩,?_⟩;rintro y H8 ⟨p,v,hp,rfl,rfl,hv⟩;have AU:=hv _ (l! (s7 _ _ er));obtain⟨kd,rfl,CJ⟩:=aH AU;obtain⟨tk,AQ,NX⟩:=BY.get CJ;have s8:j! H7 (upd H7 p (.tup [.int (j:Nat),.ref kd])):=af hp _;refine⟨p,_,D?,l! ac,D?,_,_,D?,_,_,D?,D?,?_⟩;generalize(upd H7 p (.tup [.int (j:Nat),.ref kd]))=H8 at s8 |-;refine⟨_,D?,_,D?,lnE rfl,λn1 Gi=>?_⟩;refine gU Gi λH9 s9 e9=>?_;refine sE (s9 _ _ (s8 _ _ (s7 _ _ NV))) e9 (by rw[WN];show pre.length+1<=1000000;lia) λn2 BF AV JQ=>?_;refine⟨_,D?,lnE rfl,λn3 Gj=>?_⟩;have BU:j! H7 (upd BF n3 (.tup [.ref n2,.ref kd])):=(s8.trans (s9.trans AV)).trans (af Gj _);have JR:=BU _ _ eD;refine⟨_,JR,bR ?_,Au,?_,bs++[n3],?_,?_⟩
   .have:=W3 An;rw[XS]at this;rw[WN];lia
   .exact ak (s7.trans BU) hD
   .rw[ac,W8];rfl
   .have LO:KT (upd BF n3 (.tup [.ref n2,.ref kd])) (upd (upd BF n3 (.tup [.ref n2,.ref kd])) D (.lst (bs.map i!++[.ref n3]))):=aL JR;rw[XU,lm pre 0 x.kids j tk AQ];refine r! (I! ((k! BU).trans LO) An) (.cons ⟨n2,kd,LO _ _ ac,LO _ _ (af Gj _ _ _ ?_),?_⟩ .nil)
    .rw[JQ,W8,Yq];rfl
    .exact NX.mono ((k! (s7.trans BU)).trans LO)
 .have hz:as=[]:=by
   cases as with
   |nil=>rfl
   |cons y ys=>simp at c
  subst hz;have El:As=[]:=Yi.mp (W3 a2);subst El;refine⟨_,D?,k mt ms H3 sm Cp em ?_⟩;have EO:Ms=t.pl []:=by simpa[plP]using hw
  rw[<-EO];exact a1
inductive qQ(K:WQ)(vs:List V)(H:Hp)(Q:VK)(_E:XK):Prop
 |mk {rq:Rep} (l:WR) (as:List WR) (tops:List Top) (u:Th):vs=[.ref l]->H l=A? (.lst (as.map i!))->Xp (TopAtK rq K H) tops as->tops.length<=100000->TopsOk tops->(∀t,Top.th t∈tops->t.size<=100000)->bl tops=[u]->(∀(r:WR)(H':Hp),j! H H'->AtK rq K H' u r->Q (.ref r) H')->qQ K vs H Q _E
theorem i6:aU P w K mg base CX0 1 T.g_5.f T.g_5.d ["tops"] (qQ K):=by
 refine T.g_5.F.okA iX λAh A outer s H vs Q E hr h=>?_;obtain@⟨rq,l,as,tops,u,rfl,el,hT,hlen,hok,NY,hu,k⟩:=h
 refine⟨_,(ad (am 1 iX.nd (bx ab))
  (ad (bq Xr rfl (zT rfl T.n_11 (pv 0)) (bp rfl (aj (pgN 2 iX.nd) (aj (pgN 3 iX.nd) aV))) (ae (bK (aW pZ (pv 3) ag (aQ _)) (ae (aS (bW Xf Xw Xv aO (pv 1) (aa (aC fT (pv 2) (bG bv rfl T.n_13 XZ (aa (cq (N:=["number","done"]) (js:=[B?,A? 1]) (g:=(av 0)) (tt:=bE) (te:=(aa9 K "list" (abr) (bi 1))) rfl (cp rfl (by decide +kernel) (by decide +kernel) rfl rfl rfl) (bF rfl T.n_10 (aa (pv 3) ab)) (λ_ _ _ _ _ _=>(pgN 0 ab2)) (aK rfl) (λ_ _ _ _ _ _=>bM) (λ_ _ _ _ _ _=>(jN Xf ZD ZC jF (pv 1)))) ab))) ab)))) (ae (aS (bW Xf Xw Xv aO (pv 1) (aa (pv 2) ab)))))))
  (ae (aw (aA bD (pv 1) ag (λ_ _=>rfl)))))),?_⟩
 try dsimp only[Aw,Ad]
 have Bc:tops.length=as.length:=W3 hT;refine⟨lnE rfl,λdn LP=>?_⟩;refine⟨_,D?,l,_,D?,n! (af LP _ _ _ el),?_⟩
 refine xZ (K:=K) (a:=l) (xs:=as.map i!) (λi Z H2=>Ex3 λc2 c3 ds=>An4 (Z=[A? (.ref l),A? (.ref dn),c2,c3]) (j! H H2) (H2 dn=A? (.lst (ds.map i!))) (AtsK rq K H2 (bl (tops.drop (tops.length - i))).reverse ds))
  ⟨B?,B?,[],rfl,af LP _,ac,by rw[Nat.sub_zero,List.drop_length];exact .nil⟩ (λi Z H2 _⟨_,_,_,_,s2,_,_⟩=>n! (s2 _ _ el)) ?_ ?_
 .rintro i y Z H2 hi hy ⟨c2,c3,ds,rfl,s2,Fj,BC⟩;rw[WN,<-Bc]at hi hy;obtain⟨pr,rfl,Bu⟩:=aH hy;obtain⟨x,hx,NZ⟩:=y! hT Bu;have JS:=NZ.mono (k! s2);have hn:tops.length - 1 - i<tops.length:=by lia
  have LR:tops.drop (tops.length - 1 - i)=x::tops.drop (tops.length - i):=by
   rw[List.drop_eq_getElem_cons hn,show tops.length - 1 - i+1=tops.length - i by lia];congr 1;rw[WS hn]at hx;exact Xm hx
  have Fl:=hok.drop (tops.length - 1 - i);rw[LR]at Fl;have Gk:tops.length - (i+1)=tops.length - 1 - i:=by lia
  have Nc:(bl (tops.drop (tops.length - i))).length<=100000:=by
   have:=sM (tops.drop (tops.length - i));rw[List.length_drop]at this;lia
  generalize tops.drop (tops.length - i)=S at LR BC Fl Nc;refine hid λZZ kZ=>?_
  obtain⟨ta,m,xs,Io,eta,hm,Ww,BP⟩:∃(ta:WR)(m:Nat)(xs:List V),H2 pr=A? (.tup [.ref ta,.int (m:Nat)])/\TK K H2 ta xs/\m<=(bl S).length/\xs.length<=200000/\∀(H':Hp)(p:WR)(ks:List WR),KT H2 H'->AtsK rq K H' ((bl S).take m) ks->TK K H' p (xs++ks.map i!)->∃u',bl (x::S)=u'::(bl S).drop m/\AtK rq K H' u' p:=by
   cases x with
   | nm n m =>
     rw[TopsOk]at Fl;obtain⟨ta,h1,h2,h3⟩:=JS;refine⟨ta,m,_,h1,h3,Fl.1,(by show 1<=200000;decide),λH' p ks kt hk hp=>⟨_,by rw[bl],?_⟩⟩;rw[AtK];exact⟨h2,ks,hp,hk⟩
   | th t =>
     obtain⟨ta,h1,h2⟩:=JS;obtain⟨xs,h3,hw,h4⟩:=h2.whole;have AD:=NY t (WT hx);refine⟨ta,0,_,h1,h3,Xh _,by lia,λH' p ks kt hk hp=>⟨t,by rw[bl,Z9],?_⟩⟩;rw[Zk,AtsK]at hk;subst hk;rw[YS,Xs]at hp;exact h4 _ _ kt hp
  refine kZ ?_;refine⟨pr,_,D?,l! Io,D?,_,_,D?,_,_,D?,D?,?_⟩;have N0:=BC.length;rw[Yt]at N0;refine cw (λb H'=>An2 (H'=H2) (b=decide ((0:Int)<(m:Int)))) (λkk AN=>?_) (λH' hb=>?_) (λH' hb=>?_)
  .exact⟨_,D?,_,_,D?,D?,_,D?,AN _ _ ⟨D?,D?⟩⟩
  rotate_left
  .obtain⟨rfl,hb⟩:=hb
   have Uj:m=0:=by
    have:=of_decide_eq_false hb.symm;lia
   subst Uj;obtain⟨u',BV,Cq⟩:=BP H' ta [] (k! (.refl _)) (by rw[Zk];exact .nil) (by rw[YS,Xs];exact eta);refine⟨_,D?,.inl ⟨D?,_,n! Fj⟩,_,D?,dn,_,_,D?,D?,Fj,lbE (by lia),?_⟩;have k6:KT H' (upd H' dn (.lst (ds.map i!++[.ref ta]))):=aL Fj;refine⟨_,_,ds++[ta],D?,?_,uAE,?_⟩
   .intro b o e;rw[ai (az e LP)];exact s2 b o e
   .rw[Gk,LR,BV,X8];rw[Z9];exact(BC.mono k6).append (.cons (Cq.mono k6) .nil)
  obtain⟨rfl,hb⟩:=hb;refine⟨_,D?,.inl ⟨D?,_,n! Fj⟩,_,D?,?_⟩;refine⟨_,D?,(m:Int),D?,by lia,by lia,λD hD=>?_⟩;have N1:D≠dn:=λz=>by rw[z,Fj]at hD;cases hD
  have Cp:((m:Nat):Int).toNat=m:=XH m
  refine⟨m,λj H3=>An3 (j<=m) ((∀b o,H' b=A? o->b≠dn->H3 b=A? o)) (Ex2 λ(Fm ks:List WR)=>An4 (H3 dn=A? (.lst (Fm.map i!))) (H3 D=A? (.lst (ks.map i!))) (AtsK rq K H3 ((bl S).drop j).reverse Fm) (AtsK rq K H3 ((bl S).take j) ks)),
   ⟨Xh _,λb o e hb=>?_,ds,[],?_,?_,?_,?_⟩,?_⟩
  .rw[ai (az e hD)];exact e
  .rw[ai N1.symm];exact Fj
  .rw[ac];rfl
  .rw[Z9];exact BC.mono (dJ hD)
  .rw[Zk];exact .nil
  rintro j H3 ⟨hj,kp,Fm,ks,ed,eD,JT,hd2⟩;by_cases QV:j=m
  .left;refine⟨(by show((m:Nat):Int).toNat<=j;rw[Cp,QV];exact WW _),?_⟩;subst QV;have JU:KT H' H3:=λb Wx e=>kp b _ e (eY e Fj (by intro z;cases z));refine⟨D,_,D?,.inl ⟨n! eD,λtp CL=>?_⟩⟩;refine gU CL λH4 s4 e4=>?_;have BQ:=hd2.length;refine abD ((eta.mono JU).mono (k! s4)) (.of e4) (by rw[WN,BQ,XS];lia) λp H5 s5 e5=>?_;have ET:=s4.trans s5;have QW:=ET _ _ ed;have Fn:=JU.trans (k! ET);obtain⟨u',BV,Cq⟩:=BP H5 p ks Fn (hd2.mono (k! ET)) e5;have Dn:=JT.length;rw[Yt,List.length_drop]at Dn;refine⟨dn,_,_,D?,D?,QW,lbE (by lia),?_⟩;have k6:KT H5 (upd H5 dn (.lst (Fm.map i!++[.ref p]))):=aL QW;refine⟨_,_,Fm++[p],D?,?_,uAE,?_⟩
   .intro b o e;have hb:b≠dn:=az e LP;rw[ai hb];exact ET _ _ (kp b o (s2 b o e) hb)
   .rw[Gk,LR,BV,X8];exact(JT.mono ((k! ET).trans k6)).append (.cons (Cq.mono k6) .nil)
  .right;have Au:j<m:=by lia
   refine⟨Au,(by show j<((m:Nat):Int).toNat;rw[Cp];exact Au),?_⟩;rintro x' H4 ⟨e1,e2⟩;have Cj:H4=H3:=e1;subst Cj;have QX:j<(bl S).length:=by lia
   have Uk:(bl S).drop j=(bl S)[j]::(bl S).drop (j+1):=List.drop_eq_getElem_cons QX;rw[Uk,X8]at JT
   have Ap:Fm≠[]:=by
    intro z;subst z;have:=JT.length;rw[Xd]at this;simp at this
   refine hid λZZ kZ=>?_;obtain⟨Ha,b,rfl⟩:∃Ha b,Fm=Ha++[b]:=⟨Fm.dropLast,Fm.getLast Ap,(Y1 Ap).symm⟩;obtain⟨Us,x2,e3,hU,hb2⟩:=JT.snoc_inv;have e4:=List.append_inj' e3 rfl;obtain⟨e5,e6⟩:=e4;refine kZ ?_;cases e6;subst e5;refine⟨_,D?,.inl ⟨D?,_,n! ed⟩,dn,_,.ref b,D?,D?,ed,by simp,?_⟩;have d1:((Ha++[b]).map i!).dropLast=Ha.map i!:=by simp
   rw[d1];have Iq:(upd H4 dn (.lst (Ha.map i!))) D=A? (.lst (ks.map i!)):=by rw[ai N1];exact eD
   have k5:KT H4 (upd (upd H4 dn (.lst (Ha.map i!))) D (.lst (ks.map i!++[.ref b]))):=(aL ed).trans (aL Iq);refine⟨_,Iq,bR (by rw[WN,hd2.length,XS];lia),Au,λb' o e AD=>?_,Ha,ks++[b],?_,?_,hU.mono k5,?_⟩
   .rw[ai (az e hD),ai AD];exact kp b' o e AD
   .rw[ai N1.symm,ac]
   .rw[ac,W8];rfl
   .rw[XU,WS QX];exact(hd2.mono k5).append (.cons (hb2.mono k5) .nil)
 .rintro Z H2 ⟨c2,c3,ds,rfl,s2,Fj,BC⟩;rw[WN,<-Bc,Nat.sub_self,Z9,hu]at BC;have JV:AtsK rq K H2 [u] ds:=BC;rw[AtsK]at JV;obtain⟨b,r,rfl,hb,G4⟩:=JV;exact⟨_,D?,dn,_,0,.ref b,D?,D?,n! Fj,at0,k b H2 s2 hb⟩
inductive nX(K:WQ)(vs:List V)(H:Hp)(Q:VK)(_E:XK):Prop
 |mk (a:WR) (t:Th):vs=[.ref a]->AtK .i K H t a->t.size<=100000->t.tall<=100000->(∀(r:WR)(ps:List WR)(H':Hp),j! H H'->H r=B?->H' r=A? (.lst (ps.map i!))->Xp (λ(p:List Int×Th)b=>H' b=A? (.tup (p.1.map p!))) (t.pl []) ps->Q (.ref r) H')->nX K vs H Q _E
theorem uL:aU P w K mg base CX0 3 T.g_6.f T.g_6.d ["tree"] (nX K):=by
 refine T.g_6.F.okA uP λAh A outer s H vs Q E hr h=>?_;obtain⟨a,t,rfl,hA,hsz,Ay,k⟩:=h;refine⟨_,(ae (aw (cq (N:=["place","knot"]) (js:=[B?,B?]) (g:=(mV K 2 (cY (av 0) (cY (av 1) mN)))) (tt:=bE) (te:=(bi 0)) rfl (cp rfl (by decide +kernel) (by decide +kernel) rfl rfl rfl) (bS (pcF T.g_4 (gR T) hr (aa (pv 0) ab))) (λ_ _ _ _ _ _=>(bp rfl (aj (pgN 0 abj) (aj (pgN 1 abj) aV)))) (gN (bT bd (aK rfl) (bT bd (aK rfl) gI))) (λ_ _ _ _ _ _=>bM) (λ_ _ _ _ _ _=>(pv 0))))),?_⟩
 try dsimp only[Aw,Ad]
 refine⟨_,D?,a,t,D?,hA,hsz,Ay,λr as H1 s1 nr er Bn=>⟨r,D?,⟨_,n! er⟩,?_⟩⟩;have Bc:(t.pl []).length=as.length:=W3 Bn;rw[D!]at Bc;refine hid λZZ kZ=>?_;obtain⟨bs,hb1,hb2,hb3⟩:=mX Bn;refine kZ ?_;refine ir bs (λ_=>C?) i! (n! er) (by rw[WN];exact hb2) (by rw[WN];lia) (λi x z H2 R R0 hx hz sm g1 g2=>?_) (λD hD=>?_)
 .obtain⟨a',ta,rfl,ea⟩:=hb3 i x z hx hz;refine⟨a',_,D?,l! (sm _ _ ea),D?,_,_,D?,_,_,D?,D?,?_⟩;refine sg (B:=R0 H2) ?_;exact⟨_,D?,g1 rfl⟩
 .rw[filter_tt];exact k D bs _ (s1.trans (af hD _)) (s1.free hD) ac (x! (λ_ _ e=>af hD _ _ _ e) hb1)
inductive fV(K:WQ)(vs:List V)(H:Hp)(Q:VK)(_E:XK):Prop
 |mk {rq:Rep} (a:WR) (t:Th):vs=[.ref a]->AtK rq K H t a->Q (.bl t.isCall) H->fV K vs H Q _E
theorem eU:aU P w K mg base CX0 1 T.g_9.f T.g_9.d ["thing"] (fV K):=by
 refine T.g_9.F.okA rO λAh A outer s H vs Q E hr h=>?_;obtain@⟨rq,a,t,rfl,hA,k⟩:=h;refine⟨_,(ae (aw (cW fR (aA aD (pv 0) ag (λ_ _=>rfl)) (cC (v:=.str (Xz "?")) rfl T.c_CALL_SIGN.choose_spec ⟨_,D?⟩) (aQ _)))),?_⟩
 try dsimp only[Aw,Ad]
 cases t with
 | knot n ks =>
   rw[AtK]at hA;refine hid λZZ kZ=>?_;obtain⟨hn,as,h1,h2⟩:=hA;refine kZ ?_;refine⟨_,D?,a,_,0,.str n,D?,D?,h1.sq,at0,D?,?_⟩;have e:decide (L! n=L! (Xz "?"))=false:=c! (λz=>hn (V.str.inj z));rw[e];exact k
 | call sn kn =>
   rw[AtK]at hA;obtain⟨v,hA,_⟩:=hA;refine⟨_,D?,a,_,0,.str q,D?,D?,hA.sq,at0,D?,?_⟩;have e:decide (L! q=L! (Xz "?"))=true:=d! rfl;rw[e];exact k
inductive iI(K:WQ)(vs:List V)(H:Hp)(Q:VK)(_E:XK):Prop
 |mk (a:WR) (t:Th):vs=[.ref a]->AtK .i K H t a->t.tall<=150->Q (.bl t.isHole) H->iI K vs H Q _E
theorem gb:aU P w K mg base CX0 1 T.g_10.f T.g_10.d ["thing"] (iI K):=by
 refine T.g_10.F.okA rG λAh A outer s H vs Q E hr h=>?_;obtain⟨a,t,rfl,hA,Ay,k⟩:=h;refine⟨_,(ae (aw (cW (sX (B:=150) (eQ hr)) (pv 0) (cC (v:=.ref T.k_HOLE.a) rfl T.k_HOLE.c rfl) (aQ _)))),?_⟩
 try dsimp only[Aw,Ad]
 refine⟨_,D?,?_⟩;exact yD hA (TK.const T.k_HOLE.q) Ay k
inductive mq(K:WQ)(vs:List V)(H:Hp)(Q:VK)(_E:XK):Prop
 |mk (a:WR) (t:Th):vs=[.ref a]->AtK .i K H t a->t.tall<=150->Q (.bl t.isKnot) H->mq K vs H Q _E
theorem rW:aU P w K mg base CX0 2 T.g_11.f T.g_11.d ["thing"] (mq K):=by
 refine T.g_11.F.okA rM λAh A outer s H vs Q E hr h=>?_;obtain⟨a,t,rfl,hA,Ay,k⟩:=h;refine⟨_,(ae (aw (fA (oU (pcF T.g_9 (eU T) hr (aa (pv 0) ab))) (gJ (oU (pcF T.g_10 (gb T) hr (aa (pv 0) ab))))))),?_⟩
 try dsimp only[Aw,Ad]
 refine⟨_,D?,a,t,D?,hA,_,D?,_,D?,?_⟩;refine cu (λc=>?_) (λc=>?_)
 .refine⟨_,D?,a,t,D?,hA,Ay,_,D?,?_⟩;have e:t.isKnot=!t.isHole:=by unfold Th.isKnot;rw[c];rfl
  rw[e]at k;exact k
 .have e:t.isKnot=false:=by unfold Th.isKnot;rw[Yj.mpr c];rfl
  rw[e]at k;exact k
inductive dO(K:WQ)(vs:List V)(H:Hp)(Q:VK)(_E:XK):Prop
 |mk {rq:Rep} (a:WR) (sn kn:Int):vs=[.ref a]->AtK rq K H (.call sn kn) a->(∀p v,StV rq H sn v->H p=B?->Q (.ref p) (upd H p (.tup [v,.int kn])))->dO K vs H Q _E
theorem gf:aU P w K mg base CX0 1 T.g_12.f T.g_12.d ["call"] (dO K):=by
 refine T.g_12.F.okA px λAh A outer s H vs Q E hr h=>?_;obtain@⟨rq,a,sn,kn,rfl,hA,k⟩:=h;refine⟨_,(ae (aw (aE (aa (aA aD (pv 0) ag (λ_ _=>rfl)) (aa (aA aD (pv 0) ag (λ_ _=>rfl)) ab))))),?_⟩
 try dsimp only[Aw,Ad]
 rw[AtK]at hA;obtain⟨v,hA,hv⟩:=hA;exact⟨_,D?,a,_,1,_,D?,D?,hA.sq,at1,_,D?,a,_,2,_,D?,D?,hA.sq,at2,lnE rfl,λp hp=>k p v hv hp⟩
inductive ko(K:WQ)(vs:List V)(H:Hp)(Q:VK)(_E:XK):Prop
 |mk (a:WR) (t:Th):vs=[.ref a]->AtK .i K H t a->t.size<=100000->t.tall<=100000->(∀(r:WR)(as:List WR)(H':Hp),j! H H'->H r=B?->H' r=A? (.lst (as.map i!))->CsAt H' (callsOf (t.pl [])) as->Q (.ref r) H')->ko K vs H Q _E
theorem rm:aU P w K mg base CX0 3 T.g_13.f T.g_13.d ["pattern"] (ko K):=by
 refine T.g_13.F.okA qb λAh A outer s H vs Q E hr h=>?_;obtain⟨a,t,rfl,hA,hsz,Ay,k⟩:=h;refine⟨_,(ae (aw (cq (N:=["place","part"]) (js:=[B?,B?]) (g:=(mV K 2 (cY (av 0) (cY (av 1) mN)))) (tt:=(λZ H Q=>(cZ (fV K) [] E0 (aI (bi 1) cK)) Z H λx H1=>∃k,xL K x H1 k/\Q k H1)) (te:=(kD (aI (bi 0) (aI (cZ (dO K) [] E0 (aI (bi 1) cK)) cK)))) rfl (cp rfl (by decide +kernel) (by decide +kernel) rfl rfl rfl) (bS (pcF T.g_4 (gR T) hr (aa (pv 0) ab))) (λ_ _ _ _ _ _=>(bp rfl (aj (pgN 0 y4) (aj (pgN 1 y4) aV)))) (gN (bT bd (aK rfl) (bT bd (aK rfl) gI))) (λ_ _ _ _ _ _=>g7 (aF (pcF T.g_9 (eU T) hr (aa (pv 1) ab)) (λ_=>rfl))) (λ_ _ _ _ _ _=>(aE (aa (pv 0) (aa (pcF T.g_12 (gf T) hr (aa (pv 1) ab)) ab))))))),?_⟩
 try dsimp only[Aw,Ad]
 refine⟨_,D?,a,t,D?,hA,hsz,Ay,λr as H1 s1 nr er Bn=>⟨r,D?,⟨_,n! er⟩,?_⟩⟩;have Bc:(t.pl []).length=as.length:=W3 Bn;have AK:=D! [] t;intro D hD;refine⟨as.length,λj H2=>An3 (j<=as.length) (j! H1 H2) (Ex1 λ(bs:List WR)=>An2 (H2 D=A? (.lst (bs.map i!))) (CsAt H2 (callsOf ((t.pl []).take j)) bs)),⟨Xh _,af hD _,[],ac,.nil⟩,?_⟩;rintro j H2 ⟨hj,s2,bs,eD,An⟩;by_cases B0:j=as.length
 .left;refine⟨⟨_,n! (s2 _ _ er),by rw[WN,B0];exact WW _⟩,?_⟩;have Ac:(t.pl []).take j=t.pl []:=by rw[B0,<-Bc,Yh]
  rw[Ac]at An;exact k D bs H2 (s1.trans s2) (s1.free hD) eD An
 .right;have Au:j<as.length:=by lia
  refine⟨Au,⟨_,.ref as[j],n! (s2 _ _ er),by rw[WZ,WS Au];rfl⟩,?_⟩;rintro y H3 ⟨rfl,hv⟩;have AU:=hv _ (n! (s2 _ _ er));refine hid λZZ kZ=>?_;obtain⟨pr,rfl,Bu⟩:=aH AU;obtain⟨⟨p,u⟩,N2,pa,ta,e1,e2,e3⟩:=y! (Bn.mono (k! s2)) Bu;refine kZ ?_;simp only at e2 e3;have AQ:(t.pl []).take (j+1)=(t.pl []).take j++[(p,u)]:=by rw[XU,N2];rfl
  have Bf:bs.length<=j:=by
   have g1:=W3 An;have g2:=ku ((t.pl []).take j);rw[XS]at g2;lia
  refine⟨pr,_,D?,l! e1,D?,_,_,D?,_,_,D?,D?,?_⟩;refine⟨_,D?,ta,u,D?,e3,_,D?,?_⟩;cases u with
  | knot n ks =>
    refine dN ⟨Au,s2,bs,eD,?_⟩;rw[AQ,eL];show CsAt H3 (callsOf ((t.pl []).take j)++[]) bs;rw[Xs];exact An
  | call sn kn =>
    refine sg ?_;refine⟨_,D?,_,D?,ta,sn,kn,D?,e3,λca v hv Ds=>⟨lnE rfl,λn3 Gj=>?_⟩⟩;cases(show v=.int sn from hv);have s4:j! H3 (upd (upd H3 ca (.tup [.int sn,.int kn])) n3 (.tup [.ref pa,.ref ca])):=(af Ds _).trans (af Gj _);have Em:=s4 _ _ eD;refine⟨_,Em,lbE (by lia),Au,ak (s2.trans s4) hD,bs++[n3],?_,?_⟩
    .rw[ac,W8];rfl
    .have k5:KT (upd (upd H3 ca (.tup [.int sn,.int kn])) n3 (.tup [.ref pa,.ref ca])) (upd (upd (upd H3 ca (.tup [.int sn,.int kn])) n3 (.tup [.ref pa,.ref ca])) D (.lst (bs.map i!++[.ref n3]))):=aL Em;rw[AQ,eL];exact r! (CsAt.mono ((k! s4).trans k5) An) (.cons ⟨pa,ca,k5 _ _ ac,k5 _ _ (s4 _ _ e2),k5 _ _ (af Gj _ _ _ ac)⟩ .nil)
inductive j7(K:WQ)(vs:List V)(H:Hp)(Q:VK)(_E:XK):Prop
 |mk (a:WR) (t:Th):vs=[.ref a]->AtK .i K H t a->t.size<=100000->t.tall<=150->(∀(r:WR)(ps:List WR)(H':Hp),j! H H'->H' r=A? (.lst (ps.map i!))->Xp (λ(p:List Int)b=>H' b=A? (.tup (p.map p!))) (((t.pl []).filter λp=>p.2.isHole).map (·.1)) ps->Q (.ref r) H')->j7 K vs H Q _E
theorem gC:aU P w K mg base CX0 3 T.g_15.f T.g_15.d ["front"] (j7 K):=by
 refine T.g_15.F.okA qo λAh A outer s H vs Q E hr h=>?_;obtain⟨a,t,rfl,hA,hsz,Ay,k⟩:=h;refine⟨_,(ae (aw (cq (N:=["place","part"]) (js:=[B?,B?]) (g:=(mV K 2 (cY (av 0) (cY (av 1) mN)))) (tt:=(λZ H Q=>(cZ (iI K) [] E0 (aI (bi 1) cK)) Z H λx H1=>∃k,xL K x H1 k/\Q k H1)) (te:=(bi 0)) rfl (cp rfl (by decide +kernel) (by decide +kernel) rfl rfl rfl) (bS (pcF T.g_4 (gR T) hr (aa (pv 0) ab))) (λ_ _ _ _ _ _=>(bp rfl (aj (pgN 0 y4) (aj (pgN 1 y4) aV)))) (gN (bT bd (aK rfl) (bT bd (aK rfl) gI))) (λ_ _ _ _ _ _=>g7 (aF (pcF T.g_10 (gb T) hr (aa (pv 1) ab)) (λ_=>rfl))) (λ_ _ _ _ _ _=>(pv 0))))),?_⟩
 try dsimp only[Aw,Ad]
 refine⟨_,D?,a,t,D?,hA,hsz,by lia,λr as H1 s1 nr er Bn=>⟨r,D?,⟨_,n! er⟩,?_⟩⟩;have Bc:(t.pl []).length=as.length:=W3 Bn;have AK:=D! [] t;obtain⟨bs,hb1,hb2⟩:=pick (G:=λ(p:List Int×Th)a b=>∃ta,H1 a=A? (.tup [.ref b,.ref ta])/\H1 b=A? (.tup (p.1.map p!))/\AtK .i K H1 p.2 ta) (λp a⟨pa,ta,h1,h2,h3⟩=>⟨pa,ta,h1,h2,h3⟩) Bn;refine ir ((t.pl []).zip bs) (λz=>z.1.2.isHole) (λz=>i! z.2) (n! er) (by rw[WN,List.length_zip];lia) (by rw[WN];lia) (λi x z H2 R R0 hx hz sm g1 g2=>?_) (λD hD=>?_)
 .rw[Zd]at hz;refine hid λZZ kZ=>?_;obtain⟨a',rfl,DA⟩:=aH hx;obtain⟨ta,f1,f2,f3⟩:=hb2 i _ _ _ hz.1 DA hz.2;obtain⟨_,_,_,Wy,_⟩:=xQ t [] z.1.1 z.1.2 (WT hz.1);refine kZ ?_;refine⟨a',_,D?,l! (sm _ _ f1),D?,_,_,D?,_,_,D?,D?,?_⟩;refine⟨_,D?,ta,z.1.2,D?,f3.mono (k! sm),by lia,_,D?,?_⟩;refine cu (λc=>?_) (λc=>?_)
  .exact⟨_,D?,g1 c⟩
  .exact g2 (Yj.mpr c)
 .refine k D ((((t.pl []).zip bs).filter λz=>z.1.2.isHole).map (·.2)) _ (s1.trans (af hD _)) (by rw[ac,YA];rfl) ?_;refine P2.mapl (·.1) (uF (xs:=t.pl []) (cs:=bs) (λp:List Int×Th=>p.2.isHole) (by lia) λi x c e1 e2=>?_);refine hid λZZ kZ=>?_;obtain⟨a',DA⟩:∃a',as[i]?=A? a':=⟨_,WS (by have:=(glE e2);lia)⟩;obtain⟨ta,f1,f2,f3⟩:=hb2 i _ _ _ e1 DA e2;refine kZ ?_;exact af hD _ _ _ f2
inductive ny(K:WQ)(vs:List V)(H:Hp)(Q:VK)(_E:XK):Prop
 |mk {rq:Rep} (a:WR) (n:Xk) (ks:List Th):vs=[.ref a]->AtK rq K H (.knot n ks) a->(∀(r:WR)(H':Hp),j! H H'->TopAtK rq K H' (.nm n ks.length) r->Q (.ref r) H')->ny K vs H Q _E
theorem jP:aU P w K mg base CX0 2 T.g_16.f T.g_16.d ["part"] (ny K):=by
 refine T.g_16.F.okA n8 λAh A outer s H vs Q E hr h=>?_;obtain@⟨rq,a,n,ks,rfl,hA,k⟩:=h
 refine⟨_,(ad (am 1 n8.nd (ax aq rfl T.n_6 XD (aa (pcF T.g_2 (eN T) hr (aa (pv 0) ab)) ab)))
  (ae (aw (aE (aa (dC tS (pv 0) fk (dQ (aC oR (ax aq rfl T.n_6 XD (aa (pv 0) ab)) (pv 1)))) (aa (pv 1) ab)))))),?_⟩
 try dsimp only[Aw,Ad]
 refine⟨_,D?,a,.knot n ks,D?,hA,λr as H1 s1 er BY=>⟨r,_,D?,.inr (l! er),?_⟩⟩;rw[AtK]at hA;refine hid λZZ kZ=>?_;obtain⟨hn,ka,ea,BI⟩:=hA;refine kZ ?_;have BQ:ka.length=ks.length:=BI.length;have Bc:as.length=ks.length:=BY.length;refine⟨_,D?,_,D?,a,_,D?,.inr ((ea.mono (k! s1)).sq),_,D?,_,_,D?,D?,_,D?,a,_,D?,ea.mono (k! s1),λp H2 s2 e2=>?_⟩
 have e1:((L! n::ka.map i!).length:Int) - ((as.map i!).length:Int)=1:=by
  rw[W2,WN,WN,BQ,Bc];lia
 have e3:TK K H2 p [.str n]:=by
  have Cj:TK K H2 p (jp (L! n::ka.map i!) B? (A? (((L! n::ka.map i!).length:Int) - ((as.map i!).length:Int)))):=e2;rw[e1,tE]at Cj;exact Cj
 refine⟨_,D?,lnE rfl,λl hl=>?_⟩;refine k l _ (s1.trans (s2.trans (af hl _))) ⟨p,?_,hn,e3.mono (dJ hl)⟩;rw[ac,WN,Bc]
inductive jJ(P:W6)(w:Xo)(K:WQ)(vs:List V)(H:Hp)(Q:VK)(_E:XK):Prop
 |mk {rq:Rep} (rs:Rep) (a ta:WR) (t:Th) (f:Int->Int->Th):vs=[.ref a,.ref ta]->AtK rq K H t a->t.size<=100000->(∀s k,z! s k∈t.walk->∃v,AtK rs K H (f s k) v/\(f s k).size<=100000/\∀(H2:Hp)(ca:WR)(sv:V),j! H H2->StV rq H2 s sv->H2 ca=A? (.tup [sv,.int k])->zX P w H2 ta (.ref ca) (.ref v))->(∀(r:WR)(H':Hp),j! H H'->AtK rs K H' (t.fill f) r->Q (.ref r) H')->jJ P w K vs H Q _E
theorem ie:aU P w K mg base CX0 3 T.g_17.f T.g_17.d ["pattern","table"] (jJ P w K):=by
 refine T.g_17.F.okA jy λAh A outer s H vs Q E hr h=>?_;obtain@⟨rq,rs,a,ta,t,f,rfl,hA,hsz,Fp,k⟩:=h
 refine⟨_,(ad (am 2 jy.nd (bx ab))
  (ad (bq Xr rfl (bS (pcF T.g_3 (jo T) hr (aa (pv 0) ab))) (pgN 3 jy.nd) (ae (bK (aF (pcF T.g_9 (eU T) hr (aa (pv 3) ab)) (λ_=>rfl)) (ae (aS (bW Xf Xw Xv aO (pv 2) (aa (aE (aa (xC (ga hr) (pv 1) (pcF T.g_12 (gf T) hr (aa (pv 3) ab)) (λ_ _=>rfl)) (aa ag ab))) ab)))) (ae (aS (bW Xf Xw Xv aO (pv 2) (aa (pcF T.g_16 (jP T) hr (aa (pv 3) ab)) ab)))))))
  (ae (aw (pcF T.g_5 (i6 T) hr (aa (pv 2) ab)))))),?_⟩
 try dsimp only[Aw,Ad]
 refine⟨lnE rfl,λtl Ay=>?_⟩;refine⟨_,D?,a,t,D?,hA.mono (dJ Ay),hsz,λwl as H1 s1 JW JX hw=>?_⟩;have D4:as.length=t.walk.length:=hw.length;have Ul:=J! t;have JY:j! H H1:=(af Ay _).trans s1;have N3:wl≠tl:=λz=>by rw[z,ac]at JW;cases JW
 refine⟨wl,D?,⟨_,n! JX⟩,?_⟩
 refine cE (K:=K) (a:=wl) (xs:=as.map i!) (λi Z H2=>Ex2 λc bs=>An6 (Z=[A? (.ref a),A? (.ref ta),A? (.ref tl),c]) (j! H H2) (H2 wl=A? (.lst (as.map i!))) (AtsK rq K H2 t.walk as) (H2 tl=A? (.lst (bs.map i!))) (Xp (TopAtK rs K H2) ((t.walk.take i).map (ff f)) bs))
  ⟨B?,[],rfl,JY,JX,hw,s1 _ _ ac,.nil⟩ (λi Z H2 _⟨_,_,_,_,e,_,_,_⟩=>n! e) ?_ ?_
 .rintro i x Z H2 hx ⟨c,bs,rfl,s2,En,Hf,BJ,An⟩;obtain⟨xa,rfl,N4⟩:=aH hx;obtain⟨tx,JZ,Ir⟩:=Hf.get N4;have LS:tx∈t.walk:=WT JZ;have AQ:t.walk.take (i+1)=t.walk.take i++[tx]:=by rw[XU,JZ];rfl
  have Bf:bs.length<=100000:=by
   have:=W3 An;rw[WN,XS]at this;lia
  refine⟨_,D?,xa,tx,D?,Ir,_,D?,?_⟩
  have push:∀(H3:Hp)(p:WR),j! H2 H3->TopAtK rs K H3 (ff f tx) p->Ex2 λc Fq=>An6 (([A? (.ref a),A? (.ref ta),A? (.ref tl),A? (.ref xa)]:St)=[A? (.ref a),A? (.ref ta),A? (.ref tl),c]) (j! H (upd H3 tl (.lst (bs.map i!++[.ref p])))) ((upd H3 tl (.lst (bs.map i!++[.ref p]))) wl=A? (.lst (as.map i!))) (AtsK rq K (upd H3 tl (.lst (bs.map i!++[.ref p]))) t.walk as) ((upd H3 tl (.lst (bs.map i!++[.ref p]))) tl=A? (.lst (Fq.map i!))) (Xp (TopAtK rs K (upd H3 tl (.lst (bs.map i!++[.ref p])))) ((t.walk.take (i+1)).map (ff f)) Fq):=by
   intro H3 p s3 hp;have k3:KT H3 (upd H3 tl (.lst (bs.map i!++[.ref p]))):=aL (s3 _ _ BJ);refine⟨_,bs++[p],D?,ak (s2.trans s3) Ay,by rw[ai N3];exact s3 _ _ En,Hf.mono ((k! s3).trans k3),uAE,?_⟩;rw[AQ,W8];exact r! (de ((k! s3).trans k3) An) (.cons (hp.mono k3) .nil)
  cases tx with
  | call sn kn =>
    refine sg ?_;refine hid λZZ kZ=>?_;obtain⟨v,Um,_,N5⟩:=Fp sn kn LS;refine kZ ?_;refine⟨_,D?,.inl ⟨D?,_,n! BJ⟩,_,D?,_,D?,xa,sn,kn,D?,Ir,λcb sv N6 Uo=>?_⟩;have s3:j! H2 (upd H2 cb (.tup [sv,.int kn])):=af Uo _;refine⟨ta,.ref v,D?,N5 _ cb sv (s2.trans s3) (N6.mono (k! s3)) ac,lnE rfl,λp hp=>?_⟩;have s4:=s3.trans (af hp (.tup [.ref v,.int 0]));refine⟨tl,_,_,D?,D?,s4 _ _ BJ,lbE (by lia),?_⟩;exact push _ p s4 ⟨v,ac,Um.mono (k! (s2.trans s4))⟩
  | knot nm us =>
    refine dN ?_;refine⟨_,D?,.inl ⟨D?,_,n! BJ⟩,_,D?,xa,nm,us,D?,Ir,λp H3 s3 hp=>?_⟩;refine⟨tl,_,_,D?,D?,s3 _ _ BJ,lbE (by lia),?_⟩;exact push _ p s3 hp
 .rintro Z H2 ⟨c,bs,rfl,s2,En,Hf,BJ,An⟩;rw[WN,D4,Yh]at An;obtain⟨b1,b2⟩:=sS f t;refine⟨_,D?,tl,bs,_,t.fill f,D?,BJ,An,by rw[WN];lia,b2,?_,b1,λr H3 s3 Hi=>k r H3 (s2.trans s3) Hi⟩;intro u hu;obtain⟨x,hx,e⟩:=Xy.mp hu;cases x with
  |knot nm us=>cases e
  | call sn kn =>
    cases e;refine hid λZZ kZ=>?_;obtain⟨v,_,hz,_⟩:=Fp sn kn hx;refine kZ ?_;exact hz
theorem wH{ta ca:WR}{f':List (List Key×V)}{s k:Int}{sv:V}(e:H ta=A? (.dT f'))(hv:aN f' [Xn s,Xn k]=A? v)(s2:j! H H2)(hs:StV .i H2 s sv)(hc:H2 ca=A? (.tup [sv,.int k])):zX P w H2 ta (.ref ca) v:=by
 cases(show sv=.int s from hs);exact .inl (.inr ⟨f',[Xn s,Xn k],ca,.inl (s2 _ _ e),rfl,hc,hv.symm⟩)
inductive jT(K:WQ)(vs:List V)(H:Hp)(Q:VK)(_E:XK):Prop
 |mk (x y:WR) (l r:Th):vs=[.ref x,.ref y]->AtK .i K H l x->AtK .i K H r y->l.tall<=150->Q (.bl (aB l r)) H->jT K vs H Q _E
theorem jX:aU P w K mg base CX0 3 T.g_20.f T.g_20.d ["one","two"] (jT K):=by
 refine T.g_20.F.okA qK λAh A outer s H vs Q E hr h=>?_;obtain⟨x,y,l,r,rfl,hx,hy,Ay,k⟩:=h;refine⟨_,(ae (aw (fA (pcF T.g_11 (rW T) hr (aa (pv 0) ab)) (fA (cW fR (aA aD (pv 0) ag (λ_ _=>rfl)) (aA aD (pv 1) ag (λ_ _=>rfl)) (aQ _)) (gJ (cW fR (ax aq rfl T.n_6 XD (aa (pv 0) ab)) (ax aq rfl T.n_6 XD (aa (pv 1) ab)) (aQ _))))))),?_⟩
 try dsimp only[Aw,Ad]
 rw[qg hx r]at k;refine hid λZZ kZ=>?_;obtain⟨xr,ex,lx⟩:=hx.row;obtain⟨yr,ey,ly⟩:=hy.row;refine kZ ?_;refine⟨_,D?,x,l,D?,hx,Ay,_,D?,?_⟩;refine cu (λc=>?_) (λc=>?_)
 .rw[c]at k;refine⟨_,D?,x,_,0,.str l.name,D?,D?,ex.sq,at0,_,D?,y,_,0,.str r.name,D?,D?,ey.sq,at0,D?,_,D?,?_⟩;refine cu (λc2=>?_) (λc2=>?_)
  .have e2:l.name=r.name:=V.str.inj (e! c2);refine⟨_,D?,x,_,D?,.inr (ex.sq),_,D?,y,_,D?,.inr (ey.sq),D?,?_⟩
   have e3:decide (p! ((L! l.name::xr).length:Nat)=p! ((L! r.name::yr).length:Nat))=decide (l.wid=r.wid):=by
    rw[W2,W2,lx,ly];by_cases e:l.wid=r.wid
    .rw[e];simp
    .rw[c! e,c!];intro z;exact e (by have:=V.int.inj z;lia)
   rw[e3];rw[d! e2]at k;exact k
  .have e2:l.name≠r.name:=λe=>c2 (d! (by rw[e]));rw[c! e2]at k;exact k
 .rw[Yj.mpr c]at k;exact k
inductive gv(K:WQ)(vs:List V)(H:Hp)(Q:VK)(_E:XK):Prop
 |mk (x y:WR) (l r:Th):vs=[.ref x,.ref y]->AtK .i K H l x->AtK .i K H r y->l.tall<=150->l.size<=100000->(∀(m:WR)(as:List WR)(H':Hp),j! H H'->H m=B?->H' m=A? (.lst (as.map i!))->Xp (PPK K H') (l.sbs r) as->Q (.ref m) H')->gv K vs H Q _E
theorem kI:aU P w K mg base CX0 4 T.g_21.f T.g_21.d ["one","two"] (gv K):=by
 refine T.g_21.F.okA b8 λAh A outer s H vs Q E hr h=>?_;obtain⟨x,y,l,r,rfl,hx,hy,Ay,hsz,k⟩:=h
 refine⟨_,(ad (am 2 b8.nd (bx ab))
  (ad (am 3 b8.nd (bx (aa (aE (aa (pv 0) (aa (pv 1) ab))) ab)))
  (ad (eV Xr (aF (pv 3) (λ_=>rfl)) (ad (fw (jN Xf ZD ZC jF (pv 3)) (bp rfl (aj (pgN 4 b8.nd) (aj (pgN 5 b8.nd) aV))))
  (ad (aS (bW Xf Xw Xv aO (pv 2) (aa (aE (aa (pv 4) (aa (pv 5) ab))) ab)))
  (ae (bK (aF (pcF T.g_20 (jX T) hr (aa (pv 4) (aa (pv 5) ab))) (λ_=>rfl)) (ae (aS (bW Xf ZX ZW gX (pv 3) (aa (lp rfl rfl T.n_7 rfl T.n_11 (rS rfl rfl T.n_7 rfl T.n_14 (aa (dC iK (pv 4) (dQ ag) fk) (aa (dC iK (pv 5) (dQ ag) fk) ab)))) ab)))) bh)))))
  (ae (aw (pv 2)))))),?_⟩
 try dsimp only[Aw,Ad]
 refine⟨by show 0<=Xg;decide,λmt Cp=>?_⟩;refine⟨_,D?,_,D?,by show 2<=Xg;decide,λt0 QY=>⟨by show 1<=Xg;decide,λah Bz=>?_⟩⟩;have s0:j! H (upd (upd H mt (.lst [])) t0 (.tup [.ref x,.ref y])):=(af Cp _).trans (af QY _);have e0:(upd (upd H mt (.lst [])) t0 (.tup [.ref x,.ref y])) mt=A? (.lst []):=af QY _ _ _ ac;have e1:(upd (upd H mt (.lst [])) t0 (.tup [.ref x,.ref y])) t0=A? (.tup [.ref x,.ref y]):=ac;generalize(upd (upd H mt (.lst [])) t0 (.tup [.ref x,.ref y]))=H1 at s0 e0 e1 Bz |-;have BZ:H ah=none:=s0.free Bz;have Ap:ah≠mt:=λz=>by rw[z,e0]at Bz;cases Bz
 refine⟨λm Z H2=>Ex6 λ(ms as:List WR)(Ms As:List (Th×Th))(p p':Option V)=>v9 (Z=[A? (.ref x),A? (.ref y),A? (.ref mt),A? (.ref ah),p,p']) (j! H H2) (H2 mt=A? (.lst (ms.map i!))) (H2 ah=A? (.lst (as.map i!))) (Xp (PPK K H2) Ms ms) (Xp (PPK K H2) As as) (Ms++wks As.reverse=l.sbs r) ((∀p∈As,p.1.tall<=150)) (Ms.length+szL As<=100000) (m=szL As),⟨_,[],[t0],[],[(l,r)],B?,B?,D?,?_,?_,?_,.nil,.cons ⟨x,y,?_,hx.mono ?_,hy.mono ?_⟩ .nil,?_,?_,?_,D?⟩,?_⟩
 .exact ak s0 BZ
 .rw[ai Ap.symm];exact e0
 .rw[ac];rfl
 .rw[ai (az e1 Bz)];exact e1
 .exact k! (ak s0 BZ)
 .exact k! (ak s0 BZ)
 .show wks [(l,r)]=_;rw[wks,wks,Xs]
 .intro p hp;rw[Xc]at hp;subst hp;exact Ay
 .show 0+(l.size+0)<=100000;lia
 rintro m Z H2 ⟨ms,as,Ms,As,p,p',rfl,sm,e1,e2,a1,a2,hw,Dq,hlen,rfl⟩;have Up:Ms.length=ms.length:=W3 a1;refine⟨_,D?,_,.inl ⟨_,n! e2,D?⟩,?_⟩;refine cu (λc=>?_) (λc=>?_)
 .refine⟨λAa H'=>∃m',m'<szL As/\Ex6 λ(ms as:List WR)(Ms As:List (Th×Th))(p p':Option V)=>v9 (Aa=[A? (.ref x),A? (.ref y),A? (.ref mt),A? (.ref ah),p,p']) (j! H H') (H' mt=A? (.lst (ms.map i!))) (H' ah=A? (.lst (as.map i!))) (Xp (PPK K H') Ms ms) (Xp (PPK K H') As as) (Ms++wks As.reverse=l.sbs r) ((∀p∈As,p.1.tall<=150)) (Ms.length+szL As<=100000) (m'=szL As),λAa H' h=>h,?_⟩;have Bd:as≠[]:=by intro z;subst z;simp at c
  refine hid λZZ kZ=>?_;obtain⟨Ar,b,rfl⟩:∃Ar b,as=Ar++[b]:=⟨as.dropLast,as.getLast Bd,(Y1 Bd).symm⟩;obtain⟨Us,u,rfl,a3,u1,u2,a4,a5,a6⟩:=P2.snoc_inv a2;obtain⟨ul,ur⟩:=u;refine kZ ?_;simp only at a5 a6;have hs:szL (Us++[(ul,ur)])=szL Us+ul.size:=by rw[eI,szL,szL];rfl
  have Fg:=ul.size_eq;rw[hs]at hlen;have N7:ul.tall<=150:=Dq (ul,ur) (by simp);have QZ:∀p∈Us,p.1.tall<=150:=λp hp=>Dq p (by simp[hp]);refine⟨_,D?,.inl ⟨D?,_,n! e2⟩,ah,_,.ref b,D?,D?,e2,by simp,?_⟩;have d1:((Ar++[b]).map i!).dropLast=Ar.map i!:=by simp
  rw[d1];have k0:KT H2 (upd H2 ah (.lst (Ar.map i!))):=aL e2;have f1:(upd H2 ah (.lst (Ar.map i!))) mt=A? (.lst (ms.map i!)):=by rw[ai Ap.symm];exact e1
  have f2:(upd H2 ah (.lst (Ar.map i!))) ah=A? (.lst (Ar.map i!)):=ac;have s3:j! H (upd H2 ah (.lst (Ar.map i!))):=ak sm BZ;generalize(upd H2 ah (.lst (Ar.map i!)))=H3 at k0 f1 f2 s3 |-;refine⟨b,_,D?,l! (k0 _ _ a4),D?,_,_,D?,_,_,D?,D?,?_⟩;refine⟨_,D?,.inl ⟨D?,_,n! f1⟩,_,D?,_,D?,by show 2<=Xg;decide,λt1 Q0=>?_⟩;refine gU Q0 λH4 s4 e4=>?_;refine⟨mt,_,_,D?,D?,s4 _ _ f1,lbE (by lia),?_⟩;have k5:KT H4 (upd H4 mt (.lst (ms.map i!++[.ref t1]))):=aL (s4 _ _ f1);have g1:(upd H4 mt (.lst (ms.map i!++[.ref t1]))) mt=A? (.lst ((ms++[t1]).map i!)):=uAE;have g2:(upd H4 mt (.lst (ms.map i!++[.ref t1]))) ah=A? (.lst (Ar.map i!)):=by rw[ai Ap];exact s4 _ _ f2
  have s5:j! H (upd H4 mt (.lst (ms.map i!++[.ref t1]))):=ak (s3.trans s4) Cp;generalize(upd H4 mt (.lst (ms.map i!++[.ref t1])))=H5 at k5 g1 g2 s5 |-;have Fs:KT H2 H5:=(k0.trans (k! s4)).trans k5;have aM:Xp (PPK K H5) (Ms++[(ul,ur)]) (ms++[t1]):=r! (ej Fs a1) (.cons ⟨u1,u2,k5 _ _ e4,a5.mono Fs,a6.mono Fs⟩ .nil);refine⟨_,D?,_,D?,u1,u2,ul,ur,D?,a5.mono Fs,a6.mono Fs,N7,_,D?,?_⟩
  have J0:Ms++((ul,ur)::((if aB ul ur=C? then wks (ul.kids.zip ur.kids)else[])++wks Us.reverse))=l.sbs r:=by
   rw[<-hw,YD];show _=Ms++wks ((ul,ur)::Us.reverse);rw[wS]
  refine cu (λct=>?_) (λct=>?_)
  .refine hid λZZ kZ=>?_;obtain⟨n,ks,us,rfl,rfl,Wz,WA⟩:=bw ct;have Q2:=a5.mono Fs;have Q3:=a6.mono Fs;rw[AtK]at Q2 Q3;obtain⟨Gi,ka,ek,BI⟩:=Q2;obtain⟨IS,ua,eu,Eo⟩:=Q3;refine kZ ?_;rw[b! ct]at J0;have hz:=jh ks us;refine⟨_,D?,.inl ⟨D?,_,n! g2⟩,_,D?,1,D?,u1,_,D?,ek.sq,?_,λc1 Q4=>?_⟩
   .intro z;have:=z.1;simp[H!]at this
   rw[fN];refine gU Q4 λH6 s6 e6=>?_;refine⟨_,D?,1,D?,u2,_,D?,(eu.mono (k! s6)).sq,?_,λc2 BS=>?_⟩
   .intro z;have:=z.1;simp[H!]at this
   rw[fN];refine gU BS λH7 s7 e7=>?_;refine⟨c1,c2,_,_,D?,l! (s7 _ _ e6),l! e7,λzl zs H8 s8 WB Uq Jv=>?_⟩;have Dt:j! H5 H8:=s6.trans (s7.trans s8);have Q5:Xp (PPK K H8) (ks.zip us) zs:=qD (BI.mono (k! Dt)) (Eo.mono (k! Dt)) Jv;have QS:(ks.zip us).length=zs.length:=W3 Q5;have WC:(ks.zip us).length<=szL (ks.zip us):=pf _;refine⟨C?,zl,_,D?,SqB.l (n! Uq),λrl C8=>?_⟩;have s9:j! H8 (upd H8 rl (.lst (zs.map i!).reverse)):=af C8 _;have e9:(upd H8 rl (.lst (zs.map i!).reverse)) rl=A? (.lst (zs.map i!).reverse):=ac;have WD:H5 rl=none:=Dt.free C8;generalize(upd H8 rl (.lst (zs.map i!).reverse))=H9 at s9 e9 |-;have DY:=Dt.trans s9;have Q6:Us.length=Ar.length:=W3 a3;have Q7:=pf Us;refine⟨ah,rl,_,_,D?,D?,DY _ _ g2,e9,ZS (bR ?_),?_⟩
   .rw[WN,Yt,WN];simp only[K!]at Fg;lia
   have Q8:KT H9 (upd H9 ah (.lst (Ar.map i!++(zs.map i!).reverse))):=aL (DY _ _ g2);have Q9:KT H5 (upd H9 ah (.lst (Ar.map i!++(zs.map i!).reverse))):=(k! DY).trans Q8;simp only[K!]at Fg J0;refine⟨szL (Us++(ks.zip us).reverse),?_,ms++[t1],Ar++zs.reverse,Ms++[(.knot n ks,.knot n us)],Us++(ks.zip us).reverse,_,_,D?,?_,?_,?_,ej Q9 aM,?_,?_,?_,?_,D?⟩
   .rw[eI,uD,hs];lia
   .exact ak (s5.trans DY) BZ
   .rw[ai Ap.symm];exact DY _ _ g1
   .rw[ac,W8,List.map_reverse]
   .exact r! (ej (Fs.trans Q9) a3) (P2.reverse (ej ((k! s9).trans Q8) Q5))
   .rw[YD,Y4,my,<-J0,XJ];rfl
   .intro p hp;rcases XA.mp hp with hp|hp
    .exact QZ p hp
    .have AX:=(ZL (List.mem_reverse.mp hp)).1;have:=ce AX;rw[t!]at N7;lia
   .rw[eI,uD,Xd];show Ms.length+1+_<=_;lia
  .rw[a! ct]at J0;refine⟨szL Us,?_,ms++[t1],Ar,Ms++[(ul,ur)],Us,_,_,D?,s5,g1,g2,aM,ej Fs a3,?_,QZ,?_,D?⟩
   .rw[hs];lia
   .rw[<-J0,XJ];rfl
   .rw[Xd];show Ms.length+1+_<=_;lia
 .have hz:as=[]:=by
   cases as with
   |nil=>rfl
   |cons y ys=>simp at c
  subst hz;have El:As=[]:=Yi.mp (W3 a2);subst El;refine⟨_,D?,k mt ms H2 sm Cp e1 ?_⟩
  have EO:Ms=l.sbs r:=by
   rw[<-hw,List.reverse_nil,wks,Xs]
  rw[<-EO];exact a1
inductive m9(K:WQ)(vs:List V)(H:Hp)(Q:VK)(_E:XK):Prop
 |mk (x y:WR) (l r:Th):vs=[.ref x,.ref y]->AtK .i K H l x->AtK .i K H r y->l.tall<=150->l.size<=100000->(∀(m:WR)(H':Hp),j! H H'->AtK .i K H' (l.com r) m->Q (.ref m) H')->m9 K vs H Q _E
theorem uX:aU P w K mg base CX0 5 T.g_22.f T.g_22.d ["one","two"] (m9 K):=by
 refine T.g_22.F.okA gW λAh A outer s H vs Q E hr h=>?_;obtain⟨x,y,l,r,rfl,hx,hy,Ay,hsz,k⟩:=h
 refine⟨_,(ad (am 2 gW.nd (bx ab))
  (ad (bq Xr rfl (bS (pcF T.g_21 (kI T) hr (aa (pv 0) (aa (pv 1) ab)))) (bp rfl (aj (pgN 3 gW.nd) (aj (pgN 4 gW.nd) aV))) (ae (bK (aF (pcF T.g_20 (jX T) hr (aa (pv 3) (aa (pv 4) ab))) (λ_=>rfl)) (ae (aS (bW Xf Xw Xv aO (pv 2) (aa (pcF T.g_16 (jP T) hr (aa (pv 3) ab)) ab)))) (ae (aS (bW Xf Xw Xv aO (pv 2) (aa (aE (aa (cC (v:=.ref T.k_HOLE.a) rfl T.k_HOLE.c rfl) (aa ag ab))) ab)))))))
  (ae (aw (pcF T.g_5 (i6 T) hr (aa (pv 2) ab)))))),?_⟩
 try dsimp only[Aw,Ad]
 refine⟨lnE rfl,λtl BK=>?_⟩;refine⟨_,D?,_,D?,x,y,l,r,D?,hx.mono (dJ BK),hy.mono (dJ BK),Ay,hsz,λm as H1 s1 nm em hp=>⟨m,D?,⟨_,n! em⟩,?_⟩⟩;have AK:(l.sbs r).length=as.length:=W3 hp;have N8:=yJ l r;have JY:j! H H1:=(af BK _).trans s1;have Cp:m≠tl:=λz=>by rw[z,ac]at nm;cases nm
 refine cE (K:=K) (a:=m) (xs:=as.map i!) (λi Z H2=>Ex3 λc c' bs=>An6 (Z=[A? (.ref x),A? (.ref y),A? (.ref tl),c,c']) (j! H H2) (H2 m=A? (.lst (as.map i!))) (Xp (PPK K H2) (l.sbs r) as) (H2 tl=A? (.lst (bs.map i!))) (Xp (TopAtK .i K H2) (((l.sbs r).take i).map topC) bs)) ⟨B?,B?,[],rfl,JY,em,hp,s1 _ _ ac,.nil⟩ (λi Z H2 _⟨_,_,_,_,_,e,_,_,_⟩=>n! e) ?_ ?_
 .rintro i v Z H2 hv ⟨c,c',bs,rfl,s2,Dr,Bs,BJ,An⟩;refine hid λZZ kZ=>?_;obtain⟨b,rfl,hb⟩:=aH hv;obtain⟨⟨ul,ur⟩,hu,u1,u2,e1,e2,e3⟩:=y! Bs hb;refine kZ ?_;simp only at e2 e3;have hm:=tw (WT hu);simp only at hm;have AQ:((l.sbs r).take (i+1)).map topC=((l.sbs r).take i).map topC++[topC (ul,ur)]:=by rw[XU,hu,W8];rfl
  have Bf:bs.length<=100000:=by
   have:=W3 An;rw[WN,XS]at this;lia
  refine⟨b,_,D?,l! e1,D?,_,_,D?,_,_,D?,D?,?_⟩
  have push:∀(H3:Hp)(p:WR),j! H2 H3->TopAtK .i K H3 (topC (ul,ur)) p->Ex3 λc c' Fq=>An6 (([A? (.ref x),A? (.ref y),A? (.ref tl),A? (.ref u1),A? (.ref u2)]:St)=[A? (.ref x),A? (.ref y),A? (.ref tl),c,c']) (j! H (upd H3 tl (.lst (bs.map i!++[.ref p])))) ((upd H3 tl (.lst (bs.map i!++[.ref p]))) m=A? (.lst (as.map i!))) (Xp (PPK K (upd H3 tl (.lst (bs.map i!++[.ref p])))) (l.sbs r) as) ((upd H3 tl (.lst (bs.map i!++[.ref p]))) tl=A? (.lst (Fq.map i!))) (Xp (TopAtK .i K (upd H3 tl (.lst (bs.map i!++[.ref p])))) (((l.sbs r).take (i+1)).map topC) Fq):=by
   intro H3 p s3 J1;have k3:KT H3 (upd H3 tl (.lst (bs.map i!++[.ref p]))):=aL (s3 _ _ BJ);refine⟨_,_,bs++[p],D?,ak (s2.trans s3) BK,by rw[ai Cp];exact s3 _ _ Dr,ej ((k! s3).trans k3) Bs,uAE,?_⟩;rw[AQ];exact r! (de ((k! s3).trans k3) An) (.cons (J1.mono k3) .nil)
  refine⟨_,D?,_,D?,u1,u2,ul,ur,D?,e2,e3,by lia,_,D?,?_⟩;refine cu (λct=>?_) (λct=>?_)
  .have ht:topC (ul,ur)=.nm ul.name ul.kids.length:=by unfold topC;rw[b! ct]
   obtain⟨n,ks,us,rfl,rfl,_,_⟩:=bw ct;refine⟨_,D?,.inl ⟨D?,_,n! BJ⟩,_,D?,u1,n,ks,D?,e2,λp H3 s3 J1=>?_⟩;refine⟨tl,_,_,D?,D?,s3 _ _ BJ,lbE (by lia),?_⟩;exact push _ p s3 (by rw[ht];exact J1)
  .have ht:topC (ul,ur)=.th hole:=by unfold topC;rw[a! ct]
   refine⟨_,D?,.inl ⟨D?,_,n! BJ⟩,lnE rfl,λp Ur=>?_⟩;have s3:j! H2 (upd H2 p (.tup [.ref T.k_HOLE.a,.int 0])):=af Ur _;refine⟨tl,_,_,D?,D?,s3 _ _ BJ,lbE (by lia),?_⟩;exact push _ p s3 (by rw[ht];exact⟨T.k_HOLE.a,ac,vx (TK.const T.k_HOLE.q)⟩)
 .rintro Z H2 ⟨c,c',bs,rfl,s2,Dr,Bs,BJ,An⟩;rw[WN,<-AK,Yh]at An;obtain⟨b1,b2⟩:=aaF l r;refine⟨_,D?,tl,bs,_,l.com r,D?,BJ,An,by rw[WN];lia,b2,?_,b1,λrr H3 s3 Hi=>k rr H3 (s2.trans s3) Hi⟩;intro u hu;obtain⟨p,AX,e⟩:=Xy.mp hu;unfold topC at e;split at e
  .cases e
  .cases e;rw[eC];lia
inductive n6(vs:List V)(H:Hp)(Q:VK)(_E:XK):Prop
 |mk (b:WR) (v1 v2 v3 v4:V):vs=[.ref b]->H b=A? (.tup [v1,v2,v3,v4])->Q v1 H->n6  vs H Q _E
inductive kc(vs:List V)(H:Hp)(Q:VK)(_E:XK):Prop
 |mk (b:WR) (v1 v2 v3 v4:V):vs=[.ref b]->H b=A? (.tup [v1,v2,v3,v4])->Q v4 H->kc  vs H Q _E
theorem d4:aU P w K mg base CX0 1 T.g_26.f T.g_26.d ["book"] n6:=by
 refine T.g_26.F.okA vf λAh A outer s H vs Q E hr h=>?_;obtain⟨b,v1,v2,v3,v4,rfl,e,q⟩:=h;refine⟨_,(ae (aw (aA aD (pv 0) ag (λ_ _=>rfl)))),?_⟩
 try dsimp only[Aw,Ad]
 exact⟨_,D?,b,_,0,v1,D?,D?,l! e,at0,q⟩
theorem dF:aU P w K mg base CX0 1 T.g_29.f T.g_29.d ["book"] kc:=by
 refine T.g_29.F.okA pY λAh A outer s H vs Q E hr h=>?_;obtain⟨b,v1,v2,v3,v4,rfl,e,q⟩:=h;refine⟨_,(ae (aw (aA aD (pv 0) ag (λ_ _=>rfl)))),?_⟩
 try dsimp only[Aw,Ad]
 exact⟨_,D?,b,_,3,v4,D?,D?,l! e,bP (j:=3) rfl,q⟩
inductive jf(vs:List V)(H:Hp)(Q:VK)(_E:XK):Prop
 |mk (b:WR) (v1 v2 v3:V) (ra:WR) (xs:List V):vs=[.ref b]->H b=A? (.tup [v1,v2,v3,.ref ra])->H ra=A? (.tup xs)->Q (.int xs.length) H->jf  vs H Q _E
theorem oN:aU P w K mg base CX0 2 T.g_30.f T.g_30.d ["book"] jf:=by
 refine T.g_30.F.okA o9 λAh A outer s H vs Q E hr h=>?_;obtain⟨b,v1,v2,v3,ra,xs,rfl,e,e2,q⟩:=h;refine⟨_,(ae (aw (ax aq rfl T.n_6 XD (aa (pcF T.g_29 (dF T) hr (aa (pv 0) ab)) ab)))),?_⟩
 try dsimp only[Aw,Ad]
 exact⟨_,D?,b,_,_,_,_,D?,e,ra,_,D?,.inr (l! e2),q⟩
inductive fu(vs:List V)(H:Hp)(Q:VK)(_E:XK):Prop
 |mk (ia:WR) (Ag:List WR) (ins:List (Xk×Int)):vs=[.ref ia]->H ia=A? (.tup (Ag.map i!))->KsAt H ins Ag->cN ins->(∀(r:WR)(H':Hp),j! H H'->At H' (eG ins) r->Q (.ref r) H')->fu  vs H Q _E
theorem fB:aU P w K mg base CX0 1 T.g_31.f T.g_31.d ["ins"] fu:=by
 refine T.g_31.F.okA mS λAh A outer s H vs Q E hr h=>?_;obtain⟨ia,Ag,ins,rfl,ei,EU,g,q⟩:=h;refine⟨_,(ae (aw (aA bD (cq (N:=["name","many"]) (js:=[B?,B?]) (g:=(mV K 2 (cY (av 0) (cY (av 1) mN)))) (tt:=(nK (tOp (rEq) (bi 1) (tC (.int 0))))) (te:=(kD (aI (bi 0) cK))) rfl (cp rfl (by decide +kernel) (by decide +kernel) rfl rfl rfl) (dH (pv 0)) (λ_ _ _ _ _ _=>(bp rfl (aj (pgN 0 yV) (aj (pgN 1 yV) aV)))) (gN (bT bd (aK rfl) (bT bd (aK rfl) gI))) (λ_ _ _ _ _ _=>g7 (aW fR (pv 1) ag (aQ _))) (λ_ _ _ _ _ _=>(aE (aa (pv 0) ab)))) ag (λ_ _=>rfl)))),?_⟩
 try dsimp only[Aw,Ad]
 have Ck:ins.length=Ag.length:=W3 EU;have Iu:=g.le;refine⟨_,D?,ia,D?,⟨_,l! ei⟩,wF (F:=λH(k:Xk×Int)a=>At H (.knot k.1 []) a) (xs:=Ag.map i!) ins (λk=>decide (k.2=0)) (λH1 H2 z p kt h=>h.mono kt) (by rw[WN];exact Ck) (by rw[WN];lia) (λi Hx sx hi=>⟨_,_,l! (sx _ _ ei),WS hi⟩) (λHx sx=>⟨_,l! (sx _ _ ei),WW _⟩) (λi Hx x Hy sx hi hy=>⟨hy.1,hy.2 _ (l! (sx _ _ ei))⟩) (λi x z Hx R W' hx B1 sx hR hW=>?_) (λD H1 as hD s1 eD DG=>?_)⟩
 .obtain⟨ka,rfl,BI⟩:=aH hx;obtain⟨z',BO,ez⟩:=y! EU BI;rw[B1]at BO;cases BO;have N9:Hx ka=A? (.tup [.str z.1,.int z.2]):=sx _ _ ez;refine⟨ka,_,D?,l! N9,D?,_,_,D?,_,_,D?,D?,_,D?,D?,_,D?,?_⟩;have hm:=WT B1;by_cases hc:z.2=0
  .rw[b! (d! (by rw[hc]))];refine⟨_,D?,lnE rfl,λp hp=>hR (d! hc) _ p (af hp _) ?_⟩;rw[At];exact⟨rE (g.low z hm).1,[],ac,.nil⟩
  .rw[a! (λz2=>hc (V.int.inj (e! z2)))];exact hW (c! hc) _ (.refl _)
 .refine hid λZZ kZ=>?_;obtain⟨k0,Co,Jq⟩:=r8 g;obtain⟨r,N',hA⟩:=F! DG (i:=0) Co;refine kZ ?_;exact⟨D,_,0,.ref r,D?,D?,n! eD,at_nonneg (Int.le_refl _) (by rw[WZ];show Option.map i! as[0]?=_;rw[N'];rfl),q r H1 s1 (by rw[jB Co];exact hA)⟩
def zK(H:Hp)(ins:List (Xk×Int))(f':List (Key×V))(us:List Th):Prop:=∀(i:Nat)(u:Th),us[i]?=A? u->(∃a,aN f' (Xn (i:Int))=A? (.ref a)/\At H u a)\/(aN f' (Xn (i:Int))=B?/\u=eG ins)
inductive ij(vs:List V)(H:Hp)(Q:VK)(_E:XK):Prop
 |mk (ia ka da:WR) (Ag:List WR) (ins:List (Xk×Int)) (kd:Xk×Int) (f':List (Key×V)) (us:List Th):vs=[.ref ia,.ref ka,.ref da]->H ia=A? (.tup (Ag.map i!))->KsAt H ins Ag->cN ins->KAt H kd ka->kd∈ins->H da=A? (.dK f')->us.length=kd.2.toNat->zK H ins f' us->(∀(r:WR)(H':Hp),j! H H'->At H' (.knot kd.1 us) r->Q (.ref r) H')->ij  vs H Q _E
theorem fC:aU P w K mg base CX0 2 T.g_32.f T.g_32.d ["ins","kind","kids"] ij:=by
 refine T.g_32.F.okA fG λAh A outer s H vs Q E hr h=>?_;obtain⟨ia,ka,da,Ag,ins,kd,f',us,rfl,ei,EU,g,ek,hm,ed,Ra,E7,q⟩:=h
 refine⟨_,(ad (fw (pv 1) (bp rfl (aj (pgN 3 fG.nd) (aj (pgN 4 fG.nd) aV))))
  (ae (aw (aC fT (aE (aa (pv 3) ab)) (bG bv rfl T.n_13 XZ (aa (cq (N:=["kid","kids","ins"]) (js:=[B?,A? 2,A? 0]) (g:=(av 0)) (tt:=bE) (te:=(vT (bi 1) (bi 0) (cZ fu [] E0 (aI (bi 2) cK)))) rfl (cp rfl (by decide +kernel) (by decide +kernel) rfl rfl rfl) (bF rfl T.n_10 (aa (pv 4) ab)) (λ_ _ _ _ _ _=>(pgN 0 abU)) (aK rfl) (λ_ _ _ _ _ _=>bM) (λ_ _ _ _ _ _=>(wg (j8 hr) (pv 1) (pv 0) (pcF T.g_31 (fB T) hr (aa (pv 2) ab)) ⟨D?,D?,D?,D?⟩))) ab)))))),?_⟩
 try dsimp only[Aw,Ad]
 have Cd:=g.num kd hm;have Ut:H ka=A? (.tup [.str kd.1,.int kd.2]):=ek;refine⟨_,D?,ka,_,D?,l! Ut,D?,_,_,D?,_,_,D?,D?,?_⟩;refine⟨_,D?,lnE rfl,λp1 DV=>?_⟩;dsimp only;refine gU DV λH1 s1 e1=>?_;have hlen:us.length=((Xq kd.2.toNat).map λi=>p! (i:Nat)).length:=by rw[Ra,WN,Xj]
 refine⟨_,D?,kd.2,D?,by lia,by lia,ig (F:=At) (xs:=(Xq kd.2.toNat).map λi=>p! (i:Nat)) us (λH1 H2 z p kt h=>h.mono kt) hlen (by rw[WN,Xj];lia) (λi Hx sx hi=>by rw[WN,Xj]at hi;exact hi) (λHx sx=>by rw[WN,Xj];exact WW _) (λi Hx x Hy sx hi hy=>⟨hy.1,?_⟩) (λi y z Hx R W' hy B1 sx hR=>?_) (λD H2 as hD s2 eD DG=>?_)⟩
 .rw[WN,Xj]at hi;rw[WZ,XY hi,hy.2];show A? (p! ((i:Nat):Int))=A? (p! (0+((i:Nat):Int)));rw[Yq]
 .have hi:i<kd.2.toNat:=by have:=(glE B1);rwa [Ra]at this
  rw[WZ,XY hi]at hy;cases hy;have LU:=s1.trans sx;have Rb:Hx da=A? (.dK f'):=LU _ _ ed;refine⟨_,D?,da,D?,.inl ⟨f',.inl Rb⟩,_,D?,_,D?,ia,Ag,ins,D?,LU _ _ ei,EU.mono (k! LU),g,λr H3 s3 Hi=>?_⟩;refine⟨_,DGet.k (k:=Xn ((i:Nat):Int)) (s3 _ _ Rb),?_⟩;rcases E7 i z B1 with⟨a,hv,ha⟩|⟨hv,rfl⟩
  .rw[hv];exact hR H3 a s3 (ha.mono (k! (LU.trans s3)))
  .rw[hv];exact hR H3 r s3 Hi
 have Bc:=W3 DG;refine⟨D,_,D?,.inl ⟨n! eD,λtp CL=>?_⟩⟩;refine gU CL λH3 s3 e3=>?_;refine sE ((s2.trans s3) _ _ e1) e3 (by rw[WN];show 1+as.length<=1000000;lia) λp H4 s4 e4=>?_;refine q p H4 (s1.trans (s2.trans (s3.trans s4))) ?_;rw[At];exact⟨rE (g.low kd hm).1,as,e4,(mJ DG).mono (k! (s3.trans s4))⟩
theorem wW{k:Nat}(hr:L2.Room k A):A.units+148+4<YJ:=by
 have:=eQ hr;lia
inductive fK(vs:List V)(H:Hp)(Q:VK)(_E:XK):Prop
 |mk (b:WR) (ins outs:List (Xk×Int)) (head:Th) (rows:List (List Th)):vs=[.ref b]->Bk H ins outs head rows b->cN ins->rows.length<=100->(∀row∈rows,row.length=ins.length)->(∀(r:WR)(f':List (List Key×V))(H':Hp),j! H H'->H r=B?->H' r=A? (.dT f')->MkAt H' ins rows f'->Q (.ref r) H')->fK  vs H Q _E
def abn(H:Hp)(ins:List (Xk×Int))(rows:List (List Th))(f':List (List Key×V))(i j:Nat):Prop :=
 ∀(s k:Nat)(row:List Th)(p:Th),k<3->(s<i\/(s=i/\k<j))->rows[s]?=A? row->row[df ins]?=A? p->∃a,aN f' [Xn (s:Int),Xn (k:Int)]=A? (.ref a)/\At H p a
theorem jH:aU P w K mg base CX0 2 T.g_33.f T.g_33.d ["book"] fK:=by
 refine T.g_33.F.okA bt λAh A outer s H vs Q E hr h=>?_;obtain⟨b,ins,outs,head,rows,rfl,hB,g,C8,CM,q⟩:=h;refine hid λZZ kZ=>?_;obtain⟨ia,oa,ha,ra,Ag,Az,AE,hB⟩:=hB;refine kZ ?_
 refine⟨_,(ad (dr (i:=1) (N:=["name","many"]) (js:=[B?,B?]) (g:=(mV K 2 (cY (av 0) (cY (av 1) mN)))) (tt:=bE) (te:=(kD (aI (bi 0) cK))) bt.nd rfl (Or.inl rfl) rfl (cp rfl (by decide +kernel) (by decide +kernel) rfl rfl rfl) (dH (pcF T.g_26 (d4 T) hr (aa (pv 0) ab))) (λ_ _ _ _ _ _=>(bp rfl (aj (pgN 0 yV) (aj (pgN 1 yV) aV)))) (gN (bT bd (aK rfl) (bT bd (aK rfl) gI))) (λ_ _ _ _ _ _=>bM) (λ_ _ _ _ _ _=>(aE (aa (pv 0) ab))))
  (ad (am 2 bt.nd (bW Xf PySem.F.slot_list_index PySem.F.type_list_index (va (B:=148) (wW hr)) (pv 1) (aa (pcF T.g_31 (fB T) hr (aa (pcF T.g_26 (d4 T) hr (aa (pv 0) ab)) ab)) ab)))
  (ad (am 3 bt.nd kX)
  (ad (bq Xr rfl (oT rfl T.n_3 (pcF T.g_29 (dF T) hr (aa (pv 0) ab))) (bp rfl (aj (pgN 4 bt.nd) (aj (pgN 5 bt.nd) aV))) (ae (bq Xr rfl (bF rfl T.n_10 (aa (cC (v:=.int (3)) rfl T.c_MOST_KIDS.choose_spec ⟨_,D?⟩) ab)) (pgN 6 bt.nd) (ae (tP (j8 hr) (pv 3) (aE (aa (pv 4) (aa (pv 6) ab))) (aA aD (pv 5) (pv 2) (λ_ _=>rfl)) rfl)))))
  (ae (aw (pv 3))))))),?_⟩
 try dsimp only[Aw,Ad]
 have Ck:ins.length=Ag.length:=W3 hB.inK;have Hj:rows.length=AE.length:=W3 hB.rw;have Iu:=g.le;refine⟨_,D?,b,_,_,_,_,D?,hB.bk,ia,D?,⟨_,l! hB.inE⟩,ig (F:=λH(k:Xk×Int)a=>At H (.knot k.1 []) a) (xs:=Ag.map i!) ins (λH1 H2 z p kt h=>h.mono kt) (by rw[WN];exact Ck) (by rw[WN];lia) (λi Hx sx hi=>⟨_,_,l! (sx _ _ hB.inE),WS hi⟩) (λHx sx=>⟨_,l! (sx _ _ hB.inE),WW _⟩) (λi Hx x Hy sx hi hy=>⟨hy.1,hy.2 _ (l! (sx _ _ hB.inE))⟩) (λi x z Hx R W' hx B1 sx hR=>?_) (λD H1 as hD s1 eD DG=>?_)⟩
 .obtain⟨ka,rfl,BI⟩:=aH hx;obtain⟨z',BO,ez⟩:=y! hB.inK BI;rw[B1]at BO;cases BO;have N9:Hx ka=A? (.tup [.str z.1,.int z.2]):=sx _ _ ez;refine⟨ka,_,D?,l! N9,D?,_,_,D?,_,_,D?,D?,?_⟩;refine⟨_,D?,lnE rfl,λp hp=>hR _ p (af hp _) ?_⟩;rw[At];exact⟨rE (g.low z (WT B1)).1,[],ac,.nil⟩
 obtain⟨k0,Co,Jq⟩:=r8 g;have hI:=jt Co;refine⟨_,D?,.inl ⟨D?,_,n! eD⟩,_,D?,b,_,_,_,_,D?,s1 _ _ hB.bk,ia,Ag,ins,D?,s1 _ _ hB.inE,hB.inK.mono (k! s1),g,λst H2 s2 AS=>?_⟩;have B2:=s1.trans s2;have Ep:Ats H2 (ins.map λk=>o! k.1 []) as:=(p9 DG).mono (k! s2);refine⟨D,.ref st,_,(eG ins).dv,dvs (ins.map λk=>o! k.1 []),df ins,D?,D?,n! (s2 _ _ eD),AS.dv,Ep.dvs,?_,?_,λi hi hz=>?_,?_,?_⟩
 .have h1:=jk (ins.map λk=>o! k.1 [])
  have h2:aP (ins.map λk=>o! k.1 [])<=1:=mW λu hu=>by
   obtain⟨k,_,rfl⟩:=Xy.mp hu;rw[t!,aP];exact WW _
  lia
 .rw[sP,WZ,hI,jB Co];rfl
 .rw[sP,WZ]at hz;cases LV:ins[i]? with
  |none=>rw[LV]at hz;cases hz
  | some k =>
    rw[LV,jB Co]at hz;have Rc:(o! k.1 []).dv=(o! k0.1 []).dv:=Xm hz;rw[Th.dv,Th.dv]at Rc;have Uu:=Dv.tup.inj Rc;injection Uu with Uv _;injection Uv with Uw;have:=g.nd i (df ins) k k0 LV hI Uw;lia
 .rw[tV,WN];lia
 intro td Hk;dsimp only[av];have s3:j! H2 (upd H2 td (.dT [])):=af Hk _;have e3:(upd H2 td (.dT [])) td=A? (.dT []):=ac;have J2:H td=none:=B2.free Hk;generalize(upd H2 td (.dT []))=H3 at s3 e3 |-;have CU:=B2.trans s3;refine⟨_,D?,b,_,_,_,_,D?,CU _ _ hB.bk,ra,D?,⟨_,l! (CU _ _ hB.rl)⟩,?_⟩
 refine wd (K:=K) (a:=ra) (xs:=AE.map i!) (λi Z H4=>Ex4 λ(c4 c5 c6:Option V)(tk:List (List Key×V))=>An5 (Z=[A? (.ref b),A? (.ref D),A? (.int (df ins:Nat)),A? (.ref td),c4,c5,c6]) (j! H H4) (H4 td=A? (.dT tk)) (tk.length<=3 * i) (abn H4 ins rows tk i 0))
  ⟨B?,B?,B?,[],rfl,CU,e3,Xh _,λs k row p _ h=>by rcases h with h|⟨_,h⟩ <;> cases h⟩ (λi Z H4 _⟨_,_,_,_,_,s4,_,_,_⟩=>l! (s4 _ _ hB.rl)) ?_ ?_
 .rintro i x pr Z H4 hx Bu ⟨c4,c5,c6,tk,rfl,s4,Hm,hlen,Ac⟩;refine hid λZZ kZ=>?_;obtain⟨rwa,rfl,Oa⟩:=aH hx;obtain⟨row,Af,J3,Hn,Gm⟩:=y! hB.rw Oa;refine kZ ?_;have Ux:i<100:=by have:=(glE Af);lia
  have Uy:=CM row (WT Af);have Ft:=Gm.length;have Ug:=(glE hI);refine gU Bu λH5 s5 e5=>?_;have Iv:=s4.trans s5;refine⟨pr,_,D?,l! e5,D?,_,_,D?,_,_,D?,D?,?_⟩;dsimp only[av];refine⟨3,D?,by decide,by decide,?_⟩
  refine dg (n:=3) (λj Z H6=>Ex2 λ(c6:Option V)(tk:List (List Key×V))=>An5 (Z=[A? (.ref b),A? (.ref D),A? (.int (df ins:Nat)),A? (.ref td),A? (.int ((i:Nat):Int)),A? (.ref rwa),c6]) (j! H H6) (H6 td=A? (.dT tk)) (tk.length<=3 * i+j) (abn H6 ins rows tk i j))
   ⟨_,tk,rfl,Iv,s5 _ _ Hm,hlen,λs k row p hk h h1 h2=>by
    obtain⟨a,a1,a2⟩:=Ac s k row p hk h h1 h2;exact⟨a,a1,a2.mono (k! s5)⟩⟩ ?_ ?_
  .rintro j Z H6 hj ⟨c6,tk,rfl,s6,J4,hlen,Ac⟩;refine hid λZZ kZ=>?_;obtain⟨pa,DX⟩:∃a,J3[df ins]?=A? a:=⟨_,WS (by lia)⟩;obtain⟨p0,Fh,Er⟩:=Gm.get DX;refine kZ ?_;refine⟨_,D?,_,D?,rwa,_,_,.ref pa,D?,D?,l! (s6 _ _ Hn),bP (gmE DX),_,D?,_,D?,_,D?,lnE rfl,λkp CN=>?_⟩;refine gU CN λH7 s7 e7=>?_;have e7:H7 kp=A? (.tup ([Xn ((i:Nat):Int),Xn (0+((j:Nat):Int))].map kV)):=e7;have Rf:=s7 _ _ J4;refine⟨td,_,D?,DPut.t Rf e7 (bR (by lia)),?_⟩
   have EV:KT H7 (upd H7 td (.dT (putK tk [Xn ((i:Nat):Int),Xn (0+((j:Nat):Int))] (.ref pa)))):=λc ys ec=>by
    rw[ai (eY ec Rf (λz=>nomatch z))];exact ec
   refine⟨_,_,D?,ak (s6.trans s7) J2,ac,?_,λs k row' p' hk h h1 h2=>?_⟩
   .have:=bz tk [Xn ((i:Nat):Int),Xn (0+((j:Nat):Int))] (i! pa);lia
   .rw[fO];by_cases AN:([Xn ((s:Nat):Int),Xn ((k:Nat):Int)]:List Key)=[Xn ((i:Nat):Int),Xn (0+((j:Nat):Int))]
    .rw[b! AN];injection AN with e1 e2;have CD:((s:Nat):Int)=(i:Nat):=YM e1;have:s=i:=by lia
     subst this;rw[Af]at h1;cases h1;rw[Fh]at h2;cases h2;exact⟨pa,D?,Er.mono ((k! (s6.trans s7)).trans EV)⟩
    .rw[a! AN]
     have LW:s<i\/(s=i/\k<j):=by
      rcases h with h|⟨rfl,h⟩
      .exact .inl h
      .refine .inr ⟨rfl,?_⟩;by_cases Uz:k=j
       .exact g! (by rw[Uz,Yq]) AN
       .lia
     obtain⟨a,a1,a2⟩:=Ac s k row' p' hk LW h1 h2;exact⟨a,a1,a2.mono ((k! s7).trans EV)⟩
  .rintro Z H6 ⟨c6,tk,rfl,s6,J4,hlen,Ac⟩;exact⟨_,_,_,tk,D?,s6,J4,by lia,λs k row p hk h h1 h2=>Ac s k row p hk (by rcases h with h|⟨_,h⟩;(· by_cases hs:s=i;exact .inr ⟨hs,hk⟩;exact .inl (by lia));exact g! h (ZK _)) h1 h2⟩
 .rintro Z H4 ⟨c4,c5,c6,tk,rfl,s4,Hm,hlen,Ac⟩;refine⟨_,D?,q td tk H4 s4 J2 Hm λs k row p hk h1 h2=>Ac s k row p hk (.inl ?_) h1 h2⟩;rw[WN,<-Hj];exact(glE h1)
abbrev FrB:=@FrK
inductive eJ(P:W6)(w:Xo)(K:WQ)(vs:List V)(H:Hp)(Q:VK)(_E:XK):Prop
 |mk (b md pt:WR) (s:Nat) (ins outs:List (Xk×Int)) (head:Th) (rows:List (List Th)) (row:List Th) (Dc:List (List Key×V)) (f':List (ay×V)) (Al:List ay) (Vl:VlT):vs=[.ref b,.int (s:Nat),.ref md,.ref pt]->Bk H ins outs head rows b->FrK ins outs rows->rows[s]?=A? row->H md=A? (.dT Dc)->MkAt H ins rows Dc->Pt P w Vl H pt f' Al->Al.length<=1000000->(∀x∈(mkF ins rows (s:Nat)).pl [],nk (s:Nat) x.1∈Al)->(∀x∈(mkF ins rows (s:Nat)).pl [],x.2.isHole=CV)->(∀(i:Nat)(p:Th)(kd:Xk×Int)(pl:List Int)(u:Th)(j:Nat),row[i]?=A? p->ins[i]?=A? kd->(pl,u)∈(frF (mkF ins rows) (mkF ins rows (s:Nat)) (row.take (i+1))).pl []->u.isHole=C?->(∀v,(pl,v)∈(frF (mkF ins rows) (mkF ins rows (s:Nat)) (row.take i)).pl []->v.isHole=CV)->Vl j (nk (s:Nat) pl) (eG ins) (.knot kd.1 (List.replicate kd.2.toNat (eG ins))))->(∀(r:WR)(A8:List (ay×V))(H':Hp),But pt H H'->AtK .i K H' (frF (mkF ins rows) (mkF ins rows (s:Nat)) row) r->Pt P w Vl H' pt A8 Al->(∀k∈f'.map (·.1),k∈A8.map (·.1))->(∀i,i<=row.length->∀x∈(frF (mkF ins rows) (mkF ins rows (s:Nat)) (row.take i)).pl [],x.2.isHole=C?->nk (s:Nat) x.1∈A8.map (·.1))->Q (.ref r) H')->eJ P w K vs H Q _E
theorem lL:aU P w K mg base CX0 6 T.g_34.f T.g_34.d ["book","state","made","partings"] (eJ P w K):=by
 refine T.g_34.F.okA bI λAh A outer s0 H vs Q E hr h=>?_;obtain⟨b,md,pt,s,ins,outs,head,rows,row,Dc,f',Al,Vl,rfl,hB,F,Af,Iw,Ho,Fu,LX,B7,C1,hV,q⟩:=h;refine hid λZZ kZ=>?_;obtain⟨ia,oa,ha,ra,Ag,Az,AE,hB⟩:=hB;refine kZ ?_
 refine⟨_,(ad (am 4 bI.nd (pcF T.g_26 (d4 T) hr (aa (pv 0) ab)))
  (ad (am 5 bI.nd (pw (j8 hr) (pv 2) (aE (aa (pv 1) (aa ag ab))) (λ_ _=>rfl)))
  (ad (bq Xr rfl (xS rfl T.n_14 (aa (pv 4) (aa (aA aD (pcF T.g_29 (dF T) hr (aa (pv 0) ab)) (pv 1) (λ_ _=>rfl)) ab))) (bp rfl (aj (pgN 6 bI.nd) (aj (pgN 7 bI.nd) aV))) (ad (am 5 bI.nd (pcF T.g_22 (uX T) hr (aa (pv 5) (aa (pcF T.g_17 (ie T) hr (aa (pv 7) (aa (pv 2) ab))) ab))))
  (ae (bq Xr rfl (bS (pcF T.g_15 (gC T) hr (aa (pv 5) ab))) (pgN 8 bI.nd) (ae (aS (xR (fl:=CV) Zn PySem.F.type_dict_setdefault (gD (fl:=CV) (ga hr)) (pv 3) (aa (aE (aa (pv 1) (aa (pv 8) ab))) (aa (aE (aa (pcF T.g_31 (fB T) hr (aa (pv 4) ab)) (aa (pcF T.g_32 (fC T) hr (aa (pv 4) (aa (pv 6) (aa xG ab)))) ab))) ab)))))))))
  (ae (aw (pv 5)))))),?_⟩
 try dsimp only[Aw,Ad]
 have g:=F.gi;have Ck:ins.length=Ag.length:=W3 hB.inK;have Hj:rows.length=AE.length:=W3 hB.rw;have Iu:=g.le;have N8:=(glE Af);obtain⟨φ,Fv⟩:=cy Fu.dm;have J5:md≠pt:=λz=>by rw[z,Fv]at Iw;cases Iw
 refine⟨_,D?,b,_,_,_,_,D?,hB.bk,?_⟩;refine hid λZZ kZ=>?_;obtain⟨row',p0,Rg,Fh,Hq,z1,z2,f0⟩:=F.mkd (l:=(s:Nat)) (by lia) (by lia);rw[XH,Af]at Rg;cases Rg;obtain⟨fa,UA,El⟩:=Ho s 0 row p0 (by decide) Af Fh;refine kZ ?_;refine⟨_,D?,_,D?,lnE rfl,λkp CN=>?_⟩;refine gU CN λH1 s1 e1=>?_;have e1:H1 kp=A? (.tup (([Xn ((s:Nat):Int),Xn 0]:List Key).map kV)):=e1;refine⟨md,.ref fa,D?,.inr ⟨Dc,_,kp,.inl (s1 _ _ Iw),D?,e1,UA.symm⟩,?_⟩
 refine hid λZZ kZ=>?_;obtain⟨AM,Be,J3,Hn,Es⟩:=F! hB.rw Af;refine kZ ?_;have AK:=Es.length;have Ob:=(F.fit.row row (WT Af)).1;refine⟨_,D?,_,D?,b,_,_,_,_,D?,s1 _ _ hB.bk,_,D?,ra,_,_,.ref AM,D?,D?,l! (s1 _ _ hB.rl),bP (gmE Be),ia,AM,D?,⟨_,l! (s1 _ _ hB.inE)⟩,⟨_,l! (s1 _ _ Hn)⟩,?_⟩
 have J6:∀(i:Nat)(p:Th),row[i]?=A? p->∀l k,z! l k∈p.walk->∃v,aN Dc [Xn l,Xn k]=A? (.ref v)/\At H (mkF ins rows l) v/\(mkF ins rows l).size<=200:=λi p hp l k hc=>by
  have Ak:=(glE hp);obtain⟨kd,CJ⟩:∃kd,ins[i]?=A? kd:=⟨_,WS (by lia)⟩;have hf:=(F.fit.row row (WT Af)).2 i p kd hp CJ;have Cd:=g.num kd (WT CJ);obtain⟨a1,a2,a3,a4⟩:=jO hf hc;obtain⟨UB,p1,b1,b2,b3,b4,_⟩:=F.mkd a1 a2;obtain⟨v,v1,v2⟩:=Ho l.toNat k.toNat UB p1 (by lia) b1 b2;rw[Yu a1,Yu a3]at v1;exact⟨v,v1,by rw[b3];exact v2,by rw[b3];exact b4⟩
 have UC:∀i',i'<=0->∀x∈(frF (mkF ins rows) (mkF ins rows (s:Nat)) (row.take i')).pl [],x.2.isHole=C?->nk (s:Nat) x.1∈f'.map (·.1):=λi' AW x hx hh=>by
  rw[Nat.le_zero.mp AW,Zk]at hx;have:=C1 x hx;rw[hh]at this;cases this
 refine t9 (K:=K) (a:=ia) (b:=AM) (xs:=Ag.map i!) (ys:=J3.map i!) (by rw[WN,WN];lia) (λi Z H2=>Ex5 λ(fa:WR)(c6 c7 c8:Option V)(Bh:List (ay×V))=>An6 (Z=[A? (.ref b),A? (.int ((s:Nat):Int)),A? (.ref md),A? (.ref pt),A? (.ref ia),A? (.ref fa),c6,c7,c8]) (But pt H H2) (AtK .i K H2 (frF (mkF ins rows) (mkF ins rows (s:Nat)) (row.take i)) fa) (Pt P w Vl H2 pt Bh Al) ((∀k∈f'.map (·.1),k∈Bh.map (·.1))) ((∀i',i'<=i->∀x∈(frF (mkF ins rows) (mkF ins rows (s:Nat)) (row.take i')).pl [],x.2.isHole=C?->nk (s:Nat) x.1∈Bh.map (·.1))))
  ⟨fa,B?,B?,B?,f',rfl,G! s1,by rw[Zk,Hq];exact(El.mono (k! s1)).k,Fu.same s1,λ_ h=>h,UC⟩ (λi Z H2 _⟨_,_,_,_,_,_,b2,_,_,_,_⟩=>?_) ?_ ?_
 .have kt:=b2.kt Fv;exact⟨l! (kt _ _ hB.inE),l! (kt _ _ Hn)⟩
 .rintro i x y p2 Z H2 hx hy Bs ⟨fa,c6,c7,c8,Bh,rfl,b2,BN,BL,CF,Rh⟩;refine hid λZZ kZ=>?_;obtain⟨ka,rfl,BI⟩:=aH hx;obtain⟨pa,rfl,DX⟩:=aH hy;obtain⟨kd,hk,ek⟩:=y! hB.inK BI;obtain⟨p,hp,Er⟩:=Es.get DX;refine kZ ?_;have Oc:=b2.kt Fv;refine gU Bs λH3 s3 e3=>?_;have Ri:=Oc.trans (k! s3);have b3:=b2.trans (G! s3);refine⟨p2,_,D?,l! e3,D?,_,_,D?,_,_,D?,D?,?_⟩;dsimp only[av]
  have Im:=F.sz row (WT Af) p (WT hp);refine⟨_,D?,_,D?,_,D?,.i,pa,md,p,(λl _=>mkF ins rows l),D?,(Er.mono Ri).k,by lia,λl k hc=>?_,λfl H4 s4 Hr=>?_⟩
  .refine hid λZZ kZ=>?_;obtain⟨v,v1,v2,v3⟩:=J6 i p hp l k hc;refine kZ ?_;exact⟨v,(v2.mono Ri).k,by lia,λH2 ca sv s2 hs BS=>wH (b3 _ _ J5 Iw) v1 s2 hs BS⟩
  have hsz:=i7 (mkF ins rows) (mkF ins rows (s:Nat)) (row.take i);rw[Hq]at hsz;have J7:=BN.mono (k! (s3.trans s4));rw[Hq]at J7;refine⟨fa,fl,_,_,D?,J7,Hr,by lia,by lia,λcm H5 s5 Od=>?_⟩;have AQ:row.take (i+1)=row.take i++[p]:=by rw[XU,hp];rfl
  have J8:AtK .i K H5 (frF (mkF ins rows) (mkF ins rows (s:Nat)) (row.take (i+1))) cm:=by
   rw[AQ,qi,Hq];exact Od
  have b5:=b3.trans (G! (s4.trans s5));have Oe:=BL.same (s3.trans (s4.trans s5));have WE:=b5.kt Fv;have Of:=i7 (mkF ins rows) (mkF ins rows (s:Nat)) (row.take (i+1));rw[Hq]at Of;have J9:=J8;rw[Hq]at J9
  refine⟨_,D?,cm,_,D?,J9,by lia,by lia,λhl bs H6 s6 Gn An=>?_⟩;rw[<-Hq]at An;have b6:=b5.trans (G! s6);have J':=Oe.same s6;have EW:=b6.kt Fv;obtain⟨UD,DH⟩:=cy J'.dm;have Og:=J8.mono (k! s6);have EX:hl≠pt:=λz=>by rw[z,DH]at Gn;cases Gn
  have BQ:=W3 An;have UE:=ZE (λp:List Int×Th=>p.2.isHole) ((frF (mkF ins rows) (mkF ins rows (s:Nat)) (row.take (i+1))).pl []);rw[D!]at UE;have Cd:=g.num kd (WT hk);refine⟨hl,D?,⟨_,n! Gn⟩,?_⟩
  refine cE (K:=K) (a:=hl) (xs:=bs.map i!) (λj Z H7=>Ex2 λ(c8:Option V)(Fw:List (ay×V))=>An5 (Z=[A? (.ref b),A? (.int ((s:Nat):Int)),A? (.ref md),A? (.ref pt),A? (.ref ia),A? (.ref cm),A? (.ref ka),A? (.ref pa),c8]) (But pt H6 H7) (Pt P w Vl H7 pt Fw Al) ((∀k∈Bh.map (·.1),k∈Fw.map (·.1))) (∀(j':Nat)(pl:List Int),j'<j->((((frF (mkF ins rows) (mkF ins rows (s:Nat)) (row.take (i+1))).pl []).filter λp=>p.2.isHole).map (·.1))[j']?=A? pl->nk (s:Nat) pl∈Fw.map (·.1)))
   ⟨_,Bh,rfl,But.refl _ _,J',λ_ h=>h,λ_ _ h=>g! h (ZK _)⟩ (λj Z H7 _⟨_,_,_,b7,_,_,_⟩=>n! (b7 _ _ EX Gn)) ?_ ?_
  .rintro j x Z H7 hx ⟨c8,Fw,rfl,b7,Et,Bo,Ac⟩;refine hid λZZ kZ=>?_;obtain⟨pb,rfl,UG⟩:=aH hx;obtain⟨pl,Fx,Oh⟩:=y! An UG;have EV:=b7.kt DH;have Oi:=EW.trans EV;have Oj:=EV _ _ Oh
   obtain⟨NQ,ER,Ol⟩:∃u,(pl,u)∈(frF (mkF ins rows) (mkF ins rows (s:Nat)) (row.take (i+1))).pl []/\u.isHole=true:=by
    obtain⟨x,Fy,rfl⟩:=Xy.mp (WT Fx);exact⟨x.2,(Y0.mp Fy).1,(Y0.mp Fy).2⟩
   refine kZ ?_
   have Om:nk (s:Nat) pl∈Al:=by
    obtain⟨x,Fy,rfl⟩:=Xy.mp (WT Fx);obtain⟨u,hu⟩:=wn (mkF ins rows) (mkF ins rows (s:Nat)) (row.take (i+1)) x (Y0.mp Fy).1;exact B7 (x.1,u) hu
   have WG:=Et.len;refine⟨_,D?,⟨pt,Fw,D?,Et.dm⟩,_,D?,_,D?,lnE rfl,λNg Oo=>?_⟩;refine gU Oo λH8 s8 e8=>?_;have DI:=Oi.trans (k! s8);refine⟨_,D?,ia,Ag,ins,D?,DI _ _ hB.inE,hB.inK.mono DI,g,λst H9 s9 AS=>?_⟩;have Oq:=DI.trans (k! s9);refine⟨_,D?,_,D?,λdd LY=>?_⟩;refine gU LY λBF AV JQ=>?_;have Ht:=Oq.trans (k! AV);refine⟨ia,ka,dd,Ag,ins,kd,[],List.replicate kd.2.toNat (eG ins),D?,Ht _ _ hB.inE,hB.inK.mono Ht,g,Ht _ _ ek,WT hk,JQ,by rw[List.length_replicate],λi' u hu=>.inr ⟨D?,List.eq_of_mem_replicate (WT hu)⟩,λr2 GG BU G4=>?_⟩;refine⟨lnE rfl,λpr Bu=>?_⟩;refine gU Bu λHu B3 DJ=>?_;have Hv:=AV.trans (BU.trans B3);have Fz:=s8.trans (s9.trans Hv);have Eu:=Et.same Fz;refine⟨pt,Ng,.ref pr,nk (s:Nat) pl,Fw,D?,D?,Eu.dm,nq ((s9.trans Hv) _ _ e8) (Fz _ _ Oj),bR (by lia),λu hu=>?_,λhn FA Rj Ot=>?_⟩
   .refine⟨_,Fw,D?,b7.trans (G! Fz),Eu,Bo,λj' BW Au AX=>?_⟩;by_cases Ew:j'=j
    .subst Ew;rw[Fx]at AX;cases AX;exact Xy.mpr ⟨_,fL hu,rfl⟩
    .exact Ac j' BW (by lia) AX
   .have UH:∀v,(pl,v)∈(frF (mkF ins rows) (mkF ins rows (s:Nat)) (row.take i)).pl []->v.isHole=false:=λv hv=>by
     cases UI:v.isHole with
     |false=>rfl
     | true =>
       exfalso;exact dZ hn (Bo _ (Rh i (WW _) (pl,v) hv UI))
    obtain⟨Iy,Ka⟩:=Eu.put hn Rj Ot ⟨pr,st,r2,_,_,rfl,DJ,AS.mono (k! Hv),G4.mono (k! B3),hV i p kd pl NQ _ hp hk ER Ol UH⟩ Om;refine⟨_,_,D?,(b7.trans (G! Fz)).trans Rj,Iy,λk AN=>by rw[Ka];exact XM _ (Bo k AN),λj' BW Au AX=>?_⟩;rw[Ka];by_cases Ew:j'=j
    .subst Ew;rw[Fx]at AX;cases AX;exact XE _ (Xe ..)
    .exact XM _ (Ac j' BW (by lia) AX)
  .rintro Z H7 ⟨c8,Fw,rfl,b7,Et,Bo,Ac⟩;refine⟨cm,_,_,_,Fw,D?,b6.trans b7,Og.mono (b7.kt DH),Et,λk AN=>Bo k (CF k AN),λi' AW x hx hh=>?_⟩;by_cases UJ:i'<=i
   .exact Bo _ (Rh i' UJ x hx hh)
   obtain rfl:i'=i+1:=by lia
   have hm:x.1∈(((frF (mkF ins rows) (mkF ins rows (s:Nat)) (row.take (i+1))).pl []).filter λp=>p.2.isHole).map (·.1):=Xy.mpr ⟨x,Y0.mpr ⟨hx,hh⟩,rfl⟩;obtain⟨j',Au⟩:=Xi.mp hm;exact Ac j' x.1 (by have:=(YI.mp Au).1;rw[WN];lia) Au
 .rintro Z H2 ⟨fa,c6,c7,c8,Bh,rfl,b2,BN,BL,CF,hh⟩;rw[WN]at BN hh;rw[Yn (by lia)]at BN;exact⟨_,D?,q fa Bh H2 b2 BN BL CF λi hi=>hh i (by lia)⟩
def LDone(H:Hp)(G:LG)(s:Nat)(ps:List Th)(f0:Th):Prop:=∀p∈ps,∀c∈callsOf (p.pl []),∀u,(c.1,u)∈f0.pl []->∀x∈u.pl [],ii H G (nk c.2.1 x.1) (s:Nat) (c.1++x.1)
theorem LDone.sub{G G':LG}{s:Nat}{ps:List Th}{f0:Th}(h:LDone H G s ps f0)(k:LSub H H' G G'):LDone H' G' s ps f0:=λp hp c hc u hu x hx=>k _ _ _ (h p hp c hc u hu x hx)
inductive i8(P:W6)(w:Xo)(K:WQ)(vs:List V)(H:Hp)(Q:VK)(_E:XK):Prop
 |mk (b fa la:WR) (s:Nat) (ins outs:List (Xk×Int)) (head:Th) (rows:List (List Th)) (row:List Th) (f0:Th) (H0:Hp) (G:LG) (N:Nat) (Al:List ay) (Lk:LkT):vs=[.ref b,.int (s:Nat),.ref fa,.ref la]->Bk H ins outs head rows b->FrK ins outs rows->rows[s]?=A? row->AtK .i K H f0 fa->f0.size<=200->f0.tall<=100->LkI P w ins Al Lk H0 H la G N->N<=15000000->(∀x∈f0.pl [],nk (s:Nat) x.1∈Al)->(∀(i:Nat)(p:Th)(kd:Xk×Int)(c:List Int×Int×Int)(u:Th)(x:List Int×Th),row[i]?=A? p->ins[i]?=A? kd->c∈callsOf (p.pl [])->(c.1,u)∈f0.pl []->x∈u.pl []->Lk (nk c.2.1 x.1) (s:Nat) (c.1++x.1) kd c.2.2)->(∀(G':LG)(H':Hp),KT H H'->LkI P w ins Al Lk H0 H' la G' (N+640000)->LSub H H' G G'->LDone H' G' s row f0->Q .non H')->i8 P w K vs H Q _E
theorem o5:aU P w K mg base CX0 6 T.g_35.f T.g_35.d ["book","state","front","links"] (i8 P w K):=by
 refine T.g_35.F.okA bQ λAh A outer s0 H vs Q E hr h=>?_;obtain⟨b,fa,la,s,ins,outs,head,rows,row,f0,H0,G,N,Al,Lk,rfl,hB,F,Af,BN,WH,WI,L,hN,B7,hL,q⟩:=h;refine hid λZZ kZ=>?_;obtain⟨ia,oa,ha,ra,Ag,Az,AE,hB⟩:=hB;refine kZ ?_
 refine⟨_,(ad (am 4 bQ.nd (bG (lK (yO hr) rfl) rfl T.n_2 PyProof.Rows.boot_dict (aa (pcF T.g_4 (gR T) hr (aa (pv 2) ab)) ab)))
  (ae (bq Xr rfl (xS rfl T.n_14 (aa (pcF T.g_26 (d4 T) hr (aa (pv 0) ab)) (aa (aA aD (pcF T.g_29 (dF T) hr (aa (pv 0) ab)) (pv 1) (λ_ _=>rfl)) ab))) (bp rfl (aj (pgN 5 bQ.nd) (aj (pgN 6 bQ.nd) aV))) (ae (bq Xr rfl (bS (pcF T.g_13 (rm T) hr (aa (pv 6) ab))) (bp rfl (aj (pgN 7 bQ.nd) (aj (bp rfl (aj (pgN 8 bQ.nd) (aj (pgN 9 bQ.nd) aV))) aV))) (ae (bK (sG (aau (j8 hr) (pv 7) (pv 4))) (ae (bq Xr rfl (bS (pcF T.g_6 (uL T) hr (aa (pw (j8 hr) (pv 4) (pv 7) (λ_ _=>rfl)) ab))) (pgN 10 bQ.nd) (ae (aS (bW Xf Xw Xv aO (xR (fl:=CV) Zn PySem.F.type_dict_setdefault (gD (fl:=CV) (ga hr)) (pv 3) (aa (aE (aa (pv 8) (aa (pv 10) ab))) (aa (bx ab) ab))) (aa (aE (aa (pv 1) (aa (aC fT (pv 7) (pv 10)) (aa (pv 5) (aa (pv 9) ab))))) ab)))))) bh))))))),?_⟩
 try dsimp only[Aw,Ad]
 have g:=F.gi;have Ck:ins.length=Ag.length:=W3 hB.inK;have Iu:=g.le;have N8:=(glE Af)
 refine⟨_,D?,fa,f0,D?,BN,by lia,by lia,λUK LZ H1 s1 WJ Kb Bn=>?_⟩;have Ou:(f0.pl []).length=LZ.length:=W3 Bn;rw[D!]at Ou;refine hid λZZ kZ=>?_;obtain⟨prs,Kc,Ov,Ow⟩:∃prs:List (List Key×V),Xp (PrA H1) prs LZ/\(∀p∈prs,∃x∈f0.pl [],p.1=x.1.map Xn/\∃a,p.2=.ref a/\AtK .i K H1 x.2 a)/\∀x∈f0.pl [],∃p∈prs,p.1=x.1.map Xn:=wU Bn;refine kZ ?_;have Rk:prs.length=LZ.length:=W3 Kc;refine⟨UK,LZ,prs,D?,Kb,Kc,by lia,λpd UL=>?_⟩;refine gU UL λH2 s2 e2=>?_;refine hid λZZ kZ=>?_;obtain⟨f1,f2⟩:=jU (R:=λk v=>∃x∈f0.pl [],k=x.1.map Xn/\∃a,v=.ref a/\AtK .i K H1 x.2 a) prs [] (λk v hv=>by cases hv) Ov;have B2:=s1.trans s2;have Hw:=L.same B2;obtain⟨AM,Be,J3,Hn,Es⟩:=F! hB.rw Af;refine kZ ?_;have AK:=Es.length;have Ob:=(F.fit.row row (WT Af)).1
 have Ox:∀(q:List Int)(u:Th),(q,u)∈f0.pl []->∃a,aN (du [] prs) (q.map Xn)=A? (.ref a)/\AtK .i K H1 u a:=λq u hu=>by
  obtain⟨p,hp,e⟩:=Ow (q,u) hu;obtain⟨v,hv⟩:=f2 (q.map Xn) (.inr ⟨p,hp,e⟩);obtain⟨x,hx,ex,a,rfl,ha⟩:=f1 _ v hv;have hq:q=x.1:=(List.map_inj_right (λ_ _ e=>YM e)).mp ex;have:u=x.2:=sL _ (WW _) hu (by rw[hq];exact hx);rw[this];exact⟨a,hv,ha⟩
 have Oy:∀(q:List Int)(v:V),aN (du [] prs) (q.map Xn)=A? v->∃u a,(q,u)∈f0.pl []/\v=.ref a/\AtK .i K H1 u a:=λq v hv=>by
  obtain⟨x,hx,ex,a,rfl,ha⟩:=f1 _ v hv;have hq:q=x.1:=(List.map_inj_right (λ_ _ e=>YM e)).mp ex;exact⟨x.2,a,by rw[hq];exact hx,D?,ha⟩
 have Gp:pd≠la:=λz=>by
  obtain⟨φ,e⟩:=cy Hw.dm;rw[z,e]at e2;cases e2
 have Oz:∀g∈G,g.2.1≠pd:=λg hg z=>by
  have:=(Hw.ls g hg).2.1;rw[z,e2]at this;cases this
 refine⟨_,D?,b,_,_,_,_,D?,B2 _ _ hB.bk,_,D?,b,_,_,_,_,D?,B2 _ _ hB.bk,_,D?,ra,_,_,.ref AM,D?,D?,l! (B2 _ _ hB.rl),bP (gmE Be),ia,AM,D?,⟨_,l! (B2 _ _ hB.inE)⟩,⟨_,l! (B2 _ _ Hn)⟩,?_⟩
 refine t9 (K:=K) (a:=ia) (b:=AM) (xs:=Ag.map i!) (ys:=J3.map i!) (by rw[WN,WN];lia) (λi Z H3=>Ex7 λ(c5 c6 c7 c8 c9 Du:Option V)(G3:LG)=>An3 (Z=[A? (.ref b),A? (.int ((s:Nat):Int)),A? (.ref fa),A? (.ref la),A? (.ref pd),c5,c6,c7,c8,c9,Du]) (LQ P w ins Al Lk H0 la H2 G H3 G3 (N+i * 80000)) (LDone H3 G3 s (row.take i) f0))
  ⟨B?,B?,B?,B?,B?,B?,G,rfl,(LQ.refl Hw).up (by lia),λp hp=>by rw[Zk]at hp;cases hp⟩ (λi Z H3 _⟨_,_,_,_,_,_,_,_,q3,_⟩=>?_) ?_ ?_
 .have kt:=(k! B2).trans (q3.kt Hw);exact⟨l! (kt _ _ hB.inE),l! (kt _ _ Hn)⟩
 .rintro i x y p2 Z H3 hx hy Bs ⟨c5,c6,c7,c8,c9,Du,G3,rfl,q3,d3⟩;refine hid λZZ kZ=>?_;obtain⟨ka,rfl,BI⟩:=aH hx;obtain⟨pa,rfl,DX⟩:=aH hy;obtain⟨kd,hk,ek⟩:=y! hB.inK BI;obtain⟨p,hp,Er⟩:=Es.get DX;refine kZ ?_;have UM:i<8:=by have:=(glE hk);lia
  refine gU Bs λH4 s4 e4=>?_;have q4:=q3.same s4;have L3:=(k! B2).trans (q4.kt Hw);refine⟨p2,_,D?,l! e4,D?,_,_,D?,_,_,D?,D?,?_⟩;dsimp only[av];have Im:=F.sz row (WT Af) p (WT hp);refine⟨_,D?,pa,p,D?,(Er.mono L3).k,by lia,by lia,λcl cs H5 s5 UN EY Cu=>?_⟩;have q5:=q4.same s5;have d5:=d3.sub (LSub.kt (k! (s4.trans s5)) G3);have L5:=q5.lk;have UO:(callsOf (p.pl [])).length=cs.length:=W3 Cu;have OA:=ku (p.pl []);rw[D!]at OA
  have OB:∀g∈G3,g.2.1≠cl:=λg hg z=>by
   have:=(q4.lk.ls g hg).2.1;rw[z,UN]at this;cases this
  have Kd:cl≠la:=λz=>by
   obtain⟨φ,e⟩:=cy L5.dm;rw[z,e]at EY;cases EY
  refine⟨cl,D?,⟨_,n! EY⟩,?_⟩
  refine cE (K:=K) (a:=cl) (xs:=cs.map i!) (λj Z H6=>Ex5 λ(c7 c8 c9 Du:Option V)(G6:LG)=>An3 (Z=[A? (.ref b),A? (.int ((s:Nat):Int)),A? (.ref fa),A? (.ref la),A? (.ref pd),A? (.ref ka),A? (.ref pa),c7,c8,c9,Du]) (LQ P w ins Al Lk H0 la H5 G3 H6 G6 (N+i * 80000+j * 400)) (∀(j':Nat)(c:List Int×Int×Int),j'<j->(callsOf (p.pl []))[j']?=A? c->∀u,(c.1,u)∈f0.pl []->∀x∈u.pl [],ii H6 G6 (nk c.2.1 x.1) (s:Nat) (c.1++x.1)))
   ⟨_,_,_,_,G3,rfl,(LQ.refl L5).up (by lia),λ_ _ h=>g! h (ZK _)⟩ (λj Z H6 _⟨_,_,_,_,_,_,q6,_⟩=>n! (q6.fr _ _ EY Kd OB)) ?_ ?_
  .rintro j x Z H6 hx ⟨c7,c8,c9,Du,G6,rfl,q6,d6⟩;refine hid λZZ kZ=>?_;obtain⟨ca,rfl,Ds⟩:=aH hx;obtain⟨c,hc,Ke,UP,UQ,Rl,OC⟩:=y! Cu Ds;refine kZ ?_;have EW:=q6.kt L5;have Ig:j<200:=by have:=(glE hc);lia
   have Kf:H5 pd=A? (.dT (du [] prs)):=q5.fr _ _ e2 Gp Oz
   have Kg:∀g∈G3,g.2.1≠pd:=λg hg z=>by
    have:=(L5.ls g hg).2.1;rw[z,Kf]at this;cases this
   have Kh:=q6.fr _ _ Kf Gp Kg
   have Rm:H6 Ke=A? (.tup ((c.1.map Xn).map kV)):=by
    rw[EW _ _ Rl,YA];rfl
   have FC:=(k! s2).trans ((q5.kt Hw).trans EW);refine⟨ca,_,D?,l! (EW _ _ UQ),D?,_,_,D?,_,_,D?,UP,_,D?,l! (EW _ _ OC),D?,_,_,D?,_,_,D?,D?,D?,?_⟩;refine cw (λbb H'=>An2 (H6=H') (bb=(aN (du [] prs) (c.1.map Xn)).isSome)) (λk2 Bp=>?_) (λH' hb2=>?_) (λH' hb2=>?_)
   .exact⟨_,D?,_,D?,pd,_,D?,DGet.t Kh Rm,_,D?,Bp _ _ ⟨D?,D?⟩⟩
   .refine hid λZZ kZ=>?_;obtain⟨rfl,hb2⟩:=hb2;obtain⟨v,hv⟩:=ZY.mp hb2.symm;obtain⟨u,ua,hu,rfl,Eo⟩:=Oy c.1 v hv;obtain⟨E7,UR⟩:=zo _ f0 [] (WW _) _ hu;refine kZ ?_;dsimp only at E7 UR;refine⟨_,D?,_,D?,pd,.ref ua,D?,by rw[<-hv];exact DGet.t Kh Rm,ua,u,D?,Eo.mono FC,by lia,by lia,λil Rn H7 s7 nil L4 Ki=>⟨il,D?,⟨_,n! L4⟩,?_⟩⟩;have q7:=q6.same s7;have L7:=q7.lk;have d7:∀(j':Nat)(c:List Int×Int×Int),j'<j->(callsOf (p.pl []))[j']?=A? c->∀u,(c.1,u)∈f0.pl []->∀x∈u.pl [],ii H7 G6 (nk c.2.1 x.1) (s:Nat) (c.1++x.1):=λj' c h1 h2 u h3 x h4=>LSub.kt (k! s7) G6 _ _ _ (d6 j' c h1 h2 u h3 x h4);have OD:(u.pl []).length=Rn.length:=W3 Ki;rw[D!]at OD
    have OE:∀g∈G6,g.2.1≠il:=λg hg z=>by
     have:=(q6.lk.ls g hg).2.1;rw[z,nil]at this;cases this
    have Kj:il≠la:=λz=>by
     obtain⟨φ,e⟩:=cy L7.dm;rw[z,e]at L4;cases L4
    have EV:=EW.trans (k! s7);have OF:=(L3.trans (k! s5)).trans EV
    refine cE (K:=K) (a:=il) (xs:=Rn.map i!) (λm Z H8=>Ex2 λ(Du:Option V)(G8:LG)=>An3 (Z=[A? (.ref b),A? (.int ((s:Nat):Int)),A? (.ref fa),A? (.ref la),A? (.ref pd),A? (.ref ka),A? (.ref pa),A? (.ref Ke),A? (.int c.2.1),A? (.int c.2.2),Du]) (LQ P w ins Al Lk H0 la H7 G6 H8 G8 (N+i * 80000+j * 400+2 * m)) (∀(m':Nat)(x:List Int×Th),m'<m->(u.pl [])[m']?=A? x->ii H8 G8 (nk c.2.1 x.1) (s:Nat) (c.1++x.1)))
     ⟨_,G6,rfl,LQ.refl L7,λ_ _ h=>g! h (ZK _)⟩ (λm Z H8 _⟨_,_,_,q8,_⟩=>n! (q8.fr _ _ L4 Kj OE)) ?_ ?_
    .rintro m x Z H8 hx ⟨Du,G8,rfl,q8,d8⟩;refine hid λZZ kZ=>?_;obtain⟨ib,rfl,US⟩:=aH hx;obtain⟨y,hy,OG⟩:=y! Ki US;have Kk:m<200:=by have:=(glE hy);rw[D!]at this;lia
     have OH:=q8.kt L7;have L8:=q8.lk;have OI:=L8.le;have OJ:=OH _ _ OG;have Ro:=OH _ _ (EV _ _ Rl);have Rp:KAt H8 kd ka:=OH _ _ (OF _ _ ek);obtain⟨WK,UT⟩:=cy L8.dm;refine kZ ?_;have Q4:c.1.length<=100:=by have:=wY _ f0 [] (WW _) _ hu;rw[List.length_nil]at this;dsimp only at this;lia
     have EZ:y.1.length<=100:=by have:=wY _ u [] (WW _) y (WT hy);rw[List.length_nil]at this;lia
     have Rq:nk (s:Nat) (c.1++y.1)∈Al:=B7 (c.1++y.1,y.2) (uh _ (WW _) hu (WT hy));have Rr:Lk (nk c.2.1 y.1) (s:Nat) (c.1++y.1) kd c.2.2:=hL i p kd c u y hp hk (WT hc) hu (WT hy);refine⟨_,D?,⟨la,_,D?,L8.dm⟩,_,D?,_,D?,lnE rfl,λkp CN=>?_⟩;dsimp only;refine gU CN λH9 s9 e9=>?_;refine⟨lnE rfl,λl0 EL=>?_⟩;have AV:j! H9 (upd H9 l0 (.lst [])):=af EL _;have q9:LQ P w ins Al Lk H0 la H8 G8 H9 G8 (N+i * 80000+j * 400+2 * m):=(LQ.refl L8).same s9;have Hz:=k! (s9.trans AV);refine⟨la,kp,.ref l0,nk c.2.1 y.1,lkv G8,D?,D?,L8.dm.mono (s9.trans AV),nq (AV _ _ e9) ((s9.trans AV) _ _ OJ),fI (by unfold lkv;rw[WN];lia),λu hu=>?_,λhn BF UU OK=>?_⟩
     .obtain⟨g,hg,Kl,rfl⟩:=t8 hu;have qs:LQ P w ins Al Lk H0 la H8 G8 (upd H9 l0 (.lst [])) G8 (N+i * 80000+j * 400+2 * m+1):=(q9.same AV).up (by lia);generalize(upd H9 l0 (.lst []))=Hs at qs Hz |-;have Ls:=qs.lk;refine hid λZZ kZ=>?_;obtain⟨_,gl,gn,_⟩:=Ls.ls g hg;refine kZ ?_;refine⟨.inl ⟨D?,_,n! gl⟩,_,D?,_,D?,_,D?,?_⟩;refine sE (Hz _ _ Ro) (Hz _ _ OJ) (by rw[WN,WN];lia) λpj GG BU FD=>?_;rw[<-W8]at FD;refine⟨_,D?,_,D?,lnE rfl,λen OL=>?_⟩;refine gU OL λHu B3 DJ=>?_;have Dd:=BU.trans B3;refine⟨g.2.1,_,_,D?,D?,Dd _ _ gl,fI (by rw[WN];lia),?_⟩;obtain⟨Km,has⟩:=(qs.same Dd).appG hg (en:=en) ⟨_,_,c.1++y.1,pj,ka,kd,DJ,B3 _ _ FD,(k! Dd) _ _ (Hz _ _ Rp),WT hk,Rq,by rw[Kl];exact Rr⟩;refine⟨_,_,D?,(q8.trans Km).up (by lia),λm' x2 F9 Cn=>?_⟩;by_cases L6:m'=m
      .rw[L6,hy]at Cn;cases Cn;have hh:=has _ _ _ _ _ DJ (B3 _ _ FD);rw[Kl]at hh;exact hh
      .exact Km.sub _ _ _ (d8 m' x2 (by lia) Cn)
     .have qs:=q9.newG EL hn UU OK;have OM:=qs.kt L8;refine hid λZZ kZ=>?_;obtain⟨g,hg,Kl,UW⟩:∃g∈G8++[(nk c.2.1 y.1,l0,[])],g.1=nk c.2.1 y.1/\g.2.1=l0:=⟨_,XE _ (Xe ..),rfl,rfl⟩;refine kZ ?_;rw[<-UW]at qs hg |-;have Ls:=qs.lk;refine hid λZZ kZ=>?_;obtain⟨_,gl,gn,_⟩:=Ls.ls g hg;refine kZ ?_;refine⟨.inl ⟨D?,_,n! gl⟩,_,D?,_,D?,_,D?,?_⟩;refine sE (OM _ _ Ro) (OM _ _ OJ) (by rw[WN,WN];lia) λpj GG BU FD=>?_;rw[<-W8]at FD;refine⟨_,D?,_,D?,lnE rfl,λen OL=>?_⟩;refine gU OL λHu B3 DJ=>?_;have Dd:=BU.trans B3;refine⟨g.2.1,_,_,D?,D?,Dd _ _ gl,fI (by rw[WN];lia),?_⟩;obtain⟨Km,has⟩:=(qs.same Dd).appG hg (en:=en) ⟨_,_,c.1++y.1,pj,ka,kd,DJ,B3 _ _ FD,(k! Dd) _ _ (OM _ _ Rp),WT hk,Rq,by rw[Kl];exact Rr⟩;refine⟨_,_,D?,(q8.trans Km).up (by lia),λm' x2 F9 Cn=>?_⟩;by_cases L6:m'=m
      .rw[L6,hy]at Cn;cases Cn;have hh:=has _ _ _ _ _ DJ (B3 _ _ FD);rw[Kl]at hh;exact hh
      .exact Km.sub _ _ _ (d8 m' x2 (by lia) Cn)
    .rintro Z H8 ⟨Du,G8,rfl,q8,d8⟩;refine⟨_,_,_,_,G8,D?,(q7.trans q8).up (by rw[WN];lia),λj' c' Au AO u' BV x2 Cn=>?_⟩;by_cases Ew:j'=j
     .subst Ew;rw[hc]at AO;cases AO;have:u'=u:=sL _ (WW _) BV hu;subst this;obtain⟨m',F9⟩:=Xi.mp Cn;exact d8 m' x2 (by have:=(YI.mp F9).1;rw[D!]at this;rw[WN];lia) F9
     .exact q8.sub _ _ _ (d7 j' c' (by lia) AO u' BV x2 Cn)
   .obtain⟨rfl,hb2⟩:=hb2;refine⟨_,_,_,_,G6,D?,q6.up (by lia),λj' c' Au AO u' BV x2 Cn=>?_⟩;by_cases Ew:j'=j
    .subst Ew;rw[hc]at AO;cases AO;obtain⟨a,ha,_⟩:=Ox c.1 u' BV;rw[ha]at hb2;cases hb2
    .exact d6 j' c' (by lia) AO u' BV x2 Cn
  .rintro Z H6 ⟨c7,c8,c9,Du,G6,rfl,q6,d6⟩;refine⟨_,_,_,_,_,_,G6,D?,(q5.trans q6).up ?_,?_⟩
   .rw[WN];have:cs.length * 400<=200 * 400:=Y3 _ (by lia);lia
   .intro p' AX;rw[XU,hp]at AX;rcases XA.mp AX with AX|AX
    .exact(d5.sub q6.sub) p' AX
    .cases Xc.mp AX;intro c Od;obtain⟨j',Au⟩:=Xi.mp Od;exact d6 j' c (by have:=(YI.mp Au).1;rw[WN];lia) Au
 .rintro Z H3 ⟨c5,c6,c7,c8,c9,Du,G3,rfl,q3,d3⟩;rw[WN]at q3 d3;rw[Yn (by lia)]at d3;have hmul:Ag.length * 80000<=8 * 80000:=Y3 _ (by lia);exact q G3 H3 ((k! B2).trans (q3.kt Hw)) (q3.lk.up (by lia)) ((LSub.kt (k! B2) G).trans q3.sub) d3
theorem m3(k:Key)(v:V):jr [] [(k,v)]=[(k,v)]:=rfl
theorem pL{kid:Int}{t:Th}(h:At H t a):zK H ins [(Xn kid,.ref a)] (gL ins n kid t):=λi u hu=>by
 unfold gL at hu;rw[WZ,XI]at hu;obtain⟨j,hj,rfl⟩:=hu;have WL:j<n:=by have:=YZ.mp (WT hj);exact this
 have Gf:i=j:=by
  have hi:i<n:=by have:=(glE hj);rwa [Xj]at this
  rw[XY hi]at hj;exact Xm hj
 subst Gf;by_cases hk:(i:Int)=kid
 .rw[b! hk];exact .inl ⟨a,by rw[bH (by rw[hk])],h⟩
 .rw[a! hk];exact .inr ⟨by rw[bJ (λz=>hk (YM z).symm)];rfl,rfl⟩
def SpI(P:W6)(w:Xo)(Vl:VlT)(H:Hp)(ia la pt hl:WR)(G:LG)(f':List (ay×V))(Al:List ay)(m:Nat)(Z:St)(H2:Hp):Prop:=∃(i:Nat)(Bh:List (ay×V))(FE:List WR)(c5 c6 c7 c8 c9 Du:Option V),Z=[A? (.ref ia),A? (.ref la),A? (.ref pt),A? (.ref hl),A? (.int (i:Nat)),c5,c6,c7,c8,c9,Du]/\But pt H H2/\H2 hl=A? (.lst (FE.map i!))/\Pt P w Vl H2 pt Bh Al/\Xp (λk b=>MKAt CV H2 k b) (Bh.map (·.1)) FE/\(∀k∈f'.map (·.1),k∈Bh.map (·.1))/\i<=Bh.length/\(∀(j:Nat)(k:ay),j<i->(Bh.map (·.1))[j]?=A? k->∀s pl,ii H2 G k s pl->nk s pl∈Bh.map (·.1))/\m=Al.length+1 - i
inductive nw(P:W6)(w:Xo)(vs:List V)(H:Hp)(Q:VK)(_E:XK):Prop
 |mk (ia la pt:WR) (Ag:List WR) (ins:List (Xk×Int)) (G:LG) (f':List (ay×V)) (Al:List ay) (Vl:VlT) (Lk:LkT):vs=[.ref ia,.ref la,.ref pt]->H ia=A? (.tup (Ag.map i!))->KsAt H ins Ag->cN ins->LkR P w ins Al Lk H la G->Pt P w Vl H pt f' Al->Al.length<=1000000->pt≠la->(∀(i j:Nat)(k:ay)(t1 t2:Th)(s:Int)(pl:List Int)(kd:Xk×Int)(kid:Int),i<j->Vl i k t1 t2->kd∈ins->Lk k s pl kd kid->Vl j (nk s pl) (.knot kd.1 (gL ins kd.2.toNat kid t1)) (.knot kd.1 (gL ins kd.2.toNat kid t2)))->(∀(A8:List (ay×V))(H':Hp),But pt H H'->Pt P w Vl H' pt A8 Al->(∀k∈f'.map (·.1),k∈A8.map (·.1))->(∀k∈A8.map (·.1),∀s pl,ii H' G k s pl->nk s pl∈A8.map (·.1))->Q .non H')->nw P w vs H Q _E
theorem vi:aU P w K mg base CX0 3 T.g_36.f T.g_36.d ["ins","links","partings"] (nw P w):=by
 refine T.g_36.F.okA ck λAh A outer s0 H vs Q E hr h=>?_;obtain⟨ia,la,pt,Ag,ins,G,f',Al,Vl,Lk,rfl,ei,EU,g,R,Fu,LX,Ap,hS,q⟩:=h
 refine⟨_,(ad (am 3 ck.nd (bG (sk (fl:=CV) rfl) rfl T.n_7 PyProof.Rows.boot_list (aa (pv 2) ab)))
  (ad (am 4 ck.nd ag)
  (ae (eV Xr (aW iy (pv 4) (ax aq rfl T.n_6 XD (aa (pv 3) ab)) (aQ _)) (ad (fw (wu (fl:=CV) (ga hr) (pv 2) (aA bD (pv 3) (pv 4) (λ_ _=>rfl)) (λ_ _=>rfl)) (bp rfl (aj (pgN 5 ck.nd) (aj (pgN 6 ck.nd) aV))))
  (ad (bq Xr rfl (bS (uV (fl:=CV) (ga hr) (pv 1) (aA bD (pv 3) (pv 4) (λ_ _=>rfl)) (bx ab) ⟨D?,D?,D?,D?⟩)) (bp rfl (aj (pgN 7 ck.nd) (aj (pgN 8 ck.nd) (aj (pgN 9 ck.nd) (aj (pgN 10 ck.nd) aV))))) (ae (bK (sG (sh (fl:=CV) (ga hr) (aE (aa (pv 7) (aa (pv 8) ab))) (pv 2))) (ad (qO (fl:=CV) (ga hr) (pv 2) (aE (aa (pv 7) (aa (pv 8) ab))) (aE (aa (pcF T.g_32 (fC T) hr (aa (pv 0) (aa (pv 9) (aa (tR (rj (pv 10) (pv 5) uu) rfl rfl (by decide) (by decide)) ab)))) (aa (pcF T.g_32 (fC T) hr (aa (pv 0) (aa (pv 9) (aa (tR (rj (pv 10) (pv 6) uu) rfl rfl (by decide) (by decide)) ab)))) ab))) rfl)
  (ae (aS (bW Xf Xw Xv aO (pv 3) (aa (aE (aa (pv 7) (aa (pv 8) ab))) ab))))) bh)))
  (ae (vN (i:=4) ck.nd rfl (Or.inl rfl) ag wC)))))))),?_⟩
 try dsimp only[Aw,Ad]
 obtain⟨φ,Fv⟩:=cy Fu.dm;have Ck:ins.length=Ag.length:=W3 EU;refine⟨_,D?,pt,f',D?,Fu.dm,λhl bs EX An=>?_⟩;refine gU EX λH1 s1 e1=>?_;have Rt:hl≠pt:=λz=>by rw[z,Fv]at EX;cases EX
 have ON:Xp (λk b=>MKAt CV H1 k b) (f'.map (·.1)) bs:=P2.mapl _ (x! (λ_ _ e=>e.mono (k! s1)) An);refine⟨SpI P w Vl H ia la pt hl G f' Al,⟨_,0,f',bs,B?,B?,B?,B?,B?,B?,D?,G! s1,e1,Fu.same s1,ON,λ_ h=>h,Xh _,λ_ _ h=>g! h (ZK _),D?⟩,?_⟩;rintro m Z H2 ⟨i,Bh,FE,c5,c6,c7,c8,c9,Du,rfl,b2,De,BL,HC,Gq,LV,C2,rfl⟩;have OO:(Bh.map (·.1)).length=FE.length:=W3 HC;rw[WN]at OO;have WM:=BL.len;have Oc:=b2.kt Fv;obtain⟨L9,DK⟩:=cy BL.dm;refine⟨_,D?,_,D?,hl,_,D?,.inl (n! De),_,_,D?,D?,?_⟩;refine⟨_,D?,?_⟩;refine cu (λcc=>?_) (λcc=>?_)
 .have Ak:i<FE.length:=by
   have:=e! cc;rw[WN]at this;lia
  refine hid λZZ kZ=>?_;obtain⟨bk,Ru⟩:∃bk,FE[i]?=A? bk:=⟨_,WS Ak⟩;obtain⟨k,hk,Ho⟩:=y! HC Ru
  obtain⟨v,hv⟩:∃v,aN Bh k=A? v:=by
   cases Kn:aN Bh k with
   |none=>exact g! (WT hk) (dZ Kn)
   |some v=>exact⟨v,D?⟩
  obtain⟨kv,Rv,Rw⟩:∃kv,Bh[i]?=A? kv/\kv.1=k:=by
   rw[WZ,XI]at hk;exact hk
  obtain⟨pr,ta,tb,t1,t2,ev,Io,Dq,LK,Rx⟩:=BL.vl i kv Rv;refine kZ ?_;rw[<-Rw]at hv;rw[<-yu BL.nd Rv hv]at ev;subst ev;rw[Rw]at hv Rx;have Ko:atI (FE.map i!) ((i:Nat):Int)=A? (.ref bk):=bP (gmE Ru);refine⟨λAa H'=>∃m',m'<Al.length+1 - i/\SpI P w Vl H ia la pt hl G f' Al m' Aa H',λAa H' h=>h,?_⟩;refine⟨_,D?,_,D?,_,D?,hl,_,_,.ref bk,D?,D?,n! De,Ko,?_⟩;refine⟨pt,bk,k,Bh,.ref pr,D?,D?,BL.dm,Ho,hv,?_⟩;refine⟨pr,_,D?,l! Io,D?,_,_,D?,_,_,D?,D?,?_⟩;dsimp only[av];have R2:=R.but b2 Fv Ap
  refine cg (λAa H'=>Ex6 λ(BA:List (ay×V))(CO:List WR)(d7 d8 d9 Iz:Option V)=>An8 (Aa=[A? (.ref ia),A? (.ref la),A? (.ref pt),A? (.ref hl),A? (.int (i:Nat)),A? (.ref ta),A? (.ref tb),d7,d8,d9,Iz]) (But pt H H') (KT H2 H') (H' hl=A? (.lst (CO.map i!))) (Pt P w Vl H' pt BA Al) (Xp (λk b=>MKAt CV H' k b) (BA.map (·.1)) CO) ((∃more,BA.map (·.1)=Bh.map (·.1)++more)) (∀s pl,ii H' G k s pl->nk s pl∈BA.map (·.1))) (λkk AN=>?_) ?_
  .refine⟨_,D?,la,_,D?,R2.dm,_,D?,_,D?,hl,_,_,.ref bk,D?,D?,n! De,Ko,lnE rfl,λl0 EL=>?_⟩;refine gU EL λH3 s3 e3=>?_;have e3:H3 l0=A? (.lst (([]:List WR).map i!)):=e3;have R3:=R2.but (G! s3 (p:=pt)) DK Ap;have OP:l0≠hl:=λz=>by rw[z,De]at EL;cases EL
   refine⟨la,bk,k,lkv G,D?,D?,R3.dm,Ho.mono (k! s3),?_⟩;refine hid λZZ kZ=>?_
   obtain⟨l,as,el,Ry,UX,UY,hle,UZ⟩:∃(l:WR)(as:List WR),(aN (lkv G) k).getD (.ref l0)=.ref l/\H3 l=A? (.lst (as.map i!))/\l≠hl/\l≠pt/\(∀a∈as,LE H3 ins Al Lk k a)/\∀s pl,ii H3 G k s pl->∃a∈as,∃(pa ka:WR)(kid:Int),H3 a=A? (.tup [.int s,.ref pa,.ref ka,.int kid])/\H3 pa=A? (.tup (pl.map p!)):=by
    have DL:H3 pt=A? (.ext L9):=s3 _ _ DK;cases Rz:aN (lkv G) k with
    |none=>exact⟨l0,[],D?,e3,OP,(λz=>by rw[z,DL]at e3;cases e3),(λa ha=>by cases ha),λs pl hh=>g! hh (vI Rz)⟩
    | some u =>
      obtain⟨g,hg,rfl,rfl⟩:=t8 Rz;obtain⟨h1,h2⟩:=R3.ls g hg;refine⟨g.2.1,g.2.2,D?,h1,(λz=>?_),(λz=>by rw[z,DL]at h1;cases h1),h2,λs pl hh=>R3.at hg hh⟩;have:=(R.ls g hg).1;rw[z,EX]at this;cases this
   refine kZ ?_;rw[el];refine⟨l,D?,⟨_,n! Ry⟩,?_⟩;have b3:=b2.trans (G! s3 (p:=pt))
   refine cE (K:=K) (a:=l) (xs:=as.map i!) (λj Z H4=>Ex6 λ(BA:List (ay×V))(CO:List WR)(d7 d8 d9 Iz:Option V)=>An8 (Z=[A? (.ref ia),A? (.ref la),A? (.ref pt),A? (.ref hl),A? (.int (i:Nat)),A? (.ref ta),A? (.ref tb),d7,d8,d9,Iz]) (But pt H H4) ((∀c o,c≠pt->c≠hl->H3 c=A? o->H4 c=A? o)) (H4 hl=A? (.lst (CO.map i!))) (Pt P w Vl H4 pt BA Al) (Xp (λk b=>MKAt CV H4 k b) (BA.map (·.1)) CO) ((∃more,BA.map (·.1)=Bh.map (·.1)++more)) (∀(j':Nat)(a:WR),j'<j->as[j']?=A? a->∀(s:Int)(pl:List Int)(pa ka:WR)(kid:Int),H3 a=A? (.tup [.int s,.ref pa,.ref ka,.int kid])->H3 pa=A? (.tup (pl.map p!))->nk s pl∈BA.map (·.1)))
    ⟨Bh,FE,_,_,_,_,rfl,b3,λ_ _ _ _ e=>e,s3 _ _ De,BL.same s3,x! (λ_ _ e=>e.mono (k! s3)) HC,⟨[],by rw[Xs]⟩,λ_ _ h=>g! h (ZK _)⟩ (λj Z H4 _⟨_,_,_,_,_,_,_,_,f4,_,_,_,_,_⟩=>n! (f4 _ _ UY UX Ry)) ?_ ?_
   .rintro j x Z H4 hx ⟨BA,CO,d7,d8,d9,Iz,rfl,b4,f4,DN,Bv,Df,AL,Ac⟩;have DL:H3 pt=A? (.ext L9):=s3 _ _ DK;have Dg:KT H3 H4:=λc ys ec=>f4 c _ (λz=>by rw[z,DL]at ec;cases ec) (λz=>by rw[z,s3 _ _ De]at ec;cases ec) ec;have FF:=(k! s3).trans Dg;have OQ:=Oc.trans FF;refine hid λZZ kZ=>?_;obtain⟨φ4,OR⟩:=cy Bv.dm;have U0:=Bv.len;have OS:(BA.map (·.1)).length=CO.length:=W3 Df;rw[WN]at OS;obtain⟨a,rfl,ha⟩:=aH hx;obtain⟨s',kid,pl,pa,ka,kd,g1,g2,g3,g4,g5,g6⟩:=hle a (WT ha);refine kZ ?_;have ea:=Dg _ _ g1;have BM:=Dg _ _ g2;have RA:KAt H4 kd ka:=Dg _ _ g3
    have Kp:∀(s:Int)(BW:List Int)(ES Ef:WR)(Cc:Int),H3 a=A? (.tup [.int s,.ref ES,.ref Ef,.int Cc])->H3 ES=A? (.tup (BW.map p!))->nk s BW=nk s' pl:=λs BW ES Ef Cc h1 h2=>by
     rw[g1]at h1;cases h1;rw[g2]at h2;have:pl=BW:=qZ (by injection h2 with h3;injection h3);rw[this]
    refine⟨a,_,D?,l! ea,D?,_,_,D?,_,_,D?,_,_,D?,_,_,D?,D?,?_⟩;dsimp only[av];refine cw (λbb H'=>An2 (j! H4 H') (bb=!(aN BA (nk s' pl)).isSome)) (λk2 Bp=>?_) (λH5 hb2=>?_) (λH5 hb2=>?_)
    .refine⟨_,D?,_,D?,lnE rfl,λkp CN=>?_⟩;have s5:=af CN (.tup [.int s',.ref pa]);exact⟨_,D?,pt,kp,nk s' pl,BA,D?,D?,Bv.dm.mono s5,nq ac (s5 _ _ BM),_,D?,Bp _ _ ⟨s5,D?⟩⟩
    .obtain⟨s5,hb2⟩:=hb2
     have hn:aN BA (nk s' pl)=none:=by
      cases Kn:aN BA (nk s' pl)with
      |none=>rfl
      |some u=>rw[Kn]at hb2;cases hb2
     have Kq:=OQ.trans (k! s5);have Fn:=FF.trans (k! s5)
     refine⟨_,D?,_,D?,λdd LY=>?_⟩;refine⟨_,D?,_,D?,ac,[(Xn kid,.ref ta)],D?,(by show 1<=15;decide),?_⟩;rw[m3];have s6:j! H5 (upd (upd H5 dd (.dK [])) dd (.dK [(Xn kid,.ref ta)])):=ak (af LY _) LY;have e6:(upd (upd H5 dd (.dK [])) dd (.dK [(Xn kid,.ref ta)])) dd=A? (.dK [(Xn kid,.ref ta)]):=ac;generalize(upd (upd H5 dd (.dK [])) dd (.dK [(Xn kid,.ref ta)]))=H6 at s6 e6 |-;have FC:=Kq.trans (k! s6);refine⟨ia,ka,dd,Ag,ins,kd,_,gL ins kd.2.toNat kid t1,D?,FC _ _ ei,EU.mono FC,g,(s5.trans s6) _ _ RA,g4,e6,l7 ..,pL (Dq.mono (Fn.trans (k! s6))),λr1 H7 s7 N'=>?_⟩
     refine⟨_,D?,_,D?,λd2 hd2=>?_⟩;refine⟨_,D?,_,D?,ac,[(Xn kid,.ref tb)],D?,(by show 1<=15;decide),?_⟩;rw[m3];have s8:j! H7 (upd (upd H7 d2 (.dK [])) d2 (.dK [(Xn kid,.ref tb)])):=ak (af hd2 _) hd2;have e8:(upd (upd H7 d2 (.dK [])) d2 (.dK [(Xn kid,.ref tb)])) d2=A? (.dK [(Xn kid,.ref tb)]):=ac;generalize(upd (upd H7 d2 (.dK [])) d2 (.dK [(Xn kid,.ref tb)]))=H8 at s8 e8 |-;have Dt:=s6.trans (s7.trans s8);have DI:=Kq.trans (k! Dt);refine⟨ia,ka,d2,Ag,ins,kd,_,gL ins kd.2.toNat kid t2,D?,DI _ _ ei,EU.mono DI,g,(s5.trans Dt) _ _ RA,g4,e8,l7 ..,pL (LK.mono (Fn.trans (k! Dt))),λr2 H9 s9 G4=>?_⟩;refine⟨lnE rfl,λp2 Bs=>?_⟩;refine gU Bs λBF AV JQ=>?_;refine⟨_,D?,_,D?,_,D?,lnE rfl,λkp CN=>?_⟩;refine gU CN λGG BU FD=>?_;have DO:=s5.trans (Dt.trans (s9.trans (AV.trans BU)));have Gr:=Bv.same DO;refine⟨pt,kp,nk s' pl,BA,D?,D?,Gr.dm,nq FD (DO _ _ BM),fI (by lia),λHu OT OU=>?_⟩;have Ma:But pt GG Hu:=OT
     have OV:i<BA.length:=by
      obtain⟨more,hm⟩:=id AL;have:=h! Zu hm;rw[WN,Xd,WN]at this;lia
     obtain⟨U1,HE⟩:=Gr.put hn Ma OU ⟨p2,r1,r2,_,_,rfl,BU _ _ JQ,N'.mono (k! (s8.trans (s9.trans (AV.trans BU)))),G4.mono (k! (AV.trans BU)),hS i _ k t1 t2 s' pl kd kid OV Rx g4 g6⟩ g5;have Ex:Hu hl=A? (.lst (CO.map i!)):=Ma _ _ Rt (DO _ _ DN);have Gs:KT H4 Hu:=(k! DO).trans (Ma.kt (DO _ _ OR));dsimp only[av];refine⟨_,D?,.inl ⟨D?,_,n! Ex⟩,_,D?,_,D?,lnE rfl,λMb OW=>?_⟩;refine gU OW λFA DZ OX=>?_;refine⟨hl,_,_,D?,D?,DZ _ _ Ex,fI (by rw[WN];lia),?_⟩;have FG:KT FA (upd FA hl (.lst (CO.map i!++[.ref Mb]))):=aL (DZ _ _ Ex);have Kr:=(Gs.trans (k! DZ)).trans FG;have Iy:=U1.same DZ;have U2:Pt P w Vl (upd FA hl (.lst (CO.map i!++[.ref Mb]))) pt _ Al:=⟨ui Iy.dm FG λo eo=>by rw[ai Rt.symm];exact eo,Iy.nd,Iy.al,λj p hp=>(Iy.vl j p hp).mono FG⟩;obtain⟨more,AL⟩:=AL
     have go:∀c o,c≠pt->c≠hl->H4 c=A? o->(upd FA hl (.lst (CO.map i!++[.ref Mb]))) c=A? o:=λc o h1 h2 e=>by
      rw[ai h2];exact DZ _ _ (Ma _ _ h1 (DO _ _ e))
     refine⟨_,CO++[Mb],_,_,_,_,D?,λc o hc e=>go c o hc (λz=>by rw[z,EX]at e;cases e) (b4 _ _ hc e),λc o h1 h2 e=>go c o h1 h2 (f4 c o h1 h2 e),uAE,U2,?_,⟨more++[nk s' pl],by rw[HE,AL,XJ]⟩,λj' a' Au DA s BW ES Ef Cc h1 h2=>?_⟩
     .rw[HE];exact r! (x! (λ_ _ e=>e.mono Kr) Df) (.cons ((nq OX (DZ _ _ (Gs _ _ BM))).mono FG) .nil)
     .rw[HE];by_cases Ew:j'=j
      .rw[Ew,ha]at DA;cases DA;rw[Kp s BW ES Ef Cc h1 h2];exact XE _ (Xe ..)
      .exact XM _ (Ac j' a' (by lia) DA s BW ES Ef Cc h1 h2)
    .obtain⟨s5,hb2⟩:=hb2
     obtain⟨u,hu⟩:∃u,aN BA (nk s' pl)=A? u:=by
      cases Kn:aN BA (nk s' pl)with
      |none=>rw[Kn]at hb2;cases hb2
      |some u=>exact⟨u,D?⟩
     refine⟨BA,CO,_,_,_,_,D?,b4.trans (G! s5),λc o h1 h2 e=>s5 _ _ (f4 c o h1 h2 e),s5 _ _ DN,Bv.same s5,x! (λ_ _ e=>e.mono (k! s5)) Df,AL,λj' a' Au DA s BW ES Ef Cc h1 h2=>?_⟩;by_cases Ew:j'=j
     .rw[Ew,ha]at DA;cases DA;rw[Kp s BW ES Ef Cc h1 h2];exact Xy.mpr ⟨_,fL hu,rfl⟩
     .exact Ac j' a' (by lia) DA s BW ES Ef Cc h1 h2
   .rintro Z H4 ⟨BA,CO,d7,d8,d9,Iz,rfl,b4,f4,DN,Bv,Df,AL,Ac⟩;have DL:H3 pt=A? (.ext L9):=s3 _ _ DK;have Dg:KT H3 H4:=λc ys ec=>f4 c _ (λz=>by rw[z,DL]at ec;cases ec) (λz=>by rw[z,s3 _ _ De]at ec;cases ec) ec;refine AN _ _ ⟨BA,CO,_,_,_,_,rfl,b4,(k! s3).trans Dg,DN,Bv,Df,AL,λs pl hh=>?_⟩;refine hid λZZ kZ=>?_;obtain⟨a,ha,pa,ka,kid,h1,h2⟩:=UZ s pl (R3.back Dg hh);obtain⟨j',Au⟩:=Xi.mp ha;refine kZ ?_;exact Ac j' a (by have:=(YI.mp Au).1;rw[WN];exact this) Au s pl pa ka kid h1 h2
  .rintro Aa H4 ⟨BA,CO,d7,d8,d9,Iz,rfl,b4,FF,DN,Bv,Df,⟨more,AL⟩,OY⟩;have U0:=Bv.len;have hlen:=h! Zu AL;rw[WN,Xd,WN]at hlen;refine⟨_,D?,_,_,D?,D?,Al.length+1 - (i+1),by lia,i+1,BA,CO,_,_,_,_,_,_,D?,b4,DN,Bv,Df,λk' A9=>by rw[AL];exact XM _ (Gq k' A9),by lia,λj k' hj A9 s pl hh=>?_,D?⟩;have F':j<(Bh.map (·.1)).length:=by rw[WN];lia
   have Bp:(Bh.map (·.1))[j]?=A? k':=by rw[AL,Yw F']at A9;exact A9
   by_cases NF:j=i
   .rw[NF,hk]at Bp;cases Bp;exact OY s pl hh
   .rw[AL];exact XM _ (C2 j k' (by lia) Bp s pl (R2.back FF hh))
 .have G1:¬i<FE.length:=λz=>cc (d! (by rw[WN];lia));refine q Bh H2 b2 BL Gq λk hk s pl hh=>?_;obtain⟨j,hj⟩:=Xi.mp hk;exact C2 j k (by have:=(glE hj);rw[WN]at this;lia) hj s pl hh
inductive fW(P:W6)(w:Xo)(K:WQ)(vs:List V)(H:Hp)(Q:VK)(_E:XK):Prop
 |mk (fa pt:WR) (s:Nat) (t:Th) (f':List (ay×V)) (Al:List ay) (Vl:VlT):vs=[.ref fa,.int (s:Nat),.ref pt]->AtK .i K H t fa->t.size<=200->t.tall<=100->t.noCall->Pt P w Vl H pt f' Al->(∀(r:WR)(H':Hp),j! H H'->AtK .i K H' (t.cut (Dk f' (s:Nat)) []) r->Q (.ref r) H')->fW P w K vs H Q _E
def aaS(K:WQ)(D:List Int->Bool)(fa pt tl ah:WR)(s:Nat)(t:Th)(H:Hp)(m:Nat)(Z:St)(H3:Hp):Prop:=∃(ts as:List WR)(Ts:List Th)(As:List (List Int×Th))(c5 c6 c7:Option V),Z=[A? (.ref fa),A? (.int (s:Nat)),A? (.ref pt),A? (.ref tl),A? (.ref ah),c5,c6,c7]/\j! H H3/\H3 tl=A? (.lst (ts.map i!))/\H3 ah=A? (.lst (as.map i!))/\Xp (TopAtK .i K H3) (Ts.map (ff z!)) ts/\PsAtK K H3 As as/\Ts++iM D As.reverse=(t.cut D []).walk/\(∀p∈As,p.1.length+p.2.tall<=100/\p.2.noCall)/\Ts.length+szP As<=200/\m=szP As
theorem oV:aU P w K mg base CX0 3 T.g_37.f T.g_37.d ["front","state","partings"] (fW P w K):=by
 refine T.g_37.F.okA cB λAh A outer s0 H vs Q E hr h=>?_;obtain⟨fa,pt,s,t,f',Al,Vl,rfl,hA,hsz,Ay,OZ,Fu,k⟩:=h
 refine⟨_,(ad (am 3 cB.nd (bx ab))
  (ad (am 4 cB.nd (bx (aa (aE (aa (aE ab) (aa (pv 0) ab))) ab)))
  (ad (eV Xr (aF (pv 4) (λ_=>rfl)) (ad (fw (jN Xf ZD ZC jF (pv 4)) (bp rfl (aj (pgN 5 cB.nd) (aj (pgN 6 cB.nd) aV))))
  (ae (bK (PW.pt (fj (aF (pcF T.g_10 (gb T) hr (aa (pv 6) ab)) (λ_=>rfl)) (fD (sG (x8 (fl:=CV) (ga hr) (aE (aa (pv 1) (aa (pv 5) ab))) (pv 2)))))) (ae (aS (bW Xf Xw Xv aO (pv 3) (aa (aE (aa (cC (v:=.ref T.k_HOLE.a) rfl T.k_HOLE.c rfl) (aa ag ab))) ab)))) (ad (aS (bW Xf Xw Xv aO (pv 3) (aa (aE (aa (dC tS (pv 6) fk (dQ ag)) (aa (aC oR (ax aq rfl T.n_6 XD (aa (pv 6) ab)) ag) ab))) ab)))
  (ad (dr (i:=7) (N:=["number","kid","place"]) (js:=[B?,B?,A? 5]) (g:=(mV K 2 (cY (av 0) (cY (av 1) mN)))) (tt:=bE) (te:=(kD (aI (tOp (pH K) (bi 2) (kD (aI (bi 0) cK))) (aI (bi 1) cK)))) cB.nd rfl (Or.inl rfl) rfl (cp rfl (by decide +kernel) (by decide +kernel) rfl rfl rfl) (oT rfl T.n_3 (dC iK (pv 6) (dQ ag) fk)) (λ_ _ _ _ _ _=>(bp rfl (aj (pgN 0 yK) (aj (pgN 1 yK) aV)))) (gN (bT bd (aK rfl) (bT bd (aK rfl) gI))) (λ_ _ _ _ _ _=>bM) (λ_ _ _ _ _ _=>(aE (aa (aC fT (pv 2) (aE (aa (pv 0) ab))) (aa (pv 1) ab)))))
  (ae (aS (bW Xf ZX ZW gX (pv 4) (aa (lp rfl rfl T.n_7 rfl T.n_11 (pv 7)) ab))))))))))
  (ae (aw (pcF T.g_5 (i6 T) hr (aa (pv 3) ab))))))),?_⟩
 try dsimp only[Aw,Ad]
 generalize RB:Dk f' (s:Nat)=D at k;refine⟨lnE rfl,λtl HF=>?_⟩;have s1:j! H (upd H tl (.lst [])):=af HF _;have G7:(upd H tl (.lst [])) tl=A? (.lst []):=ac;generalize upd H tl (.lst [])=H1 at s1 G7 |-;refine⟨lnE rfl,λp0 Fh=>?_⟩;refine⟨_,D?,lnE rfl,λp1 DV=>?_⟩;refine⟨lnE rfl,λah Bz=>?_⟩;have s2:j! H1 (upd (upd H1 p0 (.tup [])) p1 (.tup [.ref p0,.ref fa])):=(af Fh _).trans (af DV _);have e1:(upd (upd H1 p0 (.tup [])) p1 (.tup [.ref p0,.ref fa])) p1=A? (.tup [.ref p0,.ref fa]):=ac;have e0:(upd (upd H1 p0 (.tup [])) p1 (.tup [.ref p0,.ref fa])) p0=A? (.tup []):=af DV _ _ _ ac;generalize(upd (upd H1 p0 (.tup [])) p1 (.tup [.ref p0,.ref fa]))=H2 at s2 e1 e0 Bz |-;have C9:H1 ah=none:=s2.free Bz;have BZ:H ah=none:=s1.free C9;have Ap:ah≠tl:=λz=>by rw[z,G7]at C9;cases C9
 have U3:szP [(([]:List Int),t)]=t.size:=by rw[szP,szP];rfl
 refine⟨aaS K D fa pt tl ah s t H,⟨_,[],[p1],[],[([],t)],B?,B?,B?,D?,ak (s1.trans s2) BZ,by rw[ai Ap.symm];exact s2 _ _ G7,by rw[ac];rfl,.nil,.cons ⟨p0,fa,af Bz _ _ _ e1,af Bz _ _ _ e0,hA.mono (k! (ak (s1.trans s2) BZ))⟩ .nil,by show[]++((t.cut D []).walk++[])=_;rw[Zc,Xs],λp hp=>by rw[Xc.mp hp];exact⟨by simpa using Ay,OZ⟩,by rw[U3];simpa using hsz,D?⟩,?_⟩;rintro m Z H3 ⟨ts,as,Ts,As,c5,c6,c7,rfl,sm,em,ea,a1,a2,hw,hb,hlen,rfl⟩;have hTl:Ts.length=ts.length:=by have:=W3 a1;rwa [WN]at this
 refine⟨_,D?,_,.inl ⟨_,n! ea,D?⟩,?_⟩;refine cu (λc=>?_) (λc=>?_)
 .refine⟨λAa H'=>∃m',m'<szP As/\aaS K D fa pt tl ah s t H m' Aa H',λAa H' h=>h,?_⟩;have Bd:as≠[]:=by intro z;subst z;simp at c
  refine hid λZZ kZ=>?_;obtain⟨Ar,b,rfl⟩:∃Ar b,as=Ar++[b]:=⟨as.dropLast,as.getLast Bd,(Y1 Bd).symm⟩;obtain⟨Us,⟨pre,x⟩,rfl,a3,pa,ta,eb,BM,Dq⟩:=P2.snoc_inv a2;have JN:szP (Us++[(pre,x)])=szP Us+x.size:=by rw[cG,szP,szP];rfl
  have Fg:=x.size_eq;rw[JN]at hlen;obtain⟨LN,Ks⟩:=hb (pre,x) (by simp);refine kZ ?_;simp only at LN Ks BM Dq;have Q6:Us.length=Ar.length:=W3 a3;have q4:=oJ Us;refine⟨_,D?,.inl ⟨D?,_,n! ea⟩,ah,_,.ref b,D?,D?,ea,by simp,?_⟩;have d1:((Ar++[b]).map i!).dropLast=Ar.map i!:=by simp
  rw[d1];have k1:KT H3 (upd H3 ah (.lst (Ar.map i!))):=aL ea;have Gg:j! H (upd H3 ah (.lst (Ar.map i!))):=ak sm BZ;have Dr:(upd H3 ah (.lst (Ar.map i!))) tl=A? (.lst (ts.map i!)):=by rw[ai Ap.symm];exact em
  have G9:(upd H3 ah (.lst (Ar.map i!))) ah=A? (.lst (Ar.map i!)):=ac;generalize(upd H3 ah (.lst (Ar.map i!)))=H4 at k1 Gg Dr G9 |-;refine⟨b,_,D?,l! (k1 _ _ eb),D?,_,_,D?,_,_,D?,D?,?_⟩
  try dsimp only[av]
  have Bv:=Fu.same Gg;refine cw (λbb H'=>An2 (j! H4 H') (bb=(x.isHole ||D pre))) (λk2 Bp=>?_) (λH5 hb2=>?_) (λH5 hb2=>?_)
  .refine⟨_,D?,ta,x,D?,Dq.mono k1,by lia,_,D?,?_⟩;refine cu (λch=>Bp _ _ ⟨.refl _,by rw[ch];rfl⟩) (λch=>?_);have U4:x.isHole=false:=Yj.mpr ch;refine⟨_,D?,_,D?,lnE rfl,λkp CN=>?_⟩;have s5:=af CN (.tup [.int ((s:Nat):Int),.ref pa]);refine⟨_,D?,pt,kp,nk (s:Nat) pre,f',D?,D?,Bv.dm.mono s5,nq ac (s5 _ _ (k1 _ _ BM)),_,D?,Bp _ _ ⟨s5,?_⟩⟩;rw[U4,Bool.false_or,<-RB];rfl
  .obtain⟨s5,hb2⟩:=hb2
   have HG:x.cut D pre=hole:=by
    cases x with
    |call u v=>rw[Th.cut]
    | knot n ks =>
      rw[Th.cut,b!];rcases Bool.or_eq_true_iff.mp hb2.symm with h|h
      .exact .inl h
      .exact .inr h
   refine⟨_,D?,.inl ⟨D?,_,n! (s5 _ _ Dr)⟩,lnE rfl,λp hp=>?_⟩;refine gU hp λH6 s6 e6=>?_;have RC:=(s5.trans s6) _ _ Dr;refine⟨tl,_,_,D?,D?,RC,lbE (by lia),?_⟩;have k7:KT H6 (upd H6 tl (.lst (ts.map i!++[.ref p]))):=aL RC;have RD:=(k1.trans (k! (s5.trans s6))).trans k7;refine⟨szP Us,by lia,ts++[p],Ar,Ts++[hole],Us,_,_,_,D?,ak (Gg.trans (s5.trans s6)) HF,uAE,by rw[ai Ap];exact(s5.trans s6) _ _ G9,?_,I! RD a3,?_,λp' AX=>hb p' (XM _ AX),?_,D?⟩
   .rw[W8];exact r! (de RD a1) (.cons ⟨T.k_HOLE.a,k7 _ _ e6,zR,(TK.const T.k_HOLE.q)⟩ .nil)
   .rw[<-hw,YD,XJ];show Ts++([hole]++iM D Us.reverse)=Ts++iM D ((pre,x)::Us.reverse);unfold iM;rw[List.flatMap_cons,HG];rfl
   .rw[Xd];show Ts.length+1+szP Us<=200;lia
  .obtain⟨s5,hb2⟩:=hb2;obtain⟨hh,Kt⟩:=Bool.or_eq_false_iff.mp hb2.symm;cases x with
   |call u v=>rw[v!]at Ks;exact Ks.elim
   |knot n ks =>
   have HG:(o! n ks).cut D pre=.knot n (cr D pre 0 ks):=by
    rw[Th.cut,a!];rintro(h|h)
    .rw[hh]at h;cases h
    .rw[Kt]at h;cases h
   have Ip:=k1.trans (k! s5);have Ku:=Dq.mono Ip;rw[AtK]at Ku;refine hid λZZ kZ=>?_;obtain⟨U5,Bg,O0,Kv⟩:=Ku;refine kZ ?_;have BQ:Bg.length=ks.length:=Kv.length;rw[q!]at hlen;have JO:=cj ks;rw[v!]at Ks;rw[t!]at LN;refine⟨_,D?,.inl ⟨D?,_,n! (s5 _ _ Dr)⟩,_,D?,_,D?,ta,_,D?,O0,λp2 H6 s6 e6=>?_⟩
   have U6:TK K H6 p2 [.str n]:=by
    have e7:TK K H6 p2 (jp (L! n::Bg.map i!) B? (A? 1)):=e6;rw[tE]at e7;exact e7
   refine⟨_,D?,ta,_,D?,.inr ((O0.mono (k! s6)).sq),_,_,D?,D?,lnE rfl,λtp CL=>?_⟩
   have Kw:((L! n::Bg.map i!).length:Int) - 1=((ks.length:Nat):Int):=by
    rw[W2,WN];lia
   dsimp only[cK,tm];rw[Kw];refine gU CL λH7 s7 e7=>?_;have O1:=s5.trans (s6.trans s7);have DF:=O1 _ _ Dr;refine⟨tl,_,_,D?,D?,DF,lbE (by lia),?_⟩;have k8:KT H7 (upd H7 tl (.lst (ts.map i!++[.ref tp]))):=aL DF;have O2:j! H (upd H7 tl (.lst (ts.map i!++[.ref tp]))):=ak (Gg.trans O1) HF;have RE:(upd H7 tl (.lst (ts.map i!++[.ref tp]))) tl=A? (.lst ((ts++[tp]).map i!)):=uAE;have JP:(upd H7 tl (.lst (ts.map i!++[.ref tp]))) ah=A? (.lst (Ar.map i!)):=by rw[ai Ap];exact O1 _ _ G9
   generalize(upd H7 tl (.lst (ts.map i!++[.ref tp])))=H8 at k8 O2 RE JP |-;have O3:=(k! (s6.trans s7)).trans k8;have Gh:=Ip.trans O3
   have O4:Xp (TopAtK .i K H8) ((Ts++[o! n (cr D pre 0 ks)]).map (ff z!)) (ts++[tp]):=by
    rw[W8];refine r! (de Gh a1) (.cons ⟨p2,?_,U5,U6.mono ((k! s7).trans k8)⟩ .nil);show H8 tp=A? (.tup [.ref p2,.int ((cr D pre 0 ks).length:Nat)]);rw[dD];exact k8 _ _ e7
   try dsimp only[av]
   refine⟨_,D?,1,D?,ta,_,D?,(O0.mono O3).sq,?_,λp3 FH=>?_⟩
   .rintro⟨z,_⟩;rw[W2,show(1:Int)=((1:Nat):Int)by rfl,HT.sIx_nat]at z;lia
   dsimp only;rw[fN];refine gU FH λH9 s9 e9=>?_;have O5:=s9 _ _ (Gh _ _ BM);have O6:=Kv.mono (O3.trans (k! s9));refine⟨p3,D?,⟨_,l! e9⟩,?_⟩;intro Dl FI;refine⟨Bg.length,λj BF=>An3 (j<=Bg.length) (j! H9 BF) (Ex1 λ(bs:List WR)=>An2 (BF Dl=A? (.lst (bs.map i!))) (PsAtK K BF ((cX pre 0 ks).take j) bs)),⟨Xh _,af FI _,[],ac,.nil⟩,?_⟩;rintro j BF ⟨hj,AV,bs,eD,An⟩;by_cases B0:j=Bg.length
   .left;refine⟨⟨_,l! (AV _ _ e9),by rw[WN];exact B0.symm⟩,?_⟩;have Ac:(cX pre 0 ks).take j=cX pre 0 ks:=by rw[B0,BQ,<-gP pre 0 ks,Yh]
    rw[Ac]at An;have HH:=AV _ _ (s9 _ _ JP);have Kx:=AV _ _ (s9 _ _ RE)
    have Bf:bs.length=ks.length:=by
     have:=W3 An;rw[gP]at this;exact this.symm
    try dsimp only[av]
    refine⟨_,D?,.inl ⟨D?,_,n! HH⟩,_,D?,C?,Dl,_,D?,SqB.l (n! eD),λl hl=>?_⟩;have Fc:ah≠l:=az HH hl;have Fi:tl≠l:=az Kx hl;have Ky:(upd BF l (.lst (bs.map i!).reverse)) ah=A? (.lst (Ar.map i!)):=by rw[ai Fc];exact HH
    refine⟨ah,l,_,_,D?,D?,Ky,ac,cT ?_,?_⟩
    .rw[WN,Yt,WN];lia
    have Kz:KT BF (upd (upd BF l (.lst (bs.map i!).reverse)) ah (.lst (Ar.map i!++(bs.map i!).reverse))):=(dJ hl).trans (aL Ky);have KA:=(k! (s9.trans AV)).trans Kz;have O7:=Gh.trans KA;refine⟨szP (Us++(cX pre 0 ks).reverse),?_,ts++[tp],Ar++bs.reverse,Ts++[.knot n (cr D pre 0 ks)],Us++(cX pre 0 ks).reverse,_,_,_,D?,?_,?_,?_,de KA O4,r! (I! O7 a3) (P2.reverse (I! Kz An)),?_,?_,?_,D?⟩
    .rw[cG,kL,iV,JN,q!];lia
    .exact ak (ak ((O2.trans s9).trans AV) ((O2.trans s9).trans AV |>.free hl)) BZ
    .rw[ai Ap.symm,ai Fi];exact Kx
    .rw[ac,W8,List.map_reverse]
    .rw[<-hw,XJ,YD,YD,Y4,rB,nQ];show Ts++([o! n (cr D pre 0 ks)]++(walks (cr D pre 0 ks)++iM D Us.reverse))=Ts++iM D ((pre,o! n ks)::Us.reverse);have:iM D ((pre,o! n ks)::Us.reverse)=((o! n ks).cut D pre).walk++iM D Us.reverse:=by unfold iM;rw[List.flatMap_cons]
     rw[this,HG,Th.walk];rfl
    .intro p hp;rcases XA.mp hp with hp|hp
     .exact hb p (XM _ hp)
     .obtain⟨g1,g2⟩:=mh pre 0 ks p (List.mem_reverse.mp hp);have:=ce g2;exact⟨by lia,cP Ks g2⟩
    .rw[Xd,cG,kL,iV];show Ts.length+1+(szP Us+ao ks)<=200;lia
   .right;have Au:j<Bg.length:=by lia
    refine⟨Au,⟨_,.ref Bg[j],l! (AV _ _ e9),by rw[WZ,WS Au];rfl⟩,?_⟩;rintro y GG ⟨p,v,hp,rfl,rfl,hv⟩;have AU:=hv _ (l! (AV _ _ e9));obtain⟨kd,rfl,CJ⟩:=aH AU;obtain⟨tk,AQ,NX⟩:=O6.get CJ;have BU:j! BF (upd BF p (.tup [.int (j:Nat),.ref kd])):=af hp _;refine⟨p,_,D?,l! ac,D?,_,_,D?,_,_,D?,D?,?_⟩;generalize(upd BF p (.tup [.int (j:Nat),.ref kd]))=GG at BU |-;refine⟨_,D?,_,D?,lnE rfl,λn1 Gi=>?_⟩;refine gU Gi λHu B3 DJ=>?_;refine sE (B3 _ _ (BU _ _ (AV _ _ O5))) DJ (by rw[WN];show pre.length+1<=1000000;lia) λn2 FA DZ OX=>?_;refine⟨_,D?,lnE rfl,λn3 Gj=>?_⟩;have Mc:j! BF (upd FA n3 (.tup [.ref n2,.ref kd])):=(BU.trans (B3.trans DZ)).trans (af Gj _);have KC:=Mc _ _ eD;refine⟨_,KC,bR ?_,Au,?_,bs++[n3],?_,?_⟩
    .have:=W3 An;rw[XS]at this;rw[WN];lia
    .exact ak (AV.trans Mc) FI
    .rw[ac,W8];rfl
    .have Md:KT (upd FA n3 (.tup [.ref n2,.ref kd])) (upd (upd FA n3 (.tup [.ref n2,.ref kd])) Dl (.lst (bs.map i!++[.ref n3]))):=aL KC;rw[XU,lm pre 0 ks j tk AQ];refine r! (I! ((k! Mc).trans Md) An) (.cons ⟨n2,kd,Md _ _ ac,Md _ _ (af Gj _ _ _ ?_),?_⟩ .nil)
     .rw[OX,W8,Yq];rfl
     .exact NX.mono ((k! (AV.trans Mc)).trans Md)
 .have hz:as=[]:=by
   cases as with
   |nil=>rfl
   |cons y ys=>simp at c
  subst hz;have El:As=[]:=Yi.mp (W3 a2);subst El;have EO:Ts=(t.cut D []).walk:=by simpa[iM]using hw
  subst EO;obtain⟨b1,b2⟩:=sS z! (t.cut D []);rw[uC]at b1;refine⟨_,D?,tl,ts,_,t.cut D [],D?,em,a1,by rw[WN];lia,b2,?_,b1,λr H4 s4 O8=>k r H4 (sm.trans s4) O8⟩;intro u hu;obtain⟨y,hy,e⟩:=Xy.mp hu;cases y with
  |knot n us=>cases e
  | call sn kn =>
    cases e;rw[q!];decide
def lG(ins:List (Xk×Int))(rows:List (List Th)):List ay:=(Xq rows.length).flatMap λs=>((mkF ins rows (s:Nat)).pl []).map λx=>nk (s:Nat) x.1
theorem lQ{f:α->List β}:∀{l:List α},(∀x∈l,(f x).length<=B)->(l.flatMap f).length<=l.length * B
 | [],_=>Xh _
 | x::l,h=>by
   rw[List.flatMap_cons,Xd,W2,Nat.succ_mul];have h1:=h x (Xe ..);have h2:=lQ (l:=l) λy hy=>h y (Xb _ hy);lia
theorem wJ(F:FrK ins outs rows):(lG ins rows).length<=1000000:=by
 have h:=lQ (l:=Xq rows.length) (f:=λs=>((mkF ins rows (s:Nat)).pl []).map λx=>nk (s:Nat) x.1) (B:=200) λs hs=>by
  rw[WN,D!];have Dj:=YZ.mp hs;obtain⟨row,p,_,_,e,z,_⟩:=F.mkd (l:=(s:Nat)) (by lia) (by lia);rw[e];exact z
 rw[Xj]at h;have:=F.le;show((Xq rows.length).flatMap _).length<=_;lia
theorem rh{s:Nat}(hs:s<rows.length){x:List Int×Th}(hx:x∈(mkF ins rows (s:Nat)).pl []):nk (s:Nat) x.1∈lG ins rows:=List.mem_flatMap.mpr ⟨s,YZ.mpr hs,Xy.mpr ⟨x,hx,rfl⟩⟩
theorem yg{s:Nat}(hs:s<rows.length){x:List Int×Th}(hx:x∈(frS ins rows s).pl []):nk (s:Nat) x.1∈lG ins rows:=by
 obtain⟨u,hu⟩:=wn _ _ _ x hx;exact rh (x:=(x.1,u)) hs hu
theorem abp{pt:WR}(h:Pt P w Vl H pt f' Al)(k:KT H H')(e:∀o,H pt=A? o->H' pt=A? o):Pt P w Vl H' pt f' Al:=⟨ui h.dm k e,h.nd,h.al,λj p hp=>(h.vl j p hp).mono k⟩
theorem qW{H0:Hp}(hb:But p H H')(s:j! H0 H)(h0:H0 p=B?):j! H0 H':=λc o e=>hb c o (λz=>by rw[z,h0]at e;cases e) (s c o e)
theorem mr(F:FrK ins outs rows){s:Nat}(hs:s<rows.length):(frS ins rows s).size<=200/\(frS ins rows s).tall<=100/\(frS ins rows s).noCall:=by
 refine hid λZZ kZ=>?_;obtain⟨row,p,hr,hp,e,z1,z2,hf⟩:=F.mkd (l:=(s:Nat)) (by lia) (by lia);refine kZ ?_;have h:=i7 (mkF ins rows) (mkF ins rows (s:Nat)) ((rows[s]?).getD []);have hn:(mkF ins rows (s:Nat)).noCall:=by rw[e];exact jZ _ _ (WW _) hf
 unfold frS;rw[e]at h hn;rw[e];exact⟨by lia,by lia,ss hn _⟩
theorem rZ(go:cN outs){t v:Th}{pl:List Int}(h:t.FitS outs S C)(hi:In t pl v):v.isHole=false:=by
 have:=hi.fit h;cases v with
 |call a b=>rw[A!]
 | knot m ks =>
   rw[u!]at this;rw[A!,decide_eq_false_iff_not];rintro⟨rfl,_⟩;exact pF (go.low _ this.1).1 rfl
theorem u8(F:FrK ins outs rows)(go:cN outs){s:Nat}(hs:s<rows.length):∀x∈(mkF ins rows (s:Nat)).pl [],x.2.isHole=false:=λx hx=>by
 refine hid λZZ kZ=>?_;obtain⟨_,p,_,_,e,_,_,f⟩:=F.mkd (l:=(s:Nat)) (by lia) (by lia);refine kZ ?_;rw[e]at hx;exact rZ go f (In.of _ (WW _) (pl:=x.1) (v:=x.2) hx)
inductive gu(P:W6)(w:Xo)(K:WQ)(vs:List V)(H:Hp)(Q:VK)(_E:XK):Prop
 |mk (b:WR) (ins outs:List (Xk×Int)) (head:Th) (rows:List (List Th)):vs=[.ref b]->Bk H ins outs head rows b->FrK ins outs rows->cN outs->(∀(r fl pt:WR)(fs:List WR)(f':List (ay×V))(H':Hp),j! H H'->H' r=A? (.tup [.ref fl,.ref pt])->H' fl=A? (.lst (fs.map i!))->Xp (λs a=>AtK .i K H' ((frS ins rows s).cut (Dk f' (s:Nat)) []) a) (Xq rows.length) fs->Pt P w (VlM ins rows) H' pt f' (lG ins rows)->FrD ins rows (f'.map (·.1))->KeyM ins rows f'->Q (.ref r) H')->gu P w K vs H Q _E
theorem kH:aU P w K mg base CX0 7 T.g_38.f T.g_38.d ["book"] (gu P w K):=by
 refine T.g_38.F.okA bA λAh A outer s0 H vs Q E hr h=>?_;obtain⟨b,ins,outs,head,rows,rfl,hB,F,go,k⟩:=h
 refine⟨_,(ad (am 1 bA.nd (pcF T.g_33 (jH T) hr (aa (pv 0) ab)))
  (ad (am 2 bA.nd (mn (fl:=CV)))
  (ad (dr (i:=3) (N:=["state","book","made","partings"]) (js:=[B?,A? 0,A? 1,A? 2]) (g:=(av 0)) (tt:=bE) (te:=(cZ (eJ P w K) [] E0 (aI (bi 1) (aI (bi 0) (aI (bi 2) (aI (bi 3) cK)))))) bA.nd rfl (Or.inl rfl) rfl (cp rfl (by decide +kernel) (by decide +kernel) rfl rfl rfl) (bF rfl T.n_10 (aa (pcF T.g_30 (oN T) hr (aa (pv 0) ab)) ab)) (λ_ _ _ _ _ _=>(pgN 0 ab1)) (aK rfl) (λ_ _ _ _ _ _=>bM) (λ_ _ _ _ _ _=>(pcF T.g_34 (lL T) hr (aa (pv 1) (aa (pv 0) (aa (pv 2) (aa (pv 3) ab)))))))
  (ad (am 4 bA.nd (mn (fl:=CV)))
  (ad (bq Xr rfl (lg rfl T.n_3 (pv 3)) (bp rfl (aj (pgN 5 bA.nd) (aj (pgN 6 bA.nd) aV))) (ae (aS (pcF T.g_35 (o5 T) hr (aa (pv 0) (aa (pv 5) (aa (pv 6) (aa (pv 4) ab))))))))
  (ad (aS (pcF T.g_36 (vi T) hr (aa (pcF T.g_26 (d4 T) hr (aa (pv 0) ab)) (aa (pv 4) (aa (pv 2) ab)))))
  (ae (aw (aE (aa (cq (N:=["state","front","partings"]) (js:=[B?,B?,A? 2]) (g:=(mV K 2 (cY (av 0) (cY (av 1) mN)))) (tt:=bE) (te:=(cZ (fW P w K) [] E0 (aI (bi 1) (aI (bi 0) (aI (bi 2) cK))))) rfl (cp rfl (by decide +kernel) (by decide +kernel) rfl rfl rfl) (lg rfl T.n_3 (pv 3)) (λ_ _ _ _ _ _=>(bp rfl (aj (pgN 0 aaR) (aj (pgN 1 aaR) aV)))) (gN (bT bd (aK rfl) (bT bd (aK rfl) gI))) (λ_ _ _ _ _ _=>bM) (λ_ _ _ _ _ _=>(pcF T.g_37 (oV T) hr (aa (pv 1) (aa (pv 0) (aa (pv 2) ab)))))) (aa (pv 2) ab))))))))))),?_⟩
 try dsimp only[Aw,Ad]
 have hle:=F.le;refine⟨_,D?,b,ins,outs,head,rows,D?,hB,F.gi,by lia,λrow Af=>(F.fit.row row Af).1,λmd Dc H1 s1 U7 Iw Ho=>?_⟩;intro pt H2 KD s2 RF;have O9:=hB.mono (k! s1);refine hid λZZ kZ=>?_;obtain⟨ia,oa,ha,ra,Ag,Az,AE,hb1⟩:=id O9;have Hj:rows.length=AE.length:=W3 hb1.rw;have LX:=wJ F;obtain⟨L9,DK⟩:=cy RF;refine kZ ?_;refine⟨_,D?,b,_,_,_,ra,_,D?,s2 _ _ hb1.bk,s2 _ _ hb1.rl,_,D?,by lia,by rw[WN];lia,λD hD=>?_⟩;have Kt:D≠pt:=λz=>by rw[z,DK]at hD;cases hD
 have U8:H1 D=none:=s2.free hD;refine⟨rows.length,λj H'=>An3 (j<=rows.length) (j! H1 H') (Ex2 λ(as:List WR)(f':List (ay×V))=>An4 (H' D=A? (.lst (as.map i!))) (Xp (λs a=>AtK .i K H' (frS ins rows s) a) (Xq j) as) (Pt P w (VlM ins rows) H' pt f' (lG ins rows)) (∀(s i:Nat)(row:List Th),s<j->rows[s]?=A? row->i<=row.length->∀x∈(frF (mkF ins rows) (mkF ins rows (s:Nat)) (row.take i)).pl [],x.2.isHole=C?->nk (s:Nat) x.1∈f'.map (·.1))),⟨Xh _,s2.trans (af hD _),[],[],ac,.nil,⟨RF.mono (af hD _),List.nodup_nil,λp hp=>(Z7 hp).elim,λj p hp=>by simp at hp⟩,λs i row hs=>by lia⟩,?_⟩;rintro j H' ⟨hj,sj,as,f',eD,has,Me,KG⟩;obtain⟨GY,FJ⟩:=cy Me.dm;by_cases B0:j=rows.length
 .left;subst B0;refine⟨by show _<=_;rw[WN];lia,?_⟩;intro la H5 Fc s5 U9;have L0:LkI P w ins (lG ins rows) (Lk0 ins rows) H' H5 la [] 0:=⟨s5,Fc,U9,List.nodup_nil,List.nodup_nil,λg hg=>(Z7 hg).elim,WW _⟩;have Ft:(Xq rows.length).length=as.length:=W3 has;rw[Xj]at Ft;refine⟨_,D?,D,D?,⟨_,n! (s5 _ _ eD)⟩,?_⟩
  refine nE (K:=K) (a:=D) (xs:=as.map i!) (λi Z H6=>Ex3 λ(c5 c6:Option V)(G:LG)=>An3 (Z=[A? (.ref b),A? (.ref md),A? (.ref pt),A? (.ref D),A? (.ref la),c5,c6]) (LkI P w ins (lG ins rows) (Lk0 ins rows) H' H6 la G (i * 640000)) (∀s<i,∀row,rows[s]?=A? row->LDone H6 G s row (frS ins rows s)))
   ⟨B?,B?,[],rfl,by rw[Nat.zero_mul];exact L0,λs hs=>by lia⟩ (λi Z H6 _⟨_,_,_,_,L,_⟩=>n! (L.sm _ _ eD)) ?_ ?_
  .rintro i x pr Z H6 hx Bu ⟨c5,c6,G,rfl,L,Dw⟩;obtain⟨fa,rfl,BN⟩:=aH hx;have Ck:=(glE BN);have Mf:i<rows.length:=by lia
   obtain⟨s',Dj,Cq⟩:=y! has BN;rw[XY Mf]at Dj;cases Dj;obtain⟨row,Af⟩:∃row,rows[i]?=A? row:=⟨_,WS Mf⟩;refine gU Bu λH7 s7 e7=>?_;refine⟨pr,_,D?,l! e7,D?,_,_,D?,_,_,D?,D?,?_⟩;dsimp only[av];have L7:=L.same s7;obtain⟨z1,z2,z3⟩:=mr F Mf;refine⟨_,D?,_,D?,_,D?,_,D?,b,fa,la,i,ins,outs,head,rows,row,frS ins rows i,H',G,i * 640000,lG ins rows,Lk0 ins rows,D?,O9.mono (k! (sj.trans L7.sm)),F,Af,Cq.mono (k! L7.sm),z1,z2,L7,by lia,λx hx=>yg Mf hx,λi2 p kd c u x hp hk hc hu hx=>⟨i,row,i2,p,c.1,x.1,c.2.1,D?,Af,hp,hk,In.iff.mp (cO.mp hc),D?,D?,u,x.2,hu,hx⟩,λG' H8 k8 L8 Pa KH=>?_⟩;refine⟨_,_,G',D?,by rw[Nat.succ_mul];exact L8,λs hs row' Ey=>?_⟩;by_cases U':s=i
   .subst U';rw[Af]at Ey;cases Ey;exact KH
   .exact((Dw s (by lia) row' Ey).sub (LSub.kt (k! s7) _)).sub Pa
  .rintro Z H6 ⟨c5,c6,G,rfl,L,Dw⟩;rw[WN,<-Ft]at Dw;have KI:=Me.same L.sm;obtain⟨UD,DH⟩:=cy KI.dm;have Mg:=sj.trans L.sm
   have AK:pt≠la:=λz=>by
    rw[z]at FJ;rw[L.la0]at FJ;cases FJ
   refine⟨_,D?,b,_,_,_,_,D?,Mg _ _ hb1.bk,_,D?,_,D?,ia,la,pt,Ag,ins,G,f',lG ins rows,VlM ins rows,Lk0 ins rows,D?,Mg _ _ hb1.inE,hb1.inK.mono (k! Mg),F.gi,L.r,KI,LX,AK,λi j k t1 t2 s pl kd kid h1 h2 h3 h4=>yz F i j k t1 t2 s pl kd kid h1 h2 h3 h4 _ _,λA8 H7 Mh HI Bo Pb=>?_⟩;have RG:j! H1 H7:=qW Mh Mg KD;have EV:=(k! L.sm).trans (Mh.kt DH);have Mi:H7 D=A? (.lst (as.map i!)):=Mh _ _ Kt (L.sm _ _ eD);refine⟨_,D?,D,D?,⟨_,n! Mi⟩,λDl FI=>?_⟩;have Va:H1 Dl=none:=RG.free FI;refine⟨rows.length,λj H8=>An3 (j<=rows.length) (j! H7 H8) (Ex1 λ(bs:List WR)=>An2 (H8 Dl=A? (.lst (bs.map i!))) (Xp (λs a=>AtK .i K H8 ((frS ins rows s).cut (Dk A8 (s:Nat)) []) a) (Xq j) bs)),⟨Xh _,af FI _,[],ac,.nil⟩,?_⟩;rintro j H8 ⟨hj8,s8,bs,RH,An⟩;by_cases Vb:j=rows.length
   .left;subst Vb;refine⟨⟨_,n! (s8 _ _ Mi),by rw[WN];exact Ft.symm⟩,?_⟩;refine⟨_,D?,lnE rfl,λr Vc=>?_⟩;have s9:j! H8 (upd H8 r (.tup [.ref Dl,.ref pt])):=af Vc _
    have RI:FrD ins rows (A8.map (·.1)):=⟨λs i row hr hi x hx hh=>Bo _ (KG s i row (glE hr) hr hi x hx hh),λs row Af p hp c hc u hu x hx hk=>by
     have hs:=(glE Af);exact Pb _ hk _ _ (LSub.kt (Mh.kt DH) G _ _ _ (Dw s hs row Af p hp c hc u hu x hx))⟩
    refine k r Dl pt bs A8 _ (s1.trans (RG.trans (s8.trans s9))) ac (s9 _ _ RH) (x! (λ_ _ h=>h.mono (k! s9)) An) (HI.same (s8.trans s9)) RI (yF F RI λp hp=>by
     refine hid λZZ kZ=>?_;obtain⟨j,hj⟩:=Xi.mp hp;obtain⟨_,_,_,t1,t2,_,_,_,_,hv⟩:=HI.vl j p hj;refine kZ ?_;exact⟨j,t1,t2,hv⟩)
   .right;have Au:j<rows.length:=by lia
    obtain⟨fa,BN⟩:∃fa,as[j]?=A? fa:=⟨_,WS (by lia)⟩;refine⟨Au,⟨_,.ref fa,n! (s8 _ _ Mi),by rw[WZ,BN];rfl⟩,?_⟩;rintro y H9 ⟨p,v,hp,rfl,rfl,hv⟩;have AU:=hv _ (n! (s8 _ _ Mi));rw[WZ,BN]at AU;cases AU;obtain⟨s',Dj,Cq⟩:=y! has BN;rw[XY Au]at Dj;cases Dj;have s9:j! H8 (upd H8 p (.tup [.int (j:Nat),.ref fa])):=af hp _;refine⟨p,_,D?,l! ac,D?,_,_,D?,_,_,D?,D?,?_⟩;generalize(upd H8 p (.tup [.int (j:Nat),.ref fa]))=H9 at s9 |-;obtain⟨z1,z2,z3⟩:=mr F Au;refine⟨_,D?,_,D?,_,D?,fa,pt,j,frS ins rows j,A8,lG ins rows,VlM ins rows,D?,Cq.mono (EV.trans (k! (s8.trans s9))),z1,z2,z3,HI.same (s8.trans s9),λq BF AV hq=>?_⟩;have KJ:=(s9.trans AV) _ _ RH;have Bf:(Xq j).length=bs.length:=W3 An;rw[Xj]at Bf;have Kz:KT BF (upd BF Dl (.lst (bs.map i!++[.ref q]))):=aL KJ;refine⟨_,KJ,lbE (by lia),Au,ak (s8.trans (s9.trans AV)) FI,bs++[q],uAE,?_⟩;rw[List.range_succ];exact r! (x! (λ_ _ h=>h.mono ((k! (s9.trans AV)).trans Kz)) An) (.cons (hq.mono Kz) .nil)
 .right;have Au:j<rows.length:=by lia
  obtain⟨row,Af⟩:∃row,rows[j]?=A? row:=⟨_,WS Au⟩;refine⟨Au,by show _<_;rw[WN];lia,?_⟩;rintro y H9 ⟨rfl,rfl⟩;rw[Yq];refine⟨_,D?,_,D?,_,D?,_,D?,b,md,pt,j,ins,outs,head,rows,row,Dc,f',lG ins rows,VlM ins rows,D?,O9.mono (k! sj),F,Af,sj _ _ Iw,Ho.mono (k! sj),Me,LX,λx hx=>rh Au hx,u8 F go Au,wt Af,λr A8 H4 hb4 Cq Pd CF KL=>?_⟩;have L3:=hb4.kt FJ;have Em:=hb4 _ _ Kt eD;have Bc:(Xq j).length=as.length:=W3 has;rw[Xj]at Bc;have k5:KT H4 (upd H4 D (.lst (as.map i!++[.ref r]))):=aL Em;rw[<-vR Af]at Cq;refine⟨_,Em,lbE (by lia),Au,ak (qW hb4 sj KD) U8,as++[r],A8,uAE,?_,abp Pd k5 (λo e=>by rw[ai Kt.symm];exact e),λs i row' hs AR hi x hx hh=>?_⟩
  .rw[List.range_succ];exact r! (x! (λ_ _ h=>h.mono (L3.trans k5)) has) (.cons (Cq.mono k5) .nil)
  .by_cases Vd:s=j
   .subst Vd;rw[Af]at AR;cases AR;exact KL i hi x hx hh
   .exact CF _ (KG s i row' (by lia) AR hi x hx hh)
inductive je(P:W6)(w:Xo)(K:WQ)(vs:List V)(H:Hp)(Q:VK)(_E:XK):Prop
 |mk (b:WR) (ins outs:List (Xk×Int)) (head:Th) (rows:List (List Th)):vs=[.ref b]->Bk H ins outs head rows b->FrK ins outs rows->cN outs->(∀(fl:WR)(fs:List WR)(f':List (ay×V))(H':Hp),j! H H'->H' fl=A? (.lst (fs.map i!))->Xp (λs a=>AtK .i K H' ((frS ins rows s).cut (Dk f' (s:Nat)) []) a) (Xq rows.length) fs->FrD ins rows (f'.map (·.1))->KeyM ins rows f'->Q (.ref fl) H')->je P w K vs H Q _E
theorem oE:aU P w K mg base CX0 8 T.g_39.f T.g_39.d ["book"] (je P w K):=by
 refine T.g_39.F.okA gg λAh A outer s0 H vs Q E hr h=>?_;obtain⟨b,ins,outs,head,rows,rfl,hB,F,go,k⟩:=h
 refine⟨_,(ad (fw (pcF T.g_38 (kH T) hr (aa (pv 0) ab)) (bp rfl (aj (pgN 1 gg.nd) (aj (pgN 2 gg.nd) aV))))
  (ae (aw (pv 1)))),?_⟩
 try dsimp only[Aw,Ad]
 refine⟨_,D?,b,ins,outs,head,rows,D?,hB,F,go,λr fl pt fs f' H1 s1 er FK E1 Me hD hK=>?_⟩;exact⟨r,_,D?,l! er,D?,_,_,D?,_,_,D?,D?,_,D?,k fl fs f' H1 s1 FK E1 hD hK⟩
inductive uy(K:WQ)(vs:List V)(H:Hp)(Q:VK)(_E:XK):Prop
 |mk (rs:Rep) (a pl:WR) (f t:Th) (as:List WR):vs=[.ref a,.ref pl]->AtK .i K H f a->f.size<=100000->f.tall<=150->f.noCall->f.lies t=C?->(∀p∈f.hw [] t,p.2.size<=100000)->H pl=A? (.lst (as.map i!))->AtsK rs K H ((f.hw [] t).map (·.2)) as->(∀(r:WR)(H':Hp),j! H H'->AtK rs K H' t r->Q (.ref r) H')->uy K vs H Q _E
theorem yS:aU P w K mg base CX0 3 T.g_19.f T.g_19.d ["front","parts"] (uy K):=by
 refine T.g_19.F.okA jl λAh A outer s H vs Q E hr h=>?_;obtain⟨rs,a,pl,f,t,ps,rfl,hA,hsz,Ay,OZ,hl,Ve,Kb,Bn,k⟩:=h
 refine⟨_,(ad (am 2 jl.nd (bx ab))
  (ad (am 3 jl.nd ag)
  (ad (bq Xr rfl (bS (pcF T.g_3 (jo T) hr (aa (pv 0) ab))) (pgN 4 jl.nd) (ae (bK (aF (pcF T.g_10 (gb T) hr (aa (pv 4) ab)) (λ_=>rfl)) (ad (aS (bW Xf Xw Xv aO (pv 2) (aa (aE (aa (aA bD (pv 1) (pv 3) (λ_ _=>rfl)) (aa ag ab))) ab)))
  (ae (vN (i:=3) jl.nd rfl (Or.inl rfl) ag wC))) (ae (aS (bW Xf Xw Xv aO (pv 2) (aa (pcF T.g_16 (jP T) hr (aa (pv 4) ab)) ab)))))))
  (ae (aw (pcF T.g_5 (i6 T) hr (aa (pv 2) ab))))))),?_⟩
 try dsimp only[Aw,Ad]
 obtain⟨hb1,hb2,hb3⟩:=tF [] hl;have Im:=yw [] hl;generalize hW:(f.hw [] t).map (·.2)=W at Bn hb1 hb2;have Vf:W.length=aY f.walk:=by rw[<-hW,WN,hb3]
 have Vg:∀u∈W,u.size<=100000:=λu hu=>by
  rw[<-hW]at hu;obtain⟨p,hp,rfl⟩:=Xy.mp hu;exact Ve p hp
 have AK:ps.length=W.length:=Bn.length;refine⟨lnE rfl,λtl BK=>?_⟩;refine⟨_,D?,a,f,D?,hA.mono (dJ BK),hsz,λwl ws H1 s1 JW JX hw=>?_⟩;have D4:ws.length=f.walk.length:=hw.length;have Ul:=J! f;have JY:j! H H1:=(af BK _).trans s1;have N3:wl≠tl:=λz=>by rw[z,ac]at JW;cases JW
 have Fu:pl≠tl:=λz=>by rw[z,BK]at Kb;cases Kb
 refine⟨wl,D?,⟨_,n! JX⟩,?_⟩
 refine cE (K:=K) (a:=wl) (xs:=ws.map i!) (λi Z H2=>Ex2 λc bs=>An6 (Z=[A? (.ref a),A? (.ref pl),A? (.ref tl),A? (.int (aY (f.walk.take i):Nat)),c]) (j! H H2) (H2 wl=A? (.lst (ws.map i!))) (AtsK .i K H2 f.walk ws) (H2 tl=A? (.lst (bs.map i!))) (Xp (TopAtK rs K H2) (be (f.walk.take i) W) bs))
  ⟨B?,[],rfl,JY,JX,hw,s1 _ _ ac,.nil⟩ (λi Z H2 _⟨_,_,_,_,e,_,_,_⟩=>n! e) ?_ ?_
 .rintro i x Z H2 hx ⟨c,bs,rfl,s2,En,Hf,BJ,An⟩;obtain⟨xa,rfl,N4⟩:=aH hx;obtain⟨tx,JZ,Ir⟩:=Hf.get N4;have LS:tx∈f.walk:=WT JZ;have JS:=vp f tx LS;have AQ:f.walk.take (i+1)=f.walk.take i++[tx]:=by rw[XU,JZ];rfl
  have Bf:bs.length<=100000:=by
   have:=W3 An;rw[hX,XS]at this;lia
  refine⟨_,D?,xa,tx,D?,Ir,by lia,_,D?,?_⟩
  have push:∀(H3:Hp)(p:WR)(tp:Top)(nx:Nat),j! H2 H3->TopAtK rs K H3 tp p->be (f.walk.take (i+1)) W=be (f.walk.take i) W++[tp]->aY (f.walk.take (i+1))=nx->Ex2 λc Fq=>An6 (([A? (.ref a),A? (.ref pl),A? (.ref tl),A? (.int (nx:Nat)),A? (.ref xa)]:St)=[A? (.ref a),A? (.ref pl),A? (.ref tl),A? (.int (aY (f.walk.take (i+1)):Nat)),c]) (j! H (upd H3 tl (.lst (bs.map i!++[.ref p])))) ((upd H3 tl (.lst (bs.map i!++[.ref p]))) wl=A? (.lst (ws.map i!))) (AtsK .i K (upd H3 tl (.lst (bs.map i!++[.ref p]))) f.walk ws) ((upd H3 tl (.lst (bs.map i!++[.ref p]))) tl=A? (.lst (Fq.map i!))) (Xp (TopAtK rs K (upd H3 tl (.lst (bs.map i!++[.ref p])))) (be (f.walk.take (i+1)) W) Fq):=by
   intro H3 p tp nx s3 hp e1 e2;have k3:KT H3 (upd H3 tl (.lst (bs.map i!++[.ref p]))):=aL (s3 _ _ BJ);refine⟨_,bs++[p],by rw[e2],ak (s2.trans s3) BK,by rw[ai N3];exact s3 _ _ En,Hf.mono ((k! s3).trans k3),uAE,?_⟩;rw[e1];exact r! (de ((k! s3).trans k3) An) (.cons (hp.mono k3) .nil)
  refine cu (λch=>?_) (λch=>?_)
  .have Gi:aY (f.walk.take (i+1))=aY (f.walk.take i)+1:=by
    rw[AQ,dj];show _+(List.filter A! [tx]).length=_;rw[X0,b! ch];rfl
   have Ak:aY (f.walk.take i)<W.length:=by
    rw[Vf];have h1:aY f.walk=aY (f.walk.take (i+1))+aY (f.walk.drop (i+1)):=by rw[<-dj,Zf]
    lia
   refine hid λZZ kZ=>?_;obtain⟨u,hu⟩:∃u,W[aY (f.walk.take i)]?=A? u:=⟨_,WS Ak⟩;obtain⟨ua,Eo,HJ⟩:=Bn.at hu;refine kZ ?_
   have EM:be (f.walk.take (i+1)) W=be (f.walk.take i) W++[.th u]:=by
    rw[AQ,cA];congr 1;rw[be,b! ch,be,List.headD_eq_head?_getD,List.head?_drop,hu];rfl
   have Pe:H2 pl=A? (.lst (ps.map i!)):=s2 _ _ Kb;refine⟨_,D?,.inl ⟨D?,_,n! BJ⟩,_,D?,_,D?,pl,_,_,.ref ua,D?,D?,n! Pe,at_nonneg (by lia) (by rw[XH,WZ,Eo];rfl),lnE rfl,λp hp=>?_⟩;have s3:j! H2 (upd H2 p (.tup [.ref ua,.int 0])):=af hp _;refine⟨tl,_,_,D?,D?,s3 _ _ BJ,lbE (by lia),?_⟩;refine⟨_,D?,_,_,D?,D?,?_⟩;exact push _ p (.th u) (aY (f.walk.take i)+1) s3 ⟨ua,ac,HJ.mono (k! (s2.trans s3))⟩ EM Gi
  .have Ap:tx.isHole=false:=Yj.mpr ch
   have Gi:aY (f.walk.take (i+1))=aY (f.walk.take i):=by
    rw[AQ,dj];show _+(List.filter A! [tx]).length=_;rw[X0,a! (by rw[Ap];exact W0)];rfl
   have EM:be (f.walk.take (i+1)) W=be (f.walk.take i) W++[.nm tx.name tx.wid]:=by
    rw[AQ,cA];congr 1;rw[be,a! (by rw[Ap];exact W0),be]
   have KN:=jR f OZ tx LS;cases tx with
   |call sn kn=>rw[v!]at KN;exact KN.elim
   |knot nm us =>
   refine⟨_,D?,.inl ⟨D?,_,n! BJ⟩,_,D?,xa,nm,us,D?,Ir,λp H3 s3 hp=>?_⟩;refine⟨tl,_,_,D?,D?,s3 _ _ BJ,lbE (by lia),?_⟩;exact push _ p (.nm nm us.length) (aY (f.walk.take i)) s3 hp EM Gi
 .rintro Z H2 ⟨c,bs,rfl,s2,En,Hf,BJ,An⟩;rw[WN,D4,Yh]at An;refine⟨_,D?,tl,bs,_,t,D?,BJ,An,by rw[hX];lia,hb2,?_,hb1,λr H3 s3 Hi=>k r H3 (s2.trans s3) Hi⟩;intro u hu;rcases i3 _ _ _ hu with h|h
  .exact Vg u h
  .rw[h,eC];lia
inductive jd(vs:List V)(H:Hp)(Q:VK)(_E:XK):Prop
 |mk (i:Int):vs=[.int i]->Q (.bl C?) H->jd  vs H Q _E
theorem o6:aU P w K mg base CX0 1 T.g_0.f T.g_0.d ["thing"] jd:=by
 refine T.g_0.F.okA pi λAh A outer s H vs Q E hr h=>?_;obtain⟨i,rfl,k⟩:=h;refine⟨_,(ae (aw (fA (ax (eE (T:="int")) rfl T.n_5 Yk (aa (pv 0) (aa (dW (v:=.ty "int") rfl T.n_4 PyProof.Rows.boot_int rfl) ab))) (gJ (oU (ax (eE (T:="bool")) rfl T.n_5 Yk (aa (pv 0) (aa (dW (v:=.ty "bool") rfl T.n_1 PyProof.Rows.boot_bool rfl) ab)))))))),?_⟩
 try dsimp only[Aw,Ad]
 refine⟨_,D?,_,_,_,D?,.int i,wm,_,D?,?_⟩;refine sg ?_;exact⟨_,D?,_,_,_,D?,.int i,vV,_,D?,k⟩
inductive ki(vs:List V)(H:Hp)(Q:VK)(_E:XK):Prop
 |mk (i b:Int):vs=[.int i,.int b]->Q (.bl (decide (0<=i/\i<b))) H->ki  vs H Q _E
theorem pP:aU P w K mg base CX0 2 T.g_1.f T.g_1.d ["number","bound"] ki:=by
 refine T.g_1.F.okA re λAh A outer s H vs Q E hr h=>?_;obtain⟨i,b,rfl,k⟩:=h;refine⟨_,(ae (aw (fA (pcF T.g_0 (o6 T) hr (aa (pv 0) ab)) (gJ (l5 nI iy ag (pv 0) (pv 1)))))),?_⟩
 try dsimp only[Aw,Ad]
 refine⟨_,D?,i,D?,_,D?,?_⟩;refine sg ?_;refine⟨_,D?,_,_,D?,D?,_,D?,?_⟩;refine cu (λc=>?_) (λc=>?_)
 .have c':0<=i:=e! c;refine⟨_,D?,_,_,D?,D?,?_⟩;have e:decide (0<=i/\i<b)=decide (i<b):=by simp[c']
  rw[e]at k;exact k
 .have c':¬0<=i:=λz=>c (d! z);have e:decide (0<=i/\i<b)=false:=by simp[c']
  rw[e]at k;exact k
inductive oj(K:WQ)(vs:List V)(H:Hp)(Q:VK)(_E:XK):Prop
 |mk {rq:Rep} (a:WR) (t u:Th) (i:Int):vs=[.ref a,.int i]->AtK rq K H t a->0<=i->t.kids[i.toNat]?=A? u->(∀(b:WR)(H':Hp),j! H H'->AtK rq K H' u b->Q (.ref b) H')->oj K vs H Q _E
theorem vb:aU P w K mg base CX0 3 T.g_7.f T.g_7.d ["thing","number"] (oj K):=by
 refine T.g_7.F.okA m7 λAh A outer s H vs Q E hr h=>?_;obtain⟨a,t,u,i,rfl,hA,h0,hu,k⟩:=h
 refine⟨_,(ad (am 2 m7.nd (pcF T.g_2 (eN T) hr (aa (pv 0) ab)))
  (ad (bK (cR (aF (pcF T.g_1 (pP T) hr (aa (pv 1) (aa (ax aq rfl T.n_6 XD (aa (pv 2) ab)) ab))) (λ_=>rfl))) (ae lY) bh)
  (ae (aw (aA aD (pv 2) (pv 1) (λ_ _=>rfl)))))),?_⟩
 try dsimp only[Aw,Ad]
 refine⟨_,D?,a,t,D?,hA,λr as H1 s1 er BY=>?_⟩;have hl:as.length=t.kids.length:=BY.length;have hi:i.toNat<t.kids.length:=(glE hu);refine⟨_,D?,_,D?,r,_,D?,.inr (l! er),i,_,D?,_,D?,?_⟩;refine cu (λc=>?_) (λc=>?_)
 .exfalso;rw[WN,hl]at c;have:decide (0<=i/\i<(t.kids.length:Int))=true:=d! ⟨h0,by lia⟩;rw[this]at c;cases c
 .obtain⟨b,hb,Vh⟩:=BY.at hu;exact⟨_,D?,_,D?,r,_,i,.ref b,D?,D?,l! er,at_nonneg h0 (gmE hb),k b H1 s1 Vh⟩
inductive iP(K:WQ)(vs:List V)(H:Hp)(Q:VK)(_E:XK):Prop
 |mk {rq:Rep} (a pa:WR) (t u:Th) (p:List Int):vs=[.ref a,.ref pa]->AtK rq K H t a->H pa=A? (.tup (p.map p!))->t.sub p=A? u->(∀(b:WR)(H':Hp),j! H H'->AtK rq K H' u b->Q (.ref b) H')->iP K vs H Q _E
theorem rV:aU P w K mg base CX0 4 T.g_8.f T.g_8.d ["tree","place"] (iP K):=by
 refine T.g_8.F.okA gq λAh A outer s H vs Q E hr h=>?_;obtain@⟨rq,a,pa,t,u,p,rfl,hA,hp,hu,k⟩:=h
 refine⟨_,(ad (am 2 gq.nd (pv 0))
  (ad (bq Xr rfl (dH (pv 1)) (pgN 3 gq.nd) (ae (am 2 gq.nd (pcF T.g_7 (vb T) hr (aa (pv 2) (aa (pv 3) ab))))))
  (ae (aw (pv 2))))),?_⟩
 try dsimp only[Aw,Ad]
 refine⟨_,D?,?_⟩;refine⟨_,D?,pa,D?,⟨_,l! hp⟩,?_⟩
 refine jj (K:=K) (a:=pa) (xs:=p.map p!) (λi Z H2=>Ex3 λb c v=>An4 (Z=[A? (.ref a),A? (.ref pa),A? (.ref b),c]) (j! H H2) (AtK rq K H2 v b) (v.sub (p.drop i)=A? u))
  ⟨a,B?,t,rfl,.refl _,hA,by rw[Z9];exact hu⟩ (λi Z H2 _⟨_,_,_,_,s2,_,_⟩=>l! (s2 _ _ hp)) ?_ ?_
 .rintro i x Z H2 hx ⟨b,c,v,rfl,s2,hb,hv⟩;rw[WZ]at hx;obtain⟨n,hn,rfl⟩:=XI.mp hx;have hi:i<p.length:=(glE hn)
  have hd:p.drop i=n::p.drop (i+1):=by
   rw[List.drop_eq_getElem_cons hi];congr 1;rw[WS hi]at hn;exact Xm hn
  rw[hd,Th.sub]at hv;split at hv
  .rename_i h0
   split at hv
   .rename_i v' AU
    refine⟨_,D?,_,D?,b,v,v',n,D?,hb,h0,AU,λb' H3 s3 AD=>?_⟩;exact⟨b',_,v',D?,s2.trans s3,AD,hv⟩
   .cases hv
  .cases hv
 .rintro Z H2 ⟨b,c,v,rfl,s2,hb,hv⟩;rw[WN,List.drop_length,f6]at hv;cases hv;exact⟨_,D?,k b H2 s2 hb⟩
def mf(k c:Int):List (Xk×V):=[("met_knots",.int k),("met_calls",.int c)]
theorem mkc:¬(("met_knots":Xk)="met_calls"):=by decide +kernel
theorem abZ:¬(("met_calls":Xk)="met_knots"):=by decide +kernel
theorem yQ:dA "met_knots" (.int 0) []=[(("met_knots":Xk),p! 0)]:=rfl
theorem yh:dA "met_calls" (.int 0) [(("met_knots":Xk),p! 0)]=mf 0 0:=by
 unfold mf;rw[dA,a! mkc,dA]
theorem yi(k c z:Int):dA "met_knots" (.int z) (mf k c)=mf z c:=by
 unfold mf;rw[dA,b! rfl]
theorem xY(k c z:Int):dA "met_calls" (.int z) (mf k c)=mf k z:=by
 unfold mf;rw[dA,a! mkc,dA,b! rfl]
theorem aaL(k c:Int):(mf k c).lookup ("met_knots":Xk)=A? (p! k):=by
 unfold mf;have hb:(("met_knots":Xk) == "met_knots")=true:=beq_iff_eq.mpr rfl;simp only[ZT,hb]
theorem aaQ(k c:Int):(mf k c).lookup ("met_calls":Xk)=A? (p! c):=by
 unfold mf;have hb:(("met_calls":Xk) == "met_calls")=true:=beq_iff_eq.mpr rfl;have hc:(("met_calls":Xk) == "met_knots")=false:=beq_eq_false_iff_ne.mpr abZ;simp only[ZT,hb,hc]
theorem abh{m:Xk}(k c:Int)(h1:(m == ("met_knots":Xk))=CV)(h2:(m == ("met_calls":Xk))=CV):(mf k c).lookup m=none:=by
 unfold mf;simp only[ZT,h1,h2]
theorem wK(k c:Int):(mf k c).length<1000:=by show 2<1000;decide
inductive gx(C:WR)(vs:List V)(H:Hp)(Q:VK)(_E:XK):Prop
 |mk (x dx:WR):vs=[.ref x]->H x=A? (.ins C dx [])->(∀H':Hp,(∀b o,b≠x->H b=A? o->H' b=A? o)->H' x=A? (.ins C dx (mf 0 0))->Q .non H')->gx C vs H Q _E
theorem kG:aU P w K mg base CX0 1 T.g_23.f T.g_23.d ["self"] (gx T.e_Measure):=by
 refine T.g_23.F.okA ky λAh A outer s H vs Q E hr h=>?_;obtain⟨x,dx,rfl,ex,q⟩:=h
 refine⟨_,(ad (wP (pv 0) ag rfl)
  (ae (wP (pv 0) ag rfl))),?_⟩
 try dsimp only[Aw,Ad]
 refine⟨_,D?,x,T.e_Measure,dx,_,D?,ex,T.cl_Measure,T.na_Measure_met_knots,(by show 0<1000;decide),?_⟩;refine⟨_,D?,x,T.e_Measure,dx,_,D?,ac,T.cl_Measure,T.na_Measure_met_calls,(by show 1<1000;decide),?_⟩;refine q _ (λb o hb e=>?_) ?_
 .rw[ai hb,ai hb];exact e
 .rw[ac,yQ,yh]
inductive fJ(K:WQ)(C:WR)(vs:List V)(H:Hp)(Q:VK)(_E:XK):Prop
 |mk {rq:Rep} (x dx pa:WR) (k c row:Int) (t:Th):vs=[.ref x,.ref pa,.int row]->H x=A? (.ins C dx (mf k c))->AtK rq K H t pa->(∀(k' c':Int)(H':Hp),k'=(if t.isCall=C? then k else k+1)->c'=(if t.isCall=C? then c+1 else c)->(∀b o,b≠x->H b=A? o->H' b=A? o)->H' x=A? (.ins C dx (mf k' c'))->Q (.bl (decide (row<=20/\k'<=400/\c'<=200))) H')->fJ K C vs H Q _E
theorem jD:aU P w K mg base CX0 2 T.g_24.f T.g_24.d ["self","part","row"] (fJ K T.e_Measure):=by
 refine T.g_24.F.okA jq λAh A outer s H vs Q E hr h=>?_;obtain@⟨rq,x,dx,pa,k,c,row,t,rfl,ex,hA,q⟩:=h
 refine⟨_,(ad (bK (aF (pcF T.g_9 (eU T) hr (aa (pv 1) ab)) (λ_=>rfl)) (ae (nz (pv 0) ag vB)) (ae (nz (pv 0) ag vB)))
  (ae (aw (fA (cW nI (pv 2) (cC (v:=.int (20)) rfl T.c_MOST_ROWS.choose_spec ⟨_,D?⟩) (aQ _)) (fA (cW nI (vG (pv 0) rfl) (cC (v:=.int (400)) rfl T.c_MOST_KNOTS.choose_spec ⟨_,D?⟩) (aQ _)) (gJ (cW nI (vG (pv 0) rfl) (cC (v:=.int (200)) rfl T.c_MOST_CALLS.choose_spec ⟨_,D?⟩) (aQ _)))))))),?_⟩
 try dsimp only[Aw,Ad]
 refine cg (λAa H'=>Ex2 λ(k' c':Int)=>An5 (k'=(if t.isCall=C? then k else k+1)) (c'=(if t.isCall=C? then c+1 else c)) ((∀b o,b≠x->H b=A? o->H' b=A? o)) (H' x=A? (.ins T.e_Measure dx (mf k' c'))) (Aa=[A? (.ref x),A? (.ref pa),A? (.int row)])) (λkk hk=>?_) ?_
 .refine cw (λb H'=>An2 (H=H') (b=t.isCall)) (λk2 Bp=>?_) (λH' hb=>?_) (λH' hb=>?_)
  .exact⟨_,D?,pa,t,D?,hA,_,D?,Bp _ _ ⟨D?,D?⟩⟩
  .obtain⟨rfl,hb⟩:=hb;refine⟨_,D?,x,T.e_Measure,dx,_,_,D?,ex,T.cl_Measure,T.na_Measure_met_calls,aaQ k c,c,1,D?,D?,dx,_,ex,wK k c,?_⟩;exact hk _ _ ⟨k,c+1,by rw[b! hb.symm],by rw[b! hb.symm],λb o hb e=>by rw[ai hb];exact e,by rw[ac,xY],rfl⟩
  .obtain⟨rfl,hb⟩:=hb;have AD:¬t.isCall=true:=λz=>by rw[<-hb]at z;cases z
   refine⟨_,D?,x,T.e_Measure,dx,_,_,D?,ex,T.cl_Measure,T.na_Measure_met_knots,aaL k c,k,1,D?,D?,dx,_,ex,wK k c,?_⟩;exact hk _ _ ⟨k+1,c,by rw[a! AD],by rw[a! AD],λb o hb e=>by rw[ai hb];exact e,by rw[ac,yi],rfl⟩
 rintro Aa H' ⟨k',c',A9,AO,hs,Lz,rfl⟩;have q':=q k' c' H' A9 AO hs Lz;clear q;refine⟨_,D?,_,_,D?,D?,?_⟩;refine⟨_,D?,?_⟩;by_cases c1:row<=20
 .rw[b! (d! c1)];refine⟨_,D?,x,T.e_Measure,dx,_,_,D?,Lz,T.cl_Measure,T.na_Measure_met_knots,aaL k' c',_,_,D?,D?,_,D?,?_⟩;by_cases c2:k'<=400
  .rw[b! (d! c2)];refine⟨_,D?,x,T.e_Measure,dx,_,_,D?,Lz,T.cl_Measure,T.na_Measure_met_calls,aaQ k' c',_,_,D?,D?,?_⟩;have e:decide (row<=20/\k'<=400/\c'<=200)=decide (c'<=200):=by simp[c1,c2]
   rw[e]at q';exact q'
  .rw[a! (λz=>c2 (e! z))];rw[c! (λz=>c2 z.2.1)]at q';exact q'
 .rw[a! (λz=>c1 (e! z))];rw[c! (λz=>c1 z.1)]at q';exact q'
instance (t:Th):Decidable (Small t):=decidable_of_iff (t.tall<=20/\t.kn<=400/\cnT t<=200) ⟨λh=>⟨h.1,h.2.1,h.2.2⟩,λh=>⟨h.1,h.2,h.3⟩⟩
theorem vZ(h:ts≠[]):∃t∈ts,aP ts=t.tall:=by
 induction ts with
 |nil=>exact g! rfl h
 | cons x ts ih =>
   rw[aP];by_cases hz:ts=[]
   .subst hz;exact⟨x,Xe ..,by rw[aP];lia⟩
   .obtain⟨t,ht,e⟩:=ih hz;by_cases hc:aP ts<=x.tall
    .exact⟨x,Xe ..,by lia⟩
    .exact⟨t,Xb _ ht,by lia⟩
def RwAt(rq:Rep)(K:WQ)(H:Hp)(e:Th×Int)(p:WR):Prop:=∃ta,H p=A? (.tup [.ref ta,.int e.2])/\AtK rq K H e.1 ta
theorem RwAt.mono(k:KT H H'){e:Th×Int}(h:RwAt rq K H e p):RwAt rq K H' e p:=by
 obtain⟨ta,h1,h2⟩:=h;exact⟨ta,k _ _ h1,h2.mono k⟩
inductive km(K:WQ)(vs:List V)(H:Hp)(Q:VK)(_E:XK):Prop
 |mk {rq:Rep} (a:WR) (t:Th):vs=[.ref a]->AtK rq K H t a->t.size<=100000->(∀H',j! H H'->Q (.bl (decide (Small t))) H')->km K vs H Q _E
theorem qJ:aU P w K mg base CX0 4 T.g_25.f T.g_25.d ["pattern"] (km K):=by
 refine T.g_25.F.okA dB λAh A outer s H vs Q E hr h=>?_;obtain@⟨rq,a,t,rfl,hA,hsz,q⟩:=h
 refine⟨_,(ad (am 1 dB.nd (wI ⟨T.mi_Measure.1,T.g_23.me.1,T.g_23.me.2,T.mi_Measure.2⟩ (kG T) (hr.mono (by first|decide|lia)) rfl T.x_Measure T.g_23.b .nil gy))
  (ad (am 2 dB.nd (bx (aa (aE (aa (pv 0) (aa ag ab))) ab)))
  (ad (eV Xr (aF (pv 2) (λ_=>rfl)) (ad (fw (jN Xf ZD ZC jF (pv 2)) (bp rfl (aj (pgN 3 dB.nd) (aj (pgN 4 dB.nd) aV))))
  (ad (bK (cR (aF (zd (pv 1) T.cl_Measure T.g_24.me (jD T) (hr.mono (by first|decide|lia)) T.g_24.b .nil gy (aa (pv 3) (aa (pv 4) ab))) (λ_=>rfl))) (ae (aw gG)) bh)
  (ae (aS (bW Xf ZX ZW gX (pv 2) (aa (cq (N:=["kid","row"]) (js:=[B?,A? 4]) (g:=(av 0)) (tt:=bE) (te:=(kD (aI (bi 0) (aI (tOp (rI0 λi j=>.int (i+j)) (bi 1) (tC (.int 1))) cK)))) rfl (cp rfl (by decide +kernel) (by decide +kernel) rfl rfl rfl) (dH (pcF T.g_2 (eN T) hr (aa (pv 3) ab))) (λ_ _ _ _ _ _=>(pgN 0 abB)) (aK rfl) (λ_ _ _ _ _ _=>bM) (λ_ _ _ _ _ _=>(aE (aa (pv 0) (aa (aC db (pv 1) ag) ab))))) ab)))))))
  (ae (aw gG))))),?_⟩
 try dsimp only[Aw,Ad]
 intro mo dx Mj Vi Ap;refine⟨mo,dx,D?,ac,λH1 k1 RJ=>⟨D?,?_⟩⟩
 have s0:j! H (upd (upd H dx (.own mo)) mo (.ins T.e_Measure dx [])):=λb o e=>by
  rw[ai (az e Mj),ai (az e Vi)];exact e
 have s1:j! H H1:=λb o e=>k1 b o (az e Mj) (s0 b o e);refine⟨_,D?,lnE rfl,λp0 Fh=>?_⟩;dsimp only[av];refine gU Fh λH2 s2 e2=>?_;refine⟨lnE rfl,λah Bz=>?_⟩;have s3:j! H2 (upd H2 ah (.lst [.ref p0])):=af Bz _;have e3:(upd H2 ah (.lst [.ref p0])) ah=A? (.lst (([p0]:List WR).map i!)):=ac;have KO:H ah=none:=(s1.trans s2).free Bz;have HK:mo≠ah:=λz=>by rw[<-z,s2 _ _ RJ]at Bz;cases Bz
 generalize(upd H2 ah (.lst [.ref p0]))=H3 at s3 e3 |-;have DZ:=s2.trans s3;refine⟨λm Z H4=>Ex6 λ(ps:List WR)(As:List (Th×Int))(k c:Int)(pv rv:Option V)=>aam (Z=[A? (.ref a),A? (.ref mo),A? (.ref ah),pv,rv]) (j! H H4) (H4 ah=A? (.lst (ps.map i!))) (Xp (RwAt rq K H4) As ps) (H4 mo=A? (.ins T.e_Measure dx (mf k c))) (k+(kns (As.map (·.1)):Int)=(t.kn:Int)) (c+(cD (As.map (·.1)):Int)=(cnT t:Int)) (k<=400) (c<=200) ((∀e∈As,e.2+(e.1.tall:Int)<=(t.tall:Int)+1)) (((t.tall:Int)<=20\/∃e∈As,(t.tall:Int)+1<=e.2+(e.1.tall:Int))) (ao (As.map (·.1))<=100000) (m=ao (As.map (·.1))),⟨_,[p0],[(t,1)],0,0,B?,B?,D?,s1.trans DZ,e3,.cons ⟨a,s3 _ _ e2,hA.mono (k! (s1.trans DZ))⟩ .nil,DZ _ _ RJ,?_,?_,by decide,by decide,?_,?_,?_,D?⟩,?_⟩
 .show(0:Int)+((kns [t]:Nat):Int)=_;rw[kns,kns];lia
 .show(0:Int)+((cD [t]:Nat):Int)=_;rw[cD,cD];lia
 .intro e he;rw[Xc.mp he];show(1:Int)+(t.tall:Int)<=_;lia
 .exact .inr ⟨(t,1),Xe ..,by show _<=(1:Int)+(t.tall:Int);lia⟩
 .show ao [t]<=100000;rw[ao,ao];lia
 rintro m Z H4 ⟨ps,As,k,c,pv,rv,rfl,s4,e4,RK,em,hk,hc,hk4,BS,hle,LW,RL,rfl⟩;refine⟨_,D?,_,.inl ⟨_,n! e4,D?⟩,?_⟩;refine cu (λcc=>?_) (λcc=>?_)
 .refine⟨λAa H'=>∃m',m'<ao (As.map (·.1))/\Ex6 λ(ps:List WR)(As:List (Th×Int))(k c:Int)(pv rv:Option V)=>aam (Aa=[A? (.ref a),A? (.ref mo),A? (.ref ah),pv,rv]) (j! H H') (H' ah=A? (.lst (ps.map i!))) (Xp (RwAt rq K H') As ps) (H' mo=A? (.ins T.e_Measure dx (mf k c))) (k+(kns (As.map (·.1)):Int)=(t.kn:Int)) (c+(cD (As.map (·.1)):Int)=(cnT t:Int)) (k<=400) (c<=200) ((∀e∈As,e.2+(e.1.tall:Int)<=(t.tall:Int)+1)) (((t.tall:Int)<=20\/∃e∈As,(t.tall:Int)+1<=e.2+(e.1.tall:Int))) (ao (As.map (·.1))<=100000) (m'=ao (As.map (·.1))),λAa H' h=>h,?_⟩;have Bd:ps≠[]:=by intro z;subst z;simp at cc
  refine hid λZZ kZ=>?_;obtain⟨Dh,b,rfl⟩:∃Dh b,ps=Dh++[b]:=⟨ps.dropLast,ps.getLast Bd,(Y1 Bd).symm⟩;obtain⟨Us,⟨x,r⟩,rfl,RM,ta,eb,hx⟩:=P2.snoc_inv RK;refine kZ ?_;have KP:(Us++[(x,r)]).map (·.1)=Us.map (·.1)++[x]:=by rw[W8];rfl
  rw[KP]at hk hc RL;rw[lw,kns,kns,zJ]at hk;rw[jY,cD,cD,zF]at hc;rw[bC,ao,ao,x.size_eq]at RL;have Vj:=hle (x,r) (XE _ (Xe ..));dsimp only at Vj;have JS:=x.tall_eq;refine⟨_,D?,.inl ⟨D?,_,n! e4⟩,ah,_,.ref b,D?,D?,e4,by simp,?_⟩;have d1:((Dh++[b]).map i!).dropLast=Dh.map i!:=by simp
  rw[d1];have k5:KT H4 (upd H4 ah (.lst (Dh.map i!))):=aL e4;have s5:j! H (upd H4 ah (.lst (Dh.map i!))):=ak s4 KO;have e5:(upd H4 ah (.lst (Dh.map i!))) ah=A? (.lst (Dh.map i!)):=ac;have Ml:(upd H4 ah (.lst (Dh.map i!))) mo=A? (.ins T.e_Measure dx (mf k c)):=by rw[ai HK];exact em
  generalize(upd H4 ah (.lst (Dh.map i!)))=H5 at k5 s5 e5 Ml |-;refine⟨b,_,D?,l! (k5 _ _ eb),D?,_,_,D?,_,_,D?,D?,?_⟩;dsimp only[av];refine cg (λAa H6=>Ex2 λ(k' c':Int)=>An6 (k'=(if x.isCall=C? then k else k+1)) (c'=(if x.isCall=C? then c+1 else c)) ((∀b o,b≠mo->H5 b=A? o->H6 b=A? o)) (H6 mo=A? (.ins T.e_Measure dx (mf k' c'))) ((r<=20/\k'<=400/\c'<=200)) (Aa=[A? (.ref a),A? (.ref mo),A? (.ref ah),A? (.ref ta),A? (.int r)])) (λkk AN=>?_) ?_
  .refine cw (λbb H6=>Ex2 λ(k' c':Int)=>An5 (k'=(if x.isCall=C? then k else k+1)) (c'=(if x.isCall=C? then c+1 else c)) ((∀b o,b≠mo->H5 b=A? o->H6 b=A? o)) (H6 mo=A? (.ins T.e_Measure dx (mf k' c'))) (bb=!decide (r<=20/\k'<=400/\c'<=200))) (λk2 Bp=>?_) (λH6 hb=>?_) (λH6 hb=>?_)
   .refine⟨_,D?,mo,dx,_,D?,Ml,abh k c (by decide +kernel) (by decide +kernel),_,D?,_,D?,mo,dx,ta,k,c,r,x,D?,Ml,hx.mono k5,λk' c' H6 h1 h2 h3 h4=>?_⟩;exact⟨_,D?,Bp _ _ ⟨k',c',h1,h2,h3,h4,D?⟩⟩
   .refine hid λZZ kZ=>?_;obtain⟨k',c',h1,h2,h3,h4,h5⟩:=hb;refine kZ ?_;have C1:¬(r<=20/\k'<=400/\c'<=200):=λz=>by rw[d! z]at h5;cases h5
    have Cy:decide (Small t)=false:=c! λz=>C1 (by
     obtain⟨z1,z2,z3⟩:=z;refine⟨by lia,?_,?_⟩
     .rw[h1];split at hk <;> split <;> first|lia|contradiction
     .rw[h2];split at hc <;> split <;> first|lia|contradiction)
    have s6:j! H H6:=λb o e=>h3 b o (az e Mj) (s5 b o e);rw[Cy]at q;exact q H6 s6
   .refine hid λZZ kZ=>?_;obtain⟨k',c',h1,h2,h3,h4,h5⟩:=hb;refine kZ ?_
    have GR:r<=20/\k'<=400/\c'<=200:=e! (by
     cases hd:decide (r<=20/\k'<=400/\c'<=200)with
     |true=>rfl
     |false=>rw[hd]at h5;cases h5)
    exact AN _ _ ⟨k',c',h1,h2,h3,h4,GR,rfl⟩
  rintro Aa H6 ⟨k',c',h1,h2,h3,h4,⟨Vk,Pf,Pg⟩,rfl⟩;have k6:KT H5 H6:=λb xs e=>h3 b _ (λz=>by rw[z,Ml]at e;cases e) e;have s6:j! H H6:=λb o e=>h3 b o (az e Mj) (s5 b o e);have e6:H6 ah=A? (.lst (Dh.map i!)):=h3 _ _ HK.symm e5;have RN:=k5.trans k6;refine⟨_,D?,.inl ⟨D?,_,n! e6⟩,_,D?,ta,x,D?,hx.mono RN,λka Bg H7 s7 ek BY=>?_⟩;have BQ:Bg.length=x.kids.length:=BY.length;have hlz:=cj x.kids;refine⟨ka,D?,⟨_,l! ek⟩,ig (F:=RwAt rq K) (xs:=Bg.map i!) (x.kids.map λu=>(u,r+1)) (λH1 H2 z p kt h=>h.mono kt) (by rw[WN,WN];lia) (by rw[WN];lia) (λi Hx sx hi=>⟨_,_,l! (sx _ _ ek),WS hi⟩) (λHx sx=>⟨_,l! (sx _ _ ek),WW _⟩) (λi Hx x Hy sx hi hy=>⟨hy.1,hy.2 _ (l! (sx _ _ ek))⟩) (λi y z Hx R W' hy B1 sx hR=>?_) (λD H8 bs hD s8 eD DG=>?_)⟩
  .obtain⟨ua,rfl,Eo⟩:=aH hy;obtain⟨u,hu,HJ⟩:=BY.get Eo;rw[WZ,hu]at B1;cases B1;refine⟨_,D?,_,D?,_,_,D?,D?,lnE rfl,λp1 DV=>?_⟩;exact hR _ p1 (af DV _) ⟨ua,ac,HJ.mono (k! (sx.trans (af DV _)))⟩
  have Q6:Us.length=Dh.length:=W3 RM;have Bf:(x.kids.map λu=>(u,r+1)).length=bs.length:=W3 DG;rw[WN]at Bf;have Q7:=cj (Us.map (·.1));rw[WN]at Q7;have Mm:=s7.trans s8;have e8:=Mm _ _ e6;refine⟨ah,D,_,_,D?,D?,e8,eD,ZS (bR (by rw[WN,WN];lia)),?_⟩;have k9:KT H8 (upd H8 ah (.lst (Dh.map i!++bs.map i!))):=aL e8;have s9:j! H (upd H8 ah (.lst (Dh.map i!++bs.map i!))):=ak (s6.trans Mm) KO
  have Kk:(Us++x.kids.map λu=>(u,r+1)).map (·.1)=Us.map (·.1)++x.kids:=by
   rw[W8,YA];congr 1;exact List.map_id' _
  refine⟨ao ((Us++x.kids.map λu=>(u,r+1)).map (·.1)),?_,Dh++bs,Us++(x.kids.map λu=>(u,r+1)),k',c',_,_,D?,s9,?_,?_,?_,?_,?_,Pf,Pg,?_,?_,?_,D?⟩
  .rw[Kk,KP,bC,bC,ao,ao,x.size_eq];lia
  .rw[ac,W8]
  .exact r! (x! (λ_ _ e=>e.mono ((RN.trans (k! Mm)).trans k9)) RM) (x! (λ_ _ e=>e.mono k9) DG)
  .rw[ai HK];exact Mm _ _ h4
  .rw[Kk,lw,h1];split at hk <;> split <;> first|lia|contradiction
  .rw[Kk,jY,h2];split at hc <;> split <;> first|lia|contradiction
  .intro e he;rcases XA.mp he with he|he
   .exact hle e (XM _ he)
   .obtain⟨u,hu,rfl⟩:=Xy.mp he;have:=ce hu;dsimp only;lia
  .rcases LW with h|⟨e,he,Ph⟩
   .exact .inl h
   .rcases XA.mp he with he|he
    .exact .inr ⟨e,XM _ he,Ph⟩
    .rw[Xc.mp he]at Ph;dsimp only at Ph;by_cases hz:x.kids=[]
     .rw[hz,aP]at JS;exact .inl (by lia)
     .obtain⟨u,hu,eu⟩:=vZ hz;exact .inr ⟨(u,r+1),XE _ (Xy.mpr ⟨u,hu,rfl⟩),by dsimp only;lia⟩
  .rw[Kk,bC];lia
 .have hz:ps=[]:=by
   cases ps with
   |nil=>rfl
   |cons y ys=>simp at cc
  subst hz;have El:As=[]:=Yi.mp (W3 RK);subst El;have A9:k+((kns []:Nat):Int)=(t.kn:Int):=hk;have AO:c+((cD []:Nat):Int)=(cnT t:Int):=hc;rw[kns]at A9;rw[cD]at AO
  have Vm:(t.tall:Int)<=20:=by
   rcases LW with h|⟨e,he,_⟩
   .exact h
   .cases he
  have Ez:decide (Small t)=true:=d! ⟨by lia,by lia,by lia⟩;rw[Ez]at q;exact q H4 s4
inductive iG(K:WQ)(vs:List V)(H:Hp)(Q:VK)(_E:XK):Prop
 |mk {rq:Rep} (a:WR) (t:Th):vs=[.ref a]->AtK rq K H t a->t.size<=100000->Small t->(∀H',j! H H'->Q (.ref a) H')->iG K vs H Q _E
theorem kY:aU P w K mg base CX0 5 T.g_43.f T.g_43.d ["pattern"] (iG K):=by
 refine T.g_43.F.okA sI λAh A outer s H vs Q E hr h=>?_;obtain⟨a,t,rfl,hA,hsz,Ez,q⟩:=h
 refine⟨_,(ad (bK (cR (aF (pcF T.g_25 (qJ T) hr (aa (pv 0) ab)) (λ_=>rfl))) (ae lY) bh)
  (ae (aw (pv 0)))),?_⟩
 try dsimp only[Aw,Ad]
 refine⟨_,D?,a,t,D?,hA,hsz,λH1 s1=>⟨_,D?,?_⟩⟩;rw[d! Ez];exact dN ⟨_,rfl,q H1 s1⟩
def CP(rq:Rep)(H:Hp)(c:Int×Int)(a:WR):Prop:=∃v,H a=A? (.tup [v,.int c.2])/\StV rq H c.1 v
theorem CP.mono{rq:Rep}(k:KT H H'){c:Int×Int}(h:CP rq H c a):CP rq H' c a:=by
 obtain⟨v,h1,h2⟩:=h;exact⟨v,k _ _ h1,h2.mono k⟩
inductive jg(K:WQ)(vs:List V)(H:Hp)(Q:VK)(_E:XK):Prop
 |mk {rq:Rep} (a:WR) (t:Th):vs=[.ref a]->AtK rq K H t a->t.size<=100000->(∀(r:WR)(as:List WR)(H':Hp),j! H H'->H r=B?->H' r=A? (.lst (as.map i!))->Xp (CP rq H') (dM t) as->Q (.ref r) H')->jg K vs H Q _E
theorem i0:aU P w K mg base CX0 3 T.g_14.f T.g_14.d ["pattern"] (jg K):=by
 refine T.g_14.F.okA oO λAh A outer s H vs Q E hr h=>?_;obtain@⟨rq,a,t,rfl,hA,hsz,k⟩:=h;refine⟨_,(ae (aw (cq (N:=["part"]) (js:=[B?]) (g:=(av 0)) (tt:=(λZ H Q=>(cZ (fV K) [] E0 (aI (bi 0) cK)) Z H λx H1=>∃k,xL K x H1 k/\Q k H1)) (te:=(cZ (dO K) [] E0 (aI (bi 0) cK))) rfl (cp rfl (by decide +kernel) (by decide +kernel) rfl rfl rfl) (bS (pcF T.g_3 (jo T) hr (aa (pv 0) ab))) (λ_ _ _ _ _ _=>(pgN 0 abJ)) (aK rfl) (λ_ _ _ _ _ _=>g7 (aF (pcF T.g_9 (eU T) hr (aa (pv 0) ab)) (λ_=>rfl))) (λ_ _ _ _ _ _=>(pcF T.g_12 (gf T) hr (aa (pv 0) ab)))))),?_⟩
 try dsimp only[Aw,Ad]
 refine⟨_,D?,a,t,D?,hA,hsz,λr as H1 s1 nr er Bn=>⟨r,D?,⟨_,n! er⟩,?_⟩⟩;have Bc:as.length=t.walk.length:=Bn.length;have AK:=J! t;intro D hD;refine⟨as.length,λj H2=>An3 (j<=as.length) (j! H1 H2) (Ex1 λ(bs:List WR)=>An2 (H2 D=A? (.lst (bs.map i!))) (Xp (CP rq H2) ((t.walk.take j).filterMap mZ) bs)),⟨Xh _,af hD _,[],ac,.nil⟩,?_⟩;rintro j H2 ⟨hj,s2,bs,eD,An⟩;by_cases B0:j=as.length
 .left;refine⟨⟨_,n! (s2 _ _ er),by rw[WN,B0];exact WW _⟩,?_⟩;have Ac:t.walk.take j=t.walk:=by rw[B0,Bc,Yh]
  rw[Ac]at An;exact k D bs H2 (s1.trans s2) (s1.free hD) eD An
 .right;have Au:j<as.length:=by lia
  refine⟨Au,⟨_,.ref as[j],n! (s2 _ _ er),by rw[WZ,WS Au];rfl⟩,?_⟩;rintro y H3 ⟨rfl,hv⟩;have AU:=hv _ (n! (s2 _ _ er));obtain⟨ta,rfl,Bu⟩:=aH AU;obtain⟨u,N2,e3⟩:=(Bn.mono (k! s2)).get Bu;have AQ:t.walk.take (j+1)=t.walk.take j++[u]:=by rw[XU,N2];rfl
  have Bf:bs.length<=j:=by
   have g1:=W3 An;have g2:=List.length_filterMap_le mZ (t.walk.take j);rw[XS]at g2;lia
  refine⟨_,D?,ta,u,D?,e3,_,D?,?_⟩;cases u with
  | knot n ks =>
    refine dN ⟨Au,s2,bs,eD,?_⟩;rw[AQ,List.filterMap_append];show Xp (CP rq H3) ((t.walk.take j).filterMap mZ++[]) bs;rw[Xs];exact An
  | call sn kn =>
    refine sg ?_;refine⟨_,D?,ta,sn,kn,D?,e3,λca v AS Ds=>?_⟩;have s4:j! H3 (upd H3 ca (.tup [v,.int kn])):=af Ds _;have Em:=s4 _ _ eD;refine⟨_,Em,lbE (by lia),Au,ak (s2.trans s4) hD,bs++[ca],?_,?_⟩
    .rw[ac,W8];rfl
    .have k5:KT (upd H3 ca (.tup [v,.int kn])) (upd (upd H3 ca (.tup [v,.int kn])) D (.lst (bs.map i!++[.ref ca]))):=aL Em;rw[AQ,List.filterMap_append];refine r! (x! (λ_ _ e=>CP.mono ((k! s4).trans k5) e) An) (.cons ⟨v,k5 _ _ ac,AS.mono ((k! s4).trans k5)⟩ .nil)
def l4(x y k:Int):ay:=([Xn x,Xn y],Xn k)
theorem m4{t:Th}{s k:Int}(h:z! s k∈t.walk):(s,k)∈dM t:=List.mem_filterMap.mpr ⟨_,h,rfl⟩
theorem v6{t:Th}{c:Int×Int}(h:c∈dM t):c.1∈stT t:=Xy.mpr ⟨c,h,rfl⟩
inductive kh(K:WQ)(vs:List V)(H:Hp)(Q:VK)(_E:XK):Prop
 |mk (a nd:WR) (t:Th) (g:Int->Int) (f':List (List Key×V)):vs=[.ref a,.ref nd]->AtK .p K H t a->t.size<=100000->H nd=A? (.dT f')->(∀x y,enc x y∈stT t->0<=x->0<=y->y<1000->aN f' [Xn x,Xn y]=A? (.int (g (enc x y))))->(∀(r:WR)(H':Hp),j! H H'->AtK .i K H' (ren g t) r->Q (.ref r) H')->kh K vs H Q _E
theorem qI:aU P w K mg base CX0 4 T.g_18.f T.g_18.d ["pattern","names"] (kh K):=by
 refine T.g_18.F.okA fq λAh A outer s H vs Q E hr h=>?_;obtain⟨a,nd,t,g,f',rfl,hA,hsz,FL,Pj,k⟩:=h
 refine⟨_,(ad (am 2 fq.nd (mn (fl:=C?)))
  (ad (bq Xr rfl (bS (pcF T.g_14 (i0 T) hr (aa (pv 0) ab))) (bp rfl (aj (pgN 3 fq.nd) (aj (pgN 4 fq.nd) aV))) (ae (qO (fl:=C?) (ga hr) (pv 2) (aE (aa (pv 3) (aa (pv 4) ab))) (aE (aa (cC (v:=.str (Xz "?")) rfl T.c_CALL_SIGN.choose_spec ⟨_,D?⟩) (aa (pw (j8 hr) (pv 1) (pv 3) (λ_ _=>rfl)) (aa (pv 4) ab)))) rfl)))
  (ae (aw (pcF T.g_17 (ie T) hr (aa (pv 0) (aa (pv 2) ab))))))),?_⟩
 try dsimp only[Aw,Ad]
 intro td H1 Hk s1 e1;dsimp only[av];refine⟨_,D?,a,t,D?,hA.mono (k! s1),hsz,λr as H2 s2 nr er Cu=>⟨r,D?,⟨_,n! er⟩,?_⟩⟩;have Br:(dM t).length=as.length:=W3 Cu
 have hcw:(dM t).length<=100000:=by
  have h1:=List.length_filterMap_le mZ t.walk;have h2:=J! t;unfold dM;lia
 have Pk:r≠td:=λz=>by
  obtain⟨_,_,_,φ,e,_⟩:=e1;rw[z,e]at nr;cases nr
 refine cE (K:=K) (a:=r) (xs:=as.map i!) (λi Z H3=>Ex3 λ(c3 c4:Option V)(tk:List (ay×V))=>An7 (Z=[A? (.ref a),A? (.ref nd),A? (.ref td),c3,c4]) (j! H H3) (H3 r=A? (.lst (as.map i!))) (Xp (CP .p H3) (dM t) as) (DM C? P w H3 td tk) (tk.length<=i) (∀c∈(dM t).take i,∀x y,c.1=enc x y->0<=y->y<1000->∃v,aN tk (l4 x y c.2)=A? (.ref v)/\AtK .i K H3 (.call (g c.1) c.2) v))
  ⟨B?,B?,[],rfl,s1.trans s2,er,Cu,e1.mono s2,WW _,λc hc=>by rw[Zk]at hc;cases hc⟩ (λi Z H3 _⟨_,_,_,_,_,e,_,_,_,_⟩=>n! e) ?_ ?_
 .rintro i x Z H3 hx ⟨c3,c4,tk,rfl,s3,FN,Ce,Pl,hlen,Ac⟩;refine hid λZZ kZ=>?_;obtain⟨ca,rfl,Ds⟩:=aH hx;obtain⟨⟨sn,kn⟩,hc,sv,KQ,AS⟩:=y! Ce Ds;obtain⟨pa,x,y,rfl,BM,Ff,ER,Ek,EZ⟩:=AS;refine kZ ?_;dsimp only at Ff KQ;subst Ff;have Ck:i<100000:=by have:=(glE hc);lia
  have hgs:=Pj x y (v6 (WT hc)) ER Ek EZ;refine⟨ca,_,D?,l! KQ,D?,_,_,D?,_,_,D?,D?,?_⟩;dsimp only[av];have Pm:=s3 _ _ FL;refine⟨_,D?,_,D?,nd,.int (g (enc x y)),D?,.inr ⟨f',[.inl x,.inl y],pa,.inl Pm,D?,BM,hgs.symm⟩,_,D?,lnE rfl,λcv NI=>?_⟩;have s4:j! H3 (upd H3 cv (.tup [.str (Xz "?"),.int (g (enc x y)),.int kn])):=af NI _;have e4:AtK .i K (upd H3 cv (.tup [.str (Xz "?"),.int (g (enc x y)),.int kn])) (.call (g (enc x y)) kn) cv:=by rw[AtK];exact⟨_,.of ac,D?⟩
  generalize(upd H3 cv (.tup [.str (Xz "?"),.int (g (enc x y)),.int kn]))=H4 at s4 e4 |-;refine⟨_,D?,_,D?,_,D?,lnE rfl,λkp CN=>?_⟩;have s5:j! H4 (upd H4 kp (.tup [.ref pa,.int kn])):=af CN _;have e5:MKAt C? (upd H4 kp (.tup [.ref pa,.int kn])) (l4 x y kn) kp:=⟨pa,ac,s5 _ _ (s4 _ _ BM)⟩;generalize(upd H4 kp (.tup [.ref pa,.int kn]))=H5 at s5 e5 |-;have ET:=s4.trans s5;have RO:=Pl.mono ET;refine⟨td,kp,_,tk,D?,D?,RO,e5,bR (by lia),λH6 Pn J4=>?_⟩
  have k6:KT H5 H6:=λb xs e=>Pn b _ (λz=>by
   obtain⟨_,_,_,φ,e',_⟩:=RO;rw[z,e']at e;cases e) e
  have Mn:=(k! ET).trans k6;refine⟨_,_,_,D?,λb o e=>Pn b o (az e Hk) ((s3.trans ET) b o e),Pn _ _ Pk (ET _ _ FN),x! (λ_ _ e=>CP.mono Mn e) Ce,J4,?_,λc AO x' y' DQ FO FP=>?_⟩
  .have:=bz tk (l4 x y kn) (.ref cv);lia
  .rw[fO];by_cases CW:l4 x' y' c.2=l4 x y kn
   .rw[b! CW];unfold l4 at CW;injection CW with h1 h2;injection h1 with h3 h4;injection h4 with h5 _;have e1:x'=x:=YM h3;have e2:y'=y:=YM h5;have e3:c.2=kn:=YM h2;exact⟨cv,D?,by rw[DQ,e1,e2,e3];exact(e4.mono (k! s5)).mono k6⟩
   .rw[a! CW];rw[take_snoc hc]at AO;rcases XA.mp AO with h|h
    .obtain⟨v,h1,h2⟩:=Ac c h x' y' DQ FO FP;exact⟨v,h1,h2.mono Mn⟩
    .refine g! ?_ CW;rw[Xc.mp h]at DQ |-;obtain⟨h1,h2⟩:=uw DQ Ek EZ FO FP;rw[h1,h2]
 .rintro Z H3 ⟨c3,c4,tk,rfl,s3,FN,Ce,Pl,hlen,Ac⟩;rw[Yn (by rw[WN];lia)]at Ac;refine⟨_,D?,_,D?,.i,a,td,t,λs k=>.call (g s) k,D?,hA.mono (k! s3),hsz,λs' k' A9=>?_,λr' H4 s4 h4=>k r' H4 (s3.trans s4) h4⟩;refine hid λZZ kZ=>?_;obtain⟨i',AW⟩:=Xi.mp (m4 A9);obtain⟨_,_,_,_,_,x,y,_,_,Ff,_,Ek,EZ⟩:=F! Ce AW;refine kZ ?_;dsimp only at Ff;subst Ff;obtain⟨v,h1,h2⟩:=Ac (enc x y,k') (m4 A9) x y rfl Ek EZ;refine⟨v,h2,by rw[q!];decide,λH2 ca sv s2 N6 Ds=>?_⟩;refine hid λZZ kZ=>?_;obtain⟨pb,x',y',rfl,Oj,DQ,_,FO,FP⟩:=N6;obtain⟨rfl,rfl⟩:=uw DQ Ek EZ FO FP;refine kZ ?_;exact .inr ⟨C?,ca,l4 x y k',tk,rfl,Pl.mono s2,⟨pb,Ds,Oj⟩,h1⟩
def kP(s:Int):List Key:=[Xn (s / 1000),Xn (s%1000)]
theorem wy{x y:Int}(h0:0<=y)(h1:y<1000):kP (enc x y)=[Xn x,Xn y]:=by
 unfold kP enc;rw[show(1000 * x+y) / 1000=x by lia,show(1000 * x+y)%1000=y by lia]
theorem aas{a b:Int}(h:kP a=kP b):a=b:=by
 unfold kP at h;injection h with h1 h2;injection h2 with h2 _;have e1:=YM h1;have e2:=YM h2;lia
def dS(m:List Int):List (List Key×V):=m.zipIdx.map λp=>(kP p.1,p! (p.2:Nat))
theorem mF(m:List Int):(dS m).length=m.length:=by unfold dS;rw[WN,List.length_zipIdx]
theorem vq(m:List Int)(s:Int):dS (m++[s])=dS m++[(kP s,p! (m.length:Nat))]:=by
 unfold dS;rw[List.zipIdx_append,W8];simp
theorem lZ:∀(m:List Int)(s:Int)(n:Nat),aN ((m.zipIdx n).map λp=>(kP p.1,p! (p.2:Nat))) (kP s)=if s∈m then A? (.int ((n+m.idxOf s:Nat):Int))else B?
 | [],s,n=>rfl
 | x::m,s,n=>by
   rw[List.zipIdx_cons,Xx];by_cases h:x=s
   .subst h;rw[bH rfl,b! (Xe ..),List.idxOf_cons_self];rfl
   .rw[bJ (λz=>h (aas z)),lZ m s (n+1)];by_cases hm:s∈m
    .rw[b! hm,b! (Xb _ hm),List.idxOf_cons,(beq_eq_false_iff_ne.mpr h:(x == s)=CV)];simp only[cond_false];have:n+1+m.idxOf s=n+(m.idxOf s+1):=by lia
     rw[this]
    .rw[a! hm,a! (λz=>(W7.mp z).elim (λy=>h y.symm) hm)]
theorem ut{s:Int}(h:s∈m):aN (dS m) (kP s)=A? (.int (idx m s)):=by
 unfold dS;rw[lZ,b! h,Nat.zero_add];rfl
theorem xX{s:Int}(h:s∉m):aN (dS m) (kP s)=none:=by
 unfold dS;rw[lZ,a! h]
inductive iD(K:WQ)(vs:List V)(H:Hp)(Q:VK)(_E:XK):Prop
 |mk (a nd:WR) (t:Th) (m:List Int):vs=[.ref a,.ref nd]->AtK .p K H t a->t.size<=100000->H nd=A? (.dT (dS m))->(aR m (stT t)).length<=20->(∀(r:WR)(H':Hp),SameB nd H H'->H' nd=A? (.dT (dS (aR m (stT t))))->AtK .i K H' (ren (idx (aR m (stT t))) t) r->Q (.ref r) H')->iD K vs H Q _E
theorem lT:aU P w K mg base CX0 5 T.g_40.f T.g_40.d ["pattern","numbers"] (iD K):=by
 refine T.g_40.F.okA iF λAh A outer s H vs Q E hr h=>?_;obtain⟨a,nd,t,m,rfl,hA,hsz,FL,h20,k⟩:=h
 refine⟨_,(ad (bq Xr rfl (bS (pcF T.g_14 (i0 T) hr (aa (pv 0) ab))) (bp rfl (aj (pgN 2 iF.nd) (aj (pgN 3 iF.nd) aV))) (ae (aS (bW PySem.F.plainAttrs_dict Zn PySem.F.type_dict_setdefault (mR (j8 hr)) (pv 1) (aa (pv 2) (aa (ax jC rfl T.n_6 XD (aa (pv 1) ab)) ab))))))
  (ad (bK (aW pZ (ax jC rfl T.n_6 XD (aa (pv 1) ab)) (cC (v:=.int (20)) rfl T.c_MOST_STATES.choose_spec ⟨_,D?⟩) (aQ _)) (ae lY) bh)
  (ae (aw (pcF T.g_18 (qI T) hr (aa (pv 0) (aa (pv 1) ab))))))),?_⟩
 try dsimp only[Aw,Ad]
 refine⟨_,D?,a,t,D?,hA,hsz,λr as H1 s1 nr er Cu=>⟨r,D?,⟨_,n! er⟩,?_⟩⟩;have Br:(dM t).length=as.length:=W3 Cu;have KR:r≠nd:=λz=>by rw[z,FL]at nr;cases nr
 refine cE (K:=K) (a:=r) (xs:=as.map i!) (λi Z H3=>Ex2 λc2 c3=>An6 (Z=[A? (.ref a),A? (.ref nd),c2,c3]) (SameB nd H H3) (KT H H3) (H3 r=A? (.lst (as.map i!))) (Xp (CP .p H3) (dM t) as) (H3 nd=A? (.dT (dS (aR m ((stT t).take i))))))
  ⟨B?,B?,rfl,SameB.of s1,k! s1,er,Cu,by rw[Zk];exact s1 _ _ FL⟩ (λi Z H3 _⟨_,_,_,_,_,e,_,_⟩=>n! e) ?_ ?_
 .rintro i x Z H3 hx ⟨c2,c3,rfl,s3,k3,FN,Ce,EA⟩;refine hid λZZ kZ=>?_;obtain⟨ca,rfl,Ds⟩:=aH hx;obtain⟨⟨sn,kn⟩,hc,sv,KQ,Po⟩:=y! Ce Ds;obtain⟨pa,x,y,rfl,BM,Ff,ER,Ek,EZ⟩:=Po;refine kZ ?_;dsimp only at Ff KQ;have CN:[Xn x,Xn y]=kP sn:=by rw[Ff,wy Ek EZ]
  have AS:(stT t)[i]?=A? sn:=by unfold stT;rw[WZ,hc];rfl
  have AQ:aR m ((stT t).take (i+1))=fc (aR m ((stT t).take i)) sn:=by
   rw[take_snoc AS,cx];rfl
  have CF:(fc (aR m ((stT t).take i)) sn).length<=20:=by
   have h1:aR m (stT t)=aR (aR m ((stT t).take (i+1))) ((stT t).drop (i+1)):=by rw[<-cx,Zf]
   have h2:=(fb ((stT t).drop (i+1)) (aR m ((stT t).take (i+1)))).length_le;rw[<-h1,AQ]at h2;lia
  generalize aR m ((stT t).take i)=mi at EA AQ CF |-;have hmi:=(qL mi sn).length_le;refine⟨ca,_,D?,l! KQ,D?,_,_,D?,_,_,D?,D?,?_⟩;dsimp only[av];have hl:=mF mi;refine⟨_,D?,.inr (.inr (.inl ⟨D?,.inr ⟨_,EA⟩⟩)),_,D?,_,D?,nd,_,D?,EA,nd,pa,.int ((dS mi).length:Nat),kP sn,dS mi,D?,D?,EA,by rw[<-CN];exact BM,bR (by lia),λu hu=>?_,λhu=>?_⟩
  .have B7:sn∈mi:=by
    by_cases h:sn∈mi
    .exact h
    .rw[xX h]at hu;cases hu
   refine⟨_,_,D?,s3,k3,FN,Ce,?_⟩;rw[AQ];unfold fc;rw[b! B7];exact EA
  .have B7:sn∉mi:=λh=>by rw[ut h]at hu;cases hu
   have Pp:putK (dS mi) (kP sn) (.int ((dS mi).length:Nat))=dS (fc mi sn):=by
    rw[ja _ hu];unfold fc;rw[a! B7,vq,hl]
   rw[Pp];have k4:KT H3 (upd H3 nd (.dT (dS (fc mi sn)))):=λb xs e=>by rw[ai (eY e EA (λz=>nomatch z))];exact e
   refine⟨_,_,D?,λb o hb e=>by rw[ai hb];exact s3 b o hb e,k3.trans k4,by rw[ai KR];exact FN,x! (λ_ _ e=>CP.mono k4 e) Ce,by rw[ac,AQ]⟩
 .rintro Z H3 ⟨c2,c3,rfl,s3,k3,FN,Ce,EA⟩;have N8:(stT t).length=as.length:=by unfold stT;rw[WN];lia
  rw[Yn (by rw[WN];lia)]at EA;have hl:=mF (aR m (stT t));dsimp only[zG];refine cg (λAa H'=>An2 (H3=H') (Aa=[A? (.ref a),A? (.ref nd),c2,c3])) (λkk hk=>?_) ?_
  .refine⟨_,D?,nd,_,D?,EA,_,_,D?,D?,_,D?,?_⟩;refine cu (λc=>?_) (λc=>hk _ _ ⟨rfl,rfl⟩);have:=e! c;lia
  rintro Aa H' ⟨rfl,rfl⟩;exact⟨_,D?,_,D?,a,nd,t,idx (aR m (stT t)),_,D?,hA.mono k3,hsz,EA,λx y hs _ Ek EZ=>by rw[<-wy Ek EZ];exact ut (dE.mpr (.inr hs)),λr' H4 s4 h4=>k r' H4 (λb o hb e=>s4 _ _ (s3 b o hb e)) (s4 _ _ EA) h4⟩
def RowK(K:WQ)(H:Hp)(ts:List Th)(a:WR):Prop:=∃as:List WR,H a=A? (.tup (as.map i!))/\AtsK .i K H ts as
theorem RowK.mono(k:KT H H')(h:RowK K H ts a):RowK K H' ts a:=by
 obtain⟨as,h1,h2⟩:=h;exact⟨as,k _ _ h1,h2.mono k⟩
inductive kj(P:W6)(w:Xo)(K:WQ)(mg:Xk->Option WU)(base:Yd)(vs:List V)(H:Hp)(Q:VK)(_E:XK):Prop
 |mk (ia oa ha f:WR) (head:Th) (R:Int->List Th) (Mo:Sp):vs=[.ref ia,.ref oa,.ref ha,.ref f]->AtK .p K H head ha->head.size<=1000->(bO R head).length<=20->(∀s∈bO R head,(R s).length<=8/\∀t∈R s,t.size<=1000)->ze P w K mg base CX0 8 f Mo->(∀(H1:Hp)(s:Int)(pa:WR)(Z:VK),j! H H1->s∈bO R head->H1 pa=A? (.tup [.int (s / 1000),.int (s%1000)])->(∀(r:WR)(as:List WR)(H2:Hp),j! H1 H2->H2 r=A? (.lst (as.map i!))->AtsK .p K H2 (R s) as->Z (.ref r) H2)->Mo [.ref pa] H1 Z E0)->(∀(r fh rl:WR)(E2:List WR)(H':Hp),j! H H'->H' r=A? (.tup [.ref ia,.ref oa,.ref fh,.ref rl])->AtK .i K H' (ren (idx (bO R head)) head) fh->H' rl=A? (.tup (E2.map i!))->Xp (RowK K H') ((bO R head).map λs=>(R s).map (ren (idx (bO R head)))) E2->Q (.ref r) H')->kj P w K mg base vs H Q _E
theorem j4(a b:List Th):aT (a++b)=aT a++aT b:=List.flatMap_append
theorem vJ{s:Int}(h:m[i]?=A? s):(dS m)[i]?=A? (kP s,p! (i:Nat)):=by
 unfold dS;rw[WZ,List.getElem?_zipIdx,h];simp
theorem qC:aU P w K mg base CX0 9 T.g_41.f T.g_41.d ["ins","outs","head","patterns_of"] (kj P w K mg base):=by
 refine T.g_41.F.okA dz λAh A outer s H vs Q E hr h=>?_;obtain⟨ia,oa,ha,f,head,R,Mo,rfl,hA,hsz,EB,IC,Vn,Pq,k⟩:=h
 refine⟨_,(ad (am 4 dz.nd kX)
  (ad (am 5 dz.nd (pcF T.g_40 (lT T) hr (aa (pv 2) (aa (pv 4) ab))))
  (ad (am 6 dz.nd (bx ab))
  (ad (eV Xr (aW iy (ax aq rfl T.n_6 XD (aa (pv 6) ab)) (ax jC rfl T.n_6 XD (aa (pv 4) ab)) (aQ _)) (ad (am 7 dz.nd (aA bD (bG (lb rfl) rfl T.n_7 PyProof.Rows.boot_list (aa (pv 4) ab)) (ax aq rfl T.n_6 XD (aa (pv 6) ab)) (λ_ _=>rfl)))
  (ae (aS (bW Xf Xw Xv aO (pv 6) (aa (bG bv rfl T.n_13 XZ (aa (cq (N:=["pattern","numbers"]) (js:=[B?,A? 4]) (g:=(av 0)) (tt:=bE) (te:=(cZ (iD K) [] E0 (aI (bi 0) (aI (bi 1) cK)))) rfl (cp rfl (by decide +kernel) (by decide +kernel) rfl rfl rfl) (zV (xi (k:=8) (i:=3) rfl (Or.inl rfl) (hr.mono (by first|decide|lia)) gy (aa (pv 7) ab))) (λ_ _ _ _ _ _=>(pgN 0 aa7)) (aK rfl) (λ_ _ _ _ _ _=>bM) (λ_ _ _ _ _ _=>(pcF T.g_40 (lT T) hr (aa (pv 0) (aa (pv 1) ab))))) ab)) ab))))))
  (ae (aw (aE (aa (pv 0) (aa (pv 1) (aa (pv 5) (aa (bG bv rfl T.n_13 XZ (aa (pv 6) ab)) ab))))))))))),?_⟩
 try dsimp only[Aw,Ad]
 have EC:aR [] (stT head) <+: bO R head:=gS _ _ _ _;intro nd JM;dsimp only[av];refine gU JM λH1 s1 e1=>?_;have e1:H1 nd=A? (.dT (dS [])):=e1;refine⟨_,D?,_,D?,ha,nd,head,[],D?,hA.mono (k! s1),by lia,e1,XC EC.length_le EB,λfh H2 DB RP h2=>?_⟩;dsimp only[av];have Pr:ren (idx (aR [] (stT head))) head=ren (idx (bO R head)) head:=sr head λx hx=>(tX EC (dE.mpr (.inr hx))).symm;rw[Pr]at h2;have s2:j! H H2:=λb o e=>DB b o (az e JM) (s1 b o e);refine⟨lnE rfl,λrl C8=>?_⟩;have s3:j! H2 (upd H2 rl (.lst [])):=af C8 _;have e3:(upd H2 rl (.lst [])) rl=A? (.lst []):=ac;have Pu:H rl=none:=s2.free C8;have Gu:nd≠rl:=λz=>by rw[<-z,RP]at C8;cases C8
 generalize(upd H2 rl (.lst []))=H3 at s3 e3 |-
 refine⟨λmz Z H4=>Ex4 λ(i:Nat)(mm:List Int)(bs:List WR)(tv:Option V)=>v9 (Z=[A? (.ref ia),A? (.ref oa),A? (.ref ha),A? (.ref f),A? (.ref nd),A? (.ref fh),A? (.ref rl),tv]) (j! H H4) (H4 nd=A? (.dT (dS mm))) (H4 rl=A? (.lst (bs.map i!))) (Xp (RowK K H4) (((bO R head).take i).map λs=>(R s).map (ren (idx (bO R head)))) bs) (AtK .i K H4 (ren (idx (bO R head)) head) fh) (mm <+: bO R head) (bfs R (21 - i) mm i=bO R head) (i<=mm.length) (mz=21 - i),
  ⟨_,0,aR [] (stT head),[],B?,D?,s2.trans s3,s3 _ _ RP,e3,.nil,h2.mono (k! s3),EC,D?,Xh _,D?⟩,?_⟩
 rintro mz Z H4 ⟨i,mm,bs,tv,rfl,s4,Pw,Px,An,Mp,B6,FQ,hi,rfl⟩;have L6:=B6.length_le
 have Bf:bs.length=i:=by
  have:=W3 An;rw[WN,XS]at this;lia
 have OI:=mF mm;refine⟨_,D?,rl,_,D?,.inl (n! Px),_,D?,nd,_,D?,Pw,_,_,D?,D?,_,D?,?_⟩;refine cu (λcc=>?_) (λcc=>?_)
 .have Ak:i<mm.length:=by
   have:=e! cc;rw[WN]at this;lia
  refine⟨λAa H'=>∃m',m'<21 - i/\Ex4 λ(i:Nat)(mm:List Int)(bs:List WR)(tv:Option V)=>v9 (Aa=[A? (.ref ia),A? (.ref oa),A? (.ref ha),A? (.ref f),A? (.ref nd),A? (.ref fh),A? (.ref rl),tv]) (j! H H') (H' nd=A? (.dT (dS mm))) (H' rl=A? (.lst (bs.map i!))) (Xp (RowK K H') (((bO R head).take i).map λs=>(R s).map (ren (idx (bO R head)))) bs) (AtK .i K H' (ren (idx (bO R head)) head) fh) (mm <+: bO R head) (bfs R (21 - i) mm i=bO R head) (i<=mm.length) (m'=21 - i),λAa H' h=>h,?_⟩;obtain⟨sn,KS⟩:∃sn,mm[i]?=A? sn:=⟨_,WS Ak⟩
  have Gv:(bO R head)[i]?=A? sn:=by
   obtain⟨rr,Vo⟩:=B6;rw[<-Vo,Yw Ak];exact KS
  have RQ:sn∈bO R head:=WT Gv;refine⟨_,D?,nd,_,D?,Pw,λl Fq hl Py=>?_⟩;obtain⟨pa,DX,Pz⟩:=F! Py (vJ KS);refine gU hl λH5 s5 e5=>?_;have PD:=s5 _ _ Px;have Vp:=s5 _ _ Pw;have Vq:(bs.map i!).length=i:=by rw[WN];exact Bf
  refine⟨_,D?,rl,_,D?,.inl (n! PD),l,_,_,.ref pa,D?,D?,n! e5,at_nonneg (by lia) (by rw[Vq,XH,WZ,DX];rfl),?_⟩;dsimp only[av];refine⟨_,D?,.inl ⟨D?,_,n! PD⟩,f,Mo,D?,Vn,_,D?,Pq H5 sn pa _ (s4.trans s5) RQ (s5 _ _ Pz) λr as H6 s6 Mq Ep=>⟨r,D?,.inl ⟨⟨_,n! Mq⟩,?_⟩⟩⟩;obtain⟨KU,Gw⟩:=IC sn RQ;generalize Af:R sn=row at Ep KU Gw;have Bc:=Ep.length
  have KW:bfs R (21 - i) mm i=bfs R (21 - (i+1)) (aR mm (aT row)) (i+1):=by
   rw[show 21 - i=(21 - (i+1))+1 by lia,bfs,KS];show bfs R (21 - (i+1)) (aR mm (aT (R sn))) (i+1)=_;rw[Af]
  rw[KW]at FQ;have Gx:aR mm (aT row) <+: bO R head:=by rw[<-FQ];exact gS _ _ _ _
  have Mr:=s6 _ _ Vp;have KY:=s6 _ _ PD;have Mt:=s4.trans (s5.trans s6);have PF:r≠nd:=λz=>by rw[z,Mr]at Mq;cases Mq
  intro D hD;have HL:D≠nd:=λz=>by rw[z,Mr]at hD;cases hD
  have Vr:D≠rl:=λz=>by rw[z,KY]at hD;cases hD
  have EW:∀(H7:Hp),SameB nd H6 H7->KT H6 H7:=λH7 sb b xs e=>sb b _ (eY e Mr (λz=>nomatch z)) e
  refine⟨as.length,λj H7=>An4 (j<=as.length) (SameB nd H6 H7) (H7 nd=A? (.dT (dS (aR mm (aT (row.take j)))))) (Ex1 λ(ds:List WR)=>An2 (H7 D=A? (.lst (ds.map i!))) (AtsK .i K H7 ((row.take j).map (ren (idx (bO R head)))) ds)),
   ⟨Xh _,SameB.of (af hD _),by rw[ai HL.symm];exact Mr,[],ac,.nil⟩,?_⟩
  rintro j H7 ⟨hj,ED,Mu,ds,eD,BC⟩;have PH:H7 r=A? (.lst (as.map i!)):=ED _ _ PF Mq
  have Dn:ds.length=j:=by
   have:=BC.length;rw[WN,XS]at this;lia
  by_cases B0:j=as.length
  .left;refine⟨⟨_,n! PH,by rw[WN,B0];exact WW _⟩,?_⟩;have Ac:row.take j=row:=by rw[B0,Bc,Yh]
   rw[Ac]at BC Mu;have KZ:j! H H7:=λb o e=>ED b o (az e JM) (Mt b o e);have PJ:H7 rl=A? (.lst (bs.map i!)):=ED _ _ Gu.symm KY;refine⟨D,_,D?,.inl ⟨n! eD,λtp CL=>?_⟩⟩;refine gU CL λH8 s8 e8=>?_;have RR:=s8 _ _ PJ;refine⟨rl,_,_,D?,D?,RR,lbE (by lia),?_⟩;have k9:KT H8 (upd H8 rl (.lst (bs.map i!++[.ref tp]))):=aL RR;have RS:KT H4 (upd H8 rl (.lst (bs.map i!++[.ref tp]))):=((k! (s5.trans s6)).trans (EW H7 ED)).trans ((k! s8).trans k9);refine⟨21 - (i+1),by lia,i+1,aR mm (aT row),bs++[tp],_,D?,ak (KZ.trans s8) Pu,by rw[ai Gu];exact s8 _ _ Mu,uAE,?_,Mp.mono RS,Gx,FQ,XC Ak (fb _ _).length_le,D?⟩;rw[take_snoc Gv,W8];refine r! (x! (λ_ _ e=>RowK.mono RS e) An) (.cons ⟨ds,k9 _ _ e8,?_⟩ .nil);dsimp only;rw[Af];exact BC.mono ((k! s8).trans k9)
  .right;have Au:j<as.length:=by lia
   refine⟨Au,⟨_,.ref as[j],n! PH,by rw[WZ,WS Au];rfl⟩,?_⟩;rintro y H8 ⟨rfl,hv⟩;have AU:=hv _ (n! PH);obtain⟨ta,rfl,Dq⟩:=aH AU;obtain⟨t,ht,Cq⟩:=(Ep.mono (EW _ ED)).get Dq;have AQ:row.take (j+1)=row.take j++[t]:=by rw[XU,ht];rfl
   have EE:aR mm (aT (row.take (j+1)))=aR (aR mm (aT (row.take j))) (stT t):=by
    rw[AQ,j4,cx];show aR _ (stT t++[])=_;rw[Xs]
   have PK:aR mm (aT (row.take (j+1))) <+: bO R head:=by
    refine List.IsPrefix.trans ?_ Gx;have:aR mm (aT row)=aR (aR mm (aT (row.take (j+1)))) (aT (row.drop (j+1))):=by rw[<-cx,<-j4,Zf]
    rw[this];exact fb _ _
   rw[EE]at PK;have hzt:=Gw t (WT ht);refine⟨_,D?,_,D?,ta,nd,t,_,D?,Cq,by lia,Mu,XC PK.length_le EB,λr' H9 PL Vs h9=>?_⟩;have Vt:ren (idx (aR (aR mm (aT (row.take j))) (stT t))) t=ren (idx (bO R head)) t:=sr t λx hx=>(tX PK (dE.mpr (.inr hx))).symm;rw[Vt]at h9;have RT:=PL _ _ HL eD;have Vu:KT H8 H9:=λb xs e=>PL b _ (eY e Mu (λz=>nomatch z)) e;have kA:KT H9 (upd H9 D (.lst (ds.map i!++[.ref r']))):=aL RT;refine⟨_,RT,lbE (by lia),Au,λb o hb e=>?_,?_,ds++[r'],?_,?_⟩
   .rw[ai (az e hD)];exact PL b o hb (ED b o hb e)
   .rw[ai HL.symm,EE];exact Vs
   .rw[ac,W8];rfl
   .rw[AQ,W8];exact(BC.mono (Vu.trans kA)).append (.cons (h9.mono kA) .nil)
 .have G1:i=mm.length:=by
   by_cases h:i<mm.length
   .exact g! (d! (by rw[WN];lia)) cc
   .lia
  have Vv:bO R head=mm:=by rw[<-FQ,yL _ _ _ _ (by lia)]
  have AQ:(bO R head).take i=bO R head:=by rw[Yn (by rw[Vv];lia)]
  rw[AQ]at An;refine⟨_,D?,_,D?,_,D?,_,D?,rl,_,D?,.inl ⟨n! Px,λrt Pk=>⟨lnE rfl,λr AR=>?_⟩⟩⟩;have t1:=af Pk (.tup (bs.map i!));have t2:=af AR (.tup [.ref ia,.ref oa,.ref fh,.ref rt]);have PM:=t1.trans t2;exact k r fh rt bs _ (s4.trans PM) ac (Mp.mono (k! PM)) (t2 _ _ ac) (x! (λ_ _ e=>RowK.mono (k! PM) e) An)
theorem tT{f:Th}(h:f.noCall):f.nh<=f.size:=by
 have h1:=fZ (λ_=>hole) f 0 h;rw[<-rb [] f _ h1];exact zO [] h1
inductive gB(K:WQ)(vs:List V)(H:Hp)(Q:VK)(_E:XK):Prop
 |mk (fl:WR) (fs:List WR) (fr:Nat->Th) (N:Nat):vs=[.ref fl]->H fl=A? (.lst (fs.map i!))->Xp (λs a=>AtK .i K H (fr s) a) (Xq N) fs->N<=20->(∀s,s<N->(fr s).noCall/\(fr s).size<=200/\(fr s).tall<=100)->(∀(r:WR)(f':List (List Key×V))(H':Hp),j! H H'->H' r=A? (.dT f')->(∀(s k:Nat),s<N->k<3->∃a,aN f' [Xn (s:Int),Xn (k:Int)]=A? (.ref a)/\AtK .p K H' (hgF fr (s:Nat) (k:Nat)) a)->Q (.ref r) H')->gB K vs H Q _E
theorem lv:aU P w K mg base CX0 8 T.g_42.f T.g_42.d ["fronts"] (gB K):=by
 refine T.g_42.F.okA bX λAh A outer s H vs Q E hr h=>?_;obtain⟨fl,fs,fr,N,rfl,FK,E1,hN,LM,q⟩:=h
 refine⟨_,(ad (am 1 bX.nd kX)
  (ad (bq Xr rfl (lg rfl T.n_3 (pv 0)) (bp rfl (aj (pgN 2 bX.nd) (aj (pgN 3 bX.nd) aV))) (ae (bq Xr rfl (bF rfl T.n_10 (aa (cC (v:=.int (3)) rfl T.c_MOST_KIDS.choose_spec ⟨_,D?⟩) ab)) (pgN 4 bX.nd) (ad (dr (i:=5) (N:=["hole","kid","state"]) (js:=[B?,A? 4,A? 2]) (g:=(av 0)) (tt:=bE) (te:=(kD (aI (tC (.str (Xz "?"))) (aI (kD (aI (bi 2) (aI (bi 0) cK))) (aI (bi 1) cK))))) bX.nd rfl (Or.inl rfl) rfl (cp rfl (by decide +kernel) (by decide +kernel) rfl rfl rfl) (bF rfl T.n_10 (aa (ax aq rfl T.n_6 XD (aa (pcF T.g_15 (gC T) hr (aa (pv 3) ab)) ab)) ab)) (λ_ _ _ _ _ _=>(pgN 0 aaJ)) (aK rfl) (λ_ _ _ _ _ _=>bM) (λ_ _ _ _ _ _=>(aE (aa (cC (v:=.str (Xz "?")) rfl T.c_CALL_SIGN.choose_spec ⟨_,D?⟩) (aa (aE (aa (pv 2) (aa (pv 0) ab))) (aa (pv 1) ab))))))
  (ae (tP (j8 hr) (pv 1) (aE (aa (pv 2) (aa (pv 4) ab))) (pcF T.g_19 (yS T) hr (aa (pv 3) (aa (pv 5) ab))) rfl))))))
  (ae (aw (pv 1))))),?_⟩
 try dsimp only[Aw,Ad]
 have Hr:(Xq N).length=fs.length:=W3 E1;rw[Xj]at Hr;intro td Hk;dsimp only[av];refine gU Hk λH1 s1 e1=>?_;refine⟨_,D?,fl,D?,⟨_,n! (s1 _ _ FK)⟩,?_⟩
 refine nE (K:=K) (a:=fl) (xs:=fs.map i!) (λi Z H2=>Ex5 λ(c2 c3 c4 c5:Option V)(tk:List (List Key×V))=>An5 (Z=[A? (.ref fl),A? (.ref td),c2,c3,c4,c5]) (j! H H2) (H2 td=A? (.dT tk)) (tk.length<=3 * i) (∀(s k:Nat),s<i->k<3->∃a,aN tk [Xn (s:Int),Xn (k:Int)]=A? (.ref a)/\AtK .p K H2 (hgF fr (s:Nat) (k:Nat)) a))
  ⟨B?,B?,B?,B?,[],rfl,s1,e1,Xh _,λs k h=>g! h (ZK _)⟩ (λi Z H2 _⟨_,_,_,_,_,_,s2,_,_,_⟩=>n! (s2 _ _ FK)) ?_ ?_
 .rintro i x pr Z H2 hx Bu ⟨c2,c3,c4,c5,tk,rfl,s2,et,hlen,Ac⟩;obtain⟨fa,rfl,BN⟩:=aH hx;have Ck:=(glE BN);have RU:i<N:=by lia
  obtain⟨s',Dj,Cq⟩:=y! E1 BN;rw[XY RU]at Dj;cases Dj;obtain⟨z1,z2,z3⟩:=LM i RU;have Vw:=tT z1;refine gU Bu λH3 s3 e3=>?_;refine⟨pr,_,D?,l! e3,D?,_,_,D?,_,_,D?,D?,?_⟩;dsimp only[av];refine⟨3,D?,by decide,by decide,?_⟩
  refine dg (n:=3) (λj Z H4=>Ex3 λ(c4 c5:Option V)(tk:List (List Key×V))=>An5 (Z=[A? (.ref fl),A? (.ref td),A? (.int ((i:Nat):Int)),A? (.ref fa),c4,c5]) (j! H H4) (H4 td=A? (.dT tk)) (tk.length<=3 * i+j) (∀(s k:Nat),(s<i/\k<3\/s=i/\k<j)->∃a,aN tk [Xn (s:Int),Xn (k:Int)]=A? (.ref a)/\AtK .p K H4 (hgF fr (s:Nat) (k:Nat)) a))
   ⟨_,_,tk,rfl,s2.trans s3,s3 _ _ et,hlen,λs k h=>by
    rcases h with h|h
    .obtain⟨a,a1,a2⟩:=Ac s k h.1 h.2;exact⟨a,a1,a2.mono (k! s3)⟩
    .lia⟩ ?_ ?_
  .rintro j Z H4 hj ⟨c4,c5,tk,rfl,s4,Hm,K0,EF⟩;have hj3:j<3:=hj;have K1:=Cq.mono (k! s4);refine⟨_,D?,fa,_,D?,K1,by lia,by lia,λhl bs H5 s5 Gn An=>?_⟩
   have Bf:bs.length=(fr i).nh:=by
    have h1:=W3 An;have h2:=h! Zu (jA [] (fr i) _ (fZ (λ_=>hole) (fr i) 0 z1));rw[WN,WN,rb [] _ _ (fZ (λ_=>hole) (fr i) 0 z1)]at h2;rw[<-h1,WN];exact h2
   refine⟨hl,_,D?,.inl (n! Gn),_,D?,by lia,by rw[WN];lia,ig (F:=AtK .p K) (xs:=(Xq bs.length).map λ(m:Nat)=>p! (m:Nat)) ((Xq bs.length).map λ(m:Nat)=>z! (enc (i:Nat) (m:Nat)) (j:Nat)) (λH1 H2 z p kt h=>h.mono kt) (by rw[WN,WN]) (by rw[WN,Xj];lia) (λm Hx sx hi=>by rw[WN,Xj]at hi;show m<(((bs.map i!).length:Nat):Int).toNat;rw[WN];lia) (λHx sx=>by show(((bs.map i!).length:Nat):Int).toNat<=((Xq bs.length).map λ(m:Nat)=>p! (m:Nat)).length;rw[WN,WN,Xj];lia) (λm Hx x Hy sx hi hy=>⟨hy.1,?_⟩) (λm y z Hx R W' hy B1 sx hR=>?_) (λD H6 cs hD s6 e6 DG=>?_)⟩
   .rw[WN,Xj]at hi;rw[WZ,XY hi,hy.2];show A? (p! ((m:Nat):Int))=A? (p! (0+((m:Nat):Int)));rw[Yq]
   .have hi:m<bs.length:=by
     have:=(glE B1);rw[WN,Xj]at this;exact this
    rw[WZ,XY hi]at hy B1;cases hy;cases B1;refine⟨_,D?,_,D?,lnE rfl,λpp J1=>?_⟩;refine gU J1 λHy sp ep=>?_;refine⟨_,D?,lnE rfl,λca Ds=>hR _ ca (sp.trans (af Ds _)) ?_⟩;rw[AtK,Yq];exact⟨_,.of ac,pp,_,_,D?,af Ds _ _ _ ep,D?,by lia,by lia,by lia⟩
   have K2:=s5.trans s6
   have hws:AtsK .p K H6 (((fr i).hw [] (hgF fr (i:Nat) (j:Nat))).map (·.2)) cs:=by
    have e:=vS (λm=>z! (enc (i:Nat) (m:Nat)) (j:Nat)) [] (fr i) 0 z1;rw[show hgF fr (i:Nat) (j:Nat)=(fr i).hg (λm=>z! (enc (i:Nat) (m:Nat)) (j:Nat)) 0 from by unfold hgF;rw[XH],e,<-List.range_eq_range',<-Bf];exact pC DG
   have PN:(fr i).lies (hgF fr (i:Nat) (j:Nat))=true:=by
    unfold hgF;rw[XH];exact fZ _ _ _ z1
   refine⟨_,D?,_,D?,.p,fa,D,fr i,hgF fr (i:Nat) (j:Nat),cs,D?,K1.mono (k! K2),by lia,by lia,z1,PN,(λp hp=>?_),e6,hws,λr H7 s7 PQ=>?_⟩
   .have Bs:p.2∈((fr i).hw [] (hgF fr (i:Nat) (j:Nat))).map (·.2):=Xy.mpr ⟨p,hp,rfl⟩;have e:=vS (λm=>z! (enc (i:Nat) (m:Nat)) (j:Nat)) [] (fr i) 0 z1;rw[show hgF fr (i:Nat) (j:Nat)=(fr i).hg (λm=>z! (enc (i:Nat) (m:Nat)) (j:Nat)) 0 from by unfold hgF;rw[XH],e]at Bs;obtain⟨m,_,hm⟩:=Xy.mp Bs;rw[<-hm,q!];decide
   refine⟨_,D?,_,D?,_,D?,lnE rfl,λkp CN=>?_⟩;refine gU CN λH8 s8 e8=>?_;have e8:H8 kp=A? (.tup ([Xn ((i:Nat):Int),Xn (0+((j:Nat):Int))].map kV)):=e8;have PR:=K2.trans (s7.trans s8);have RV:=PR _ _ Hm;refine⟨td,_,D?,DPut.t RV e8 (bR (by lia)),?_⟩
   have Hz:KT H8 (upd H8 td (.dT (putK tk [Xn ((i:Nat):Int),Xn (0+((j:Nat):Int))] (.ref r)))):=λc ys ec=>by
    rw[ai (eY ec RV (λz=>nomatch z))];exact ec
   refine⟨_,_,_,D?,ak (s4.trans PR) Hk,ac,?_,λs k h=>?_⟩
   .have:=bz tk [Xn ((i:Nat):Int),Xn (0+((j:Nat):Int))] (i! r);lia
   .rw[fO];by_cases AN:([Xn ((s:Nat):Int),Xn ((k:Nat):Int)]:List Key)=[Xn ((i:Nat):Int),Xn (0+((j:Nat):Int))]
    .rw[b! AN];injection AN with e1 e2;have CD:((s:Nat):Int)=(i:Nat):=YM e1;injection e2 with e3 _;have e3':((k:Nat):Int)=0+(j:Nat):=YM e3;obtain rfl:s=i:=by lia
     obtain rfl:k=j:=by lia
     exact⟨r,D?,(PQ.mono (k! s8)).mono Hz⟩
    .rw[a! AN]
     have Ak:s<i/\k<3\/s=i/\k<j:=by
      rcases h with h|h
      .exact .inl h
      .by_cases hk:k=j
       .exact g! (by rw[h.1,hk,Yq]) AN
       .exact .inr ⟨h.1,by lia⟩
     obtain⟨a,a1,a2⟩:=EF s k Ak;exact⟨a,a1,(a2.mono (k! PR)).mono Hz⟩
  .rintro Z H4 ⟨c4,c5,tk,rfl,s4,Hm,K0,EF⟩;exact⟨_,_,_,_,tk,D?,s4,Hm,by lia,λs k hs hk=>EF s k (by lia)⟩
 .rintro Z H2 ⟨c2,c3,c4,c5,tk,rfl,s2,et,hlen,Ac⟩;rw[WN,<-Hr]at Ac;exact⟨_,D?,q td tk H2 s2 et Ac⟩
inductive mw(vs:List V)(H:Hp)(Q:VK)(_E:XK):Prop
 |mk (b:WR) (v1 v2 v3 v4:V):vs=[.ref b]->H b=A? (.tup [v1,v2,v3,v4])->Q v2 H->mw  vs H Q _E
theorem sK:aU P w K mg base CX0 1 T.g_27.f T.g_27.d ["book"] mw:=by
 refine T.g_27.F.okA sJ λAh A outer s H vs Q E hr h=>?_;obtain⟨b,v1,v2,v3,v4,rfl,e,q⟩:=h;refine⟨_,(ae (aw (aA aD (pv 0) ag (λ_ _=>rfl)))),?_⟩
 try dsimp only[Aw,Ad]
 exact⟨_,D?,b,_,1,v2,D?,D?,l! e,bP (j:=1) rfl,q⟩
inductive li(vs:List V)(H:Hp)(Q:VK)(_E:XK):Prop
 |mk (b:WR) (v1 v2 v3 v4:V):vs=[.ref b]->H b=A? (.tup [v1,v2,v3,v4])->Q v3 H->li  vs H Q _E
theorem rJ:aU P w K mg base CX0 1 T.g_28.f T.g_28.d ["book"] li:=by
 refine T.g_28.F.okA rK λAh A outer s H vs Q E hr h=>?_;obtain⟨b,v1,v2,v3,v4,rfl,e,q⟩:=h;refine⟨_,(ae (aw (aA aD (pv 0) ag (λ_ _=>rfl)))),?_⟩
 try dsimp only[Aw,Ad]
 exact⟨_,D?,b,_,2,v3,D?,D?,l! e,bP (j:=2) rfl,q⟩
def aX:Stmt:=match bN iB with
 | [_,_,st,_]=>st
 |_=>.Pass ⟨0,0,0,0⟩
def ndP:Stmt->Arguments
 |.FunctionDef _ p _ _ _ _ _ _ _ _=>p
 |_=>bZ iB
def ndB:Stmt->List Stmt
 |.FunctionDef _ _ b _ _ _ _ _ _ _=>b
 |_=>[]
def ndS:Stmt->Z5
 |.FunctionDef _ _ _ _ _ _ s _ _ _=>s
 |_=>aJ iB
def xo:Stmt->Z2
 |.FunctionDef _ _ _ _ _ _ _ _ _ p=>p
 |_=>⟨0,0,0,0⟩
def ndQ:Xk:="earliest.<locals>."++"patterns_of"
def ll(ins:List (Xk×Int))(rows:List (List Th))(f':List (ay×V))(s:Nat):Th:=(frS ins rows s).cut (Dk f' (s:Nat)) []
abbrev clE(c1 c2 c3:WR):List (Xk×WR):=[("table",c3),("fronts",c2),("book",c1)]
inductive oS(P:W6)(w:Xo)(K:WQ)(f c' c1 c2 c3:WR)(vs:List V)(H:Hp)(Q:VK)(_E:XK):Prop
 |mk (pa b fl td:WR) (x:Int) (fs:List WR) (f':List (List Key×V)) (ins outs:List (Xk×Int)) (F:Nat->Th) (head:Th) (rows:List (List Th)):vs=[.ref pa]->NestAt H f c' "patterns_of" ndQ (ndP aX) (ndB aX) (ndS aX) (clE c1 c2 c3)->CodeAt H c' ndQ->CellAt H c1 (.ref b)->CellAt H c2 (.ref fl)->CellAt H c3 (.ref td)->H pa=A? (.tup [.int (x / 1000),.int (x%1000)])->Bk H ins outs head rows b->EaOk ins outs F head rows->mO F rows.length x->H fl=A? (.lst (fs.map i!))->Xp (λs a=>AtK .i K H (F s) a) (Xq rows.length) fs->H td=A? (.dT f')->(∀(s k:Nat),s<rows.length->k<3->∃a,aN f' [Xn (s:Int),Xn (k:Int)]=A? (.ref a)/\AtK .p K H (hgF F (s:Nat) (k:Nat)) a)->(∀(r:WR)(as:List WR)(H':Hp),j! H H'->H' r=A? (.lst (as.map i!))->AtsK .p K H' (eaR F rows x) as->Q (.ref r) H')->oS P w K f c' c1 c2 c3 vs H Q _E
theorem kO:(["pair","book","fronts","table","state","hole","place"]:List Xk).Nodup:=by decide +kernel
theorem yc(c1 c2 c3:WR)(Ap:[c3,c2,c1].Nodup):nF ["pair","book","fronts","table","state","hole","place"] ["pair"] ["book","fronts","table"] "place" (clE c1 c2 c3) (ndS aX):=by
 refine⟨D?,D?,D?,kO,D?,by decide +kernel,by decide +kernel,λn=>rfl,λh=>rfl,λx h=>?_,λx h=>?_,λx y c h1 h2=>aai (cl:=clE c1 c2 c3) Ap h1 h2,by decide +kernel,λx h=>?_⟩
 .have hm:=Yl h;have Ac:∀z∈(ndS aX).names,z.2=.cell->z.1="place":=by decide +kernel
  exact Ac _ hm rfl
 .have hm:=Yl h;have Ac:∀z∈(ndS aX).names,z.2=.free->z.1="book"\/z.1="fronts"\/z.1="table":=by decide +kernel
  rcases Ac _ hm rfl with e|e|e
  .exact⟨c1,by rw[show x="book" from e];rfl⟩
  .exact⟨c2,by rw[show x="fronts" from e];rfl⟩
  .exact⟨c3,by rw[show x="table" from e];rfl⟩
 .have hm:=Yl h;have Ac:∀z∈(ndS aX).names,z.2=.free->(z.1 == ("place":Xk))=false:=by decide +kernel
  exact Ac _ hm rfl
theorem tM{c1 c2 c3:WR}{v1 v2 v3:V}(h1:CellAt H c1 v1)(h2:CellAt H c2 v2)(h3:CellAt H c3 v3):Exts ((clE c1 c2 c3).map (·.2)) H:=λb hb=>by
 have AD:b∈[c3,c2,c1]:=hb;rcases W7.mp AD with e|AD
 .obtain⟨φ,z,_⟩:=h3;exact⟨φ,by rw[e];exact z⟩
 rcases W7.mp AD with e|AD
 .obtain⟨φ,z,_⟩:=h2;exact⟨φ,by rw[e];exact z⟩
 .obtain⟨φ,z,_⟩:=h1;exact⟨φ,by rw[Xc.mp AD];exact z⟩
include T in
theorem yp(f c' c1 c2 c3:WR)(Ap:[c3,c2,c1].Nodup):ze P w K mg base CX0 8 f (oS P w K f c' c1 c2 c3):=by
 refine yy (k:=7) (c':=c') (name:="patterns_of") (qual:=ndQ) (params:=ndP aX) (body:=ndB aX) (yc c1 c2 c3 Ap) (λdoc pm DE us hl=>?_) (λvs H Q E h=>?_) λA outer s H vs Q E hr h=>?_
 .obtain⟨u,rfl⟩:=us1 hl;rfl
 .obtain⟨pa,b,fl,td,x,fs,f',ins,outs,F,head,rows,rfl,hn,hc,h1,h2,h3,_⟩:=h;refine⟨D?,hn,hc,tM h1 h2 h3,λx c hx=>?_⟩;have e1:=Yl hx;rcases W7.mp e1 with e|e1
  .cases e;exact⟨_,h3⟩
  rcases W7.mp e1 with e|e1
  .cases e;exact⟨_,h2⟩
  .cases Xc.mp e1;exact⟨_,h1⟩
 .obtain⟨pa,b,fl,td,x,fs,f',ins,outs,F,head,rows,rfl,hn,hc,h1,h2,h3,BM,bk,J,hx,FK,E1,PU,Ac,kq⟩:=h;have Fg:=tM h1 h2 h3;have kf:=aah Fg;have K3:=qV Fg FK (λφ z=>nomatch z);have K4:=qV Fg PU (λφ z=>nomatch z)
  refine⟨_,[.ref b,.ref fl,.ref td],.cons ⟨c1,D?,h1⟩ (.cons ⟨c2,D?,h2⟩ (.cons ⟨c3,D?,h3⟩ .nil)),(ad (fw (pv 0) (bp rfl (aj (pgN 4 kO) (aj (pgN 5 kO) aV))))
   (ad (am 6 kO (aA bD (pcF T.g_15 (gC T) hr (aa (aA bD (pv 2) (pv 4) (λ_ _=>rfl)) ab)) (pv 5) (λ_ _=>rfl)))
   (ae (aw (cq (N:=["pattern","place","table"]) (js:=[B?,A? 6,A? 3]) (g:=(av 0)) (tt:=bE) (te:=(cZ (iG K) [] E0 (aI (cZ (iP K) [] E0 (aI (cZ (jJ P w K) [] E0 (aI (bi 0) (aI (bi 2) cK))) (aI (bi 1) cK))) cK))) rfl (cp rfl (by decide +kernel) (by decide +kernel) rfl rfl rfl) (dH (aA aD (pcF T.g_29 (dF T) hr (aa (pv 1) ab)) (pv 4) (λ_ _=>rfl))) (λ_ _ _ _ _ _=>(pgN 0 aa6)) (aK rfl) (λ_ _ _ _ _ _=>bM) (λ_ _ _ _ _ _=>(pcF T.g_43 (kY T) hr (aa (pcF T.g_8 (rV T) hr (aa (pcF T.g_17 (ie T) hr (aa (pv 0) (aa (pv 2) ab))) (aa (pv 1) ab))) ab)))))))),?_⟩
  generalize Vx:fgt ((clE c1 c2 c3).map (·.2)) H=H0 at kf K3 K4 |-;refine hid λZZ kZ=>?_;obtain⟨ia,oa,ha,ra,Ag,Az,AE,bk⟩:=bk.mono kf;obtain⟨row,Af,Di,hlen,DD⟩:=J.row hx;obtain⟨AM,Be,ID,PV,CQ⟩:=F! bk.rw Af;have Ay:ID.length=row.length:=CQ.length;have hle:=J.gi.le;obtain⟨ER,Fy,Cn⟩:=id hx;obtain⟨z1,z2,z3⟩:=J.fr _ Fy;have Vw:=tT z1;obtain⟨fa,BN,Cq⟩:=F! E1 (XY Fy);refine kZ ?_;refine⟨_,D?,pa,_,D?,l! (kf _ _ BM),D?,_,_,D?,_,_,D?,D?,?_⟩;dsimp only[av];refine⟨_,D?,_,D?,fl,_,_,.ref fa,D?,D?,n! K3,at_nonneg ER (gmE BN),fa,F (x / 1000).toNat,D?,Cq.mono kf,by lia,by lia,λhl bs H1 s1 Gn An=>?_⟩;have EX:∀t,(F (x / 1000).toNat).lies t=C?->(((F (x / 1000).toNat).pl []).filter λp=>p.2.isHole).map (·.1)=((F (x / 1000).toNat).hw [] t).map (·.1):=λt ht=>jA [] _ t ht;have RW:=fZ (λ_=>hole) (F (x / 1000).toNat) 0 z1;refine hid λZZ kZ=>?_;obtain⟨pl,AK⟩:∃pl,((((F (x / 1000).toNat).pl []).filter λp=>p.2.isHole).map (·.1))[(x%1000).toNat]?=A? pl:=⟨_,WS (by rw[EX _ RW,WN,rb [] _ _ RW];exact Cn)⟩;obtain⟨Ke,PX,PY⟩:=F! (show Xp (λ(p:List Int)b=>H1 b=A? (.tup (p.map p!))) _ bs from An) AK;refine kZ ?_;refine⟨_,D?,hl,_,_,.ref Ke,D?,D?,n! Gn,at_nonneg (by lia) (gmE PX),?_⟩;dsimp only[av];have k1:=k! s1;refine⟨_,D?,b,_,_,_,_,D?,k1 _ _ bk.bk,_,D?,ra,_,_,.ref AM,D?,D?,l! (k1 _ _ bk.rl),at_nonneg ER (gmE Be),?_⟩;have Mv:=k1 _ _ PV;have K5:=CQ.mono k1;refine⟨AM,D?,⟨_,l! Mv⟩,ig (F:=AtK .p K) (xs:=ID.map i!) (row.map (eaU F x)) (λH1 H2 z p kt h=>h.mono kt) (by rw[WN,WN];lia) (by rw[WN];lia) (λi Hx sx hi=>⟨_,_,l! (sx _ _ Mv),WS hi⟩) (λHx sx=>⟨_,l! (sx _ _ Mv),WW _⟩) (λi Hx x Hy sx hi hy=>⟨hy.1,hy.2 _ (l! (sx _ _ Mv))⟩) (λi y z Hx R W' hy B1 sx hR=>?_) (λD Hx as hD sx eD DG=>?_)⟩
  .refine hid λZZ kZ=>?_;obtain⟨ua,rfl,Eo⟩:=aH hy;obtain⟨u,hu,HJ⟩:=K5.get Eo;rw[WZ,hu]at B1;cases B1;have HM:=WT hu;obtain⟨C,hC,hC3⟩:=DD u HM;obtain⟨RX,_,g1,g2,g3⟩:=J.at hx Af HM;refine kZ ?_
   have e2:RX=pl:=by
    have h5:=AK;rw[EX _ (J.lies Af HM hC),WZ,g1]at h5;exact Xm h5
   subst e2;have kx:=k! sx;have Ez:=J.smR row (WT Af) u HM;have K6:=Ez.size;have hz7:=g3.size;have E7:u.size<=600:=XC (oo _ _) K6;refine⟨_,D?,_,D?,.p,ua,td,u,hgF F,D?,(HJ.mono kx).k,by lia,λl k' hc=>?_,λr1 H3 s3 h3=>?_⟩
   .refine hid λZZ kZ=>?_;obtain⟨a1,a2,a3,a4⟩:=jO hC hc;have Ij:k'.toNat<3:=by lia
    obtain⟨v,v1,v2⟩:=Ac l.toNat k'.toNat (by lia) Ij;refine kZ ?_;rw[Yu a1,Yu a3]at v1 v2;have h8:=lh F l k';have h9:=J.fr l.toNat (by lia);exact⟨v,((v2.mono kf).mono k1).mono kx,by lia,λH5 ca sv s5 hs BS=>wH (sx _ _ (s1 _ _ K4)) v1 s5 hs BS⟩
   refine⟨_,D?,r1,Ke,eaP F u,eaU F x u,RX,D?,h3,(k! (sx.trans s3)) _ _ PY,g2,λr2 H4 s4 h4=>?_⟩;refine⟨r2,_,D?,h4,by lia,g3,λH5 s5=>hR H5 r2 (s3.trans (s4.trans s5)) (h4.mono (k! s5))⟩
  .intro LI;subst Vx;have sR:=v7 (H:=H) LI;refine kq D as _ (vO (s1.trans sx)) (sR _ _ eD) ?_;unfold eaR;rw[Di];exact(show AtsK .p K Hx _ as from pC DG).mono (k! sR)
inductive kb(P:W6)(w:Xo)(K:WQ)(tp:WR)(vs:List V)(H:Hp)(Q:VK)(_E:XK):Prop
 |mk (b ia oa ha ra:WR) (Ag Az AE:List WR) (ins outs:List (Xk×Int)) (head:Th) (rows:List (List Th)):vs=[.ref b]->BookAt H ins outs head rows b ia oa ha ra Ag Az AE->FrB ins outs rows->cN outs->(∀f':List (ay×V),FrD ins rows (f'.map (·.1))->EaOk ins outs (ll ins rows f') head rows)->TabSt H tp (xo aX) ndQ->(∀(r fh rl:WR)(E2:List WR)(f':List (ay×V))(F:Nat->Th)(M:List Int)(H':Hp),FrD ins rows (f'.map (·.1))->KeyM ins rows f'->F=ll ins rows f'->M=bO (eaR F rows) (eaP F head)->SameT tp H H'->TabSt H' tp (xo aX) ndQ->H' r=A? (.tup [.ref ia,.ref oa,.ref fh,.ref rl])->AtK .i K H' (ren (idx M) (eaP F head)) fh->H' rl=A? (.tup (E2.map i!))->Xp (RowK K H') (M.map λx=>(eaR F rows x).map (ren (idx M))) E2->Q (.ref r) H')->kb P w K tp vs H Q _E
theorem jW(L:Lam mg base T.g_44.tc T.g_44.tp):aU P w K mg base CX0 10 T.g_44.f T.g_44.d ["book"] (kb P w K T.g_44.tp):=by
 refine T.g_44.F.okT T.g_44.th fo (λvs H Q E h=>?_) (λA outer s H vs Q E hr h=>?_)
 .obtain⟨b,ia,oa,ha,ra,Ag,Az,AE,ins,outs,head,rows,rfl,_⟩:=h;rfl
 obtain⟨b,ia,oa,ha,ra,Ag,Az,AE,ins,outs,head,rows,rfl,bk,F,go,hJ,Fp,q⟩:=h
 refine⟨_,(ad (am 1 fo.nd (pcF T.g_39 (oE T) hr (aa (pv 0) ab)))
  (ad (am 2 fo.nd (pcF T.g_42 (lv T) hr (aa (pv 1) ab)))
  (ad (yx (i:=3) (name:="patterns_of") (pos:=xo aX) (params:=ndP aX) (body:=ndB aX) (scope:=ndS aX) (cl:=[("table",s.1.1.size+3),("fronts",s.1.1.size+2),("book",s.1.1.size+1)]) L fo.nd rfl (Or.inl rfl) rfl rfl)
  (ae (aw (wf (cl:=[("table",s.1.1.size+3),("fronts",s.1.1.size+2),("book",s.1.1.size+1)]) (qC T) (hr.mono (by decide)) rfl T.g_41.m T.g_41.F.kp T.g_41.b (aby rfl rfl rfl rfl rfl rfl rfl rfl rfl) (aa (dY (d4 T) (hr.mono (by decide)) rfl T.g_26.m T.g_26.F.kp T.g_26.b .nil gy (aa (pv 0) ab)) (aa (dY (sK T) (hr.mono (by decide)) rfl T.g_27.m T.g_27.F.kp T.g_27.b .nil gy (aa (pv 0) ab)) (aa (dY (kY T) (hr.mono (by decide)) rfl T.g_43.m T.g_43.F.kp T.g_43.b .nil gy (aa (dY (ie T) (hr.mono (by decide)) rfl T.g_17.m T.g_17.F.kp T.g_17.b .nil gy (aa (dY (rJ T) (hr.mono (by decide)) rfl T.g_28.m T.g_28.F.kp T.g_28.b .nil gy (aa (pv 0) ab)) (aa (pv 2) ab))) ab)) (aa (pv 3) ab)))))))))),?_⟩
 try dsimp only[Aw,Ad]
 have hle:=F.le;refine⟨_,D?,b,ins,outs,head,rows,D?,⟨_,_,_,_,_,_,_,bk⟩,F,go,λfl fs f' H1 s1 FK E1 hD hK=>?_⟩;dsimp only[av];have J:=hJ f' hD;have HN:Xp (λs a=>AtK .i K H1 (ll ins rows f' s) a) (Xq rows.length) fs:=E1;generalize hF:ll ins rows f'=G at J HN;refine⟨_,D?,fl,fs,G,rows.length,D?,FK,HN,hle,J.fr,λtd K7 H2 s2 PU Ac=>?_⟩;dsimp only[av];have B3:=s1.trans s2;have EG:=Fp.mono B3;refine⟨EG,λf c' H3 s3 et B4 K8 hf=>?_⟩;have PZ:KT H2 H3:=EG.kt s3;have K9:KT H H3:=(k! B3).trans PZ
 have RY:∀{a:WR}{o:HO},H2 a=A? o->(∀z,o≠.tbl z)->H3 a=A? o:=λe h2=>s3 _ _ (λz=>by
  rw[z]at e;rcases EG with h|⟨_,h,_⟩ <;> · rw[h]at e;cases e;exact h2 _ rfl) e
 have K':=RY PU (λz h=>nomatch h);have P0:=RY (s2 _ _ FK) (λz h=>nomatch h);dsimp only[av];refine⟨_,D?,b,_,_,_,_,D?,K9 _ _ bk.bk,_,D?,b,_,_,_,_,D?,K9 _ _ bk.bk,_,D?,b,_,_,_,_,D?,K9 _ _ bk.bk,_,D?,?_⟩;have K6:=J.smH.size;have hhz:head.size<=600:=XC (oo _ _) K6;refine⟨.p,ha,td,head,hgF G,D?,(bk.hd.mono K9).k,by lia,λl k hc=>?_,λr1 H4 s4 h4=>?_⟩
 .refine hid λZZ kZ=>?_;obtain⟨a1,a2,a3,a4⟩:=jO J.hd hc;obtain⟨v,v1,v2⟩:=Ac l.toNat k.toNat (by lia) (by lia);refine kZ ?_;rw[Yu a1,Yu a3]at v1 v2;have h8:=lh G l k;have h9:=J.fr l.toNat (by lia);exact⟨v,v2.mono PZ,by lia,λH5 ca sv s5 hs BS=>wH K' v1 s5 hs BS⟩
 refine⟨r1,eaP G head,D?,h4,XC K6 (by decide),J.smH,λH5 s5=>?_⟩;refine⟨_,D?,λH6 trk=>?_⟩;have RZ:=s4.trans (s5.trans trk.same);have Mn:=k! RZ;have Vy:=K9.trans Mn;have HP:CellAt H6 (s.1.1.size+1) (.ref b):=trk.2.2.2 0 "book" (.ref b) _ rfl rfl rfl;have HQ:CellAt H6 (s.1.1.size+2) (.ref fl):=trk.2.2.2 1 "fronts" (.ref fl) _ rfl rfl rfl;have HR:CellAt H6 (s.1.1.size+3) (.ref td):=trk.2.2.2 2 "table" (.ref td) _ rfl rfl rfl;refine⟨ia,oa,r1,f,eaP G head,eaR G rows,oS P w K f c' (s.1.1.size+1) (s.1.1.size+2) (s.1.1.size+3),D?,h4.mono (k! (s5.trans trk.same)),XC K6 (by decide),J.len,λx hx=>?_,yp T f c' _ _ _ (by simp),λH7 x pa Z s7 hx BM hZ=>?_,λr fh rl E2 H7 s7 e7 h7 Vz P1=>?_⟩
 .obtain⟨h1,h2⟩:=J.small (J.met x hx);exact⟨h1,λt ht=>XC (h2 t ht).size (by decide)⟩
 .have La:=RZ.trans s7;have R1:=PZ.trans (k! La)
  exact⟨pa,b,fl,td,x,fs,K7,ins,outs,G,head,rows,D?,K8.mono La,B4.mono La,HP.mono s7,HQ.mono s7,HR.mono s7,BM,⟨_,_,_,_,_,_,_,bk.mono (Vy.trans (k! s7))⟩,J,J.met x hx,La _ _ P0,x! (λ_ _ h=>h.mono ((k! s2).trans R1)) HN,La _ _ K',λs' k' h1 h2=>by
   obtain⟨a,a1,a2⟩:=Ac s' k' h1 h2;exact⟨a,a1,a2.mono R1⟩,hZ⟩
 .have sB:j! H3 _:=(s4.trans s5).trans (trk.back s7);refine⟨λb' hb=>?_,q r fh rl E2 f' G _ _ hD hK hF.symm rfl ((B3.t _).trans (s3.trans (sB.t _))) ((show TabSt H3 _ _ _ from .inr ⟨c',et,B4⟩).mono sB) (trk.kt s7 _ _ e7) (h7.mono (trk.kt s7)) (trk.kt s7 _ _ Vz) (x! (λ_ _ e=>RowK.mono (trk.kt s7) e) P1)⟩;obtain⟨φ,e⟩:=trk.2.2.1 b' hb;rw[e,s7 _ _ e]
inductive dL(vs:List V)(H:Hp)(Q:VK)(_E:XK):Prop
 |mk (c k:Int):vs=[.int c,.int k]->(∀z:Int,0<=z->Q (.int z) H)->dL  vs H Q _E
def oq(c:Int):Xk:=if c=0 then Xz "" else if c=1 then Xz "a" else if c=2 then Xz "zz" else Xz "name"
def zM(b n:Int):Nat:=97+((b+5 * n)%26).toNat
def kC(b n:Int):Xk:=⟨#[zM b n]⟩++oq (b / 26%4)
inductive eS(vs:List V)(H:Hp)(Q:VK)(_E:XK):Prop
 |mk (b n:Int):vs=[.int b,.int n]->(∀H',j! H H'->Q (.str (kC b n)) H')->eS  vs H Q _E
theorem dh:aU P w K mg base CX0 1 T.g_46.f T.g_46.d ["cell","k"] dL:=by
 refine T.g_46.F.okA iz λAh A outer s H vs Q E hr h=>?_;obtain⟨c,k,rfl,q⟩:=h
 refine⟨_,(ad (am 2 iz.nd (aC bV (aC eZ (aC db (aC db (aC bV (pv 0) ag) (aC eZ ag (pv 1))) ag) ag) ag))
  (ae (aw (aC bV (aC eZ (aC bV (aC eZ (pv 2) (pv 2)) ag) ag) ag)))),?_⟩
 try dsimp only[Aw,Ad]
 refine⟨_,D?,_,_,D?,D?,(by show(0:Int)<1000000007;decide),_,D?,_,_,D?,D?,.inl ⟨by decide,by decide⟩,_,_,D?,D?,_,_,D?,D?,_,_,D?,D?,.inr ⟨by decide,by decide⟩,_,_,D?,D?,(by show(0:Int)<2147483647;decide),?_⟩
 try dsimp only[av]
 generalize(c%1000000007+7919 * k+1) * 48271=z;have z0:=Yx z (show(2147483647:Int)≠0 by decide);have z1:=YB z (show(0:Int)<2147483647 by decide);generalize z%2147483647=y at z0 z1;refine⟨_,D?,_,D?,_,_,D?,D?,.inl ⟨by lia,by lia⟩,_,_,D?,D?,(by show(0:Int)<2147483629;decide),_,_,D?,D?,.inr ⟨by decide,by decide⟩,_,_,D?,D?,(by show(0:Int)<2147483647;decide),q _ (Yx _ (by decide))⟩
theorem o7:aU P w K mg base CX0 1 T.g_47.f T.g_47.d ["base","n"] eS:=by
 refine T.g_47.F.okA iQ λAh A outer s H vs Q E hr h=>?_;obtain⟨b,n,rfl,q⟩:=h
 refine⟨_,(ad (am 2 iQ.nd (aA bD (bx (aa gH (aa gH (aa gH (aa gH ab))))) (aC bV (aC cS (pv 0) ag) ag) (λ_ _=>rfl)))
  (ae (aw (aC rF (aA z9 gH (aC bV (aC db (pv 0) (aC eZ ag (pv 1))) ag) (λ_ _=>rfl)) (pv 2))))),?_⟩
 try dsimp only[Aw,Ad]
 refine⟨lnE rfl,λl hl=>?_⟩;refine gU hl λH1 s1 e1=>?_;have z0:=Yx (b / 26) (show(4:Int)≠0 by decide);have z1:=YB (b / 26) (show(0:Int)<4 by decide)
 have Cq:atI [L! (Xz ""),.str (Xz "a"),.str (Xz "zz"),.str (Xz "name")] (b / 26%4)=A? (.str (oq (b / 26%4))):=by
  generalize b / 26%4=c at z0 z1;rcases(by lia:c=0\/c=1\/c=2\/c=3)with rfl|rfl|rfl|rfl <;> rfl
 refine⟨_,D?,_,_,D?,D?,⟨by decide,by decide⟩,_,_,D?,D?,(by show(0:Int)<4;decide),l,_,_,_,D?,D?,n! e1,Cq,?_⟩
 try dsimp only[av]
 have y0:=Yx (b+5 * n) (show(26:Int)≠0 by decide);have y1:=YB (b+5 * n) (show(0:Int)<26 by decide);refine⟨_,D?,_,D?,_,_,D?,D?,.inl ⟨by decide,by decide⟩,_,_,D?,D?,_,_,D?,D?,(by show(0:Int)<26;decide),kJ,_,_,D?,D?,cT (by rw[qT];decide),uY y0 y1,_,D?,_,_,D?,D?,cT (by show 1+(oq (b / 26%4)).length<=1000000;unfold oq;(repeat' split) <;> decide),q H1 s1⟩
theorem wj(c:Int):Low (oq c)/\(oq c).length<=4:=by
 unfold oq;split
 .exact⟨(λx hx=>by have:x∈([]:List Nat):=hx;cases this),by decide⟩
 .split
  .exact⟨(λx hx=>by have:x∈([97]:List Nat):=hx;simp at this;lia),by decide⟩
  .split
   .exact⟨(λx hx=>by have:x∈([122,122]:List Nat):=hx;simp at this;lia),by decide⟩
   .exact⟨(λx hx=>by have:x∈([110,97,109,101]:List Nat):=hx;simp at this;lia),by decide⟩
theorem xh(b n:Int):Low (kC b n)/\(kC b n).length<=8:=by
 have h1:=Yx (b+5 * n) (by decide:(26:Int)≠0);have h2:=YB (b+5 * n) (by decide:(0:Int)<26);obtain⟨l1,l2⟩:=wj (b / 26%4);unfold kC zM;refine⟨yH (yd (by lia) (by lia)) l1,?_⟩;rw[strLen_append];show 1+_<=8;lia
theorem wx{b:Int}(hi:i<5)(hj:j<5)(h:kC b (i:Int)=kC b (j:Int)):i=j:=by
 unfold kC zM at h
 have h0:∀(m:Nat)(t:Xk),((⟨#[m]⟩:Xk)++t).cps.toList.head?=A? m:=λm t=>by
  show((#[m]:Array Nat)++t.cps).toList.head?=A? m;rw[Array.toList_append];rfl
 have e:=h! (λz:Xk=>z.cps.toList.head?) h;rw[show(((⟨#[97+((b+5 * (i:Int))%26).toNat]⟩:Xk)++oq (b / 26%4)).cps.toList.head?)=_ from h0 _ _,show(((⟨#[97+((b+5 * (j:Int))%26).toNat]⟩:Xk)++oq (b / 26%4)).cps.toList.head?)=_ from h0 _ _]at e;have e':=Xm e;have e1:=Yx (b+5 * (i:Int)) (by decide:(26:Int)≠0);have e2:=Yx (b+5 * (j:Int)) (by decide:(26:Int)≠0);lia
inductive fe(K:WQ)(vs:List V)(H:Hp)(Q:VK)(_E:XK):Prop
 |mk (a:WR) (ns:List Int) (k:Int):vs=[.ref a,.int k]->SqL K H a (ns.map p!)->0<=k->(∀z:Int,Q (.int z) H)->fe K vs H Q _E
def mE(b:Int)(ms:List Int):List (Xk×Int):=(Xq ms.length).map λ(i:Nat)=>(kC b (i:Int),ms.getD i 0)
theorem fP{b:Int}{ms:List Int}{k:Xk×Int}(h:(mE b ms)[i]?=A? k):i<ms.length/\k=(kC b (i:Int),ms.getD i 0):=by
 unfold mE at h;rw[WZ,XI]at h;obtain⟨j,hj,rfl⟩:=h;have hi:i<ms.length:=by have:=(glE hj);rwa [Xj]at this
 rw[XY hi]at hj;cases hj;exact⟨hi,D?⟩
theorem gE(b:Int)(ms:List Int):(mE b ms).length=ms.length:=by unfold mE;rw[WN,Xj]
theorem nb{b:Int}{ms:List Int}(h1:1<=ms.length)(h5:ms.length<=5)(hm:∀m∈ms,0<=m/\m<=3)(hz:(0:Int)∈ms):cN (mE b ms):=by
 have mem:∀(i:Nat),i<ms.length->ms.getD i 0∈ms:=λi hi=>by
  rw[List.getD,WS hi];exact List.getElem_mem hi
 refine⟨by rw[gE];exact h1,by rw[gE];lia,λk hk=>?_,λk hk=>?_,?_,λi j k l hi hj e=>?_⟩
 .obtain⟨i,hi⟩:=Xi.mp hk;obtain⟨_,rfl⟩:=fP hi;exact xh _ _
 .obtain⟨i,hi⟩:=Xi.mp hk;obtain⟨h,rfl⟩:=fP hi;exact hm _ (mem i h)
 .obtain⟨i,hi⟩:=Xi.mp hz;have hl:=(glE hi);refine⟨(kC b (i:Int),ms.getD i 0),Xy.mpr ⟨i,YZ.mpr hl,D?⟩,?_⟩;show ms.getD i 0=0;rw[List.getD,hi];rfl
 .obtain⟨a1,rfl⟩:=fP hi;obtain⟨a2,rfl⟩:=fP hj;exact wx (by lia) (by lia) e
inductive gr(vs:List V)(H:Hp)(Q:VK)(_E:XK):Prop
 |mk (b:Int) (ml:WR) (ms:List Int):vs=[.int b,.ref ml]->H ml=A? (.lst (ms.map p!))->ms.length<=5->(∀(r:WR)(as:List WR)(H':Hp),j! H H'->H' r=A? (.tup (as.map i!))->KsAt H' (mE b ms) as->Q (.ref r) H')->gr  vs H Q _E
theorem dG:aU P w K mg base CX0 1 T.g_45.f T.g_45.d ["script","k"] (fe K):=by
 refine T.g_45.F.okA kF λAh A outer s H vs Q E hr h=>?_;obtain⟨a,ns,k,rfl,hS,h0,q⟩:=h
 refine⟨_,(ad (bK (aW iy (pv 1) (ax aq rfl T.n_6 XD (aa (pv 0) ab)) (aQ _)) (ae (aw (aA bD (pv 0) (pv 1) (λ_ _=>rfl)))) bh)
  (ae (aw ag))),?_⟩
 try dsimp only[Aw,Ad]
 refine⟨_,D?,_,D?,a,_,D?,.inl hS,_,_,D?,D?,_,D?,?_⟩;refine cu (λc=>?_) (λc=>?_)
 .have c':k<(((ns.map p!).length:Nat):Int):=e! c;rw[WN]at c';exact⟨_,D?,_,D?,a,_,k,_,D?,D?,hS,int_at h0 c',q _⟩
 .exact q _
theorem iq:aU P w K mg base CX0 2 T.g_48.f T.g_48.d ["base","menu"] gr:=by
 refine T.g_48.F.okA mQ λAh A outer s H vs Q E hr h=>?_;obtain⟨b,ml,ms,rfl,em,Up,q⟩:=h;refine⟨_,(ae (aw (bG bv rfl T.n_13 XZ (aa (cq (N:=["n","base","menu"]) (js:=[B?,A? 0,A? 1]) (g:=(av 0)) (tt:=bE) (te:=(kD (aI (cZ eS [] E0 (aI (bi 1) (aI (bi 0) cK))) (aI (tOp (xy K) (bi 2) (bi 0)) cK)))) rfl (cp rfl (by decide +kernel) (by decide +kernel) rfl rfl rfl) (bF rfl T.n_10 (aa (ax aq rfl T.n_6 XD (aa (pv 1) ab)) ab)) (λ_ _ _ _ _ _=>(pgN 0 aa8)) (aK rfl) (λ_ _ _ _ _ _=>bM) (λ_ _ _ _ _ _=>(aE (aa (pcF T.g_47 (o7 T) hr (aa (pv 1) (aa (pv 0) ab))) (aa (aA bD (pv 2) (pv 0) (λ_ _=>rfl)) ab))))) ab)))),?_⟩
 try dsimp only[Aw,Ad]
 refine⟨_,D?,ml,_,D?,.inl (n! em),_,D?,by lia,by rw[WN];lia,ig (F:=KAt) (xs:=(Xq ms.length).map λ(i:Nat)=>p! (0+(i:Int))) (mE b ms) (λH1 H2 z p kt h=>kt _ _ h) (by rw[gE,WN,Xj]) (by rw[WN,Xj];lia) (λi Hx sx hi=>by rw[WN,Xj]at hi;show i<(((ms.map p!).length:Nat):Int).toNat;rw[WN];lia) (λHx sx=>by show(((ms.map p!).length:Nat):Int).toNat<=((Xq ms.length).map λ(i:Nat)=>p! (0+(i:Int))).length;rw[WN,WN,Xj];lia) (λi Hx x Hy sx hi hy=>⟨hy.1,?_⟩) (λi x z Hx R W' hx B1 sx hR=>?_) (λD2 H2 as VA s2 Iq EU=>?_)⟩
 .rw[WN,Xj]at hi;rw[hy.2,WZ,XY hi];rfl
 .have hi:i<ms.length:=by
   have:=(glE hx);rw[WN,Xj]at this;exact this
  rw[WZ,XY hi]at hx;cases hx;obtain⟨_,rfl⟩:=fP B1;refine⟨_,D?,_,D?,b,_,D?,λH3 s3=>?_⟩;refine⟨_,D?,_,D?,ml,_,_,.int (ms.getD i 0),D?,D?,n! ((sx.trans s3) _ _ em),at_nonneg (by lia) (by rw[show(0+(i:Int)).toNat=i by lia,WZ,List.getD,WS hi];rfl),lnE rfl,λp hp=>?_⟩;refine hR _ p (s3.trans (af hp _)) ?_;show(upd H3 p (.tup [.str (kC b (0+(i:Int))),.int (ms.getD i 0)])) p=A? (.tup [.str (kC b (i:Int)),.int (ms.getD i 0)]);rw[ac,Yq]
 refine⟨D2,_,D?,.inl ⟨n! Iq,λia Mw=>?_⟩⟩;have s3:=af Mw (.tup (as.map i!));exact q ia as _ (s2.trans s3) ac (x! (λ_ _ e=>(k! s3) _ _ e) EU)
def gz:Nat->Sp
 |0=>λ_ _ _ _=>False
 |n+1=>λvs H Q _=>∃(c d:Int)(oa:WR)(Az:List WR)(outs:List (Xk×Int))(S k:Int)(W:Nat),vs=[.int c,.int d,.ref oa,.int S,.int k]/\H oa=A? (.tup (Az.map i!))/\KsAt H outs Az/\cN outs/\1<=W/\(∀z∈outs,z.2<=(W:Int))/\0<=S/\S<=20/\0<=k/\k<=3/\0<=d/\d<=n/\d<=5/\∀(r:WR)(t:Th)(H':Hp),j! H H'->At H' t r->PB outs S k W d.toNat t->Q (.ref r) H'
theorem cf:∀n:Nat,aU P w K mg base CX0 (n+1) T.g_49.f T.g_49.d ["cell","deep","outs","states","kids"] (gz n)
 |0=>⟨λ_ _ _ _ h=>h.elim,λ_ _ _ _ _ _ _ _ _ _ _ _ _ h=>h.elim⟩
 | n+1=>by
   have ih:=cf n;refine T.g_49.F.ok (k:=n+1) cF (λvs H Q E h=>?_) (λAh A outer s H vs Q E hr h=>?_)
   .obtain⟨c,d,oa,Az,outs,S,kd,W,rfl,_⟩:=h;rfl
   obtain⟨c,d,oa,Az,outs,S,kd,W,rfl,FR,Cf,g,hW,E3,S0,Mx,Lb,My,d0,dn,d5,q⟩:=h
   refine⟨_,(ad (bK (PW.pt (aab (aW pZ (aC eZ (pv 3) (pv 4)) ag (aQ _)) (yj (aW iy (aC bV (pv 0) ag) ag (aQ _))))) (ae (aw (aE (aa gH (aa (aC bV (aC cS (pv 0) ag) (pv 3)) (aa (aC bV (aC cS (aC cS (pv 0) ag) (pv 3)) (pv 4)) ab)))))) bh)
    (ad (dr (i:=5) (N:=["kind","deep"]) (js:=[B?,A? 1]) (g:=(av 0)) (tt:=(tOr (nK (tOp (rEq) (tOp (wz K) (bi 0) (tC (.int 1))) (tC (.int 0)))) (nK (tOp (rI0 λi j=>.bl (decide (j<i))) (bi 1) (tC (.int 0)))))) (te:=(bi 0)) cF.nd rfl (Or.inl rfl) rfl (cp rfl (by decide +kernel) (by decide +kernel) rfl rfl rfl) (dH (pv 2)) (λ_ _ _ _ _ _=>(pgN 0 aaZ)) (aK rfl) (λ_ _ _ _ _ _=>g7 (PW.pt (fj (aW fR (aA aD (pv 0) ag (λ_ _=>rfl)) ag (aQ _)) (fD (aW pZ (pv 1) ag (aQ _)))))) (λ_ _ _ _ _ _=>(pv 0)))
    (ad (am 6 cF.nd (aA bD (pv 5) (aC bV (aC cS (pv 0) ag) (ax aq rfl T.n_6 XD (aa (pv 5) ab))) (λ_ _=>rfl)))
    (ad (dr (i:=7) (N:=["j","outs","states","kids","cell","deep"]) (js:=[B?,A? 2,A? 3,A? 4,A? 0,A? 1]) (g:=(av 0)) (tt:=bE) (te:=(cZ (gz _) [] E0 (aI (cZ dL [] E0 (aI (bi 4) (aI (bi 0) cK))) (aI (tOp (rI0 λi j=>.int (i - j)) (bi 5) (tC (.int 1))) (aI (bi 1) (aI (bi 2) (aI (bi 3) cK))))))) cF.nd rfl (Or.inl rfl) rfl (cp rfl (by decide +kernel) (by decide +kernel) rfl rfl rfl) (bF rfl T.n_10 (aa (aA aD (pv 6) ag (λ_ _=>rfl)) ab)) (λ_ _ _ _ _ _=>(pgN 0 abk)) (aK rfl) (λ_ _ _ _ _ _=>bM) (λ_ _ _ _ _ _=>(dY (ih) (hr.mono (WW _)) rfl T.g_49.m T.g_49.F.kp T.g_49.b .nil gy (aa (pcF T.g_46 (dh T) hr (aa (pv 4) (aa (pv 0) ab))) (aa (aC oR (pv 5) ag) (aa (pv 1) (aa (pv 2) (aa (pv 3) ab))))))))
    (ae (aw (aC fT (aE (aa (aA aD (pv 6) ag (λ_ _=>rfl)) ab)) (bG bv rfl T.n_13 XZ (aa (pv 7) ab))))))))),?_⟩
   try dsimp only[Aw,Ad]
   refine cg (λAa H'=>Aa=[A? (.int c),A? (.int d),A? (.ref oa),A? (.int S),A? (.int kd),B?,B?,B?]/\H=H') (λkk AN=>?_) ?_
   .refine cw (λb H'=>An2 (H=H') ((b=C?->0<S/\0<kd))) (λk2 Bp=>?_) (λH' hb=>?_) (λH' hb=>?_)
    .refine⟨_,D?,_,D?,_,_,D?,D?,.inl ⟨by lia,by lia⟩,_,_,D?,D?,_,D?,?_⟩;refine cu (λcc=>?_) (λcc=>Bp _ _ ⟨rfl,λz=>by cases z⟩);refine⟨_,D?,_,_,D?,D?,(by show(0:Int)<5;decide),_,_,D?,D?,_,D?,Bp _ _ ⟨D?,λ_=>?_⟩⟩;have h1:0<S * kd:=e! cc;have h2:S≠0:=λz=>by rw[z,Int.zero_mul]at h1;lia
     have h3:kd≠0:=λz=>by rw[z,Int.mul_zero]at h1;lia
     lia
    .obtain⟨rfl,hb⟩:=hb;obtain⟨Lc,R4⟩:=hb rfl;have u0:=Yx (c / 5) (show S≠0 by lia);have u1:=YB (c / 5) Lc;have v0:=Yx (c / 5 / S) (show kd≠0 by lia);have v1:=YB (c / 5 / S) R4;refine⟨_,D?,_,_,D?,D?,⟨by decide,by decide⟩,_,D?,_,_,D?,D?,Lc,_,D?,_,_,D?,D?,⟨by decide,by decide⟩,_,D?,_,_,D?,D?,⟨Lc,by lia⟩,_,D?,_,_,D?,D?,R4,lnE rfl,λr AR=>?_⟩;refine q r (.call (c / 5%S) (c / 5 / S%kd)) _ (af AR _) (by rw[At];exact ac) (PB.call hW (by rw[u!];exact⟨u0,u1,v0,v1⟩))
    .obtain⟨rfl,_⟩:=hb;exact AN _ _ ⟨rfl,rfl⟩
   rintro Aa H' ⟨rfl,rfl⟩
   try dsimp only[av]
   have BQ:outs.length=Az.length:=W3 Cf;have VB:=g.le;obtain⟨kz,JO,P4⟩:=g.zero;refine⟨_,D?,oa,D?,⟨_,l! FR⟩,kg (K:=K) (λk=>decide (p! k.2=p! 0) ||decide (0<d)) FR Cf (by lia) (λz ka H2 R sm hz r=>?_) (λka H2 R r=>⟨_,D?,r⟩) (λD bs H2 hD e' hb1 VC An=>?_)⟩
   .refine⟨_,D?,ka,_,1,_,D?,D?,l! hz,at1,D?,_,D?,?_⟩;refine cu (λc=>?_) (λc=>?_)
    .rw[c]at r;exact r
    .rw[Yj.mpr c]at r;exact⟨_,D?,_,_,D?,D?,_,D?,r⟩
   have hb1:=hb1 ⟨kz,JO,by rw[P4];rfl⟩;have s2:j! H H2:=by rw[e'];exact af hD _
   have eD:H2 D=A? (.lst (bs.map λz=>i! z.2)):=by rw[e'];exact ac
   clear e';have Fi:0<((bs.map λz=>i! z.2).length:Int):=by rw[WN];lia
   have y0:=Yx (c / 7) (show((bs.map λz=>i! z.2).length:Int)≠0 by lia);have y1:=YB (c / 7) Fi;refine hid λZZ kZ=>?_;obtain⟨z,hz⟩:∃z,bs[(c / 7%((bs.map λz=>i! z.2).length:Int)).toNat]?=A? z:=⟨_,WS (by rw[WN]at y1 |-;lia)⟩;obtain⟨AA,gp,Ee⟩:=An z (WT hz);obtain⟨k0,ka⟩:=z;refine kZ ?_;dsimp only at AA gp Ee hz;have Cd:=g.num k0 AA
   have R5:k0.2=0\/0<d:=by
    rcases Bool.or_eq_true .. |>.mp gp with h|h
    .exact .inl (V.int.inj (e! h))
    .exact .inr (e! h)
   try dsimp only[av]
   refine⟨_,D?,_,D?,_,_,D?,D?,⟨by decide,by decide⟩,_,D?,D,_,D?,.inl (n! eD),_,_,D?,D?,Fi,D,_,_,.ref ka,D?,D?,n! eD,at_nonneg y0 (gmE hz),?_⟩
   try dsimp only[av]
   have Ld:=s2 _ _ Ee;refine⟨_,D?,ka,_,1,_,D?,D?,l! Ld,at1,k0.2,D?,by lia,by lia,?_⟩;intro Dl FI;refine⟨k0.2.toNat,λj H4=>An3 (j<=k0.2.toNat) (j! H2 H4) (Ex2 λ(as:List WR)(ts:List Th)=>An4 (H4 Dl=A? (.lst (as.map i!))) (Ats H4 ts as) (ts.length=j) (∀t∈ts,PB outs S kd W (d.toNat - 1) t)),⟨Xh _,af FI _,[],[],ac,.nil,D?,λt h=>by cases h⟩,?_⟩;rintro j H4 ⟨hj,s4,as,ts,Em,Cr,Ay,Ac⟩;have Bc:=Cr.length;by_cases B0:j=k0.2.toNat
   .left;refine⟨(by show k0.2.toNat<=j;lia),?_⟩
    try dsimp only[av]
    refine⟨_,D?,ka,_,0,.str k0.1,D?,D?,l! (s4 _ _ Ld),at0,lnE rfl,λma HK=>?_⟩;refine gU HK λH3 s3 e3=>?_;refine⟨_,D?,Dl,_,D?,.inl ⟨n! (s3 _ _ Em),λtp CL=>?_⟩⟩;refine gU CL λH5 s5 e5=>?_;refine sE (s5 _ _ e3) e5 (by rw[WN];show 1+as.length<=1000000;lia) λp H6 s6 e6=>?_;have K2:=s3.trans (s5.trans s6);have hk:(k0.1,(ts.length:Int))=k0:=by rw[Ay,B0,Yu Cd.1]
    refine q p (.knot k0.1 ts) H6 (s2.trans (s4.trans K2)) ?_ ?_
    .rw[At];exact⟨rE (g.low k0 AA).1,as,e6,Cr.mono (k! K2)⟩
    .rcases R5 with h0|hd
     .have hn:ts=[]:=Yi.mp (by lia);subst hn;exact PB.leaf _ hW (by rw[<-h0];exact AA)
     .obtain⟨m,hm⟩:∃m,d.toNat=m+1:=⟨d.toNat - 1,by lia⟩;rw[hm,Nat.add_sub_cancel]at Ac;rw[hm];have:=E3 k0 AA;exact PB.over hW (by rw[hk];exact AA) (by lia) Ac
   .right;have Au:j<k0.2.toNat:=by lia
    have hd:0<d:=by rcases R5 with h|h <;> lia
    refine⟨Au,(by show j<k0.2.toNat;exact Au),?_⟩;rintro x' H5 ⟨q1,q2⟩;have VD:H5=H4:=q1;subst VD;have VE:x'=p! (0+(j:Int)):=q2;subst VE;obtain⟨m,rfl⟩:∃m,n=m+1:=⟨n - 1,by lia⟩;refine⟨_,D?,_,D?,c,_,D?,λz _=>?_⟩;refine⟨_,D?,_,_,D?,D?,_,D?,_,D?,_,D?,z,d - 1,oa,Az,outs,S,kd,W,D?,(s2.trans s4) _ _ FR,Cf.mono (k! (s2.trans s4)),g,hW,E3,S0,Mx,Lb,My,by lia,by lia,by lia,λr t H6 s6 P5 Mz=>?_⟩;have R6:=s6 _ _ Em;refine⟨_,R6,lbE (by lia),Au,ak (s4.trans s6) FI,as++[r],ts++[t],uAE,?_,by rw[Xd,Ay];rfl,λu hu=>?_⟩
    .have k7:KT H6 (upd H6 Dl (.lst (as.map i!++[.ref r]))):=aL R6;exact Ats.append (Cr.mono ((k! s6).trans k7)) (.cons (P5.mono k7) .nil)
    .rcases XA.mp hu with hu|hu
     .exact Ac u hu
     .rw[Xc.mp hu];rw[show(d - 1).toNat=d.toNat - 1 by lia]at Mz;exact Mz
theorem vM{k:Int}{t:Th}(hW:1<=W)(h:PB outs S k W 0 t):∀{d:Nat},PB outs S k W d t
 |0=>h
 |_+1=>(vM hW h).up hW (Int.le_refl _) (Int.le_refl _)
theorem uj:∀{bs:List ((Xk×Int)×WR)},(∀z∈bs,KAt H z.1 z.2)->KsAt H (bs.map (·.1)) (bs.map (·.2))
 | [],_=>.nil
 |z::bs,h=>.cons (h z (Xe ..)) (uj λy hy=>h y (Xb _ hy))
inductive gM(vs:List V)(H:Hp)(Q:VK)(_E:XK):Prop
 |mk (e c d:Int) (oa:WR) (Az:List WR) (outs:List (Xk×Int)) (S kd:Int) (W:Nat):vs=[.int e,.int c,.int d,.ref oa,.int S,.int kd]->H oa=A? (.tup (Az.map i!))->KsAt H outs Az->cN outs->1<=W->(∀z∈outs,z.2<=(W:Int))->0<=S->S<=20->0<=kd->kd<=3->0<=d->d<=2->(∀(r:WR)(t:Th)(H':Hp),j! H H'->At H' t r->PB outs S kd W (d.toNat+1) t->Q (.ref r) H')->gM  vs H Q _E
theorem mG:aU P w K mg base CX0 5 T.g_50.f T.g_50.d ["seed","cell","deep","outs","states","kids"] gM:=by
 refine T.g_50.F.okA cz λAh A outer s H vs Q E hr h=>?_;obtain⟨e,c,d,oa,Az,outs,S,kd,W,rfl,FR,Cf,g,hW,E3,S0,Mx,Lb,My,d0,d2,q⟩:=h
 refine⟨_,(ad (dr (i:=6) (N:=["kind","seed"]) (js:=[B?,A? 0]) (g:=(av 0)) (tt:=(tOr (nK (tOp (rI0 λi j=>.bl (decide (j<i))) (tOp (wz K) (bi 0) (tC (.int 1))) (tC (.int 0)))) (nK (tOp (rEq) (tOp (rI (λ_ j=>0<j) λi j=>.int (i%j)) (bi 1) (tC (.int 5))) (tC (.int 1)))))) (te:=(bi 0)) cz.nd rfl (Or.inl rfl) rfl (cp rfl (by decide +kernel) (by decide +kernel) rfl rfl rfl) (dH (pv 3)) (λ_ _ _ _ _ _=>(pgN 0 aa4)) (aK rfl) (λ_ _ _ _ _ _=>g7 (PW.pt (fj (aW pZ (aA aD (pv 0) ag (λ_ _=>rfl)) ag (aQ _)) (fD (aW fR (aC bV (pv 1) ag) ag (aQ _)))))) (λ_ _ _ _ _ _=>(pv 0)))
  (ad (bK (PW.pt (fj (aW fR (aC bV (pv 0) ag) ag (aQ _)) (fD (aW (tK (B:=150) (eQ hr)) (pv 6) (bx ab) (aQ _))))) (ae (aw (pcF T.g_49 (cf T 3) hr (aa (pv 1) (aa (pv 2) (aa (pv 3) (aa (pv 4) (aa (pv 5) ab)))))))) bh)
  (ad (am 7 cz.nd (aA bD (pv 6) (aC bV (aC cS (pv 0) ag) (ax aq rfl T.n_6 XD (aa (pv 6) ab))) (λ_ _=>rfl)))
  (ad (am 8 cz.nd (bx ab))
  (ad (bq Xr rfl (bF rfl T.n_10 (aa (aA aD (pv 7) ag (λ_ _=>rfl)) ab)) (pgN 9 cz.nd) (ad (aS (bW Xf Xw Xv aO (pv 8) (aa (pcF T.g_49 (cf T 3) hr (aa (pcF T.g_46 (dh T) hr (aa (pv 1) (aa (pv 9) ab))) (aa (pv 2) (aa (pv 3) (aa (pv 4) (aa (pv 5) ab)))))) ab)))
  (ae (bK (aW fR (aC bV (aC cS (pv 0) ag) ag) (pv 9) (aQ _)) (ae (fw (pcF T.g_49 (cf T 3) hr (aa (pcF T.g_46 (dh T) hr (aa (pv 0) (aa (pv 9) ab))) (aa ag (aa (pv 3) (aa ag (aa ag ab)))))) (vL (pv 8) (pv 9) set_list))) bh))))
  (ae (aw (aC fT (aE (aa (aA aD (pv 7) ag (λ_ _=>rfl)) ab)) (bG bv rfl T.n_13 XZ (aa (pv 8) ab)))))))))),?_⟩
 try dsimp only[Aw,Ad]
 have BQ:outs.length=Az.length:=W3 Cf;have VB:=g.le;refine⟨_,D?,oa,D?,⟨_,l! FR⟩,kg (K:=K) (λk=>decide (0<k.2) ||decide (p! (e%5)=p! 1)) FR Cf (by lia) (λz ka H2 R sm hz r=>?_) (λka H2 R r=>⟨_,D?,r⟩) (λD bs H2 hD e' _ VC An=>?_)⟩
 .refine⟨_,D?,ka,_,1,_,D?,D?,l! hz,at1,_,_,D?,D?,_,D?,?_⟩;refine cu (λc=>?_) (λc=>?_)
  .rw[c]at r;exact r
  .rw[Yj.mpr c]at r;exact⟨_,D?,_,_,D?,D?,(by show(0:Int)<5;decide),D?,_,D?,r⟩
 have s2:j! H H2:=by rw[e'];exact af hD _
 have eD:H2 D=A? (.lst (bs.map λz=>i! z.2)):=by rw[e'];exact ac
 clear e'
 try dsimp only[av]
 refine cg (λAa H3=>Aa=[A? (.int e),A? (.int c),A? (.int d),A? (.ref oa),A? (.int S),A? (.int kd),A? (.ref D),B?,B?,B?]/\j! H2 H3/\bs≠[]) (λkk AN=>?_) ?_
 .refine cw (λb H3=>An2 (j! H2 H3) ((b=CV->bs≠[]))) (λk2 Bp=>?_) (λH3 hb=>?_) (λH3 hb=>?_)
  .refine⟨_,D?,_,_,D?,D?,(by show(0:Int)<3;decide),D?,_,D?,?_⟩;refine cu (λcc=>Bp _ _ ⟨.refl _,λz=>by cases z⟩) (λcc=>?_);refine⟨_,D?,lnE rfl,λnl OI=>?_⟩;refine gU OI λH3 s3 e3=>?_;have BY:=uj (H:=H3) (bs:=bs) λz hz=>(k! (s2.trans s3)) _ _ (An z hz).2.2;have R7:=lI BY;rw[show(bs.map (·.2)).map i!=bs.map λz=>i! z.2 by rw[YA];rfl]at R7;refine⟨D,nl,_,_,_,[],D?,D?,n! (s3 _ _ eD),n! e3,R7,.nil,XC (fS _) (by decide),λb hb=>⟨_,D?,Bp _ _ ⟨s3,λhf hn=>?_⟩⟩⟩;rw[hf]at hb;exact W0 (hb.mpr (by rw[hn];rfl))
  .obtain⟨s3,_⟩:=hb;have CU:=s2.trans s3;refine⟨_,D?,_,D?,_,D?,_,D?,_,D?,c,d,oa,Az,outs,S,kd,W,D?,CU _ _ FR,Cf.mono (k! CU),g,hW,E3,S0,Mx,Lb,My,d0,d2,by lia,λr t H4 s4 O8 VF=>?_⟩;exact q r t H4 (CU.trans s4) O8 (VF.up hW (Int.le_refl _) (Int.le_refl _))
  .obtain⟨s3,hb⟩:=hb;exact AN _ _ ⟨rfl,s3,hb rfl⟩
 rintro Aa H3 ⟨rfl,s3,Ap⟩;have hb1:=List.length_pos_iff.mpr Ap
 have Fi:0<((bs.map λz=>i! z.2).length:Int):=by
  rw[WN];lia
 have y0:=Yx (e / 3) (show((bs.map λz=>i! z.2).length:Int)≠0 by lia);have y1:=YB (e / 3) Fi;refine hid λZZ kZ=>?_;obtain⟨z,hz⟩:∃z,bs[(e / 3%((bs.map λz=>i! z.2).length:Int)).toNat]?=A? z:=⟨_,WS (by rw[WN]at y1 |-;lia)⟩;obtain⟨AA,_,Ee⟩:=An z (WT hz);obtain⟨k0,ka⟩:=z;refine kZ ?_;dsimp only at AA Ee hz;have Cd:=g.num k0 AA;have CU:=s2.trans s3;have R8:=s3 _ _ eD;have Le:=CU _ _ Ee;refine⟨_,D?,_,D?,_,_,D?,D?,⟨by decide,by decide⟩,_,D?,D,_,D?,.inl (n! R8),_,_,D?,D?,Fi,D,_,_,.ref ka,D?,D?,n! R8,at_nonneg y0 (gmE hz),?_⟩
 try dsimp only[av]
 refine⟨lnE rfl,λpl AK=>?_⟩;refine gU AK λH4 s4 e4=>?_;have e4:H4 pl=A? (.lst (([]:List WR).map i!)):=e4
 try dsimp only[av]
 refine⟨_,D?,ka,_,1,_,D?,D?,l! (s4 _ _ Le),at1,k0.2,D?,by lia,by lia,?_⟩
 refine dg (n:=k0.2.toNat) (λj Z H5=>Ex3 λ(jv:Option V)(as:List WR)(ts:List Th)=>An6 (Z=[A? (.int e),A? (.int c),A? (.int d),A? (.ref oa),A? (.int S),A? (.int kd),A? (.ref D),A? (.ref ka),A? (.ref pl),jv]) (j! H3 H5) (H5 pl=A? (.lst (as.map i!))) (Ats H5 ts as) (ts.length=j) (∀t∈ts,PB outs S kd W d.toNat t))
  ⟨B?,[],[],rfl,s4,e4,.nil,rfl,λt h=>by cases h⟩ ?_ ?_
 .rintro j Z H5 hj ⟨jv,as,ts,rfl,s5,e5,Cr,Ay,Ac⟩;have Au:j<k0.2.toNat:=hj;have Bc:=Cr.length;have Iv:=CU.trans s5
  try dsimp only[av]
  refine cg (λAa H6=>Ex2 λ(as:List WR)(ts:List Th)=>An6 (Aa=[A? (.int e),A? (.int c),A? (.int d),A? (.ref oa),A? (.int S),A? (.int kd),A? (.ref D),A? (.ref ka),A? (.ref pl),A? (.int (0+(j:Int)))]) (j! H3 H6) (H6 pl=A? (.lst (as.map i!))) (Ats H6 ts as) (ts.length=j+1) (∀t∈ts,PB outs S kd W d.toNat t)) (λkk AN=>?_) ?_
  .refine⟨_,D?,.inl ⟨D?,_,n! e5⟩,_,D?,_,D?,c,_,D?,λz _=>?_⟩;refine⟨_,D?,_,D?,_,D?,_,D?,z,d,oa,Az,outs,S,kd,W,D?,Iv _ _ FR,Cf.mono (k! Iv),g,hW,E3,S0,Mx,Lb,My,d0,d2,by lia,λr t H6 s6 P5 Mz=>?_⟩;have e6:=s6 _ _ e5;refine⟨pl,_,_,D?,D?,e6,lbE (by lia),?_⟩;have k7:KT H6 (upd H6 pl (.lst (as.map i!++[.ref r]))):=aL e6;refine AN _ _ ⟨as++[r],ts++[t],rfl,ak (s5.trans s6) AK,uAE,Ats.append (Cr.mono ((k! s6).trans k7)) (.cons (P5.mono k7) .nil),by rw[Xd,Ay];rfl,λu hu=>?_⟩;rcases XA.mp hu with hu|hu
   .exact Ac u hu
   .rw[Xc.mp hu];exact Mz
  rintro Aa H6 ⟨as,ts,rfl,s6,e6,Cr,Ay,Ac⟩;have Bc:=Cr.length;have Mt:=CU.trans s6;refine cw (λb H7=>H6=H7) (λk2 Bp=>?_) (λH7 hb=>?_) (λH7 hb=>?_)
  .exact⟨_,D?,_,_,D?,D?,⟨by decide,by decide⟩,_,_,D?,D?,(by show(0:Int)<3;decide),_,D?,D?,_,D?,Bp _ _ rfl⟩
  .subst hb;refine⟨_,D?,_,D?,e,_,D?,λz _=>?_⟩;refine⟨_,D?,z,0,oa,Az,outs,0,0,W,D?,Mt _ _ FR,Cf.mono (k! Mt),g,hW,E3,by decide,by decide,by decide,by decide,by decide,by decide,by decide,λr t H7 s7 PQ P1=>?_⟩;have e7:=s7 _ _ e6;refine⟨_,D?,_,D?,pl,_,_,j,D?,D?,e7,?_,?_⟩
   .unfold ixN;rw[b! (by lia),b! (by rw[WN];lia)];simp
   .have k8:KT H7 (upd H7 pl (.lst ((as.map i!).set j (.ref r)))):=aL e7;refine⟨_,as.set j r,ts.set j t,D?,ak (s6.trans s7) AK,by rw[ac,List.map_set],?_,by rw[List.length_set];exact Ay,λu hu=>?_⟩
    .exact Ats.set j (Cr.mono ((k! s7).trans k8)) (PQ.mono k8)
    .rcases List.mem_or_eq_of_mem_set hu with hu|rfl
     .exact Ac u hu
     .refine vM hW ?_;exact P1.wide S0 Lb
  .subst hb;exact⟨_,as,ts,D?,s6,e6,Cr,Ay,Ac⟩
 .rintro Z H5 ⟨jv,as,ts,rfl,s5,e5,Cr,Ay,Ac⟩;have Bc:=Cr.length
  try dsimp only[av]
  refine⟨_,D?,ka,_,0,.str k0.1,D?,D?,l! (s5 _ _ Le),at0,lnE rfl,λma HK=>?_⟩;refine gU HK λH6 s6 e6=>?_;refine⟨_,D?,pl,_,D?,.inl ⟨n! (s6 _ _ e5),λtp CL=>?_⟩⟩;refine gU CL λH7 s7 e7=>?_;refine sE (s7 _ _ e6) e7 (by rw[WN];show 1+as.length<=1000000;lia) λp H8 s8 e8=>?_;have Dt:=s6.trans (s7.trans s8);have hk:(k0.1,(ts.length:Int))=k0:=by rw[Ay,Yu Cd.1]
  have:=E3 k0 AA;refine q p (.knot k0.1 ts) H8 (CU.trans (s5.trans Dt)) ?_ (PB.over hW (by rw[hk];exact AA) (by lia) Ac);rw[At];exact⟨rE (g.low k0 AA).1,as,e8,Cr.mono (k! Dt)⟩
inductive ip(K:WQ)(vs:List V)(H:Hp)(Q:VK)(_E:XK):Prop
 |mk (a:WR) (ns:List Int) (M:Nat):vs=[.ref a,.int (M:Nat)]->SqL K H a (ns.map p!)->ns.length<=63->1<=M->M<=100->(∀(r:WR)(ds:List Int)(H':Hp),j! H H'->H' r=A? (.lst (ds.map p!))->ds.length=M->Q (.ref r) H')->ip K vs H Q _E
theorem mT:aU P w K mg base CX0 1 T.g_51.f T.g_51.d ["script","many"] (ip K):=by
 refine T.g_51.F.okA di λAh A outer s H vs Q E hr h=>?_;obtain⟨a,ns,M,rfl,hS,Cy,Lf,R9,q⟩:=h
 refine⟨_,(ad (dr (i:=2) (N:=["k"]) (js:=[B?]) (g:=(av 0)) (tt:=bE) (te:=(tOp (rI0 λi j=>.int (i+j)) (tC (.int 11)) (tOp (rI CMul λi j=>.int (i * j)) (tC (.int 5)) (bi 0)))) di.nd rfl (Or.inl rfl) rfl (cp rfl (by decide +kernel) (by decide +kernel) rfl rfl rfl) (bF rfl T.n_10 (aa (pv 1) ab)) (λ_ _ _ _ _ _=>(pgN 0 aa2)) (aK rfl) (λ_ _ _ _ _ _=>bM) (λ_ _ _ _ _ _=>(aC db ag (aC eZ ag (pv 0)))))
  (ad (bq Xr rfl (uQ rfl T.n_10 (aa ag (aa (ax aq rfl T.n_6 XD (aa (pv 0) ab)) ab))) (pgN 3 di.nd) (ad (am 4 di.nd (aC eZ (aA bD (pv 0) (pv 3) (λ_ _=>rfl)) (aC db ag (aC cS (pv 3) (pv 1)))))
  (ae (fw (aC db (aA bD (pv 2) (aC bV (pv 3) (pv 1)) (λ_ _=>rfl)) (pv 4)) (vL (pv 2) (aC bV (pv 3) (pv 1)) set_list)))))
  (ae (aw (pv 2))))),?_⟩
 try dsimp only[Aw,Ad]
 refine⟨_,D?,(M:Int),D?,by lia,by lia,uB (xs:=(Xq M).map λ(i:Nat)=>p! (0+(i:Int))) ((Xq M).map λ(i:Nat)=>11+5 * (i:Int)) p! (by rw[WN,WN]) (by rw[WN,Xj];lia) (λi Hx sx hi=>by rw[WN,Xj]at hi;show i<((M:Nat):Int).toNat;lia) (λHx sx=>by rw[WN,Xj];show((M:Nat):Int).toNat<=M;lia) (λi Hx x Hy sx hi hy=>⟨hy.1,?_⟩) (λi x z Hx R W' hx hz sx hR=>?_) (λcl H1 Br s1 EY=>?_)⟩
 .rw[WN,Xj]at hi;rw[hy.2,WZ,XY hi];rfl
 .have hi:i<M:=by
   have:=(glE hz);rw[WN,Xj]at this;exact this
  rw[WZ,XY hi]at hx hz;cases hx;cases hz;refine⟨_,D?,_,_,D?,D?,.inl ⟨by decide,by decide⟩,_,_,D?,D?,?_⟩;rw[Yq];exact hR _ (.refl _)
 try dsimp only[av]
 have Lc:=s1.seq hS;refine⟨_,D?,a,_,D?,.inl Lc,2,_,D?,⟨by decide,by decide,by lia,by rw[WN];lia⟩,?_⟩
 refine dg (lo:=2) (n:=((((ns.map p!).length:Nat):Int) - 2).toNat) (λi Z H2=>Ex3 λ(kv mv:Option V)(ds:List Int)=>An4 (Z=[A? (.ref a),A? (.int (M:Nat)),A? (.ref cl),kv,mv]) (j! H H2) (H2 cl=A? (.lst (ds.map p!))) (ds.length=M))
  ⟨B?,B?,_,rfl,s1,EY,by rw[WN,Xj]⟩ ?_ ?_
 .rintro i Z H2 hi ⟨kv,mv,ds,rfl,s2,e2,Dn⟩
  have AW:2+i<ns.length:=by
   have h1:i<((((ns.map p!).length:Nat):Int) - 2).toNat:=hi;rw[WN]at h1;lia
  have Gv:(0:Int)<(M:Nat):=by lia
  have y0:=Yx (2+(i:Int)) (show((M:Nat):Int)≠0 by lia);have y1:=YB (2+(i:Int)) Gv;have w0:=Int.ediv_nonneg (show 0<=2+(i:Int)by lia) (Int.le_of_lt Gv);have w1:(2+(i:Int)) / (M:Nat)<=2+(i:Int):=Int.ediv_le_self _ (by lia);refine hid λZZ kZ=>?_;obtain⟨ix,Ko⟩:∃ix:Nat,(2+(i:Int))%(M:Nat)=(ix:Int):=⟨_,(Yu y0).symm⟩;obtain⟨c,hc⟩:∃c,ds[ix]?=A? c:=⟨_,WS (by lia)⟩;obtain⟨x,hx⟩:∃x,ns[2+i]?=A? x:=⟨_,WS AW⟩;refine kZ ?_;have D6:=s2.seq hS;refine⟨_,D?,_,D?,a,_,_,.int x,D?,D?,D6,at_nonneg (by lia) (by rw[show(2+(i:Int)).toNat=2+i by lia,WZ,hx];rfl),?_⟩;refine⟨_,D?,_,D?,_,_,D?,D?,⟨Gv,by lia⟩,_,_,D?,D?,_,_,D?,D?,.inr ⟨by lia,by lia⟩,?_⟩
  try dsimp only[av]
  refine⟨_,D?,_,D?,_,D?,_,_,D?,D?,Gv,cl,_,_,.int c,D?,D?,n! e2,at_nonneg y0 (by rw[Ko,XH,WZ,hc];rfl),?_⟩;refine⟨_,D?,_,_,D?,D?,?_⟩;refine⟨_,D?,_,D?,_,D?,_,_,D?,D?,Gv,cl,_,_,ix,D?,D?,e2,?_,?_⟩
  .rw[Ko];unfold ixN;rw[b! (by lia),b! (by rw[WN];lia)];simp
  .refine⟨_,_,ds.set ix (c+x * (1+(2+(i:Int)) / (M:Nat))),D?,ak s2 Br,?_,by rw[List.length_set];exact Dn⟩;rw[ac,List.map_set]
 .rintro Z H2 ⟨kv,mv,ds,rfl,s2,e2,Dn⟩;exact⟨_,D?,q cl ds H2 s2 e2 Dn⟩
def uG:List (List Int):=[[0,1],[0,2],[0,0,2],[0,1,2],[1,0],[2,0,0],[0,1,1],[0,3]]
def uK:List (List Int):=[[0,2],[0,1,2],[0,0,2],[2,0,1,0],[0,0,1],[0,0,0],[0,1],[0,3,1]]
def uH(z:List Int):Prop:=1<=z.length/\z.length<=5/\(∀m∈z,0<=m/\m<=3)/\(0:Int)∈z
theorem pK:∀z∈uG,uH z:=by unfold uH uG;decide
theorem p8:∀z∈uK,uH z:=by unfold uH uK;decide
inductive ji(K:WQ)(vs:List V)(H:Hp)(Q:VK)(_E:XK):Prop
 |mk (a:WR) (ns:List Int):vs=[.ref a]->SqL K H a (ns.map p!)->ns.length<=63->(∀(b ia oa ha ra:WR)(Ag Az AE:List WR)(ins outs:List (Xk×Int))(W D:Nat)(head:Th)(rows:List (List Th))(H':Hp),j! H H'->BookAt H' ins outs head rows b ia oa ha ra Ag Az AE->Drw ins outs W D head rows->Q (.ref b) H')->ji K vs H Q _E
theorem oZ:aU P w K mg base CX0 6 T.g_52.f T.g_52.d ["script"] (ji K):=by
 refine T.g_52.F.okA aG λAh A outer s H vs Q E hr h=>?_;obtain⟨a,ns,rfl,hS,Cy,q⟩:=h
 refine⟨_,(@ad _ _ _ _ _ (am 1 aG.nd (pcF T.g_45 (dG T) hr (aa (pv 0) (aa ag ab))))
  (@ad _ _ _ _ _ (@nW _ 2 _ _ _ _ _ _ _ [([(0,_,_),(1,_,_)],_),([(0,_,_),(2,_,_)],_),([(0,_,_),(0,_,_),(2,_,_)],_),([(0,_,_),(1,_,_),(2,_,_)],_),([(1,_,_),(0,_,_)],_),([(2,_,_),(0,_,_),(0,_,_)],_),([(0,_,_),(1,_,_),(1,_,_)],_),([(0,_,_),(3,_,_)],_)] aG.nd rfl (Or.inl rfl) (Or.inl rfl) (aC bV (pv 1) ag) (λ_ _=>rfl))
  (@ad _ _ _ _ _ (am 3 aG.nd (pcF T.g_48 (iq T) hr (aa (aC cS (pv 1) ag) (aa (pv 2) ab))))
  (@ad _ _ _ _ _ (@nW _ 2 _ _ _ _ _ _ _ [([(0,_,_),(2,_,_)],_),([(0,_,_),(1,_,_),(2,_,_)],_),([(0,_,_),(0,_,_),(2,_,_)],_),([(2,_,_),(0,_,_),(1,_,_),(0,_,_)],_),([(0,_,_),(0,_,_),(1,_,_)],_),([(0,_,_),(0,_,_),(0,_,_)],_),([(0,_,_),(1,_,_)],_),([(0,_,_),(3,_,_),(1,_,_)],_)] aG.nd rfl (Or.inl rfl) (Or.inl rfl) (aC bV (aC cS (pv 1) ag) ag) (λ_ _=>rfl))
  (@ad _ _ _ _ _ (am 4 aG.nd (pcF T.g_48 (iq T) hr (aa (aC cS (pv 1) ag) (aa (pv 2) ab))))
  (@ad _ _ _ _ _ (am 5 aG.nd (aC db ag (aC bV (pcF T.g_45 (dG T) hr (aa (pv 0) (aa ag ab))) ag)))
  (@ad _ _ _ _ _ (bK (aW fR (aC bV (pcF T.g_45 (dG T) hr (aa (pv 0) (aa ag ab))) ag) ag (aQ _)) (ae (am 5 aG.nd ag)) bh)
  (@ad _ _ _ _ _ (bK (aW fR (ax (nT rfl) rfl T.n_8 PyProof.Rows.boot_max (aa (pv 2) ab)) ag (aQ _)) (ae (am 5 aG.nd (ax (uT rfl) rfl T.n_9 PyProof.Rows.boot_min (aa (pv 5) (aa ag ab))))) bh)
  (@ad _ _ _ _ _ (am 6 aG.nd (aC db ag (bG vd rfl T.n_4 PyProof.Rows.boot_int (aa (fA (cW iy (pv 5) ag (aQ _)) (gJ (cW iy (ax (nT rfl) rfl T.n_8 PyProof.Rows.boot_max (aa (pv 2) ab)) ag (aQ _)))) ab))))
  (@ad _ _ _ _ _ (am 7 aG.nd (pcF T.g_51 (mT T) hr (aa (pv 0) (aa (aC db ag (aC eZ (pv 5) (ax aq rfl T.n_6 XD (aa (pv 3) ab)))) ab))))
  (@ad _ _ _ _ _ (am 8 aG.nd (bx ab))
  (@ad _ _ _ _ _ (bq Xr rfl (bF rfl T.n_10 (aa (pv 5) ab)) (pgN 9 aG.nd) (ad (am 10 aG.nd (pcF T.g_46 (dh T) hr (aa (aA bD (pv 7) (aC db ag (aC eZ (pv 9) (ax aq rfl T.n_6 XD (aa (pv 3) ab)))) (λ_ _=>rfl)) (aa ag ab))))
  (ad (am 11 aG.nd (bx ab))
  (ad (bq Xr rfl (bF rfl T.n_10 (aa (ax aq rfl T.n_6 XD (aa (pv 3) ab)) ab)) (pgN 12 aG.nd) (ae (aS (bW Xf Xw Xv aO (pv 11) (aa (pcF T.g_50 (mG T) hr (aa (pv 10) (aa (aA bD (pv 7) (aC db (aC db ag (aC eZ (pv 9) (ax aq rfl T.n_6 XD (aa (pv 3) ab)))) (pv 12)) (λ_ _=>rfl)) (aa (pv 6) (aa (pv 4) (aa (pv 5) (aa (aA aD (aA aD (pv 3) (pv 12) (λ_ _=>rfl)) ag (λ_ _=>rfl)) ab))))))) ab)))))
  (ae (aS (bW Xf Xw Xv aO (pv 8) (aa (bG bv rfl T.n_13 XZ (aa (pv 11) ab)) ab))))))))
  (@ae _ _ _ (aw (aE (aa (pv 3) (aa (pv 4) (aa (pcF T.g_49 (cf T 3) hr (aa (aA bD (pv 7) ag (λ_ _=>rfl)) (aa (pv 6) (aa (pv 4) (aa (pv 5) (aa ag ab)))))) (aa (bG bv rfl T.n_13 XZ (aa (pv 8) ab)) ab))))))))))))))))))),?_⟩
 try dsimp only[Aw,Ad]
 refine⟨_,D?,a,ns,0,D?,hS,by decide,λc=>?_⟩;dsimp only[av];refine j1 (zs:=uG) (λz hz=>by have:=(pK z hz).2.1;lia) (by decide) λD as H1 s1 eD hp=>?_;have y0:=Yx c (show(8:Int)≠0 by decide);have y1:=YB c (show(0:Int)<8 by decide);refine hid λZZ kZ=>?_;obtain⟨zA,R'⟩:∃z,uG[(c%8).toNat]?=A? z:=⟨_,WS (by show(c%8).toNat<8;lia)⟩;obtain⟨mA,VG,VH⟩:=F! hp R';obtain⟨a1,a2,a3,a4⟩:=pK zA (WT R');refine kZ ?_;refine⟨_,D?,_,_,D?,D?,(by show(0:Int)<8;decide),D,_,_,.ref mA,D?,D?,n! eD,at_nonneg y0 (gmE VG),?_⟩;dsimp only[av];refine⟨_,D?,_,_,D?,D?,⟨by decide,by decide⟩,_,D?,_,mA,zA,D?,VH,a2,λia Ag H2 s2 VI Mw=>?_⟩;dsimp only[av];refine j1 (zs:=uK) (λz hz=>by have:=(p8 z hz).2.1;lia) (by decide) λD2 as2 H3 s3 Iq Bs=>?_;have x0:=Yx (c / 8) (show(8:Int)≠0 by decide);have x1:=YB (c / 8) (show(0:Int)<8 by decide);refine hid λZZ kZ=>?_;obtain⟨zB,Sa⟩:∃z,uK[(c / 8%8).toNat]?=A? z:=⟨_,WS (by show(c / 8%8).toNat<8;lia)⟩;obtain⟨mB,VJ,Sb⟩:=F! Bs Sa;obtain⟨b1,b2,b3,b4⟩:=p8 zB (WT Sa);refine kZ ?_;refine⟨_,D?,_,_,D?,D?,⟨by decide,by decide⟩,_,_,D?,D?,(by show(0:Int)<8;decide),D2,_,_,.ref mB,D?,D?,n! Iq,at_nonneg x0 (gmE VJ),?_⟩;dsimp only[av];refine⟨_,D?,_,_,D?,D?,⟨by decide,by decide⟩,_,D?,_,mB,zB,D?,Sb,b2,λoa Az H4 s4 E9 Sd=>?_⟩;dsimp only[av];have MA:=s1.trans (s2.trans (s3.trans s4));have gi:cN (mE (c / 64) zA):=nb a1 a2 a3 a4;have go:cN (mE (c / 6656) zB):=nb b1 b2 b3 b4;have Lg:=s3.trans s4;have Lh:=Lg _ _ VI;have Li:=Mw.mono (k! Lg);have Lj:=s4 _ _ Sb;have hiL:Ag.length=zA.length:=by have:=W3 Mw;rw[gE]at this;exact this.symm
 refine⟨_,D?,a,ns,1,D?,MA.seq hS,by decide,λc1=>?_⟩;have n0:=Yx c1 (show(5:Int)≠0 by decide);have n1:=YB c1 (show(0:Int)<5 by decide);refine⟨_,_,D?,D?,(by show(0:Int)<5;decide),_,_,D?,D?,?_⟩;dsimp only[av];refine cg (λAa H'=>An2 (H4=H') (Ex1 λ(N:Nat)=>An2 (N<=5) (Aa=[A? (.ref a),A? (.int c),A? (.ref mB),A? (.ref ia),A? (.ref oa),A? (.int (N:Nat)),B?,B?,B?,B?,B?,B?,B?]))) (λkk AN=>?_) ?_
 .refine cw (λb H'=>H4=H') (λk2 Bp=>?_) (λH' hb=>?_) (λH' hb=>?_)
  .exact⟨_,D?,a,ns,1,D?,MA.seq hS,by decide,λc2=>⟨_,_,D?,D?,(by show(0:Int)<11;decide),D?,_,D?,Bp _ _ rfl⟩⟩
  .subst hb;exact AN _ _ ⟨rfl,0,by decide,rfl⟩
  .subst hb;exact AN _ _ ⟨rfl,(1+c1%5).toNat,by lia,by rw[Yu (by lia)];rfl⟩
 rintro Aa H' ⟨rfl,N,Ll,rfl⟩;have Se:∀M:Int,M∈zB->(∀x∈zB,x<=M)->(M=3↔(3:Int)∈zB):=λM h1 h2=>⟨λh=>by rw[<-h];exact h1,λh=>by have:=h2 3 h;have:=(b3 M h1).2;lia⟩;have Lm:zB≠[]:=λz=>by rw[z]at b1;simp at b1
 refine cg (λAa H'=>An2 (H4=H') (Ex1 λ(N:Nat)=>An3 (N<=5) (((3:Int)∈zB->N<=2)) (Aa=[A? (.ref a),A? (.int c),A? (.ref mB),A? (.ref ia),A? (.ref oa),A? (.int (N:Nat)),B?,B?,B?,B?,B?,B?,B?]))) (λkk AN=>?_) ?_
 .refine cw (λb H'=>An2 (H4=H') ((b=C?↔(3:Int)∈zB))) (λk2 Bp=>?_) (λH' hb=>?_) (λH' hb=>?_)
  .refine⟨_,D?,mB,zB,D?,n! Lj,Lm,λM Lf Ln=>⟨D?,_,D?,Bp _ _ ⟨D?,?_⟩⟩⟩;rw[<-Se M Lf Ln];exact⟨λh=>V.int.inj (e! h),λh=>d! (by rw[h])⟩
  .obtain⟨rfl,hb⟩:=hb;refine⟨_,D?,_,_,D?,?_⟩;dsimp only[av];by_cases h2:(2:Int)<(N:Nat)
   .rw[b! h2];exact AN _ _ ⟨rfl,2,by decide,λ_=>by decide,rfl⟩
   .rw[a! h2];exact AN _ _ ⟨rfl,N,Ll,λ_=>by lia,rfl⟩
  .obtain⟨rfl,hb⟩:=hb;exact AN _ _ ⟨rfl,N,Ll,λh=>g! (hb.mpr h) W0,rfl⟩
 clear Ll;rintro Aa H' ⟨rfl,N,Ll,VL,rfl⟩;refine cg (λAa H'=>An2 (H4=H') (Ex1 λ(dp:Nat)=>An2 ((dp=2/\N<3/\(3:Int)∉zB\/dp=1)) (Aa=[A? (.ref a),A? (.int c),A? (.ref mB),A? (.ref ia),A? (.ref oa),A? (.int (N:Nat)),A? (.int (dp:Nat)),B?,B?,B?,B?,B?,B?]))) (λkk AN=>?_) ?_
 .refine⟨_,D?,_,_,D?,D?,_,D?,?_⟩;refine cu (λcc=>?_) (λcc=>?_)
  .have cc':((N:Nat):Int)<3:=e! cc;refine⟨_,D?,mB,zB,D?,n! Lj,Lm,λM Lf Ln=>⟨_,_,D?,D?,.inr ⟨_,D?,_,_,D?,D?,?_⟩⟩⟩;dsimp only[av];have hM:=Se M Lf Ln;have hM3:=(b3 M Lf).2;by_cases h3:M<3
   .exact AN _ _ ⟨rfl,2,.inl ⟨rfl,by lia,λz=>by have:=hM.mpr z;lia⟩,by rw[b! (d! h3)];rfl⟩
   .exact AN _ _ ⟨rfl,1,.inr rfl,by rw[a! (λz=>h3 (e! z))];rfl⟩
  .refine .inr ⟨_,rfl,_,_,rfl,rfl,?_⟩;dsimp only[av];exact AN _ _ ⟨rfl,1,.inr rfl,rfl⟩
 rintro Aa H' ⟨rfl,dp,Sf,rfl⟩;generalize P6:mE (c / 64) zA=ins at gi Li;generalize Lo:mE (c / 6656) zB=outs at go Sd;have Ck:ins.length=zA.length:=by rw[<-P6,gE]
 refine hid λZZ kZ=>?_
 obtain⟨W,MB,E3,GX⟩:∃W:Nat,1<=W/\(∀z∈outs,z.2<=(W:Int))/\(dp+1<=3/\W ^ (dp+1)<=9/\szB W (dp+1)<=15/\N * W ^ (dp+1)<=20):=by
  have hz:∀z∈outs,z.2∈zB:=λz hz=>by
   rw[<-Lo]at hz;obtain⟨i,hi⟩:=Xi.mp hz;obtain⟨h1,rfl⟩:=fP hi;show zB.getD i 0∈zB;rw[List.getD,WS h1];exact List.getElem_mem h1
  by_cases h3:(3:Int)∈zB
  .have hn:=VL h3;rcases Sf with⟨_,_,h⟩|rfl
   .exact g! h3 h
   .exact⟨3,by decide,λz h=>(b3 _ (hz z h)).2,by decide,by decide,by decide,by show N * 9<=20;lia⟩
  .have h2:∀z∈outs,z.2<=((2:Nat):Int):=λz h=>by
    have h5:=hz z h;have h6:=(b3 _ h5).2;have h7:z.2≠3:=λe=>h3 (by rw[<-e];exact h5);lia
   rcases Sf with⟨rfl,hn,_⟩|rfl
   .exact⟨2,by decide,h2,by decide,by decide,by decide,by show N * 8<=20;lia⟩
   .exact⟨2,by decide,h2,by decide,by decide,by decide,by show N * 4<=20;lia⟩
 refine kZ ?_;have VM:1<=dp/\dp<=2:=by lia
 have hNL:N * Ag.length<=5 * 5:=Nat.mul_le_mul Ll (show Ag.length<=5 by lia);refine⟨_,D?,_,D?,_,D?,ia,_,D?,.inr (l! Lh),_,_,D?,D?,.inl ⟨by lia,by lia⟩,_,_,D?,D?,a,ns,1+N * Ag.length,?_,MA.seq hS,Cy,by lia,by lia,λcl cs H5 s5 EY Br=>?_⟩
 .rw[WN,Int.natCast_add,Int.natCast_mul];rfl
 dsimp only[av];refine⟨lnE rfl,λrl C8=>?_⟩;refine gU C8 λH6 s6 e6=>?_;have e6:H6 rl=A? (.lst (([]:List WR).map i!)):=e6;dsimp only[av];have Iv:=MA.trans s5;have EH:=s5 _ _ Lh;have Lp:=Li.mono (k! s5);have HS:=s5 _ _ E9;have HU:=Sd.mono (k! s5)
 have VN:∀i:Nat,i<N->1+i * Ag.length+Ag.length<=cs.length:=λi hi=>by
  have h1:(i+1) * Ag.length<=N * Ag.length:=Y3 _ hi;rw[Nat.succ_mul]at h1;lia
 refine⟨_,D?,(N:Int),D?,by lia,by lia,?_⟩
 refine dg (n:=((N:Nat):Int).toNat) (λi Z H7=>Ex6 λ(sv ev rv jv:Option V)(bs:List WR)(rows:List (List Th))=>An6 (Z=[A? (.ref a),A? (.int c),A? (.ref mB),A? (.ref ia),A? (.ref oa),A? (.int (N:Nat)),A? (.int (dp:Nat)),A? (.ref cl),A? (.ref rl),sv,ev,rv,jv]) (j! H5 H7) (H7 rl=A? (.lst (bs.map i!))) (Xp (RowAt H7) rows bs) (rows.length=i) (∀row∈rows,row.length=ins.length/\∀(j:Nat)(p:Th)(k:Xk×Int),row[j]?=A? p->ins[j]?=A? k->PB outs (N:Nat) k.2 W (dp+1) p))
  ⟨B?,B?,B?,B?,[],[],rfl,s6,e6,.nil,rfl,λrow h=>by cases h⟩ ?_ ?_
 .rintro i Z H7 hi ⟨sv,ev,rv,jv,bs,rows,rfl,s7,e7,An,DR,CM⟩
  have AW:i<N:=by
   have h1:i<((N:Nat):Int).toNat:=hi;lia
  have Bf:rows.length=bs.length:=W3 An;have hci:=VN i AW;obtain⟨x,hx⟩:∃x,cs[1+i * Ag.length]?=A? x:=⟨_,WS (by lia)⟩;have s57:=s7
  have hsz:(1:Int)+(0+(i:Int)) * (((Ag.map i!).length:Nat):Int)=((1+i * Ag.length:Nat):Int):=by
   rw[Yq,WN,Int.natCast_add,Int.natCast_mul];rfl
  refine⟨_,D?,_,D?,_,D?,ia,_,D?,.inr (l! (s7 _ _ EH)),_,_,D?,D?,.inl ⟨by lia,by lia⟩,_,_,D?,D?,cl,_,_,.int x,D?,D?,n! (s7 _ _ EY),by rw[hsz];exact at_nonneg (by lia) (by rw[XH,WZ,hx];rfl),x,77,D?,λsd _=>?_⟩;dsimp only[av];refine⟨lnE rfl,λwl D4=>?_⟩;refine gU D4 λH8 s8 e8=>?_;have e8:H8 wl=A? (.lst (([]:List WR).map i!)):=e8;dsimp only[av];have Dt:=s7.trans s8;refine⟨_,D?,ia,_,D?,.inr (l! (Dt _ _ EH)),_,D?,by lia,by rw[WN];lia,?_⟩
  refine dg (n:=(((Ag.map i!).length:Nat):Int).toNat) (λj Z H9=>Ex3 λ(jv:Option V)(as:List WR)(ts:List Th)=>An6 (Z=[A? (.ref a),A? (.int c),A? (.ref mB),A? (.ref ia),A? (.ref oa),A? (.int (N:Nat)),A? (.int (dp:Nat)),A? (.ref cl),A? (.ref rl),A? (.int (0+(i:Int))),A? (.int sd),A? (.ref wl),jv]) (j! H7 H9) (H9 wl=A? (.lst (as.map i!))) (Ats H9 ts as) (ts.length=j) (∀(j':Nat)(p:Th)(k:Xk×Int),ts[j']?=A? p->ins[j']?=A? k->PB outs (N:Nat) k.2 W (dp+1) p))
   ⟨jv,[],[],rfl,s8,e8,.nil,rfl,λj p k h=>by simp at h⟩ ?_ ?_
  .rintro j Z H9 hj ⟨jv,as,ts,rfl,s9,e9,Cr,Ay,Ac⟩
   have Au:j<Ag.length:=by
    have h1:j<(((Ag.map i!).length:Nat):Int).toNat:=hj;rw[WN]at h1;lia
   have Bc:=Cr.length;refine hid λZZ kZ=>?_;obtain⟨y,hy⟩:∃y,cs[1+i * Ag.length+j]?=A? y:=⟨_,WS (by lia)⟩;obtain⟨k0,Co⟩:∃k0,ins[j]?=A? k0:=⟨_,WS (by lia)⟩;have DY:=s7.trans s9;obtain⟨ka,BI,Ee⟩:=F! (Lp.mono (k! DY)) Co;refine kZ ?_;have Cd:=gi.num k0 (WT Co)
   have CI:(1:Int)+(0+(i:Int)) * (((Ag.map i!).length:Nat):Int)+(0+(j:Int))=((1+i * Ag.length+j:Nat):Int):=by
    rw[hsz,Yq,Int.natCast_add (1+i * Ag.length)]
   refine⟨_,D?,.inl ⟨D?,_,n! e9⟩,_,D?,_,D?,_,D?,_,D?,ia,_,D?,.inr (l! (DY _ _ EH)),_,_,D?,D?,.inl ⟨by lia,by lia⟩,_,_,D?,D?,_,D?,_,_,D?,D?,cl,_,_,.int y,D?,D?,n! (DY _ _ EY),by rw[CI];exact at_nonneg (by lia) (by rw[XH,WZ,hy];rfl),?_⟩;refine⟨_,D?,_,D?,_,D?,_,D?,_,D?,ia,_,_,.ref ka,D?,D?,l! (DY _ _ EH),at_nonneg (by lia) (by rw[show(0+(j:Int)).toNat=j by lia,WZ,BI];rfl),ka,_,1,.int k0.2,D?,D?,l! Ee,at1,?_⟩;refine⟨sd,y,(dp:Nat),oa,Az,outs,(N:Nat),k0.2,W,D?,DY _ _ HS,HU.mono (k! DY),go,MB,E3,by lia,by lia,Cd.1,Cd.2,by lia,by lia,λr t HA sA VO VP=>?_⟩;have eA:=sA _ _ e9;refine⟨wl,_,_,D?,D?,eA,lbE (by lia),?_⟩;have k7:KT HA (upd HA wl (.lst (as.map i!++[.ref r]))):=aL eA;refine⟨_,as++[r],ts++[t],D?,ak (s9.trans sA) D4,uAE,Ats.append (Cr.mono ((k! sA).trans k7)) (.cons (VO.mono k7) .nil),by rw[Xd,Ay];rfl,λj' p k hp hk=>?_⟩;rcases Nat.lt_or_ge j' ts.length with Ak|G1
   .rw[Yw Ak]at hp;exact Ac j' p k hp hk
   .rw[Y9 G1]at hp
    have h0:j' - ts.length=0:=by
     have:=(glE hp);rw[List.length_singleton]at this;lia
    rw[h0]at hp;cases hp;rw[show j'=j by lia,Co]at hk;cases hk;exact VP
  .rintro Z H9 ⟨jv,as,ts,rfl,s9,e9,Cr,Ay,Ac⟩
   have BK:ts.length=ins.length:=by
    have h1:ts.length=(((Ag.map i!).length:Nat):Int).toNat:=Ay;rw[WN]at h1;lia
   have Sg:=s9 _ _ e7;refine⟨_,D?,.inl ⟨D?,_,n! Sg⟩,_,D?,wl,_,D?,.inl ⟨n! e9,λtp CL=>?_⟩⟩;refine gU CL λHA sA eA=>?_;have Sh:=sA _ _ Sg;refine⟨rl,_,_,D?,D?,Sh,lbE (by lia),?_⟩;have kB:KT HA (upd HA rl (.lst (bs.map i!++[.ref tp]))):=aL Sh;refine⟨_,_,_,_,bs++[tp],rows++[ts],D?,ak (s7.trans (s9.trans sA)) C8,uAE,?_,by rw[Xd,DR];rfl,λrow hr=>?_⟩
   .exact r! (x! (λ_ _ e=>RowAt.mono ((k! (s9.trans sA)).trans kB) e) An) (.cons ⟨as,kB _ _ eA,Cr.mono ((k! sA).trans kB)⟩ .nil)
   .rcases XA.mp hr with hr|hr
    .exact CM row hr
    .rw[Xc.mp hr];exact⟨BK,Ac⟩
 rintro Z H7 ⟨sv,ev,rv,jv,bs,rows,rfl,s7,e7,An,DR,CM⟩;rw[XH]at DR;have Bf:rows.length=bs.length:=W3 An;obtain⟨x,hx⟩:∃x,cs[0]?=A? x:=⟨_,WS (by lia)⟩;refine⟨_,D?,_,D?,_,D?,cl,_,0,.int x,D?,D?,n! (s7 _ _ EY),at_nonneg (by decide) (by show(cs.map p!)[0]?=_;rw[WZ,hx];rfl),?_⟩;refine⟨_,D?,_,D?,_,D?,x,(dp:Nat),oa,Az,outs,(N:Nat),1,W,D?,s7 _ _ HS,HU.mono (k! s7),go,MB,E3,by lia,by lia,by decide,by decide,by lia,(by show((dp:Nat):Int)<=2;lia),by lia,λha t H8 s8 Si Sj=>?_⟩;refine⟨_,D?,rl,_,D?,.inl ⟨n! (s8 _ _ e7),λtp CL=>?_⟩⟩;refine gU CL λH9 s9 e9=>?_;refine⟨lnE rfl,λb hb=>?_⟩;have sA:=af hb (.tup [.ref ia,.ref oa,.ref ha,.ref tp]);have Lq:=s7.trans (s8.trans (s9.trans sA));have VQ:=k! (s8.trans (s9.trans sA));refine q b ia oa ha tp Ag Az bs ins outs W (dp+1) t rows _ (Iv.trans Lq) ⟨ac,Lq _ _ EH,Lp.mono (k! Lq),Lq _ _ HS,HU.mono (k! Lq),Si.mono (k! (s9.trans sA)),sA _ _ e9,x! (λ_ _ e=>RowAt.mono VQ e) An⟩ ?_;rw[XH]at Sj;refine⟨gi,go,MB,?_,?_,by lia,by rw[DR];exact GX⟩
 .rw[DR];exact Sj.up MB (Int.le_refl _) (Int.le_refl _)
 .rw[DR];exact CM
structure BkAtK(K:WQ)(H:Hp)(ins:List (Xk×Int))(head:Th)(rows:List (List Th))(b ia oa ha ra:WR)(Ag AE:List WR):Prop where
 bk:H b=A? (.tup [.ref ia,.ref oa,.ref ha,.ref ra])
 inE:H ia=A? (.tup (Ag.map i!))
 inK:KsAt H ins Ag
 hd:AtK .i K H head ha
 rl:H ra=A? (.tup (AE.map i!))
 rw:Xp (RowK K H) rows AE
def BkK(K:WQ)(H:Hp)(ins:List (Xk×Int))(head:Th)(rows:List (List Th))(b:WR):Prop:=∃ia oa ha ra Ag AE,BkAtK K H ins head rows b ia oa ha ra Ag AE
theorem BkAtK.mono(k:KT H H')(h:BkAtK K H ins head rows b ia oa ha ra Ag AE):BkAtK K H' ins head rows b ia oa ha ra Ag AE :=
 ⟨k _ _ h.bk,k _ _ h.inE,h.inK.mono k,h.hd.mono k,k _ _ h.rl,x! (λ_ _ e=>e.mono k) h.rw⟩
def vH(H:Hp)(s:Int)(b:WR):Prop:=∃c:Int,H b=A? (.tup [.int s,.int c])
theorem pM(k:KT H H'){l:List Int}(h:Xp (vH H) l as):Xp (vH H') l as:=x! (λ_ _⟨c,e⟩=>⟨c,k _ _ e⟩) h
def mK(K:WQ):Nat->Sp
 |0=>λ_ _ _ _=>False
 |n+1=>λvs H Q _=>∃(a:WR)(t:Th),vs=[.ref a]/\AtK .i K H t a/\t.size<=1000/\t.tall<=n+1/\∀(r:WR)(as:List WR)(H':Hp),j! H H'->H r=B?->H' r=A? (.lst (as.map i!))->Xp (vH H') (stT t) as->Q (.ref r) H'
mutual
theorem iZ:∀t:Th,(stT t).length<=t.size
 |.call s k=>by rw[eO,q!];exact WW _
 | .knot n ks=>by
   have:=kU ks;rw[cU,q!];lia
theorem kU:∀ts:List Th,(aT ts).length<=ao ts
 | []=>Xh _
 | t::ts=>by
   have h1:=iZ t;have h2:=kU ts;show(stT t++aT ts).length<=_;rw[Xd,ao];lia
end
theorem i4(a b:List Th):aT (a++b)=aT a++aT b:=List.flatMap_append
theorem fE:∀n:Nat,aU P w K mg base CX0 n T.g_53.f T.g_53.d ["pattern"] (mK K n)
 |0=>⟨λ_ _ _ _ h=>h.elim,λ_ _ _ _ _ _ _ _ _ _ _ _ _ h=>h.elim⟩
 | n+1=>by
   have ih:=fE n;refine T.g_53.F.ok dq (λvs H Q E h=>?_) (λAh A outer s H vs Q E hr h=>?_)
   .obtain⟨a,t,rfl,_⟩:=h;rfl
   obtain⟨a,t,rfl,hA,hsz,Ay,k⟩:=h
   refine⟨_,(ad (bK (aW fR (aA aD (pv 0) ag (λ_ _=>rfl)) gH (aQ _)) (ae (aw (bx (aa (aE (aa (aA aD (pv 0) ag (λ_ _=>rfl)) (aa (aA aD (pv 0) ag (λ_ _=>rfl)) ab))) ab)))) bh)
    (ad (am 1 dq.nd (bx ab))
    (ad (bq Xr rfl (dH (dC iK (pv 0) (dQ ag) fk)) (pgN 2 dq.nd) (ae (am 1 dq.nd (aC wc (pv 1) (dY (ih) (hr.mono (WW _)) rfl T.g_53.m T.g_53.F.kp T.g_53.b .nil gy (aa (pv 2) ab))))))
    (ae (aw (pv 1)))))),?_⟩
   try dsimp only[Aw,Ad]
   cases t with
   | call sn kn =>
     rw[AtK]at hA;obtain⟨v,ea,hv⟩:=hA;obtain rfl:v=p! sn:=hv;refine⟨_,D?,a,_,0,.str q,D?,D?,ea.sq,at0,D?,_,D?,?_⟩;refine cu (λ_=>?_) (λc=>g! (d! rfl) c);refine⟨_,D?,a,_,1,.int sn,D?,D?,ea.sq,at1,_,D?,a,_,2,.int kn,D?,D?,ea.sq,at2,lnE rfl,λpr Bu=>?_⟩;refine gU Bu λH0 s0 e0=>?_;refine⟨lnE rfl,λfd Lr=>?_⟩;have s1:=af Lr (.lst [.ref pr]);refine k fd [pr] _ (s0.trans s1) (s0.free Lr) ac ?_;rw[eO];exact .cons ⟨kn,s1 _ _ e0⟩ .nil
   |knot nm ks =>
   rw[t!]at Ay;rw[q!]at hsz;rw[AtK]at hA;refine hid λZZ kZ=>?_;obtain⟨P7,ka,ea,BI⟩:=hA;refine kZ ?_;have BQ:ka.length=ks.length:=BI.length;have JO:=cj ks;refine⟨_,D?,a,_,0,.str nm,D?,D?,ea.sq,at0,D?,_,D?,?_⟩;refine cu (λc=>g! (e! c) (λz=>P7 (V.str.inj z))) (λ_=>?_);refine⟨lnE rfl,λfd Lr=>?_⟩;refine gU Lr λH2 s2 e2=>?_;refine⟨_,D?,1,D?,a,_,D?,(ea.mono (k! s2)).sq,?_,λp2 Bs=>?_⟩
   .rintro⟨z,_⟩;rw[W2,show(1:Int)=((1:Nat):Int)by rfl,HT.sIx_nat]at z;lia
   rw[fN];have B3:j! H (upd H2 p2 (.tup (ka.map i!))):=s2.trans (af Bs _);have DJ:(upd H2 p2 (.tup (ka.map i!))) p2=A? (.tup (ka.map i!)):=ac;have Lu:(upd H2 p2 (.tup (ka.map i!))) fd=A? (.lst []):=af Bs _ _ _ e2;generalize(upd H2 p2 (.tup (ka.map i!)))=H1 at B3 DJ Lu |-;refine⟨p2,D?,⟨_,l! DJ⟩,?_⟩;refine jj (K:=K) (a:=p2) (xs:=ka.map i!) (λi Z H3=>Ex3 λ(c:Option V)(fl:WR)(as:List WR)=>An6 (Z=[A? (.ref a),A? (.ref fl),c]) (j! H H3) (H fl=B?) (H3 p2=A? (.tup (ka.map i!))) (H3 fl=A? (.lst (as.map i!))) (Xp (vH H3) (aT (ks.take i)) as)) ⟨B?,fd,[],rfl,B3,Lr,DJ,Lu,.nil⟩ (λi Z H3 _⟨_,_,_,_,_,_,e,_,_⟩=>l! e) ?_ ?_
   .rintro i x Z H3 hx ⟨c,fl,as,rfl,s3,Hr,Sk,e3,FH⟩;obtain⟨ua,rfl,Eo⟩:=aH hx;obtain⟨u,hu,HJ⟩:=BI.get Eo;have HM:u∈ks:=WT hu;have N7:=ce HM;have hsu:=aZ HM;cases n with
    | zero =>
      have:=u.tall_eq;lia
    |succ n =>
    refine⟨_,D?,_,D?,ua,u,D?,HJ.mono (k! s3),by lia,by lia,λr bs H6 s6 nr er An=>?_⟩;have e6:=s6 _ _ e3;have g1:=kU (ks.take i);have g2:=sf i ks;have g3:=iZ u;have l1:=W3 FH;have l2:=W3 An;refine⟨fl,r,_,_,D?,D?,e6,er,cT (by rw[WN,WN];lia),λp hp=>?_⟩;have s7:=af hp (.lst (as.map i!++bs.map i!));refine⟨_,p,as++bs,D?,s3.trans (s6.trans s7),(s3.trans s6).free hp,(s6.trans s7) _ _ Sk,by rw[ac,W8],?_⟩;rw[XU,hu];show Xp _ (aT (ks.take i++[u])) _;rw[i4];show Xp _ (aT (ks.take i)++(stT u++[])) _;rw[Xs];exact r! (pM (k! (s6.trans s7)) FH) (pM (k! s7) An)
   .rintro Z H3 ⟨c,fl,as,rfl,s3,Hr,Sk,e3,FH⟩;rw[WN,BQ,Yh]at FH;exact⟨_,D?,k fl as H3 s3 Hr e3 (by rw[cU];exact FH)⟩
def PSm(p:Th):Prop:=p.size<=600/\p.tall<=38
inductive fM(K:WQ)(vs:List V)(H:Hp)(Q:VK)(_E:XK):Prop
 |mk (b:WR) (ins:List (Xk×Int)) (head:Th) (rows:List (List Th)):vs=[.ref b]->BkK K H ins head rows b->PSm head->rows.length<=20->(∀row∈rows,row.length<=8/\∀p∈row,PSm p)->aR [] (stT head++rows.flatMap aT)=(Xq rows.length).map (λ(i:Nat)=>(i:Int))->(∀H',j! H H'->Q (.bl C?) H')->fM K vs H Q _E
theorem ug(h:∀p∈ts,PSm p):(aT ts).length<=ts.length * 600:=by
 induction ts with
 |nil=>exact Xh _
 | cons t ts ih =>
   have h1:=iZ t;have h2:=(h t (Xe ..)).1;have h3:=ih λp hp=>h p (Xb _ hp);show(stT t++aT ts).length<=(ts.length+1) * 600;rw[Xd,Nat.succ_mul];lia
theorem ud{l:List Int}(h:Xp (vH H) l as){z:Int}{x:V}(hz:l[i]?=A? z)(hx:(as.map i!)[i]?=A? x):∃a c,x=.ref a/\H a=A? (.tup [.int z,.int c]):=by
 refine hid λZZ kZ=>?_;obtain⟨a,rfl,ha⟩:=aH hx;obtain⟨z',BO,c,e⟩:=y! h ha;refine kZ ?_;rw[hz]at BO;cases BO;exact⟨a,c,D?,e⟩
theorem rg{x:Int}:inV (.int x) (m.map p!)=decide (x∈m):=by
 unfold inV;rw[List.any_map];by_cases h:x∈m
 .rw[d! h];exact List.any_eq_true.mpr ⟨x,h,by show eqV (.int x) (.int x)=C?;simp[eqV]⟩
 .rw[c! h];refine Yj.mpr λz=>h ?_;obtain⟨y,hy,e⟩:=List.any_eq_true.mp z;have e':eqV (.int y) (.int x)=true:=e;have e2:y=x:=by simpa[eqV]using e'
  exact e2 ▸ hy
theorem uN(m:List Int):(m.map p!).all iY=true:=by
 rw[List.all_map];exact List.all_eq_true.mpr λx _=>rfl
theorem jG:aU P w K mg base CX0 42 T.g_57.f T.g_57.d ["book"] (fM K):=by
 refine T.g_57.F.okA bu λAh A outer s H vs Q E hr h=>?_;obtain⟨b,ins,head,rows,rfl,hb,hh,C8,IC,ho,k⟩:=h
 refine⟨_,(ad (dr (i:=1) (N:=["call"]) (js:=[B?]) (g:=(av 0)) (tt:=bE) (te:=(tOp (wz K) (bi 0) (tC (.int 0)))) bu.nd rfl (Or.inl rfl) rfl (cp rfl (by decide +kernel) (by decide +kernel) rfl rfl rfl) (bS (pcF T.g_53 (fE T 40) hr (aa (aA aD (pv 0) ag (λ_ _=>rfl)) ab))) (λ_ _ _ _ _ _=>(pgN 0 zj)) (aK rfl) (λ_ _ _ _ _ _=>bM) (λ_ _ _ _ _ _=>(aA aD (pv 0) ag (λ_ _=>rfl))))
  (ad (bq Xr rfl (dH (aA aD (pv 0) ag (λ_ _=>rfl))) (pgN 2 bu.nd) (ae (bq Xr rfl (dH (pv 2)) (pgN 3 bu.nd) (ae (am 1 bu.nd (aC wc (pv 1) (cq (N:=["call"]) (js:=[B?]) (g:=(av 0)) (tt:=bE) (te:=(tOp (wz K) (bi 0) (tC (.int 0)))) rfl (cp rfl (by decide +kernel) (by decide +kernel) rfl rfl rfl) (bS (pcF T.g_53 (fE T 40) hr (aa (pv 3) ab))) (λ_ _ _ _ _ _=>(pgN 0 zj)) (aK rfl) (λ_ _ _ _ _ _=>bM) (λ_ _ _ _ _ _=>(aA aD (pv 0) ag (λ_ _=>rfl))))))))))
  (ad (am 4 bu.nd (bx ab))
  (ad (bq Xr rfl (bS (pv 1)) (pgN 5 bu.nd) (ae (bK (aW pB (pv 5) (pv 4) (by with_unfolding_all rfl)) (ae (aS (bW Xf Xw Xv aO (pv 4) (aa (pv 5) ab)))) bh)))
  (ae (aw (cW (tK (B:=150) (eQ hr)) (pv 4) (yR rfl rfl T.n_7 rfl T.n_10 (aa (ax aq rfl T.n_6 XD (aa (aA aD (pv 0) ag (λ_ _=>rfl)) ab)) ab)) (aQ _)))))))),?_⟩
 try dsimp only[Aw,Ad]
 refine hid λZZ kZ=>?_;obtain⟨ia,oa,ha,ra,Ag,AE,bk⟩:=hb;obtain⟨Ol,VR⟩:=hh;refine kZ ?_;have hg:=iZ head;refine⟨_,D?,b,_,2,.ref ha,D?,D?,l! bk.bk,at2,ha,head,D?,bk.hd,by lia,by show head.tall<=40;lia,λr as H1 s1 KR er hp=>?_⟩;have AK:=W3 hp;refine⟨r,D?,⟨_,n! er⟩,iW (stT head) p! (n! er) (by rw[WN];exact AK) (by rw[WN];lia) (λi x z H2 R W' hx hz s2 hR=>?_) (λD H2 hD s2 e2=>?_)⟩
 .obtain⟨a,c,rfl,e⟩:=ud hp hz hx;exact⟨_,D?,a,_,0,.int z,D?,D?,l! (s2 _ _ e),at0,hR H2 (.refl _)⟩
 have B2:=s1.trans s2;have RB:H D=none:=s1.free hD;refine⟨_,D?,b,_,3,.ref ra,D?,D?,l! (B2 _ _ bk.bk),bP (j:=3) rfl,ra,D?,⟨_,l! (B2 _ _ bk.rl)⟩,?_⟩;have Sl:=bk.rw;have FU:AE.length=rows.length:=(W3 Sl).symm;refine jj (K:=K) (a:=ra) (xs:=AE.map i!) (λi Z H3=>Ex3 λ(m:WR)(c d:Option V)=>An3 (Z=[A? (.ref b),A? (.ref m),c,d,B?,B?]) (j! H H3) (H3 m=A? (.lst ((stT head++(rows.take i).flatMap aT).map p!)))) ⟨D,B?,B?,rfl,B2,by rw[e2,Zk,List.flatMap_nil,Xs]⟩ (λi Z H3 _⟨_,_,_,_,s3,_⟩=>l! (s3 _ _ bk.rl)) ?_ ?_
 .rintro i x Z H3 hx ⟨m,c,d,rfl,s3,em⟩;refine hid λZZ kZ=>?_;obtain⟨AM,rfl,Be⟩:=aH hx;obtain⟨row,Af,ID,Di,CQ⟩:=y! Sl Be;obtain⟨Si,MC⟩:=IC row (WT Af);refine kZ ?_;have Ay:=CQ.length;refine⟨_,D?,AM,D?,⟨_,l! (s3 _ _ Di)⟩,?_⟩;refine jj (K:=K) (a:=AM) (xs:=ID.map i!) (λj Z H4=>Ex2 λ(m:WR)(d:Option V)=>An3 (Z=[A? (.ref b),A? (.ref m),A? (.ref AM),d,B?,B?]) (j! H H4) (H4 m=A? (.lst ((stT head++(rows.take i).flatMap aT++aT (row.take j)).map p!)))) ⟨m,_,rfl,s3,by rw[em,Zk];show _=A? (HO.lst ((_++[]).map _));rw[Xs]⟩ (λj Z H4 _⟨_,_,_,s4,_⟩=>l! (s4 _ _ Di)) ?_ ?_
  .rintro j y Z H4 hy ⟨m,d,rfl,s4,em⟩;refine hid λZZ kZ=>?_;obtain⟨ya,rfl,VS⟩:=aH hy;obtain⟨t,ht,VT⟩:=CQ.get VS;obtain⟨Q0,G2⟩:=MC t (WT ht);refine kZ ?_;have EM:=iZ t;refine⟨_,D?,_,D?,ya,t,D?,VT.mono (k! s4),by lia,by show t.tall<=40;lia,λr as H5 s5 KR er hp=>?_⟩;have AK:=W3 hp;refine⟨r,D?,⟨_,n! er⟩,iW (stT t) p! (n! er) (by rw[WN];exact AK) (by rw[WN];lia) (λi x z H2 R W' hx hz s2 hR=>?_) (λD H6 hD s6 e6=>?_)⟩
   .obtain⟨a,c,rfl,e⟩:=ud hp hz hx;exact⟨_,D?,a,_,0,.int z,D?,D?,l! (s2 _ _ e),at0,hR H2 (.refl _)⟩
   have e5:=s6 _ _ (s5 _ _ em);refine⟨m,D,_,_,D?,D?,e5,e6,cT ?_,λp hp=>?_⟩
   .have h1:=lQ (l:=rows.take i) (f:=aT) (B:=4800) λr hr=>by
     obtain⟨g1,g2⟩:=IC r (List.mem_of_mem_take hr);have:=ug g2;lia
    have h2:=ug (ts:=row.take j) λp hp=>MC p (List.mem_of_mem_take hp);rw[XS]at h1 h2;rw[WN,WN,Xd,Xd];lia
   .have s7:=af hp (.lst ((stT head++(rows.take i).flatMap aT++aT (row.take j)).map p!++(stT t).map p!));refine⟨p,_,D?,s4.trans (s5.trans (s6.trans s7)),?_⟩;rw[ac,XU,ht,<-W8];show _=A? (HO.lst ((_++aT (row.take j++[t])).map p!));rw[i4,XJ];show _=A? (HO.lst ((_++(aT (row.take j)++(stT t++[]))).map p!));rw[Xs]
  .rintro Z H4 ⟨m,d,rfl,s4,em⟩;rw[WN,Ay,Yh]at em;refine⟨m,_,_,D?,s4,?_⟩;rw[em,XU,Af,List.flatMap_append,<-XJ];show _=A? (HO.lst ((_++(aT row++[])).map p!));rw[Xs]
 .rintro Z H3 ⟨m,c,d,rfl,s3,em⟩;rw[WN,FU,Yh]at em;generalize stT head++rows.flatMap aT=l at em ho;refine⟨lnE rfl,λdl Dn=>?_⟩;refine gU Dn λH4 s4 e4=>?_;have e4:H4 dl=A? (.lst (([]:List Int).map p!)):=e4;have Ap:m≠dl:=λz=>by rw[<-z,em]at Dn;cases Dn
  refine⟨_,D?,m,D?,⟨_,n! (s4 _ _ em)⟩,?_⟩
  have B6:∀i,(aR [] (l.take i)).length<=20:=λi=>by
   have h:aR [] (l.take i) <+: aR [] l:=by
    have:aR [] l=aR (aR [] (l.take i)) (l.drop i):=by rw[<-cx,Zf]
    rw[this];exact fb _ _
   have:=h.length_le;rw[ho,WN,Xj]at this;lia
  refine cE (K:=K) (a:=m) (xs:=l.map p!) (λi Z H5=>Ex1 λ(x:Option V)=>An3 (Z=[A? (.ref b),A? (.ref m),c,d,A? (.ref dl),x]) ((∀c o,c≠dl->H4 c=A? o->H5 c=A? o)) (H5 dl=A? (.lst ((aR [] (l.take i)).map p!)))) ⟨B?,rfl,λ_ _ _ e=>e,e4⟩ (λi Z H5 _⟨_,_,sb,_⟩=>n! (sb _ _ Ap (s4 _ _ em))) ?_ ?_
  .rintro i x Z H7 hx ⟨xv,rfl,ED,DF⟩;rw[WZ,XI]at hx;obtain⟨sn,KS,rfl⟩:=hx
   have EE:aR [] (l.take (i+1))=fc (aR [] (l.take i)) sn:=by
    rw[XU,KS,cx];rfl
   have hlj:=B6 i;refine⟨_,D?,_,D?,dl,_,D?,.inl (n! DF),D?,uN _,_,D?,?_⟩;refine cu (λc=>?_) (λc=>?_)
   .have hn:sn∉aR [] (l.take i):=λz=>by
     have c':(!inV (.int sn) ((aR [] (l.take i)).map p!))=true:=c;rw[rg,d! z]at c';cases c'
    refine⟨_,D?,.inl ⟨D?,_,n! DF⟩,_,D?,dl,_,_,D?,D?,DF,lbE (by lia),_,D?,λc o hc e=>?_,?_⟩
    .rw[ai hc];exact ED c o hc e
    .rw[ac,EE];unfold fc;rw[a! hn,W8];rfl
   .have hy:sn∈aR [] (l.take i):=by
     by_cases z:sn∈aR [] (l.take i)
     .exact z
     .exfalso;refine c ?_;show(!inV (.int sn) ((aR [] (l.take i)).map p!))=C?;rw[rg,c! z];rfl
    refine⟨_,D?,ED,?_⟩;rw[EE];unfold fc;rw[b! hy];exact DF
  .rintro Z H7 ⟨xv,rfl,ED,DF⟩;rw[WN,Yh,ho]at DF;have KZ:j! H H7:=λc o e=>ED c o (az e (s3.free Dn)) (s4 _ _ (s3 c o e));refine⟨_,D?,_,D?,b,_,3,.ref ra,D?,D?,l! (KZ _ _ bk.bk),bP (j:=3) rfl,ra,_,D?,.inr (l! (KZ _ _ bk.rl)),rows.length,?_,by lia,λlr VU=>?_⟩
   .rw[WN,FU]
   .have s8:=af VU (.lst ((Xq rows.length).map λ(i:Nat)=>p! (i:Nat)));refine⟨dl,lr,_,_,((Xq rows.length).map λ(i:Nat)=>Dv.int (i:Nat)),((Xq rows.length).map λ(i:Nat)=>Dv.int (i:Nat)),D?,D?,n! (s8 _ _ DF),n! ac,?_,?_,?_,λr hr=>?_⟩
    .rw[YA];have:=pA (H:=upd H7 lr (.lst ((Xq rows.length).map λ(i:Nat)=>p! (i:Nat)))) ((Xq rows.length).map λ(i:Nat)=>(i:Int));rw[YA,YA]at this;exact this
    .have:=pA (H:=upd H7 lr (.lst ((Xq rows.length).map λ(i:Nat)=>p! (i:Nat)))) ((Xq rows.length).map λ(i:Nat)=>(i:Int));rw[YA,YA]at this;exact this
    .have:=nC ((Xq rows.length).map λ(i:Nat)=>(i:Int));rw[YA]at this;exact XC (Nat.le_of_eq this) (Xh _)
    .rw[hr.mpr rfl];exact k _ (KZ.trans s8)
inductive iw(vs:List V)(H:Hp)(Q:VK)(_E:XK):Prop
 |mk (i:Int):vs=[.int i]->Q (.bl C?) H->iw  vs H Q _E
theorem ik:aU P w K mg base CX0 1 T.g_54.f T.g_54.d ["found"] iw:=by
 refine T.g_54.F.okA mL λAh A outer s H vs Q E hr h=>?_;obtain⟨i,rfl,k⟩:=h;refine⟨_,(ae (aw (fA (ax (eE (T:="int")) rfl T.n_5 Yk (aa (pv 0) (aa (dW (v:=.ty "int") rfl T.n_4 PyProof.Rows.boot_int rfl) ab))) (gJ (oU (ax (eE (T:="bool")) rfl T.n_5 Yk (aa (pv 0) (aa (dW (v:=.ty "bool") rfl T.n_1 PyProof.Rows.boot_bool rfl) ab)))))))),?_⟩
 try dsimp only[Aw,Ad]
 refine⟨_,D?,_,_,_,D?,.int i,wm,_,D?,?_⟩;refine sg ?_;exact⟨_,D?,_,_,_,D?,.int i,vV,_,D?,k⟩
def eW(K:WQ):Nat->Sp
 |0=>λ_ _ _ _=>False
 |n+1=>λvs H Q _=>∃(kr a:WR)(Bg:List WR)(BX:List (Xk×Int))(t:Th)(st kd:Int),vs=[.ref a,.ref kr,.int st,.int kd]/\SqT K H kr (Bg.map i!)/\KsAt H BX Bg/\AtK .i K H t a/\t.FitS BX st kd/\t.size<=100000/\t.tall<=n+1/\∀H',j! H H'->Q (.bl C?) H'
theorem cM:∀n:Nat,aU P w K mg base CX0 (n+1) T.g_55.f T.g_55.d ["found","outs","states","kids"] (eW K n)
 |0=>⟨λ_ _ _ _ h=>h.elim,λ_ _ _ _ _ _ _ _ _ _ _ _ _ h=>h.elim⟩
 | n+1=>by
   have ih:=cM n;refine T.g_55.F.ok iC (λvs H Q E h=>?_) (λAh A outer s H vs Q E hr h=>?_)
   .obtain⟨kr,a,Bg,BX,t,st,kd,rfl,_⟩:=h;rfl
   obtain⟨kr,a,Bg,BX,t,st,kd,rfl,hK,BY,hA,hf,hsz,Ay,k⟩:=h
   refine⟨_,(ad (bK (PW.pt (fj (cR (aF (ax (g8 (T:="tuple")) rfl T.n_5 Yk (aa (pv 0) (aa (dW (v:=.ty "tuple") rfl T.n_13 XZ rfl) ab))) (λ_=>rfl))) (fj (aW iy (ax aq rfl T.n_6 XD (aa (pv 0) ab)) ag (aQ _)) (fD (cR (aF (ax (eE (T:="str")) rfl T.n_5 Yk (aa (aA aD (pv 0) ag (λ_ _=>rfl)) (aa (dW (v:=.ty "str") rfl T.n_12 PyProof.Rows.boot_str rfl) ab))) (λ_=>rfl))))))) (ae (aw gG)) bh)
    (ad (bK (aW fR (aA aD (pv 0) ag (λ_ _=>rfl)) gH (aQ _)) (ad (bK (PW.pt (fj (aW wO (ax aq rfl T.n_6 XD (aa (pv 0) ab)) ag (aQ _)) (fj (cR (aF (pcF T.g_54 (ik T) hr (aa (aA aD (pv 0) ag (λ_ _=>rfl)) ab)) (λ_=>rfl))) (fD (cR (aF (pcF T.g_54 (ik T) hr (aa (aA aD (pv 0) ag (λ_ _=>rfl)) ab)) (λ_=>rfl))))))) (ae (aw gG)) bh)
    (ae (aw (fA (l5 nI iy ag (aA aD (pv 0) ag (λ_ _=>rfl)) (pv 2)) (gJ (l5 nI iy ag (aA aD (pv 0) ag (λ_ _=>rfl)) (pv 3))))))) bh)
    (ad (bK (aW (uZ (B:=50) (yv hr)) (aE (aa (aA aD (pv 0) ag (λ_ _=>rfl)) (aa (aC oR (ax aq rfl T.n_6 XD (aa (pv 0) ab)) ag) ab))) (pv 1) (by with_unfolding_all rfl)) (ae (aw gG)) bh)
    (ae (aw (ax (wo rfl) rfl T.n_0 PyProof.Rows.boot_all (aa (cq (N:=["part","outs","states","kids"]) (js:=[B?,A? 1,A? 2,A? 3]) (g:=(av 0)) (tt:=bE) (te:=(cZ (eW K _) [] E0 (aI (bi 0) (aI (bi 1) (aI (bi 2) (aI (bi 3) cK)))))) rfl (cp rfl (by decide +kernel) (by decide +kernel) rfl rfl rfl) (dH (dC iK (pv 0) (dQ ag) fk)) (λ_ _ _ _ _ _=>(pgN 0 abm)) (aK rfl) (λ_ _ _ _ _ _=>bM) (λ_ _ _ _ _ _=>(dY (ih) (hr.mono (WW _)) rfl T.g_55.m T.g_55.F.kp T.g_55.b .nil gy (aa (pv 0) (aa (pv 1) (aa (pv 2) (aa (pv 3) ab))))))) ab))))))),?_⟩
   try dsimp only[Aw,Ad]
   cases t with
   | call sn kn =>
     rw[AtK]at hA;obtain⟨v,ea,hv⟩:=hA;obtain rfl:v=p! sn:=hv;rw[u!]at hf;refine hid λZZ kZ=>?_;obtain⟨f1,f2,f3,f4⟩:=hf;refine kZ ?_;refine⟨_,D?,.inr ⟨_,_,_,D?,ea.sq,lB,_,D?,?_⟩⟩;refine dN ?_;refine⟨_,D?,a,_,D?,.inr ea.sq,_,_,D?,D?,_,D?,?_⟩;refine dN ?_;refine⟨_,D?,a,_,0,.str q,D?,D?,ea.sq,at0,_,_,_,D?,.str q,xE,_,D?,?_⟩;refine dN ?_;refine⟨_,D?,a,_,0,.str q,D?,D?,ea.sq,at0,D?,_,D?,?_⟩;refine cu (λ_=>?_) (λc=>g! (d! rfl) c);refine⟨_,D?,a,_,D?,.inr ea.sq,D?,_,D?,?_⟩;refine dN ?_;refine⟨_,D?,a,_,1,.int sn,D?,D?,ea.sq,at1,sn,D?,_,D?,?_⟩;refine dN ?_;refine⟨_,D?,a,_,2,.int kn,D?,D?,ea.sq,at2,kn,D?,_,D?,?_⟩;refine dN ?_;refine⟨_,D?,a,_,1,.int sn,D?,D?,ea.sq,at1,_,_,D?,D?,_,D?,?_⟩;refine cu (λ_=>?_) (λc=>g! (d! f1) c);refine⟨_,D?,_,_,D?,D?,_,D?,?_⟩;refine cu (λ_=>?_) (λc=>g! (d! f2) c);refine⟨_,D?,a,_,2,.int kn,D?,D?,ea.sq,at2,_,_,D?,D?,_,D?,?_⟩;refine cu (λ_=>?_) (λc=>g! (d! f3) c);refine⟨_,D?,_,_,D?,D?,?_⟩;rw[d! f4];exact k H (.refl _)
   |knot nm ks =>
   rw[AtK]at hA;refine hid λZZ kZ=>?_;obtain⟨P7,ka,ea,BI⟩:=hA;have BQ:ka.length=ks.length:=BI.length;have JO:=cj ks;rw[q!]at hsz;rw[t!]at Ay;rw[u!]at hf;obtain⟨AA,E1⟩:=hf;refine kZ ?_;have hle:BX.length=Bg.length:=W3 BY;have el:(((L! nm::ka.map i!).length:Nat):Int)=(ks.length:Int)+1:=by rw[W2,WN,BQ];lia
   refine⟨_,D?,.inr ⟨_,_,_,D?,ea.sq,lB,_,D?,?_⟩⟩;refine dN ?_;refine⟨_,D?,a,_,D?,.inr ea.sq,_,_,D?,D?,_,D?,?_⟩;rw[el,c! (show¬(ks.length:Int)+1<1 from by lia)];refine dN ?_;refine⟨_,D?,a,_,0,.str nm,D?,D?,ea.sq,at0,_,_,_,D?,.str nm,xE,_,D?,?_⟩;refine dN ?_;refine⟨_,D?,a,_,0,.str nm,D?,D?,ea.sq,at0,D?,_,D?,?_⟩;refine cu (λc=>g! (e! c) (λz=>P7 (V.str.inj z))) (λ_=>?_);refine⟨_,D?,a,_,0,.str nm,D?,D?,ea.sq,at0,_,D?,a,_,D?,.inr ea.sq,_,_,D?,D?,lnE rfl,λp hp=>?_⟩;rw[el];have Fy:(ks.length:Int)+1 - 1=(ks.length:Int):=by lia
   dsimp only;rw[Fy];refine gU hp λH1 s1 e1=>?_;have CJ:=fS BX;refine⟨_,D?,kr,_,kDv (nm,(ks.length:Int)),BX.map kDv,D?,s1.seqT hK,?_,lI (BY.mono (k! s1)),by lia,λr AR=>⟨_,D?,?_⟩⟩
   .rw[kDv,DAt];exact⟨_,_,D?,e1,.cons (by rw[DAt]) (.cons (by rw[DAt]) .nil)⟩
   have VW:r=false:=by
    cases r with
    |false=>rfl
    |true=>exact g! (List.mem_map_of_mem AA) (AR.mp rfl)
   subst VW;refine dN ?_;have VX:=ea.mono (k! s1);refine⟨_,D?,1,D?,a,_,D?,VX.sq,?_,λp3 FH=>?_⟩
   .rintro⟨z,_⟩;rw[W2,show(1:Int)=((1:Nat):Int)by rfl,HT.sIx_nat]at z;lia
   dsimp only;rw[fN];refine gU FH λH2 s2 e2=>?_;have B2:=s1.trans s2;refine⟨p3,D?,⟨_,l! e2⟩,?_⟩;intro D hD;refine⟨ks.length,λj H3=>An3 (j<=ks.length) (j! H2 H3) (H3 D=A? (.lst ((List.replicate j C?).map V.bl))),⟨Xh _,af hD _,ac⟩,?_⟩;rintro j H3 ⟨hj,s3,eD⟩;by_cases B0:j=ks.length
   .left;refine⟨⟨_,l! (s3 _ _ e2),by rw[WN,BQ,B0];exact WW _⟩,?_⟩;refine⟨D,List.replicate j C?,D?,n! eD,?_⟩;rw[show(List.replicate j C?).all id=C? from List.all_eq_true.mpr λb hb=>(List.mem_replicate.mp hb).2];exact k H3 (B2.trans s3)
   .right;have Au:j<ks.length:=by lia
    refine hid λZZ kZ=>?_;obtain⟨f,hf⟩:∃f,ks[j]?=A? f:=⟨_,WS Au⟩;obtain⟨fa,BN,VY⟩:=BI.at hf;refine kZ ?_;have P8:f∈ks:=WT hf;have h1:=ce P8;have h2:=aZ P8;have h3:=f.tall_eq;refine⟨Au,⟨_,.ref fa,l! (s3 _ _ e2),by rw[WZ,BN];rfl⟩,?_⟩;rintro x' H4 ⟨CD,hv⟩;have P9:H4=H3:=CD;subst P9;have AU:=hv _ (l! (s3 _ _ e2));rw[WZ,BN]at AU;cases AU;have CU:=B2.trans s3;obtain⟨m,rfl⟩:∃m,n=m+1:=⟨n - 1,by lia⟩;refine⟨_,D?,_,D?,_,D?,_,D?,kr,fa,Bg,BX,f,st,kd,D?,CU.seqT hK,BY.mono (k! CU),VY.mono (k! CU),FitSs.mem' E1 f P8,by lia,by lia,λH5 s5=>?_⟩;have VZ:=s5 _ _ eD;refine⟨_,VZ,bR (by rw[WN,List.length_replicate];lia),Au,ak (s3.trans s5) hD,?_⟩;rw[ac,List.replicate_succ',W8];rfl
inductive gw(K:WQ)(vs:List V)(H:Hp)(Q:VK)(_E:XK):Prop
 |mk (b ia oa ha ra:WR) (Ag Az AE:List WR) (ins outs:List (Xk×Int)) (head:Th) (rows:List (List Th)):vs=[.ref b,.ref ia,.ref oa]->BkAtK K H ins head rows b ia oa ha ra Ag AE->H oa=A? (.tup (Az.map i!))->KsAt H outs Az->ins.length<=8->outs.length<=8->rows.length<=20->PSm head->head.FitS outs (rows.length:Nat) 1->(∀row∈rows,row.length=ins.length/\∀(j:Nat)(p:Th)(kd:Xk×Int),row[j]?=A? p->ins[j]?=A? kd->PSm p/\p.FitS outs (rows.length:Nat) kd.2)->(∀H',j! H H'->Q (.bl C?) H')->gw K vs H Q _E
theorem kE:aU P w K mg base CX0 41 T.g_56.f T.g_56.d ["found","ins","outs"] (gw K):=by
 refine T.g_56.F.okA dI λAh A outer s H vs Q E hr h=>?_;obtain⟨b,ia,oa,ha,ra,Ag,Az,AE,ins,outs,head,rows,rfl,bk,eo,Ct,Iu,Sm,C8,⟨Ol,VR⟩,V0,IC,k⟩:=h
 refine⟨_,(ad (bK (PW.pt (fj (cR (aF (ax (g8 (T:="tuple")) rfl T.n_5 Yk (aa (pv 0) (aa (dW (v:=.ty "tuple") rfl T.n_13 XZ rfl) ab))) (λ_=>rfl))) (fj (aW wO (ax aq rfl T.n_6 XD (aa (pv 0) ab)) ag (aQ _)) (fj (aW (wQ (B:=150) (eQ hr)) (aA aD (pv 0) ag (λ_ _=>rfl)) (pv 1) (aQ _)) (fD (aW (wQ (B:=150) (eQ hr)) (aA aD (pv 0) ag (λ_ _=>rfl)) (pv 2) (aQ _))))))) (ae (aw gG)) bh)
  (ad (bK (PW.pt (fj (cR (aF (ax (g8 (T:="tuple")) rfl T.n_5 Yk (aa (aA aD (pv 0) ag (λ_ _=>rfl)) (aa (dW (v:=.ty "tuple") rfl T.n_13 XZ rfl) ab))) (λ_=>rfl))) (fD (cR (aF (pcF T.g_55 (cM T 39) hr (aa (aA aD (pv 0) ag (λ_ _=>rfl)) (aa (pv 2) (aa (ax aq rfl T.n_6 XD (aa (aA aD (pv 0) ag (λ_ _=>rfl)) ab)) (aa ag ab))))) (λ_=>rfl)))))) (ae (aw gG)) bh)
  (ad (bq Xr rfl (dH (aA aD (pv 0) ag (λ_ _=>rfl))) (pgN 3 dI.nd) (ad (bK (PW.pt (fj (cR (aF (ax (g8 (T:="tuple")) rfl T.n_5 Yk (aa (pv 3) (aa (dW (v:=.ty "tuple") rfl T.n_13 XZ rfl) ab))) (λ_=>rfl))) (fD (aW wO (ax aq rfl T.n_6 XD (aa (pv 3) ab)) (ax aq rfl T.n_6 XD (aa (pv 1) ab)) (aQ _))))) (ae (aw gG)) bh)
  (ae (bq Xr rfl (bF rfl T.n_10 (aa (ax aq rfl T.n_6 XD (aa (pv 1) ab)) ab)) (pgN 4 dI.nd) (ae (bK (cR (aF (pcF T.g_55 (cM T 39) hr (aa (aA aD (pv 3) (pv 4) (λ_ _=>rfl)) (aa (pv 2) (aa (ax aq rfl T.n_6 XD (aa (aA aD (pv 0) ag (λ_ _=>rfl)) ab)) (aa (aA aD (aA aD (pv 1) (pv 4) (λ_ _=>rfl)) ag (λ_ _=>rfl)) ab))))) (λ_=>rfl))) (ae (aw gG)) bh))))))
  (ae (aw gG))))),?_⟩
 try dsimp only[Aw,Ad]
 have Ck:ins.length=Ag.length:=W3 bk.inK;refine⟨_,D?,.inr ⟨_,_,_,D?,l! bk.bk,lB,_,D?,?_⟩⟩;refine dN ?_;refine⟨_,D?,b,_,D?,.inr (l! bk.bk),D?,_,D?,?_⟩;refine dN ?_
 have ne:∀{ks:List (Xk×Int)}{as:List WR}{a:WR}{Q1:V->Hp->Prop},H a=A? (.tup (as.map i!))->KsAt H ks as->Q1 (.bl CV) H->abu K 150 (.ref a) (.ref a) H Q1:=λ{ks as a Q1}e h q=>⟨a,a,_,_,ks.map kDv,ks.map kDv,rfl,rfl,l! e,l! e,lI h,lI h,XC (fS ks) (by decide),λr hr=>by
  have:r=false:=Yj.mpr λz=>hr.mp z rfl;rw[this];exact q⟩
 refine⟨_,D?,b,_,0,.ref ia,D?,D?,l! bk.bk,at0,_,D?,ne bk.inE bk.inK ⟨_,D?,?_⟩⟩;refine dN ?_;refine⟨_,D?,b,_,1,.ref oa,D?,D?,l! bk.bk,at1,_,D?,ne eo Ct ⟨_,D?,?_⟩⟩;refine dN ?_;refine⟨_,D?,b,_,3,.ref ra,D?,D?,l! bk.bk,bP (j:=3) rfl,.inr ⟨_,_,_,D?,l! bk.rl,lB,_,D?,?_⟩⟩;refine dN ?_;have FU:AE.length=rows.length:=(W3 bk.rw).symm;have MD:(((AE.map i!).length:Nat):Int)=((rows.length:Nat):Int):=by rw[WN,FU]
 refine⟨_,D?,b,_,2,.ref ha,D?,D?,l! bk.bk,at2,_,D?,_,D?,b,_,3,.ref ra,D?,D?,l! bk.bk,bP (j:=3) rfl,ra,_,D?,.inr (l! bk.rl),?_⟩;rw[MD];refine⟨oa,ha,Az,outs,head,(rows.length:Nat),1,D?,l! eo,Ct,bk.hd,V0,by lia,by show head.tall<=39;lia,λH1 s1=>⟨_,D?,?_⟩⟩;refine dN ?_;refine⟨_,D?,b,_,3,.ref ra,D?,D?,l! (s1 _ _ bk.bk),bP (j:=3) rfl,ra,D?,⟨_,l! (s1 _ _ bk.rl)⟩,?_⟩;refine jj (K:=K) (a:=ra) (xs:=AE.map i!) (λi Z H3=>Ex2 λ(c d:Option V)=>An2 (Z=[A? (.ref b),A? (.ref ia),A? (.ref oa),c,d]) (j! H H3)) ⟨B?,B?,rfl,s1⟩ (λi Z H3 _⟨_,_,_,s3⟩=>l! (s3 _ _ bk.rl)) ?_ ?_
 .rintro i x Z H3 hx ⟨c,d,rfl,s3⟩;refine hid λZZ kZ=>?_;obtain⟨AM,rfl,Be⟩:=aH hx;obtain⟨row,Af,ID,Di,CQ⟩:=y! bk.rw Be;obtain⟨KR,MC⟩:=IC row (WT Af);refine kZ ?_;have Ay:=CQ.length;have FN:=s3 _ _ Di;refine⟨_,D?,.inr ⟨_,_,_,D?,l! FN,lB,_,D?,?_⟩⟩;refine dN ?_;refine⟨_,D?,AM,_,D?,.inr (l! FN),_,D?,ia,_,D?,.inr (l! (s3 _ _ bk.inE)),D?,_,D?,?_⟩;have el:(((ID.map i!).length:Nat):Int)=(((Ag.map i!).length:Nat):Int):=by rw[WN,WN,Ay,KR,Ck]
  rw[el];refine cu (λc=>?_) (λ_=>?_)
  .simp at c
  refine⟨_,D?,ia,_,D?,.inr (l! (s3 _ _ bk.inE)),_,D?,by lia,by rw[WN];lia,?_⟩;refine dg (n:=(((Ag.map i!).length:Nat):Int).toNat) (λj Z H4=>Ex1 λ(d:Option V)=>An2 (Z=[A? (.ref b),A? (.ref ia),A? (.ref oa),A? (.ref AM),d]) (j! H H4)) ⟨_,rfl,s3⟩ ?_ ?_
  .rintro j Z H4 hj ⟨d,rfl,s4⟩
   have Au:j<Ag.length:=by
    have h1:j<(((Ag.map i!).length:Nat):Int).toNat:=hj;rw[WN]at h1;lia
   refine hid λZZ kZ=>?_;obtain⟨kd,CJ⟩:∃kd,ins[j]?=A? kd:=⟨_,WS (by lia)⟩;obtain⟨p,hp⟩:∃p,row[j]?=A? p:=⟨_,WS (by lia)⟩;obtain⟨⟨p1,p2⟩,P'⟩:=MC j p kd hp CJ;obtain⟨pa,DX,V1⟩:=CQ.at hp;obtain⟨ka,BI,Ee⟩:=F! (bk.inK.mono (k! s4)) CJ;refine kZ ?_;have hz:(0:Int)+(j:Int)=((j:Nat):Int):=by lia
   refine⟨_,D?,_,D?,AM,_,_,.ref pa,D?,D?,l! (s4 _ _ Di),by rw[hz];exact at_nonneg (by lia) (by rw[XH,WZ,DX];rfl),_,D?,_,D?,b,_,3,.ref ra,D?,D?,l! (s4 _ _ bk.bk),bP (j:=3) rfl,ra,_,D?,.inr (l! (s4 _ _ bk.rl)),?_⟩;rw[MD];refine⟨_,D?,_,D?,ia,_,_,.ref ka,D?,D?,l! (s4 _ _ bk.inE),by rw[hz];exact at_nonneg (by lia) (by rw[XH,WZ,BI];rfl),ka,_,1,.int kd.2,D?,D?,l! Ee,at1,?_⟩;refine⟨oa,pa,Az,outs,p,(rows.length:Nat),kd.2,D?,l! (s4 _ _ eo),Ct.mono (k! s4),V1.mono (k! s4),P',by lia,by show p.tall<=39;lia,λH5 s5=>⟨_,D?,?_⟩⟩;refine dN ?_;exact⟨_,D?,s4.trans s5⟩
  .rintro Z H4 ⟨d,rfl,s4⟩;exact⟨_,_,D?,s4⟩
 .rintro Z H3 ⟨c,d,rfl,s3⟩;exact k H3 s3
theorem pE(F:FrB ins outs rows)(hD:FrD ins rows (f'.map (·.1))){s:Nat}{row:List Th}(Af:rows[s]?=A? row){p:Th}(hp:p∈row) :
 ((frS ins rows s).cut (Dk f' (s:Nat)) []).lies (p.fill λl _=>(frS ins rows l.toNat).cut (Dk f' ((l.toNat:Nat):Int)) [])=true:=by
 have hs:=(glE Af);obtain⟨j,hj⟩:=Xi.mp hp;obtain⟨C8,DD⟩:=F.fit.row row (WT Af);obtain⟨k0,Co⟩:∃k0,ins[j]?=A? k0:=⟨_,WS (by have:=(glE hj);lia)⟩;have P':=DD j p k0 hj Co;obtain⟨z1,z2,z3⟩:=mr F hs;have Sn:=jE _ _ (WW _) z3
 have Gy:∀(m:Nat),m<rows.length->(frS ins rows m).lies (mkF ins rows (m:Nat))=C?/\∀row',rows[m]?=A? row'->∀p'∈row',(frS ins rows m).lies (p'.fill λl _=>mkF ins rows l)=true:=λm hm=>by
  obtain⟨y1,y2,y3⟩:=mr F hm;have h0:=jE _ _ (WW _) y3;obtain⟨g1,g2⟩:=rn (frS ins rows m) ((rows[m]?).getD []) (mkF ins rows (m:Nat)) h0;refine⟨g1,λrow' AR p' AX=>g2 p' (by rw[AR];exact AX)⟩
 have:=kR (f0:=λl=>frS ins rows l.toNat) (D:=λl=>Dk f' ((l.toNat:Nat):Int)) (mk:=mkF ins rows) (s:=(s:Nat)) (pat:=p) (λc hc=>?_) _ (frS ins rows s) p [] (WW _) (λx hx=>hx) (λc hc=>hc) z3 ((Gy s hs).2 row Af p hp)
 .exact this
 .obtain⟨c0,c1,_⟩:=gY p [] P' c hc;have Qa:c.2.1.toNat<rows.length:=by lia
  have CW:((c.2.1.toNat:Nat):Int)=c.2.1:=Yu c0;have hl:=(Gy _ Qa).1;rw[CW]at hl;refine⟨hl,(mr F Qa).2.2,λr u hu hh=>lE.mpr (hD.hol _ Qa (r,u) hu hh),λr u hd hu=>?_⟩;have BV:(c.1++r,u)∈(frS ins rows s).pl []:=hu;obtain⟨v,V2,V3⟩:=qx _ (u:=u) (WW _) BV;have hk:=lE.mp hd;rw[CW]at hk;exact lE.mpr (hD.cl s row Af p hp c hc v V2 (r,u) V3 hk)
theorem oz{D:Nat}(h:Drw ins outs W D head rows):FrB ins outs rows:=⟨h.gi,h.fit,XC h.le (by decide),λrow hr p hp=>by
 obtain⟨C,_,hb⟩:=h.pat hr hp;have l:=h.lim;have h1:=hb.sz;have h2:=hb.tall;lia⟩
theorem jb{D:Nat}(h:Drw ins outs W D head rows)(f':List (ay×V)){s:Nat}(hs:s<rows.length):(ll ins rows f' s).noCall/\(ll ins rows f' s).lf<=W ^ D/\(ll ins rows f' s).size<=15/\(ll ins rows f' s).tall<=4:=by
 refine hid λZZ kZ=>?_;obtain⟨row,p,hr,hp,e,_⟩:=(oz h).mkd (l:=(s:Nat)) (by lia) (by lia);obtain⟨C,_,hb⟩:=h.pat (WT hr) (WT hp);refine kZ ?_;have l:=h.lim;have h1:=hb.sz;have h2:=hb.tall;have h3:=hb.lf;rw[<-e]at h1 h2 h3;have h4:=i7 (mkF ins rows) (mkF ins rows (s:Nat)) ((rows[s]?).getD []);have h5:=wV (mkF ins rows) ((rows[s]?).getD []) (mkF ins rows (s:Nat));have h6:=vY (Dk f' (s:Nat)) (frS ins rows s) [];have h7:=rD (Dk f' (s:Nat)) _ (frS ins rows s) [] (WW _);unfold ll;unfold frS at h6 h7 |-;exact⟨h6.2.2,by lia,by lia,by lia⟩
theorem w6{D:Nat}(h:Drw ins outs W D head rows)(hD:FrD ins rows (f'.map (·.1))):EaOk ins outs (ll ins rows f') head rows :=
 ⟨h.gi,h.fit,h.hd.fit,λs hs=>by
  refine hid λZZ kZ=>?_;obtain⟨h1,_,h3,h4⟩:=jb h f' hs;refine kZ ?_;exact⟨h1,by lia,by lia⟩,λs row p hr hp=>pE (oz h) hD hr hp,h.small (λs hs=>jb h f' hs) h.hd,λrow hr p hp=>by
  obtain⟨C,_,hb⟩:=h.pat hr hp;exact h.small (λs hs=>jb h f' hs) hb,h.many λs hs=>(jb h f' hs).2.1⟩
mutual
def Th.Fo(outs:List (Xk×Int)):Th->Prop
 |.knot n ks=>(n=star/\ks=[])\/((n,(ks.length:Int))∈outs/\n≠star/\Fos outs ks)
 |.call _ _=>False
def Fos(outs:List (Xk×Int)):List Th->Prop
 | []=>True
 |t::ts=>Th.Fo outs t/\Fos outs ts
end
theorem oY:∀{ts:List Th}{t:Th},Fos outs ts->t∈ts->Th.Fo outs t
 | [],t,_,h=>(Z7 h).elim
 | u::ts,t,h,hm=>by
   rw[Fos]at h;rcases W7.mp hm with rfl|hm
   .exact h.1
   .exact oY h.2 hm
theorem oG:∀{ts:List Th},(∀t∈ts,Th.Fo outs t)->Fos outs ts
 | [],_=>by rw[Fos];trivial
 |t::ts,h=>by rw[Fos];exact⟨h t (Xe ..),oG λu hu=>h u (Xb _ hu)⟩
theorem uE(outs:List (Xk×Int)):Th.Fo outs hole:=by rw[hole,Th.Fo];exact .inl ⟨rfl,rfl⟩
theorem vF(g:cN outs):∀(n:Nat)(t:Th),t.size<=n->t.FitS outs S 0->Th.Fo outs t
 |0,t,h,_=>by have:=t.size_pos;lia
 |n+1,.call a b,_,h=>by rw[u!]at h;lia
 | n+1,.knot m ks,hn,h=>by
   rw[u!]at h;rw[q!]at hn;rw[Th.Fo];exact .inr ⟨h.1,pF (g.low _ h.1).1,oG λt ht=>vF g n t (by have:=aZ ht;lia) (nN h.2 t ht)⟩
theorem xK:∀(n:Nat)(l r:Th),l.size<=n->Th.Fo outs l->Th.Fo outs (l.com r)
 |0,l,_,h,_=>by have:=l.size_pos;lia
 | n+1,l,r,hn,h=>by
   rw[iH];by_cases hs:aB l r=C?
   .rw[b! hs];obtain⟨m,ks,us,rfl,rfl,hl,hh⟩:=bw hs;rw[Th.Fo]at h;rw[q!]at hn;rcases h with⟨h1,h2⟩|⟨h1,h2,h3⟩
    .rw[A!,d! ⟨h1,h2⟩]at hh;cases hh
    .show Th.Fo outs (.knot m ((ks.zip us).map λp=>p.1.com p.2));rw[Th.Fo];refine .inr ⟨by rw[WN,List.length_zip,<-hl,Nat.min_self];exact h1,h2,oG λt ht=>?_⟩;obtain⟨p,hp,rfl⟩:=Xy.mp ht;have hm:=(ZL hp).1;exact xK n p.1 p.2 (by have:=aZ hm;lia) (oY h3 hm)
   .rw[a! hs];exact uE _
theorem wq(mk:Int->Th):∀(row:List Th)(m:Th),Th.Fo outs m->Th.Fo outs (frF mk m row)
 | [],m,h=>h
 |p::row,m,h=>wq mk row _ (xK _ m _ (WW _) h)
theorem vP(D:List Int->Bool):∀(n:Nat)(t:Th)(pre:List Int),t.size<=n->Th.Fo outs t->Th.Fo outs (t.cut D pre)
 |0,t,_,h,_=>by have:=t.size_pos;lia
 |n+1,.call a b,_,_,h=>by rw[Th.Fo]at h;exact h.elim
 | n+1,.knot m ks,pre,hn,h=>by
   rw[Th.cut];by_cases hc:(o! m ks).isHole=C?\/D pre=C?
   .rw[b! hc];exact uE _
   .rw[a! hc];rw[Th.Fo]at h;rw[q!]at hn;rcases h with⟨h1,h2⟩|⟨h1,h2,h3⟩
    .exact g! (.inl (by rw[A!];exact d! ⟨h1,h2⟩)) hc
    .rw[Th.Fo];refine .inr ⟨by rw[dD];exact h1,h2,oG λt ht=>?_⟩;obtain⟨j,hj⟩:=Xi.mp ht;rw[iU,XI]at hj;obtain⟨u,hu,rfl⟩:=hj;have hm:=WT hu;exact vP D n u _ (by have:=aZ hm;lia) (oY h3 hm)
mutual
theorem xO{g:Nat->Th}(hg:∀j,j<B->(g j).FitS outs S C):∀(f:Th)(i:Nat),Th.Fo outs f->i+f.nh<=B->(f.hg g i).FitS outs S C
 |.call a b,i,h,_=>by rw[Th.Fo]at h;exact h.elim
 | .knot n ks,i,h,hi=>by
   rw[Th.nh]at hi;rw[Th.hg];by_cases hh:(o! n ks).isHole=C?
   .rw[b! hh]at hi |-;exact hg i (by lia)
   .rw[a! hh]at hi |-;rw[Th.Fo]at h;rcases h with⟨h1,h2⟩|⟨h1,h2,h3⟩
    .exact g! (by rw[A!];exact d! ⟨h1,h2⟩) hh
    .rw[u!,pz];exact⟨h1,tZ hg ks i h3 hi⟩
theorem tZ{g:Nat->Th}(hg:∀j,j<B->(g j).FitS outs S C):∀(ts:List Th)(i:Nat),Fos outs ts->i+nhs ts<=B->FitSs outs S C (hgs g ts i)
 | [],i,_,_=>by rw[hgs,FitSs];trivial
 | t::ts,i,h,hi=>by
   rw[Fos]at h;rw[nhs]at hi;rw[hgs,FitSs];exact⟨xO hg t i h.1 (by lia),tZ hg ts _ h.2 (by lia)⟩
end
theorem ub:∀(pl:List Int){t u:Th},t.FitS outs S C->t.sub pl=A? u->u.FitS outs S C
 | [],t,u,h,e=>by rw[f6]at e;cases e;exact h
 | i::r,t,u,h,e=>by
   rw[Th.sub]at e;by_cases h0:0<=i
   .rw[b! h0]at e;cases hk:t.kids[i.toNat]? with
    |none=>rw[hk]at e;cases e
    | some v =>
      rw[hk]at e;cases t with
      |call a b=>cases hk
      | knot n ks =>
        rw[u!]at h;exact ub r (FitSs.mem' h.2 v (WT hk)) e
   .rw[a! h0]at e;cases e
section
variable{F:Nat->Th}
theorem sQ(J:EaOk ins outs F head rows)(hF:∀s,s<rows.length->Th.Fo outs (F s)){p:Th}(hp:p.FitS outs (rows.length:Nat) C):(eaP F p).FitS outs (1000 * (rows.length:Nat)) C:=by
 refine qE (hgF F) (λs c h0 h1 h2 h3=>?_) p hp;have hs:s.toNat<rows.length:=by lia
 have hn:=J.nh hs;refine xO (B:=(F s.toNat).nh) (λj hj=>?_) _ 0 (hF _ hs) (by lia);rw[u!];unfold enc;lia
theorem yY(J:EaOk ins outs F head rows)(hF:∀s,s<rows.length->Th.Fo outs (F s))(hM:M=bO (eaR F rows) (eaP F head)):(ren (idx M) (eaP F head)).FitS outs (M.length:Nat) 1 :=
 oH _ (sQ J hF J.hd) (vU J hM)
theorem yM(J:EaOk ins outs F head rows)(hF:∀s,s<rows.length->Th.Fo outs (F s))(hM:M=bO (eaR F rows) (eaP F head)){row':List Th}(AR:row'∈eaB F rows M):row'.length=ins.length/\∀(j:Nat)(p':Th)(kd:Xk×Int),row'[j]?=A? p'->ins[j]?=A? kd->(p'.size<=600/\p'.tall<=38)/\p'.FitS outs ((eaB F rows M).length:Nat) kd.2:=by
 unfold eaB at AR;refine hid λZZ kZ=>?_;obtain⟨x,hx,rfl⟩:=Xy.mp AR;have Bu:=zW J hM x hx;obtain⟨row,hr,er,hl,_⟩:=J.row Bu;refine kZ ?_;have eR:eaR F rows x=row.map (eaU F x):=by unfold eaR;rw[er]
 refine⟨by rw[eR,WN,WN,hl],λj p' kd AX hk=>?_⟩;have Af:=yX J hM x hx;rw[eR]at AX Af;rw[WZ,WZ,Option.map_map,XI]at AX;refine hid λZZ kZ=>?_;obtain⟨p,hp,rfl⟩:=AX;have So:=WT hp;have hf:=(J.fit.row row (WT hr)).2 j p kd hp hk;obtain⟨pl,_,_,hs,Ez⟩:=J.at Bu hr So;obtain⟨r1,r2⟩:=lH (idx M) (eaU F x p);refine kZ ?_;refine⟨⟨by show(ren (idx M) (eaU F x p)).size<=600;rw[r1];exact Ez.size,by show(ren (idx M) (eaU F x p)).tall<=38;rw[r2];have:=Ez.tall;lia⟩,?_⟩;rw[uf J hM];exact oH _ (ub pl (sQ J hF hf) hs) λy hy=>Af y (List.mem_flatMap.mpr ⟨_,Xy.mpr ⟨p,So,rfl⟩,hy⟩)
end
inductive rX(K:WQ)(tp:WR)(vs:List V)(H:Hp)(Q:VK)(_E:XK):Prop
 |mk (a:WR) (ns:List Int):vs=[.ref a]->SqL K H a (ns.map p!)->ns.length<=63->H tp=A? (.tbl #[])->(∀H',Q (.bl C?) H')->rX K tp vs H Q _E
def qH(rows:List (List Th)):List Dv:=rows.map λts=>.tup (dvs ts)
theorem qd:∀{rows:List (List Th)}{as:List WR},Xp (RowK K H) rows as->DAtsK K H (qH rows) (as.map i!)
 |_,_,.nil=>.nil
 |_,_,.cons ⟨as,e,h⟩ t=>.cons (by rw[DAtK];exact⟨_,_,D?,.inl e,h.dvs⟩) (qd t)
theorem lP{C:Nat}:∀{rows:List (List Th)},(∀row∈rows,∀p∈row,PSm p)->bB (qH rows)<=39
 | [],_=>Xh _
 | row::rows,h=>by
   have h1:=j9 (B:=600) (C:=38) row λu hu=>h row (Xe ..) u hu;have h2:=lP (C:=C) (rows:=rows) λr hr=>h r (Xb _ hr);show max (bB (dvs row)+1) (bB (qH rows))<=39;lia
def xm(ins outs:List (Xk×Int))(head:Th)(rows:List (List Th)):List Dv:=[.tup (ins.map kDv),.tup (outs.map kDv),head.dv,.tup (qH rows)]
theorem pW{Az:List WR}(h:BkAtK K H ins head rows b ia oa ha ra Ag AE)(eo:H oa=A? (.tup (Az.map i!)))(ho:KsAt H outs Az):DAtsK K H (xm ins outs head rows) [.ref ia,.ref oa,.ref ha,.ref ra] :=
 .cons (by rw[DAtK];exact⟨_,_,D?,.inl h.inE,(lI h.inK).k⟩) (.cons (by rw[DAtK];exact⟨_,_,D?,.inl eo,(lI ho).k⟩) (.cons h.hd.dv (.cons (by rw[DAtK];exact⟨_,_,D?,.inl h.rl,qd h.rw⟩) .nil)))
theorem zN(L:Lam mg base T.g_44.tc T.g_44.tp):aU P w K mg base CX0 50 T.g_58.f T.g_58.d ["script"] (rX K T.g_44.tp):=by
 refine T.g_58.F.okA rP λAh A outer s H vs Q E hr h=>?_;obtain⟨a,ns,rfl,hS,Cy,CL,q⟩:=h
 refine⟨_,(ad (am 1 rP.nd (pcF T.g_52 (oZ T) hr (aa (pv 0) ab)))
  (ad (am 2 rP.nd (pcF T.g_44.1 (jW T L) hr (aa (pv 1) ab)))
  (ad (bK (PW.pt (fj (cR (aF (pcF T.g_56 (kE T) hr (aa (pv 2) (aa (aA aD (pv 1) ag (λ_ _=>rfl)) (aa (aA aD (pv 1) ag (λ_ _=>rfl)) ab)))) (λ_=>rfl))) (fD (cR (aF (pcF T.g_57 (jG T) hr (aa (pv 2) ab)) (λ_=>rfl)))))) (ae (aw gG)) bh)
  (ae (aw (cW (sX (B:=150) (eQ hr)) (pcF T.g_44.1 (jW T L) hr (aa (pv 1) ab)) (pv 2) (aQ _))))))),?_⟩
 try dsimp only[Aw,Ad]
 refine⟨_,D?,a,ns,D?,hS,Cy,λb ia oa ha ra Ag Az AE ins outs W D head rows H1 s1 bk hd=>?_⟩;dsimp only[av];have Lw:=s1 _ _ CL;have Qb:=oz hd;refine⟨_,D?,b,ia,oa,ha,ra,Ag,Az,AE,ins,outs,head,rows,D?,bk,Qb,hd.go,λf' hD=>w6 hd hD,.inl Lw,λr fh rl E2 f' F M H2 hD hK hF hM s2 G2 er Mp MD Qc=>?_⟩;dsimp only[av];have J:EaOk ins outs F head rows:=by rw[hF];exact w6 hd hD
 have k2:=s2.kt Lw;have HV:=bk.mono k2;have bf:BkAtK K H2 ins (ren (idx M) (eaP F head)) (eaB F rows M) r ia oa fh rl Ag E2:=⟨er,HV.inE,HV.inK,Mp,MD,Qc⟩
 have Sq:∀s,s<rows.length->Th.Fo outs (F s):=λs hs=>by
  rw[hF];obtain⟨_,p,_,_,e,_,_,f⟩:=Qb.mkd (l:=(s:Nat)) (by lia) (by lia);exact vP _ _ _ _ (WW _) (wq _ _ _ (by rw[e];exact vF hd.go _ _ (WW _) f))
 have EB:M.length<=20:=by rw[hM];exact J.len
 have ME:=uf J hM;have V4:=yY J Sq hM;have Qd:=λrow' AR=>yM J Sq hM (row':=row') AR;have Ez:=J.smH
 have Qe:PSm (ren (idx M) (eaP F head)):=by
  obtain⟨r1,r2⟩:=lH (idx M) (eaP F head);exact⟨by rw[r1];exact Ez.size,by rw[r2];have:=Ez.tall;lia⟩
 have Qf:aR [] (stT (ren (idx M) (eaP F head))++(eaB F rows M).flatMap aT)=(Xq (eaB F rows M).length).map (λ(i:Nat)=>(i:Int)):=by
  rw[ME,hM];exact aat (J.len)
 have Iu:=hd.gi.le;have Sm:=hd.go.le;refine⟨_,D?,_,D?,b,_,0,.ref ia,D?,D?,l! HV.bk,at0,_,D?,b,_,1,.ref oa,D?,D?,l! HV.bk,at1,r,ia,oa,fh,rl,Ag,Az,E2,ins,outs,_,_,D?,bf,HV.outE,HV.outK,Iu,Sm,by rw[ME];exact EB,Qe,by rw[ME];exact V4,Qd,λH3 s3=>⟨_,D?,?_⟩⟩;refine dN ?_;have k3:=k! s3;refine⟨_,D?,r,ins,_,_,D?,⟨_,_,_,_,_,_,bf.mono k3⟩,Qe,by rw[ME];exact EB,λrow' AR=>?_,Qf,λH4 s4=>⟨_,D?,?_⟩⟩
 .obtain⟨hl,hp⟩:=Qd row' AR;refine⟨by lia,λp' AX=>?_⟩;obtain⟨j,hj⟩:=Xi.mp AX;obtain⟨kd,CJ⟩:∃kd,ins[j]?=A? kd:=⟨_,WS (by have:=(glE hj);lia)⟩;exact(hp j p' kd hj CJ).1
 refine dN ?_;have Lg:=s3.trans s4;have Sr:=k! Lg;have Ss:=G2.mono Lg;have Su:=HV.mono Sr;refine⟨_,D?,b,ia,oa,ha,ra,Ag,Az,AE,ins,outs,head,rows,D?,Su,Qb,hd.go,λf' hD=>w6 hd hD,Ss,λr2 V5 V6 Qg K7 F2 M2 H5 VA V7 V8 Ln s5 _ V9 Qh Qi Lx=>?_⟩
 have eF:F2=F:=by
  rw[V8,hF];funext s;unfold ll;rw[V7.eq hK s]
 subst eF;have eM:M2=M:=by rw[Ln,hM]
 subst eM;have k5:=Ss.kt s5;have Sv:=bf.mono (Sr.trans k5);have IE:=Su.mono k5;have bg:BkAtK K H5 ins (ren (idx M2) (eaP F2 head)) (eaB F2 rows M2) r2 ia oa V5 V6 Ag Qg:=⟨V9,IE.inE,IE.inK,Qh,Qi,Lx⟩;refine⟨_,D?,r2,r,_,_,xm ins outs _ _,xm ins outs _ _,D?,D?,l! bg.bk,l! Sv.bk,pW bg IE.outE IE.outK,pW Sv IE.outE IE.outK,?_,λbb hb=>?_⟩
 .have h1:=fS ins;have h2:=fS outs;have h3:=(ren (idx M2) (eaP F2 head)).dv_deep
  have h4:=lP (C:=0) (rows:=eaB F2 rows M2) λrow' AR p' AX=>by
   obtain⟨hl,hp⟩:=Qd row' AR;obtain⟨j,hj⟩:=Xi.mp AX;obtain⟨kd,CJ⟩:∃kd,ins[j]?=A? kd:=⟨_,WS (by have:=(glE hj);lia)⟩;exact(hp j p' kd hj CJ).1
  have h5:=Qe.2;show max (bB (ins.map kDv)+1) (max (bB (outs.map kDv)+1) (max (ren (idx M2) (eaP F2 head)).dv.deep (max (bB (qH (eaB F2 rows M2))+1) 0)))<=150;lia
 .rw[hb.mpr rfl];exact q H5
end
theorem walk{l:PySem.W.OpenLaw}{q:W6}{d dt:DefRec}{K:Params->WQ}(hn:l.most=A? 63)(IY:d.params.defaults=[])(hd:d.name="law")(hq:(PyProof.Rows.recsOf q).find? (λe=>e.name == ("earliest":Xk))=A? dt)(hY:∀(w:Xo)(h:Yd),YP w h->(K w.params).In h)
 (F:∀(w:Xo)(mg:Xk->Option WU)(h:Yd),(K w.params).In h->h.Ns Ym mg->TX (K w.params) mg):PySem.W.WalkO q loose XP YP l.row.toRowW d [] (λf vs=>PySem.call f vs) :=
 L2.vz (n:=63) (k:=50) (x:="script") (tn:="earliest") (CX:=λ_=>CX0) (sp:=λw T=>rX (K w.params) T) hn (by decide) IY ⟨rfl,by decide,by decide⟩ hq hY (λw mg fa h KX G hm=>by
  have T:=F w mg h KX G;obtain⟨_,_,_,_,_,_,_,_,_,e,_⟩:=T.g_58.F.ex;rw[hd]at hm;have e2:T.g_58.f=fa:=(Value.ref.inj (Xm (hm.symm.trans T.g_58.m))).symm;subst e2;exact⟨_,_,_,λs v=>by rw[e];exact .of_eq rfl,T.g_44.t,T.g_44.u,λbase _ _ L=>zN T L⟩) (λ_ _ _ a ns hl hS hT=>⟨a,ns,rfl,hS,hl,hT,λ_=>rfl⟩) λ_ _ _ _ _ z=>z
end LAW
open PySem PySem.W PyProof.Rows
set_option maxRecDepth 100000 in
theorem PySem.Challenge.cw_boughbook_k64_early_books_shaped_holds : PySem.Challenge.rw_boughbook_k64_early_books_shaped.Holds := by
 w_on;(refine holds_law LAW.ws λV'=>?_);(refine holds_open (q:=LAW.vw) (N:=90000) (loose:=[]) (XP:=XL LAW.vw []) (Yf:=Hook.obs (kHook LAW.d0.heap_1 LAW.ks LAW.ke)) (Ya:=Hook.val (kHook LAW.d0.heap_1 LAW.ks LAW.ke)) (YP:=Hook.says (kHook LAW.d0.heap_1 LAW.ks LAW.ke)) (Xt:=LAW.xt) (HD.vh (by kernel_rfl) (by kernel_rfl) (λ_=>by kernel_rfl) LAW.lk0 LAW.lk1 LAW.lk2 LAW.lk3 LAW.lk4 LAW.lk5 (HD.Pc.k LAW.kp)) (Hook.of (kHook LAW.d0.heap_1 LAW.ks LAW.ke)) (Hook.keeps (kHook LAW.d0.heap_1 LAW.ks LAW.ke)) (λs e=>xl_of s (Bool.and_eq_true_iff.mp e).1) XL.keeps (by rfl) (by rfl) (by rfl) (λs e=>recFacts_of (Bool.and_eq_true_iff.mp e).2) (by rfl) (by assumption) (by decide +kernel) ⟨rfl,rfl,rfl,rfl,rfl,by decide +kernel⟩ ?_ ?_);w_witness2
 k_fill
 exact LAW.walk (l:=PySem.Challenge.rw_boughbook_k64_early_books_shaped) rfl rfl rfl (by rfl) (λw h Y=>PySem.W.kIn_of Y) λw mg h x g=>by constructor <;> first|exact LAW.fx x g|exact LAW.bn x g|exact LAW.ci x g|exact LAW.fm|exact LAW.na|exact LAW.cs x g|exact LAW.ck1 x g|exact LAW.ft x g|exact LAW.gn x g|exact⟨by k_is,by k_is,by k_is,by k_is⟩|exact⟨by k_is,by k_is⟩
