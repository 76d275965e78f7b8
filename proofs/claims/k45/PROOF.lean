import PyProof.Rows.All
import Wide.All
import OpenK.AllK
import Wide.FinOn
import Lean
import PyProof.EqAt
import PyProof.EqKinds
import PyProof.TupleCall
import KE.KRevIter
import PyProof.ListNew
import PyProof.Draws
import PyProof.EnumMake
import PyProof.Rows.EnumRows
import PyProof.ZipIter
import PyProof.ConsumeWalk
import KE.LcSums
import PyProof.AttrMissHeap
import KE.KDictOf
import PyProof.DictWalks
import PyProof.ListMulRoad
import PyProof.FactsAll.tuple
import PyProof.NeKinds
import KE.RegKTryMore
import KE.RegKIsAll
import PyProof.StrWalks
import PyProof.Rows.SetFrom
import PyProof.FString5
import Wide.Txt
import PyProof.Rows.SeqMore
import PyProof.StrOps2
import KE.KEqDict
import PyProof.CollectIter
import PyProof.JoinWalk
import PyProof.CallStr
import PyProof.DictRoadsH
import PyProof.MeetsDictList
import PyProof.DictTruth
import PyProof.StrLawsChain
import PyProof.StrCalls6
import PyProof.ToksMono
import PyProof.StrCalls2
import KE.KWords
import PyProof.MeetsStr2
import KE.KLam
import KE.KDictLaws
import PyProof.DictItems
import PyProof.DictValues
import PyProof.DictItemsLoops
import PySem.Challenge.RW_boughbook_k45_joined_books_count
set_option maxHeartbeats 0
set_option Elab.async false
set_option linter.all false
set_option maxRecDepth 100000
set_option genInjectivity false
set_option genSizeOf false
open PySem renaming wpAny_bind->WN,Addr->WS,Value->WV,wpAny_pure->WW,Shared->WZ,wpAny->Xc,Program->Xe,sizeLine->Xj,Str->Xk,World->Xv,model->Xy,boot_len->XE,Around->XF,Paired->XH,starEach->XO,wpAny_newObj_type->XQ,wpAny_callSpecial?_slot->XR,wpAny_field->XS,wpAny_call_entry->XT,Expr->X3,Heap->X5,mem_of_lookup->X7,mainGlobals->X8,wpAny_Call_Name_kw->Yq,sysModules->Yr,wpAny_holding->Yv,wpAny_seqItems->YB,Obj->YF,rawInt->YH,cLine->YJ,wpAny_mono->YR,eval->YS,wpAny_setField_rec->Y2,Builtin->Y7,FuncData->Za,wpAny_dictEntries->Zd,NameKind->Zl,wpAny_pyIter_tuple->Zr,IsPair->Zv,wpAny_specialOf->Zx,sizeLine_eq->ZA,binaryOp->ZC,Scope->ZD,wpAny_attempt->ZI,pyNext->ZJ,wpAny_typeNameOfWhole_itemiter->ZL,wpAny_setField->ZM,wpAny_isInstance->ZN,firstArgMember->ZO,compareOp->ZP,wpAny_typeNameOfWhole_keyiter->ZV,wpAny_typeOf->ZY,backTo->Z0,wpAny_passesOwn->Z2,Stmt->Z4,attributeBase->Z6,builtinLookup_eq_fast->Z7
open List renaming length_map->WO,getElem?_eq_getElem->WQ,mem_of_getElem?->WR,mem_cons_of_mem->WT,mem_singleton->W0,getElem?_map->W3,mem_cons_self->W4,mem_cons->W6,length_append->W7,map_append->W8,size_toArray->W9,mem_append->Xd,length_cons->Xf,mem_iff_getElem?->Xg,mem_map->Xn,mem_append_right->Xu,getElem?_eq_some_iff->Xx,mem_append_left->XA,length_take->XB,map_cons->XC,getElem?_append_left->XJ,getElem?_eq_none->XU,length_drop->XX,replicate->XY,reverse_cons->XZ,length_reverse->X0,take_of_length_le->X1,getElem?_append_right->X2,take_add_one->Yc,nodup_cons->Yd,append_nil->Ye,getElem?_set_self->Yn,lookup_cons->Yt,length_eq_zero_iff->Yx,take_length->YA,length_singleton->YE,lookup->YI,range->YL,map_nil->YM,append_assoc->YN,reverse_append->YO,getElem?_zip_eq_some->YQ,cons_append->YU,reverse_reverse->YY,mem_of_mem_take->YZ,getElem?_set_ne->Y0,drop_zero->Y1,nodup_append->Y5,replicate_succ->Y9,map_map->Zc,length->Ze,getElem_mem->Zh,find?_cons->Zp,mem_of_mem_drop->Zu,filterMap_cons->Zy,take_zero->ZF,not_mem_nil->ZG,nodup_nil->ZH,dropLast_concat_getLast->ZQ,getD->ZS,filterMap_append->ZT
open PySem.Heap renaming get?_push_of_some->WU,get?_push_size->W2,lt_size->Xi,SameBut->XW,size_push->Yb,get?_update_self->Ym,get?_update_other->YD
open Nat renaming le_refl->WX,le_trans->Xh,zero_le->Xr,lt_of_lt_of_le->Xz,ne_of_lt->XD,lt_irrefl->Ys,le_add_right->Yz,lt_succ_iff_lt_or_eq->YV,pow_le_pow_right->YX,le_max_right->Zg,le_max_left->Zo,ne_of_gt->ZK,sub_le_sub_right->Z5,le_of_lt->Z9
open PySem.W renaming Frag->WY,emptyDict->YK,findIn->Zk,instObj->Zn,boot_heap->Zs,keepIn->ZE,fnOf->Z8
open PySem.Str renaming ofString->W5,empty->Yy
open PySem.Paired renaming length->Xa
open PySem.F renaming plainAttrs_list->Xb,type_list_append->Xp,slot_list_append->Xq,slot_dict_itemiterator_next->Yo,slot_list_index->Y4,slot_dict_keyiterator_next->Zi,slot_dict_itemiterator_iter->ZX
open Option.some renaming inj->Xl
open Bool renaming false_ne_true->Xm,false_eq_true->X6,eq_iff_iff->ZR
open Array renaming length_toList->Xo,getElem?_eq_some_iff->Zm,toList_append->Zz,getElem?_toList->ZU
open Sum renaming inl->Xs,inr->ZW
open PySem.PassesOwn renaming never->Xw
open PySem.Value renaming ref->XG,none->Yj
open Int renaming emod_lt_of_pos->XI,emod_nonneg->XN,toNat_natCast->Yl,toNat_of_nonneg->YC
open PyProof.Rows renaming slot_tuple_getitem->XM,boot_tuple->X4,callWith_type1->Yu,boot_max->YT
open PySem.Builtin.SmallTypes renaming nextOf->X9,ownedTupleIsFree->Yg
open PySem.NameKind renaming free->Yh
open Option renaming map_eq_some_iff->Yi
open False renaming elim->Yk
open PySem.Builtin.Slice renaming slicePlaces->Yp,sliceAdjust->Zw
open PySem.Builtin.Tuple renaming tupleExact->Yw,tupleHashOf->YW
open PySem.Heap.SameBut renaming update->YG
open PySem.Obj renaming data_mapFields->Y3,mapSeq->Zf
open PySem.Builtin.List renaming listTooLong->Y6
open PySem.AutoSeq1 renaming wpAny_loadPart'->Y8
open Ne renaming symm->Zb
open PySem.Builtin.Dict_items renaming ownsTuple->Zj
open ForInStep renaming yield->Zq
open Sum.inl renaming inj->Zt
open PySem.Calls renaming spliced_cons->Z1
open True renaming intro->Z3
open Option renaming some->A?,none->B?
open Bool renaming true->C?,false->CG
theorem D?.{u}{α:Sort u}{a:α}:a=a:=rfl
variable{w:Xv}{m t' j n c0 ep ι τ:Nat}{h base h':X5}{α β κ:Type}{a f b l it ta dx sl d z tp l1 l2 i1 i2 td:WS}{loose N ps:List Xk}{as ch fp:List WS}{K:WY}{e tg iter elt:X3}{x qual name stem p1 p2:Xk}{us its:List WV}{u oc vl vu:WV}{F:α->β->Prop}{P prog:Xe}{M:Model}{A:XF}{E Q:WV->WZ->Prop}{s:WZ}{pos pos':Pos}{pins:List (WS×YF)}{op:CmpOp}{st:Z4}{c C k' S S1 c':Int}{body:List Z4}{lo hi:Option Int}{kw:List (Xk×WV)}{env:Env}{mg:Xk->Option WV}{fd:Za}{kindOf:Xk->Option Zl}{sc scope:ZD}{params:Arguments}{od:Option WS}{items ys:Array WV}{XP:(Xk->Option WV)->X5->Prop}{YP:Xv->X5->Prop}{js:List (Option Nat)}{cl:List (Xk×WS)}{ifs elts:List X3}{ins outs mid:List (Xk×Int)}{begun:Bool}{vs:List (κ×WV)}
def a!:=@if_neg
def b!:=@if_pos
def c!:=@decide_eq_false
def d!:=@decide_eq_true
def e!:=@of_decide_eq_true
def g!:=@absurd
def h!:=@congrArg
set_option hygiene false
local macro_rules
|`(tactic|walk_at"a")=>`(tactic|(intro X hP hw hK hc i Z s Y H E I hf st hg;subst hP hw hK))
|`(tactic|walk_at"aa")=>`(tactic|(refine hid λZZ kZ=>?_))
set_option hygiene true
namespace HD
open PySem PySem.W PySem.Calls PyProof.Rows
def j5(tb:String->Option Y7)(p:Xe)(w:Xv)(m:Nat)(ann:Option WV):Nat->SharedT->Thread->Option SharedT
 |0,_,_=>B?
 | n+1,s,t=>match through t with
   |true=>A? s
   | false=>match stepOk m ann t with
     |false=>B?
     | true=>match stepT (denote tb) p w s t with
       |some (s',t')=>j5 tb p w m ann n s' t'
       |none=>B?
theorem lz{tb:String->Option Y7}{p:Xe}{ann:Option WV}:∀{n:Nat}{s s':SharedT}{t:Thread},j5 tb p w m ann n s t=A? s'->topRun tb p w m ann n s.abs t=A? s'.abs
 |0,_,_,_,h=>by cases h
 | n+1,s,s',t,h=>by
   unfold j5 at h;unfold topRun;cases he:through t with
   |true=>rw[he]at h;cases h;rfl
   | false =>
     rw[he]at h;cases hk:stepOk m ann t with
     |false=>rw[hk]at h;cases h
     | true =>
       rw[hk]at h;cases hs:stepT (denote tb) p w s t with
       |none=>rw[hs]at h;cases h
       | some r =>
         obtain⟨s2,t2⟩:=r;rw[hs]at h;rw[stepT_spec hs];exact lz h
def uF:List YF->Nat->BT->BT
 | [],_,t=>t
 |o::l,n,t=>uF l (n+1) (t.ins n o)
def wu:List YF->Nat->BT->Bool
 | [],_,_=>C?
 |o::l,n,t=>((t.ins n o).get n).isSome && wu l (n+1) (t.ins n o)
theorem mW:∀(l:List YF)(n:Nat)(t:BT),wu l n t=C?->(uF l n t).list (n+l.length)=t.list n++l
 | [],n,t,_=>by rw[Ye];rfl
 | o::l,n,t,h=>by
   obtain⟨h1,h2⟩:=Bool.and_eq_true_iff.mp h;have e:=absHeap_ins (life:=default) h1
   have e2:(t.ins n o).list (n+1)=t.list n++[o]:=by
    have:=h! (λx:X5=>x.objs.toList) e;simpa[absHeap,Heap.push]using this
   have ih:=mW l (n+1) (t.ins n o) h2;rw[e2,YN]at ih;rw[Xf,show n+(l.length+1)=n+1+l.length by lia];exact ih
theorem xJ(ok:wu h.objs.toList 0 .nil=C?):absHeap (uF h.objs.toList 0 .nil) h.objs.size h.life=h:=by
 have e:=mW _ _ _ ok;rw[Nat.zero_add]at e;unfold absHeap;rw[<-Xo,e];rfl
noncomputable abbrev oq(p:Xe)(N:Nat)(w:Xv)(os:OsState):Option SharedT :=
 j5 treeTable p w 11 (A? (.ref 6)) N ⟨uF (Zs w.params).objs.toList 0 .nil,11,(Zs w.params).life,Array.mk [],boot_drawn,boot_toks,os⟩ (topStub p)
theorem vY(P:Params):(wu (Zs P).objs.toList 0 .nil,(Zs P).isNs X8,(Zs P).objs.size,(Zs P).nsMap X8 "__annotations__")=(C?,C?,11,A? (.ref 6)):=by kernel_rfl
theorem map_some{o:Option α}{a:α}{f:α->β}{b:β}(h:o=A? a)(e:o.map f=A? b):f a=b:=by rw[h]at e;exact Xl e
abbrev Tr0(p q:Xe)(loose:List Xk)(Xt:WZ->Bool)(N:Nat)(g0:Bool):Prop:=∀(w:Xv)(os:OsState),((oq p N w os).map λs=>(staticsOk (importedModules p.main.body) (Zs w.params) s.abs.heap && namesBound p s.abs.heap && gensDone s.abs && laidKept (Zs w.params) s.abs.heap,s.abs.heap.bltView,pinSeenD q (drecsOf q) s.abs,plainSeenD q loose s.abs,clsSeenW q loose s.abs,(s.abs.heap.accountedOkI (importedModules p.main.body),s.abs.heap.isNs X8,s.abs.heap.isNs builtinsNs,tablesOk q s.abs.heap,Xt s.abs,(if g0 then s.abs.gens.size == 0 else !leftWithCleanup s.abs.gens))))=A? (C?,bltViewBooted,pinGoodD (drecsOf q),plainGoodD q loose,clsGoodW q loose,(C?,C?,C?,C?,C?,C?))
abbrev Tr1(p q:Xe)(N:Nat):Prop:=∀(w:Xv)(os:OsState),((oq p N w os).map λs=>seen ((recsOf q).map (·.name)) (ownsOf q) [] {s.abs with gens:=#[]})=A? (expectedOf q)
abbrev Tr2(p q:Xe)(loose:List Xk)(N:Nat):Prop:=∀(w:Xv)(os:OsState),((oq p N w os).map λs=>s.abs.heap.keysOk (looseW q loose) ((recsOf q).map (·.name)) ((litsOf q).map (·.1)) ((clssOf q (looseW q loose)).map (·.name)))=A? C?
abbrev Tr3(p q:Xe)(N:Nat):Prop:=∀(w:Xv)(os:OsState),((oq p N w os).map λs=>tabsOk q s.abs)=A? C?
abbrev Tr4(p q:Xe)(loose:List Xk)(N:Nat):Prop:=∀(w:Xv)(os:OsState),((oq p N w os).map λs=>plainSeenE q (looseW q loose) s.abs)=A? (plainGoodE q (looseW q loose))
abbrev Tr5(p q:Xe)(N:Nat):Prop:=∀(w:Xv)(os:OsState),((oq p N w os).map λs=>wideSeen q s.abs)=A? (wideGood q)
theorem sf{p q:Xe}{Xt:WZ->Bool}{Yf:WZ->α}{Ya:Xv->α}{N:Nat}{g0:Bool}
 (e:opening p=plainProg p.main.scope.names) (hN:Nat.ble 600 N=C?) (f:∀s,fenceModules? p s=A? s)
 (r0:Tr0 p q loose Xt N g0)
 (r1:Tr1 p q N)
 (r2:Tr2 p q loose N)
 (r3:Tr3 p q N)
 (r4:Tr4 p q loose N)
 (r5:Tr5 p q N)
 (rY:∀(w:Xv)(os:OsState),((oq p N w os).map λs=>Yf s.abs)=A? (Ya w)) :
 LeftO p q loose Xt Yf Ya N g0:=λw=>by
 obtain⟨⟨h,gs,d,k,os⟩,e1,e'⟩:=Yi.mp (boot_open e hN f w);obtain⟨rfl,rfl,rfl,rfl⟩:h=Zs w.params/\gs=Array.mk []/\d=boot_drawn/\k=boot_toks:=by simpa using e'
 have Mg:=vY w.params;have z0:=h! Prod.fst Mg;have z1:=h! (λx=>x.2.1) Mg;have z2:=h! (λx=>x.2.2.1) Mg;have z3:=h! (λx=>x.2.2.2) Mg;dsimp only at z0 z1 z2 z3;obtain⟨s1,G7,hY⟩:=Yi.mp (rY w os);have q0:=map_some G7 (r0 w os);have q1:=map_some G7 (r1 w os);have q2:=map_some G7 (r2 w os);have q3:=map_some G7 (r3 w os);have q4:=map_some G7 (r4 w os);have q5:=map_some G7 (r5 w os);have rr:=lz G7
 have Nq:SharedT.abs ⟨uF (Zs w.params).objs.toList 0 .nil,11,(Zs w.params).life,Array.mk [],boot_drawn,boot_toks,os⟩=⟨Zs w.params,Array.mk [],boot_drawn,boot_toks,os⟩:=by
  unfold SharedT.abs;dsimp only;rw[<-z2,xJ z0]
 rw[Nq]at rr;have a0:=h! Prod.fst q0;have a1:=h! (λx=>x.2.1) q0;have a2:=h! (λx=>x.2.2.1) q0;have a3:=h! (λx=>x.2.2.2.1) q0;have a4:=h! (λx=>x.2.2.2.2.1) q0;have b0:=h! (λx=>x.2.2.2.2.2.1) q0;have b1:=h! (λx=>x.2.2.2.2.2.2.1) q0;have b2:=h! (λx=>x.2.2.2.2.2.2.2.1) q0;have b3:=h! (λx=>x.2.2.2.2.2.2.2.2.1) q0;have b4:=h! (λx=>x.2.2.2.2.2.2.2.2.2.1) q0;have b5:=h! (λx=>x.2.2.2.2.2.2.2.2.2.2) q0;dsimp only at a0 a1 a2 a3 a4 b0 b1 b2 b3 b4 b5
 have l2:openSeen q loose (importedModules p.main.body) Xt g0 s1.abs=openGood q loose:=by
  unfold openSeen openGood;rw[q1,a1,q2,b0,b1,b2,b3,b4,b5,q3,a2,q4,a3,q5,a4];rfl
 have t:topFrom treeTable p w N ⟨Zs w.params,Array.mk [],boot_drawn,boot_toks,os⟩=A? s1.abs:=by
  unfold topFrom;dsimp only;rw[z1,z2,z3,rr];show(match staticsOk (importedModules p.main.body) (Zs w.params) s1.abs.heap && namesBound p s1.abs.heap && gensDone s1.abs && laidKept (Zs w.params) s1.abs.heap with|true=>_|false=>_)=_;rw[a0]
 unfold openEnds;rw[e1];show(topFrom treeTable p w N _).map _=_;rw[t];exact h! A? (Prod.ext l2 hY)
def p0:Params:={strHash:=λ_=>0,shareClass:=λ_=>0,mergeTok:=λt=>t,idOf:=λ_=>0,idOfShared:=λ_ _=>0,followText:=λ_=>CG,idOfImm:=λ_=>0}
structure Pc(p:Xe)(N:Nat)(as:List WS)(vs:Xv->List (Option YF)):Prop where
 out:∀(w:Xv)(os:OsState),((oq p N w os).map λs=>as.map s.abs.heap.get?)=A? (vs w)
theorem Pc.k{p:Xe}{N:Nat}{K:Params->Frag}{e:∀P,as=(K P).map (·.1)}(h:Pc p N as λw=>(K w.params).map λp=>A? p.2):∀(w:Xv)(os:OsState),((oq p N w os).map λs=>(kHook K as e).obs s.abs)=A? ((kHook K as e).val w):=h.out
end HD
section
open PySem PySem.W PyProof.Rows
def LAW.vw:Xe:=PySem.W.view PySem.Challenge.pw_boughbook_k45_joined_books_count [1,2,3,4,6,7,8,9,10,11,13,14,15,16,17,18,19,20,21,22,23,24,26,27,28,29,30,31,32,33,34,35,37,38,39,41,42,43,44,45,46,48,49,50,51,52,53,55,56,58,59,60,62,63,64,65,66,67,68,69,70,71,72,73,74,75,76,77]
def LAW.xt(s:WZ):Bool:=xlAt LAW.vw [] s && recOk (RowW.records (OpenRow.toRowW (OpenLaw.row PySem.Challenge.rw_boughbook_k45_joined_books_count))) s
theorem LAW.ws:OpenLaw.wellSaid PySem.Challenge.rw_boughbook_k45_joined_books_count=true:=by kernel_rfl
theorem LAW.lk0:HD.Tr0 PySem.Challenge.pw_boughbook_k45_joined_books_count LAW.vw [] LAW.xt 90000 true:=λ_ _=>by kernel_rfl
theorem LAW.lk1:HD.Tr1 PySem.Challenge.pw_boughbook_k45_joined_books_count LAW.vw 90000:=λ_ _=>by kernel_rfl
theorem LAW.lk2:HD.Tr2 PySem.Challenge.pw_boughbook_k45_joined_books_count LAW.vw [] 90000:=λ_ _=>by kernel_rfl
theorem LAW.lk3:HD.Tr3 PySem.Challenge.pw_boughbook_k45_joined_books_count LAW.vw 90000:=λ_ _=>by kernel_rfl
theorem LAW.lk4:HD.Tr4 PySem.Challenge.pw_boughbook_k45_joined_books_count LAW.vw [] 90000:=λ_ _=>by kernel_rfl
theorem LAW.lk5:HD.Tr5 PySem.Challenge.pw_boughbook_k45_joined_books_count LAW.vw 90000:=λ_ _=>by kernel_rfl
section
local macro_rules | `(tactic| o_head $_H) => `(tactic| assumption)
theorem LAW.d0(h:OpenRow.Holds (OpenLaw.row PySem.Challenge.rw_boughbook_k45_joined_books_count)):OpenRow.Holds (OpenLaw.row PySem.Challenge.rw_boughbook_k45_joined_books_count):=by
 k_head
end
noncomputable def LAW.ks:List WS:=(LAW.d0.heap_1 HD.p0).map (·.1)
theorem LAW.ke:∀P,LAW.ks=(LAW.d0.heap_1 P).map (·.1):=λ_=>by kernel_rfl
theorem LAW.kp:HD.Pc PySem.Challenge.pw_boughbook_k45_joined_books_count 90000 LAW.ks λw=>(LAW.d0.heap_1 w.params).map λp=>A? p.2:=⟨λ_ _=>by kernel_rfl⟩
end
namespace L2
open PySem PySem.Spec PyProof.Rows
theorem gmE{f:α->β}{l:List α}{i:Nat}{x:α}(h:l[i]?=A? x):(l.map f)[i]?=A? (f x):=by rw[W3,h];rfl
theorem glE{l:List α}{i:Nat}{x:α}(h:l[i]?=A? x):i<l.length:=(Xx.mp h).1
abbrev Key:=Sum Int Xk
def gQ:Key->WV->Bool
 |.inl k,v=>Value.isInt k v
 |.inr x,v=>Value.isStrOf x v
def zU(w:Xv):Key->Int
 |.inl k=>hashInt k
 |.inr x=>hashStr w x
theorem bc:∀{k:Key}{v:WV},gQ k v=C?->(∃i t,k=Xs i/\v=Value.int i t)\/(∃x t,k=ZW x/\v=Value.str x t)
 | .inl i,v,h=>by
   obtain⟨t,e⟩:=Value.isInt_shape (k:=i) (v:=v) h;exact .inl ⟨i,t,rfl,e⟩
 | .inr x,v,h=>by
   obtain⟨t,e⟩:=Value.isStrOf_shape (x:=x) (v:=v) h;exact .inr ⟨x,t,rfl,e⟩
theorem tu(i:Int)(t:Tok):gQ (.inl i) (.int i t)=true:=by simp[gQ,Value.isInt]
theorem sL(x:Xk)(t:Tok):gQ (.inr x) (.str x t)=true:=by simp[gQ,Value.isStrOf]
theorem yD(a b:Int):decide ((Xs a:Key)=Xs b)=(a == b):=by
 by_cases e:a=b
 .subst e;simp
 .have h:¬(Xs a:Key)=Xs b:=λq=>e (Zt q);rw[c! h];exact(beq_eq_false_iff_ne.mpr e).symm
theorem yz(a b:Xk):decide ((ZW a:Key)=ZW b)=decide (a=b):=by
 by_cases e:a=b
 .subst e;simp
 .have h:¬(ZW a:Key)=ZW b:=λq=>e (Sum.inr.inj q);rw[c! h,c! e]
theorem yn(a:Int)(b:Xk):decide ((Xs a:Key)=ZW b)=false:=c! (λq=>nomatch q)
theorem xM(a:Xk)(b:Int):decide ((ZW a:Key)=Xs b)=false:=c! (λq=>nomatch q)
def aC(prog:Xe)(w:Xv):PySem.KeyKind prog w Key where
 is:=gQ
 hash:=zU w
 inj:=λv a b ha hb=>by
  rcases bc ha with⟨i,t,rfl,rfl⟩|⟨x,t,rfl,rfl⟩
  .rcases bc hb with⟨j,u,rfl,e⟩|⟨y,u,rfl,e⟩
   .injection e with e1 _;rw[e1]
   .exact nomatch e
  .rcases bc hb with⟨j,u,rfl,e⟩|⟨y,u,rfl,e⟩
   .exact nomatch e
   .injection e with e1 _;rw[e1]
 byValue:=λk v h=>by
  rcases bc h with⟨i,t,rfl,rfl⟩|⟨x,t,rfl,rfl⟩ <;> rfl
 pyHash:=λhv h=>by
  rcases bc hv with⟨i,t,rfl,rfl⟩|⟨x,t,rfl,rfl⟩
  .exact wpAny_pyHash_int h
  .exact wpAny_pyHash_str h
 eqBool:=λhu hv h=>by
  rcases bc hu with⟨i,t,rfl,rfl⟩|⟨x,t,rfl,rfl⟩
  .rcases bc hv with⟨j,u,rfl,rfl⟩|⟨y,u,rfl,rfl⟩
   .rw[yD]at h;exact wpAny_eqBool_int h
   .rw[yn]at h;exact SeqAt.EqAt.int_str i t y u _ _ _ _ h
  .rcases bc hv with⟨j,u,rfl,rfl⟩|⟨y,u,rfl,rfl⟩
   .rw[xM]at h;exact SeqAt.EqAt.str_int x t j u _ _ _ _ h
   .rw[yz]at h;exact wpAny_eqBool_str h
 «strs»:=λk x t v h=>by
  rcases bc h with⟨i,u,rfl,e⟩|⟨y,u,rfl,e⟩
  .exact nomatch e
  .injection e with e1 _;subst e1;cases v <;> rfl
theorem p9(prog:Xe)(w:Xv)(i:Int)(t:Tok):(aC prog w).is (.inl i) (.int i t)=true:=tu i t
theorem pY(prog:Xe)(w:Xv)(x:Xk)(t:Tok):(aC prog w).is (.inr x) (.str x t)=true:=sL x t
set_option genInjectivity true in
inductive V where
 |non|bl (b:Bool)|int (i:Int)|str (x:Xk)|byt (b:Array UInt8)|flt (b:UInt64)|ref (a:WS)|ty (n:String)
 deriving DecidableEq
def RelV:V->WV->Prop
 |.non,u=>u=Yj
 |.bl b,u=>u=Value.bool b
 |.int i,u=>∃t,u=Value.int i t
 |.str x,u=>∃t,u=Value.str x t
 |.byt b,u=>∃t,u=Value.bytes b t
 |.flt b,u=>∃t,u=Value.float b t
 |.ref a,u=>u=XG a
 |.ty n,u=>u=Value.type n
abbrev Vals:List V->List WV->Prop:=XH RelV
theorem Vals.length{xs:List V}(r:Vals xs us):xs.length=us.length:=Xa r
theorem Vals.get:∀{xs:List V}{us:List WV}{i:Nat}{x:V},Vals xs us->xs[i]?=A? x->∃u,us[i]?=A? u/\RelV x u
 |_,_,_,_,.nil,e=>by simp at e
 |_,_,0,_,.cons r _,e=>by simp at e;subst e;exact⟨_,D?,r⟩
 | _,_,i+1,x,.cons _ t,e=>by
   obtain⟨u,h1,h2⟩:=Vals.get (i:=i) (x:=x) t (by simpa using e);exact⟨u,by simpa using h1,h2⟩
theorem Vals.set{x:V}(r:RelV x u):∀{xs:List V}{us:List WV}(i:Nat),Vals xs us->Vals (xs.set i x) (us.set i u)
 |_,_,_,.nil=>.nil
 |_,_,0,.cons _ t=>.cons r t
 |_,_,i+1,.cons q t=>.cons q (Vals.set r i t)
theorem Vals.append:∀{xs ys:List V}{us ws:List WV},Vals xs us->Vals ys ws->Vals (xs++ys) (us++ws)
 |_,_,_,_,.nil,s=>s
 |_,_,_,_,.cons r t,s=>.cons r (Vals.append t s)
theorem Vals.take:∀{xs:List V}{us:List WV}(n:Nat),Vals xs us->Vals (xs.take n) (us.take n)
 |_,_,0,_=>.nil
 |_,_,_+1,.nil=>.nil
 |_,_,n+1,.cons r t=>.cons r (Vals.take n t)
theorem Vals.drop:∀{xs:List V}{us:List WV}(n:Nat),Vals xs us->Vals (xs.drop n) (us.drop n)
 |_,_,0,r=>r
 |_,_,_+1,.nil=>.nil
 |_,_,n+1,.cons _ t=>Vals.drop n t
def RelO:Option V->Option WV->Prop
 |some v,A? u=>RelV v u
 |none,B?=>True
 |_,_=>False
def KV{κ:Type}:List (κ×V)->List (κ×WV)->Prop:=XH λ(p:κ×V)(q:κ×WV)=>p.1=q.1/\RelV p.2 q.2
def kV:Key->V
 |.inl i=>.int i
 |.inr x=>.str x
set_option genSizeOf true in
inductive HO where
 |lst (xs:List V)
 |tup (xs:List V)
 |dK (kvs:List (Key×V))|dT (kvs:List (List Key×V))
 |set (S:Int->Bool) (n:Nat)
 |ins (C dx:WS) (fs:List (Xk×V))
 |own (x:WS)
 |xd (fs:List (Xk×V))
 |met (f x:WS)
 |rng (lo hi:Int)
 |frz (o:YF) (u:HO)
 |tbl (ps:Array WV)
 |ext (φ:X5->Prop)
abbrev Hp:=WS->Option HO
def upd(H:Hp)(a:WS)(o:HO):Hp:=λb=>if b=a then A? o else H b
theorem ad{H:Hp}{o:HO}:upd H a o a=A? o:=by unfold upd;rw[b! rfl]
theorem af{H:Hp}{o:HO}(h:b≠a):upd H a o b=H b:=by unfold upd;rw[a! h]
theorem nU{H:Hp}{o u:HO}:upd (upd H a o) a u=upd H a u:=by
 funext b;unfold upd;split <;> rfl
theorem aF{H:Hp}{o u:HO}(h:H a=A? o)(h':H b=A? u)(d:o≠u):a≠b:=by
 intro e;subst e;rw[h]at h';exact d (Xl h')
theorem aq{H:Hp}{o:HO}(h:H a=A? o)(h':H b=B?):a≠b:=by
 intro e;subst e;rw[h]at h';cases h'
section
variable(P:Xe)(w:Xv)
def ObjOk(H:Hp)(h:X5)(a:WS):HO->Prop
 |.lst xs=>xs.length<=Xj/\∃(its:List WV)(n:Nat),Vals xs its/\h.get? a=A? {cls:=.type "list",data:=.seq its.toArray n}
 |.tup xs=>xs.length<=Xj/\∃(its:List WV)(n:Nat),Vals xs its/\h.get? a=A? {cls:=.type "tuple",data:=.seq its.toArray n}
 |.dK kvs=>kvs.length<=Xj/\(a == Yr)=CG/\∃vs,KV kvs vs/\h.DictOf (aC P w) a vs
 |.dT kvs=>kvs.length<=Xj/\(a == Yr)=CG/\∃xs:List (List Key×WS×WV),
  XH (λ(p:List Key×V)(q:List Key×WS×WV)=>p.1=q.1/\H q.2.1=A? (.tup (p.1.map kV))/\RelV p.2 q.2.2) kvs xs /\
  ∃o es ep,h.get? a=A? o/\o.ExactDict/\o.data=.dict es ep/\es.toList=xs.map (entryOfKey (tupleKind (aC P w)))/\(xs.map (·.1)).Nodup
 |.set S n=>h.SetOf (intKind P w) a S n
 |.ins C dx fs=>H dx=A? (.own a)/\fs.length<=1000/\dx≠a/\h.get? a=A? (Zn C dx) /\
  ∃mA,h.Ns1 dx mA/\(∀f,RelO (fs.lookup f) (mA f))/\PySem.Within mA (fs.map (·.1))
 |.own _=>∃o,h.get? a=A? o
 |.xd fs=>∃mA,h.Ns1 a mA/\∀f,RelO (fs.lookup f) (mA f)
 |.rng lo hi=>∃t u v,h.get? a=A? {cls:=.type "range",data:=.fields #[.int lo t,.int hi u,.int 1 v]}
 |.frz o u=>h.get? a=A? o/\ObjOk H h a u
 |.tbl ps=>h.get? a=A? {cls:=.none,data:=.fields ps}
 |.met f x=>h.get? a=A? (PySem.W.methodObj (.ref f) (.ref x))
 |.ext φ=>φ h/\(∃o,h.get? a=A? o)/\∀h1 h2:X5,φ h1->(∀o,h1.get? a=A? o->h2.get? a=A? o)->φ h2
def HOk(H:Hp)(h:X5):Prop:=∀a o,H a=A? o->ObjOk P w H h a o
end
section
variable{H H':Hp}{o:HO}
theorem ObjOk.lt(x:ObjOk P w H h a o):a<h.objs.size:=by
 cases o with
 |lst xs=>obtain⟨_,_,_,_,e⟩:=x;exact Xi e
 |tup xs=>obtain⟨_,_,_,_,e⟩:=x;exact Xi e
 |dK kvs=>obtain⟨_,_,_,_,o,_,_,e,_⟩:=x;exact Xi e
 |dT kvs=>obtain⟨_,_,_,_,o,_,_,e,_⟩:=x;exact Xi e
 |set S n=>obtain⟨o,_,_,_,e,_⟩:=x;exact Xi e
 |ins C dx fs=>obtain⟨_,_,_,e,_⟩:=x;exact Xi e
 |own y=>obtain⟨_,e⟩:=x;exact Xi e
 |xd fs=>obtain⟨_,⟨_,_,_,e,_⟩,_⟩:=x;exact Xi e
 |rng lo hi=>obtain⟨_,_,_,e⟩:=x;exact Xi e
 |frz ob u=>obtain⟨e,_⟩:=x;exact Xi e
 |tbl ps=>exact Xi (show h.get? a=A? _ from x)
 |met f y=>exact Xi (show h.get? a=A? _ from x)
 |ext φ=>obtain⟨_,⟨_,e⟩,_⟩:=x;exact Xi e
theorem XH.mapP{G:α->β->Prop}:∀{JG:List α}{JH:List β},XH F JG JH->(∀a b,F a b->G a b)->XH G JG JH
 |_,_,.nil,_=>.nil
 |_,_,.cons r t,f=>.cons (f _ _ r) (XH.mapP t f)
theorem ObjOk.stay(x:ObjOk P w H h a o)(k:∀b u,(b=a\/H b=A? (.own a))->h.get? b=A? u->h'.get? b=A? u)
 (ho:∀b,H b=A? (.own a)->H' b=A? (.own a)) (ht:∀b xs,H b=A? (.tup xs)->H' b=A? (.tup xs)):ObjOk P w H' h' a o:=by
 induction o with
 |lst xs=>obtain⟨z,its,n,r,e⟩:=x;exact⟨z,its,n,r,k _ _ (.inl rfl) e⟩
 |tup xs=>obtain⟨z,its,n,r,e⟩:=x;exact⟨z,its,n,r,k _ _ (.inl rfl) e⟩
 |dK kvs=>obtain⟨z,y,vs,r,ob,es,ep,e,c⟩:=x;exact⟨z,y,vs,r,ob,es,ep,k _ _ (.inl rfl) e,c⟩
 | dT kvs =>
   obtain⟨z,y,xs,r,ob,es,ep,e,c⟩:=x;exact⟨z,y,xs,XH.mapP r λp q z=>⟨z.1,ht _ _ z.2.1,z.2.2⟩,ob,es,ep,k _ _ (.inl rfl) e,c⟩
 |set S n=>obtain⟨ob,es,ep,t,e,c⟩:=x;exact⟨ob,es,ep,t,k _ _ (.inl rfl) e,c⟩
 | ins C dx fs =>
   obtain⟨d,z,ne,e,mA,⟨od,es,ep,e2,c⟩,r⟩:=x;exact⟨ho _ d,z,ne,k _ _ (.inl rfl) e,mA,⟨od,es,ep,k _ _ (.inr d) e2,c⟩,r⟩
 |own y=>obtain⟨ob,e⟩:=x;exact⟨ob,k _ _ (.inl rfl) e⟩
 |xd fs=>obtain⟨mA,⟨od,es,ep,e,c⟩,r⟩:=x;exact⟨mA,⟨od,es,ep,k _ _ (.inl rfl) e,c⟩,r⟩
 |rng lo hi=>obtain⟨t,u,v,e⟩:=x;exact⟨t,u,v,k _ _ (.inl rfl) e⟩
 |frz ob u ih=>obtain⟨e,q⟩:=x;exact⟨k _ _ (.inl rfl) e,ih q⟩
 | tbl ps =>
   have e:h.get? a=A? {cls:=.none,data:=.fields ps}:=x;show h'.get? a=A? {cls:=.none,data:=.fields ps};exact k a _ (.inl rfl) e
 | met f y =>
   have e:h.get? a=A? (PySem.W.methodObj (.ref f) (.ref y)):=x;show h'.get? a=A? (PySem.W.methodObj (.ref f) (.ref y));exact k a _ (.inl rfl) e
 |ext φ=>obtain⟨p,⟨o,e⟩,st⟩:=x;exact⟨st _ _ p λo q=>k _ _ (.inl rfl) q,⟨o,k _ _ (.inl rfl) e⟩,st⟩
theorem HOk.lt(x:HOk P w H h)(e:H a=A? o):a<h.objs.size:=(x a o e).lt
theorem HOk.fresh(x:HOk P w H h)(e:h.objs.size<=a):H a=none:=by
 cases q:H a with
 |none=>rfl
 |some u=>exact g! (Xz (x.lt q) e) (Ys _)
theorem HOk.kept(x:HOk P w H h)(k:∀b u,h.get? b=A? u->h'.get? b=A? u):HOk P w H h':=λa o e =>
 (x a o e).stay (λb u _ q=>k b u q) (λ_ q=>q) λ_ _ q=>q
theorem HOk.laid(x:HOk P w H h)(k:∀b u,h.get? b=A? u->h'.get? b=A? u)(hp:h.objs.size<=a)(new:ObjOk P w (upd H a o) h' a o):HOk P w (upd H a o) h':=λb u e=>by
 have hn:=x.fresh hp;by_cases hb:b=a
 .subst hb;rw[ad]at e;cases e;exact new
 .rw[af hb]at e;exact(x b u e).stay (λc v _ q=>k c v q) (λc q=>by rw[af (aq q hn)];exact q) λc xs q=>by rw[af (aq q hn)];exact q
end
def Rd(H:Hp)(a:WS)(u:HO):Prop:=H a=A? u\/∃o,H a=A? (.frz o u)
theorem Rd.ok{H:Hp}{u:HO}(r:Rd H a u)(x:HOk P w H h):ObjOk P w H h a u:=by
 rcases r with r|⟨o,r⟩
 .exact x a u r
 .obtain⟨_,q⟩:=x a _ r;exact q
def Mut:Option HO->Prop
 |some (.lst _)=>True
 |some (.dK _)=>True
 |some (.dT _)=>True
 |some (.set _ _)=>True
 |some (.ins _ _ _)=>True
 |some (.ext _)=>True
 |_=>False
section
variable{H:Hp}{x e:WS}{o':HO}
theorem HOk.write(ok:HOk P w H h)(mu:Mut (H x))(he:e=x\/H e=A? (.own x))(k:∀b u,b≠e->h.get? b=A? u->h'.get? b=A? u)(IU:∃u,h'.get? e=A? u)
 (new:ObjOk P w (upd H x o') h' x o'):HOk P w (upd H x o') h':=λb u q=>by
 have JI:∀c y,H c=A? (.own y)->c≠x:=λc y r z=>by subst z;rw[r]at mu;exact mu
 have Nr:∀c xs,H c=A? (.tup xs)->c≠x:=λc xs r z=>by subst z;rw[r]at mu;exact mu
 by_cases hb:b=x
 .subst hb;rw[ad]at q;cases q;exact new
 .rw[af hb]at q;by_cases Fi:b=e
  .have q':H b=A? (.own x):=by
    rcases he with z|z
    .exact g! (Fi.trans z) hb
    .rw[Fi];exact z
   rw[q]at q';cases q';obtain⟨v,hv⟩:=IU;exact⟨v,by rw[Fi];exact hv⟩
  .refine(ok b u q).stay (λc v hc r=>k c v ?_ r) (λc r=>by rw[af (JI c b r)];exact r) λc xs r=>by rw[af (Nr c xs r)];exact r
   rcases hc with rfl|hc
   .exact Fi
   .rintro rfl;rcases he with z|z
    .exact JI c b hc z
    .rw[hc]at z;cases z;exact hb rfl
end
structure Un(fs ex:List WS)(H H':Hp)(h h':X5):Prop where
 keep:∀b o,h.get? b=A? o->H b=B?->b∉fs->b∉ex->h'.get? b=A? o
 slot:∀b o,h.get? b=A? o->H b=B?->b∈fs->b∉ex->∃sl,h'.get? b=A? {o with slots:=sl}
 free:∀b o,h.get? b=A? o->H b=B?->b∉ex->H' b=B?
 there:∀b o,h.get? b=A? o->b∉ex->∃o',h'.get? b=A? o'
 tups:∀b xs,H b=A? (.tup xs)->H' b=A? (.tup xs)
 frzs:∀b o u,H b=A? (.frz o u)->H' b=A? (.frz o u)
 tbls:∀b ps,H b=A? (.tbl ps)->∃more,H' b=A? (.tbl (ps++more))
section
variable{fs IV ex Mh:List WS}{H H1 H2:Hp}{h1 h2:X5}{x e:WS}{o:HO}
theorem Un.any(u:Un fs ex H H1 h h1){ob:YF}(q:h.get? b=A? ob)(n:H b=B?)(hx:b∉ex):∃sl,h1.get? b=A? {ob with slots:=sl}:=by
 by_cases hb:b∈fs
 .exact u.slot b ob q n hb hx
 .exact⟨ob.slots,u.keep b ob q n hb hx⟩
theorem Un.kept(k:∀b u,h.get? b=A? u->h'.get? b=A? u):Un fs ex H H h h' :=
 ⟨λb ob q _ _ _=>k b ob q,λb ob q _ _ _=>⟨ob.slots,k b ob q⟩,λ_ _ _ n _=>n,λb ob q _=>⟨ob,k b ob q⟩,λ_ _ q=>q,λ_ _ _ q=>q,λ_ ps q=>⟨#[],by rw[q];simp⟩⟩
theorem Un.refl:Un fs ex H H h h:=Un.kept λ_ _ q=>q
theorem Un.laid(k:∀b u,h.get? b=A? u->h'.get? b=A? u)(hp:h.objs.size<=a)(hn:H a=B?):Un fs ex H (upd H a o) h h' where
 keep:=λb u q _ _ _=>k b u q
 slot:=λb u q _ _ _=>⟨u.slots,k b u q⟩
 free:=λb u q n _=>by rw[af (XD (Xz (Xi q) hp))];exact n
 there:=λb u q _=>⟨u,k b u q⟩
 tups:=λb xs q=>by rw[af (aq q hn)];exact q
 frzs:=λb u xs q=>by rw[af (aq q hn)];exact q
 tbls:=λb ps q=>⟨#[],by rw[af (aq q hn),q];simp⟩
theorem Un.write(mu:Mut (H x))(he:e=x\/H e=A? (.own x))(k:∀b u,b≠e->h.get? b=A? u->h'.get? b=A? u)(IU:∃u,h'.get? e=A? u):Un fs ex H (upd H x o) h h':=by
 have hx:∀b,H b=B?->b≠x:=λb n z=>by subst z;rw[n]at mu;exact mu
 have hb:∀b,H b=B?->b≠e:=λb n z=>by
  subst z;rcases he with r|r
  .exact hx b n r
  .rw[n]at r;cases r
 have hm:∀b u,H b=A? u->¬Mut (A? u)->b≠x:=λb u q nm z=>by subst z;rw[q]at mu;exact nm mu
 refine⟨λb u q n _ _=>k b u (hb b n) q,λb u q n _ _=>⟨u.slots,k b u (hb b n) q⟩,λb u q n _=>by rw[af (hx b n)];exact n,λb u q _=>?_,
  λb xs q=>by rw[af (hm b _ q λz=>z)];exact q,λb u xs q=>by rw[af (hm b _ q λz=>z)];exact q,λb ps q=>⟨#[],by rw[af (hm b _ q λz=>z),q];simp⟩⟩
 by_cases Fi:b=e
 .subst Fi;exact IU
 .exact⟨u,k b u Fi q⟩
end
def trk(h:X5)(H:Hp):List WS:=(YL h.objs.size).filter λa=>(H a).isSome
def l7(h:X5)(H:Hp):X5:=PySem.W.hideAll h (trk h H)
theorem sO(h:X5)(H:Hp):(l7 h H).objs.size=h.objs.size:=PySem.W.hideAll_size _ _
theorem uB{H:Hp}{o:YF}(e:h.get? b=A? o)(n:H b=B?):(l7 h H).get? b=A? o :=
 PySem.W.hideAll_get _ e λhm=>by
  have q:(H b).isSome=true:=(List.mem_filter.mp hm).2;rw[n]at q;simp at q
theorem wO{H:Hp}{o:YF}(e:(l7 h H).get? b=A? o):h.get? b=A? o/\H b=none:=by
 have e':h.get? b=A? o:=PySem.W.of_hideAll (trk h H) e;refine⟨e',?_⟩;cases q:H b with
 |none=>rfl
 | some x =>
   have hm:b∈trk h H:=List.mem_filter.mpr ⟨List.mem_range.mpr (Xi e'),by simp[q]⟩;have z:(l7 h H).get? b=none:=PySem.W.hideAll_none (trk h H) hm;rw[z]at e;cases e
end L2
open L2.V renaming ref->i!,int->o!,str->G!
variable{o:L2.HO}{xs:List L2.V}{H H' H1 H2 H4:L2.Hp}{v y:L2.V}{kvs:List (List L2.Key×L2.V)}{fin:WS->L2.Hp->Prop}{kv:L2.Key×L2.V}
namespace L2
open PySem PySem.Spec PyProof.Rows
structure Mod(K:WY)(mg:Xk->Option WV)(base:X5):Prop where
 kin:K.In base
 glob:base.Ns X8 mg
 blt:∃mb,base.Ns builtinsNs mb/\∀x:Xk,x≠"__name__"->mb x=bootBuiltins x
 nolimit:base.NoLimit
set_option genInjectivity true in
structure Cx where
 prog:Xe
 w:Xv
 K:WY
 mg:Xk->Option WV
 base:X5
 A:XF
 N:List Xk
 s₀:WZ
 H₀:Hp
 env:Env
 outer:List Env
 stack:List Env
 ex:List WS
 fn:Xk->Bool
 calm:Bool
 pn:List (WS×YF)
 xe:WV->WZ->Prop
def frs(l:List Env):List WS:=l.filterMap (·.frame)
abbrev Cx.fs(X:Cx):List WS:=frs X.outer
def Vis(sc:ZD)(x:Xk):Prop:=sc.names.lookup x=A? .local\/sc.names.lookup x=A? .cell\/sc.names.lookup x=A? .free
def Loc(sc:ZD)(x:Xk):Prop:=sc.names.lookup x=A? .local\/sc.names.lookup x=A? .cell
def Look(env:Env)(h:X5)(m:Xk->Option WV)(x:Xk)(u:WV):Prop :=
 (env.kindOf x=A? .local/\m x=A? u)\/((env.kindOf x=A? .cell\/env.kindOf x=A? .free)/\∃c,env.cells.lookup x=A? c/\h.IsCell c (A? u))
structure Cx.Ok(X:Cx):Prop where
 mod:Mod X.K X.mg X.base
 kind:X.env.scope.kind=.function
 glob:X.env.globals=X8
 blt:X.env.builtins=builtinsNs
 above:X.s₀.heap.1.size<=X.env.locals
 inj:∀x y c,X.env.cells.lookup x=A? c->X.env.cells.lookup y=A? c->x=y
 has:∀x,(X.env.kindOf x=A? .cell\/X.env.kindOf x=A? .free)->∃c,X.env.cells.lookup x=A? c
 cab:∀x c,X.fn x=C?->X.env.cells.lookup x=A? c->X.s₀.heap.1.size<=c
 hd:X.calm=C?->X.A.handled=B?
 frames:X.A.frames=A? X.stack
 stk:X.stack=X.outer\/(X.stack=X.env::X.outer/\X.env.frame=A? X.env.locals)
 exf:∀b∈X.ex,b≠X.env.locals/\∀x c,X.env.cells.lookup x=A? c->c≠b
 bs:∀b o,X.base.get? b=A? o->X.s₀.heap.get? b=A? o/\X.H₀ b=B?
 bsz:X.base.objs.size<=X.s₀.heap.1.size
 noex:∀b o,X.base.get? b=A? o->b∉X.ex
 exfs:∀b∈X.ex,b∉X.fs
 funs:X.s₀.heap.FunFrames X.base X.outer
 frf:∀b∈X.fs,X.H₀ b=B?
structure Inv(X:Cx)(Z:List (WS×YF))(Y:List (Option V))(H:Hp)(s:WZ):Prop where
 ok:X.Ok
 os:s.os=X.s₀.os
 bare:AllBare s.gens
 base:Un X.fs X.ex X.H₀ H X.s₀.heap s.1
 loc:∃m,s.1.Ns X.env.locals m/\∀(i:Nat)(x:Xk)(v:V),X.N[i]?=A? x->Y[i]?=A? (A? v)->Vis X.env.scope x->∃u,RelV v u/\Look X.env s.1 m x u
 cell:∀x c,X.env.cells.lookup x=A? c->∃v,s.1.IsCell c v
 free:H X.env.locals=B?
 freeC:∀x c,X.env.cells.lookup x=A? c->H c=B?
 pin:∀p∈X.pn++Z,s.1.get? p.1=A? p.2/\H p.1=B?/\p.1≠X.env.locals/\p.1∉X.fs/\∀v,p.2.data≠.cell v
 hok:HOk X.prog X.w H s.1
 len:Y.length=X.N.length
section
variable{X:Cx}{Y:List (Option V)}
theorem Cx.Ok.nofr(ok:X.Ok){o:YF}(e:X.base.get? b=A? o):b∉X.fs:=λhb=>by
 have:=(ok.funs.mem hb).1;rw[e]at this;cases this
theorem Inv.bs(I:Inv X Z Y H s):∀b o,X.base.get? b=A? o->s.1.get? b=A? o/\H b=none:=λb o e =>
 ⟨I.base.keep b o (I.ok.bs b o e).1 (I.ok.bs b o e).2 (I.ok.nofr e) (I.ok.noex b o e),I.base.free b o (I.ok.bs b o e).1 (I.ok.bs b o e).2 (I.ok.noex b o e)⟩
theorem Inv.bk(I:Inv X Z Y H s):∀b o,X.base.get? b=A? o->s.1.get? b=A? o:=λb o e=>(I.bs b o e).1
theorem Inv.mod(I:Inv X Z Y H s):Mod X.K X.mg X.base:=I.ok.mod
theorem Inv.kIn(I:Inv X Z Y H s):X.K.In s.1:=I.ok.mod.kin.keeps I.bk
theorem Inv.lt(I:Inv X Z Y H s):X.env.locals<s.1.1.size:=let⟨_,hn,_⟩:=I.loc;hn.lt
theorem Inv.sz(I:Inv X Z Y H s):X.s₀.heap.1.size<=s.1.1.size:=Xh I.ok.above (Z9 I.lt)
theorem Inv.nofs(I:Inv X Z Y H s)(h:s.1.1.size<=a):a∉X.fs:=λhb=>by
 obtain⟨_,o,ho,_⟩:=I.ok.funs.mem hb;exact g! (Xz (Xi ho) (Xh I.sz h)) (Ys _)
theorem Inv.cne(I:Inv X Z Y H s):∀x c,X.env.cells.lookup x=A? c->c≠X.env.locals:=λx c e z=>by
 obtain⟨v,o,ho,hd⟩:=I.cell x c e;obtain⟨m,⟨o',es,ep,BG,Cy,_⟩,_⟩:=I.loc;rw[z,BG]at ho;cases ho;rw[Cy]at hd;cases hd
theorem Inv.funs(I:Inv X Z Y H s):s.1.FunFrames X.base X.outer:=by
 have all:∀(l:List Env),(∀b∈frs l,b∈X.fs)->X.s₀.heap.FunFrames X.base l->s.1.FunFrames X.base l:=by
  intro l;induction l with
  |nil=>intro _ _;trivial
  | cons env r ih =>
    intro hs hl;obtain⟨hk,⟨L,o,hf,hn,ho,hd⟩,hr⟩:=hl;have hL:L∈X.fs:=hs L (by unfold frs;rw[Zy,hf];exact W4);obtain⟨sl,e⟩:=I.base.slot L o ho (I.ok.frf L hL) hL λz=>I.ok.exfs L z hL;exact⟨hk,⟨L,_,hf,hn,e,hd⟩,ih (λb hb=>hs b (by unfold frs;rw[Zy,hf];exact WT _ hb)) hr⟩
 exact all X.outer (λ_ hb=>hb) I.ok.funs
theorem Inv.stack(I:Inv X Z Y H s):s.1.FunFrames X.base X.stack:=by
 rcases I.ok.stk with e|⟨e,hf⟩
 .rw[e];exact I.funs
 .rw[e];obtain⟨m,hn,_⟩:=I.loc;refine .cons (by rw[I.ok.kind];decide) hf hn ?_ I.funs;exact Heap.get?_none_of_le (Xh I.ok.bsz I.ok.above)
theorem Inv.stkSub(I:Inv X Z Y H s):∀b∈frs X.stack,b∈X.env.locals::X.fs:=λb hb=>by
 rcases I.ok.stk with e|⟨e,hf⟩
 .rw[e]at hb;exact WT _ hb
 .rw[e]at hb;unfold frs at hb;rw[Zy,hf]at hb;exact hb
theorem Inv.stkFree(I:Inv X Z Y H s):∀b∈frs X.stack,H b=none:=λb hb=>by
 rcases W6.mp (I.stkSub b hb)with e|hb
 .rw[e];exact I.free
 .obtain⟨_,o,ho,_⟩:=I.ok.funs.mem hb;exact I.base.free b o ho (I.ok.frf b hb) λz=>I.ok.exfs b z hb
theorem Inv.step{g':Array GenState}{d':Drawn}(I:Inv X Z Y H s)
 (C1:∀b∈ch,(b∈X.ex\/X.s₀.heap.1.size<=b)/\b≠X.env.locals/\(∀x c,X.env.cells.lookup x=A? c->c≠b)/\∀p∈X.pn++Z,p.1≠b)
 (keep:∀b o,b≠X.env.locals->b∉X.fs->b∉ch->s.1.get? b=A? o->H b=B?->h'.get? b=A? o)
 (slot:∀b o,b≠X.env.locals->b∈X.fs->b∉ch->s.1.get? b=A? o->H b=B?->∃sl,h'.get? b=A? {o with slots:=sl}) (free:∀b o,b∉ch->s.1.get? b=A? o->H b=B?->H' b=B?)
 (there:∀b o,b∉ch->s.1.get? b=A? o->∃o',h'.get? b=A? o')
 (tups:∀b xs,H b=A? (.tup xs)->H' b=A? (.tup xs)) (frzs:∀b o u,H b=A? (.frz o u)->H' b=A? (.frz o u)) (tbls:∀b ps,H b=A? (.tbl ps)->∃more,H' b=A? (.tbl (ps++more)))
 (ns:∀m,s.1.Ns X.env.locals m->h'.Ns X.env.locals m) (hok:HOk X.prog X.w H' h') (hg:AllBare g') :
 Inv X Z Y H' {s with heap:=h',gens:=g',drawn:=d',toks:=t'}:=by
 have Q7:∀b o,X.s₀.heap.get? b=A? o->b≠X.env.locals:=λb o e=>XD (Xz (Xi e) I.ok.above)
 have Mi:∀b o,X.s₀.heap.get? b=A? o->b∉X.ex->b∉ch:=λb o e hx hb=>by
  rcases(C1 b hb).1 with z|z
  .exact hx z
  .exact g! (Xz (Xi e) z) (Ys _)
 have cellK:∀x c,X.env.cells.lookup x=A? c->∀v,s.1.IsCell c v->h'.IsCell c v:=λx c e v⟨o,ho,hd⟩=>by
  have JJ:c∉ch:=λz=>(C1 c z).2.2.1 x c e rfl;by_cases hc:c∈X.fs
  .obtain⟨sl,q⟩:=slot c o (I.cne x c e) hc JJ ho (I.freeC x c e);exact⟨_,q,hd⟩
  .exact⟨o,keep c o (I.cne x c e) hc JJ ho (I.freeC x c e),hd⟩
 refine⟨I.ok,I.os,hg,⟨λb o e n hb hx=>?_,λb o e n hb hx=>?_,λb o e n hx=>?_,λb o e hx=>?_,λb xs e=>tups b xs (I.base.tups b xs e),λb o xs e=>frzs b o xs (I.base.frzs b o xs e),λb ps e=>?_⟩,?_,λx c e=>?_,?_,λx c e=>?_,λp hp=>?_,hok,I.len⟩
 .exact keep b o (Q7 b o e) hb (Mi b o e hx) (I.base.keep b o e n hb hx) (I.base.free b o e n hx)
 .obtain⟨sl,e1⟩:=I.base.slot b o e n hb hx;obtain⟨Tb,e2⟩:=slot b _ (Q7 b o e) hb (Mi b o e hx) e1 (I.base.free b o e n hx);exact⟨Tb,e2⟩
 .obtain⟨o',e1⟩:=I.base.there b o e hx;exact free b o' (Mi b o e hx) e1 (I.base.free b o e n hx)
 .obtain⟨o',e1⟩:=I.base.there b o e hx;exact there b o' (Mi b o e hx) e1
 .obtain⟨m1,e1⟩:=I.base.tbls b ps e;obtain⟨m2,e2⟩:=tbls b _ e1;exact⟨m1++m2,by rw[e2,Array.append_assoc]⟩
 .obtain⟨m,hn,hl⟩:=I.loc;refine⟨m,ns m hn,λi x v e1 e2 e3=>?_⟩;obtain⟨u,r,l⟩:=hl i x v e1 e2 e3;refine⟨u,r,?_⟩;rcases l with l|⟨k,c,e,z⟩
  .exact .inl l
  .exact .inr ⟨k,c,e,cellK x c e _ z⟩
 .obtain⟨v,z⟩:=I.cell x c e;exact⟨v,cellK x c e v z⟩
 .obtain⟨m,⟨o,_,_,ho,_⟩,_⟩:=I.loc;exact free _ o (λz=>(C1 _ z).2.1 rfl) ho I.free
 .obtain⟨v,o,ho,hd⟩:=I.cell x c e;exact free c o (λz=>(C1 c z).2.2.1 x c e rfl) ho (I.freeC x c e)
 .obtain⟨e,n,ne,nf,d⟩:=I.pin p hp;have JJ:p.1∉ch:=λz=>(C1 p.1 z).2.2.2 p hp rfl;exact⟨keep p.1 p.2 ne nf JJ e n,free p.1 p.2 JJ e n,ne,nf,d⟩
theorem Inv.un(I:Inv X Z Y H s)(u:Un X.fs [] H H' s.1 h')(hok:HOk X.prog X.w H' h'):Inv X Z Y H' {s with heap:=h',toks:=t'}:=by
 obtain⟨m,⟨o,es,ep,ho,r⟩,_⟩:=id I.loc;obtain⟨sl,hL⟩:=u.any ho I.free (by simp)
 exact I.step (g':=s.gens) (d':=s.drawn) (ch:=[]) (λ_ z=>nomatch z) (λb o _ hb _ e n=>u.keep b o e n hb (by simp)) (λb o _ hb _ e n=>u.slot b o e n hb (by simp)) (λb o _ e n=>u.free b o e n (by simp)) (λb o _ e=>u.there b o e (by simp)) u.tups u.frzs u.tbls (λm' hm=>by
  obtain⟨o',Gp,Gq,BG,r'⟩:=hm;rw[ho]at BG;cases BG;exact⟨_,Gp,Gq,hL,r'⟩) hok I.bare
theorem Inv.call{g':Array GenState}{d':Drawn}(I:Inv X Z Y H s)(u:Un (frs X.stack) ch H H' s.1 h')(hok:HOk X.prog X.w H' h')(hg:AllBare g')
 (C1:∀b∈ch,(b∈X.ex\/X.s₀.heap.1.size<=b)/\b≠X.env.locals/\(∀x c,X.env.cells.lookup x=A? c->c≠b)/\∀p∈X.pn++Z,p.1≠b) :
 Inv X Z Y H' {s with heap:=h',gens:=g',drawn:=d',toks:=t'}:=by
 obtain⟨m,⟨o,es,ep,ho,r⟩,_⟩:=id I.loc;obtain⟨sl,hL⟩:=u.any ho I.free λz=>(C1 _ z).2.1 rfl
 exact I.step (ch:=ch) C1 (λb o hL hb hc e n=>u.keep b o e n (λz=>(W6.mp (I.stkSub b z)).elim hL hb) hc) (λb o _ _ hc e n=>u.any e n hc) (λb o hc e n=>u.free b o e n hc) (λb o hc e=>u.there b o e hc) u.tups u.frzs u.tbls (λm' hm=>by
  obtain⟨o',Gp,Gq,BG,r'⟩:=hm;rw[ho]at BG;cases BG;exact⟨_,Gp,Gq,hL,r'⟩) hok hg
theorem Inv.turned(I:Inv X Z Y H s)(k:∀b o,b≠it->s.1.get? b=A? o->h'.get? b=A? o)(hn:H it=B?)(hL:it≠X.env.locals)
 (h1:it∈X.ex\/X.s₀.heap.1.size<=it) (h2:∀x c,X.env.cells.lookup x=A? c->c≠it) (h3:∀p∈X.pn++Z,p.1≠it):Inv X Z Y H {s with heap:=h',toks:=t'}:=by
 have JK:∀b u,H b=A? u->b≠it:=λb u e z=>by rw[z,hn]at e;cases e
 refine I.step (g':=s.gens) (d':=s.drawn) (ch:=[it]) (λb hb=>?_) (λb o _ _ hc e _=>k b o (λz=>hc (by simp[z])) e) (λb o _ _ hc e _=>⟨o.slots,k b o (λz=>hc (by simp[z])) e⟩) (λ_ _ _ _ n=>n)
  (λb o hc e=>⟨o,k b o (λz=>hc (by simp[z])) e⟩) (λ_ _ e=>e) (λ_ _ _ e=>e) (λb ps e=>⟨#[],by rw[e];simp⟩) (λm hm=>?_) (λb u e=>?_) I.bare
 .have e:b=it:=by simpa using hb
  subst e;exact⟨h1,hL,h2,h3⟩
 .obtain⟨o,es,ep,ho,r⟩:=hm;exact⟨o,es,ep,k _ o (Zb hL) ho,r⟩
 .refine(I.hok b u e).stay (λc v hc q=>k c v ?_ q) (λ_ q=>q) λ_ _ q=>q;rcases hc with z|z
  .rw[z];exact JK b u e
  .exact JK c _ z
theorem Inv.tok(I:Inv X Z Y H s)(t:Nat):Inv X Z Y H {s with toks:=t}:=I.un (h':=s.1) (t':=t) Un.refl I.hok
theorem Inv.kept(I:Inv X Z Y H s)(k:∀b u,s.1.get? b=A? u->h'.get? b=A? u):Inv X Z Y H {s with heap:=h',toks:=t'}:=I.un (Un.kept k) (I.hok.kept k)
theorem Inv.laid(I:Inv X Z Y H s)(k:∀b u,s.1.get? b=A? u->h'.get? b=A? u)(hp:s.1.1.size<=a)(new:ObjOk X.prog X.w (upd H a o) h' a o) :
 Inv X Z Y (upd H a o) {s with heap:=h',toks:=t'}:=I.un (Un.laid k hp (I.hok.fresh hp)) (I.hok.laid k hp new)
theorem Inv.write{x e:WS}(I:Inv X Z Y H s)(mu:Mut (H x))(he:e=x\/H e=A? (.own x))(k:∀b u,b≠e->s.1.get? b=A? u->h'.get? b=A? u)(IU:∃u,h'.get? e=A? u)
 (new:ObjOk X.prog X.w (upd H x o) h' x o):Inv X Z Y (upd H x o) {s with heap:=h',toks:=t'}:=I.un (Un.write mu he k IU) (I.hok.write mu he k IU new)
theorem Inv.weak{Ae:List (Option V)}(I:Inv X Z Y H s)(hl:Ae.length=Y.length)(w:∀(i:Nat)v,Ae[i]?=A? (A? v)->Y[i]?=A? (A? v)):Inv X Z Ae H s :=
 ⟨I.ok,I.os,I.bare,I.base,let⟨m,hn,Cn⟩:=I.loc;⟨m,hn,λi x v e1 e2 e3=>Cn i x v e1 (w i v e2) e3⟩,I.cell,I.free,I.freeC,I.pin,I.hok,hl.trans I.len⟩
theorem Inv.pins_of{Gr:List (WS×YF)}(I:Inv X Z Y H s)(h:∀p∈Gr,s.1.get? p.1=A? p.2/\H p.1=B?/\p.1≠X.env.locals/\p.1∉X.fs/\∀v,p.2.data≠.cell v):Inv X Gr Y H s :=
 ⟨I.ok,I.os,I.bare,I.base,I.loc,I.cell,I.free,I.freeC,λp hp=>(Xd.mp hp).elim (λz=>I.pin p (XA _ z)) (h p),I.hok,I.len⟩
theorem oT(hN:N.Nodup){i:Nat}(a:N[i]?=A? x)(b:N[j]?=A? x):i=j:=by
 obtain⟨h1,e1⟩:=Xx.mp a;obtain⟨h2,e2⟩:=Xx.mp b;exact(List.getElem_inj hN).mp (e1.trans e2.symm)
theorem mK{i:Nat}{Q:Unit->WZ->Prop}(I:Inv X Z Y H s)(hN:X.N.Nodup)(hi:X.N[i]?=A? x)(hx:Loc X.env.scope x)(r:RelV v u)
 (h:∀s',Inv X Z (Y.set i (A? v)) H s'->(∃a,XW a s.1 s'.1/\(a=X.env.locals\/X.env.cells.lookup x=A? a))->Q () s') (hf:X.fn x=C?\/X.env.scope.names.lookup x=A? .local:=by first|exact .inl rfl|exact .inr rfl|assumption):Xc M A (storeName X.env x u) Q E s:=by
 obtain⟨m,hn,hl⟩:=id I.loc;have Nt:(X.env.scope.kind == .class ||(X.env.scope.kind == .module && X.env.locals != X.env.globals))=false:=by rw[I.ok.kind];rfl
 have JL:i<Y.length:=by rw[I.len];exact(glE hi)
 have cne:=I.cne
 have tracked:∀{a:WS}{h':X5},(∃o,s.1.get? a=A? o/\H a=B?)->XW a s.1 h'->HOk X.prog X.w H h':=λ{a h'}ha hs b ob e=>by
  obtain⟨_,_,CH⟩:=ha;refine(I.hok b ob e).stay (λc w' hc q=>(hs.2 c ?_).trans q) (λ_ q=>q) λ_ _ q=>q;rintro rfl;rcases hc with rfl|hc
  .rw[CH]at e;cases e
  .rw[CH]at hc;cases hc
 rcases hx with hk|hk
 .refine wpAny_storeName_local hk hn (λh' Mj hs=>?_) Nt;obtain⟨oL,_,_,Tc,_⟩:=id hn;refine h _ ⟨I.ok,I.os,I.bare,⟨λb o e n hb hx=>?_,λb o e n hb hx=>?_,I.base.free,λb o e hx=>?_,I.base.tups,I.base.frzs,I.base.tbls⟩,⟨_,Mj,λj y v' e1 e2 e3=>?_⟩,λy c e=>?_,I.free,I.freeC,λp hp=>?_,tracked ⟨oL,Tc,I.free⟩ hs,by simpa using I.len⟩ ⟨_,hs,.inl rfl⟩
  .exact(hs.2 b (XD (Xz (Xi e) I.ok.above))).trans (I.base.keep b o e n hb hx)
  .obtain⟨sl,e1⟩:=I.base.slot b o e n hb hx;exact⟨sl,(hs.2 b (XD (Xz (Xi e) I.ok.above))).trans e1⟩
  .obtain⟨o',e1⟩:=I.base.there b o e hx;exact⟨o',(hs.2 b (XD (Xz (Xi e) I.ok.above))).trans e1⟩
  .by_cases hj:j=i
   .subst hj;rw[hi]at e1;cases e1;rw[Yn JL]at e2;cases e2;exact⟨u,r,.inl ⟨hk,by simp⟩⟩
   .rw[Y0 (Zb hj)]at e2;obtain⟨u',r',q⟩:=hl j y v' e1 e2 e3;refine⟨u',r',?_⟩;rcases q with⟨k,e⟩|⟨k,c,e,z⟩
    .refine .inl ⟨k,?_⟩;have:y≠x:=λe=>hj (oT hN e1 (e ▸ hi));simp[this,e]
    .exact .inr ⟨k,c,e,z.sameBut hs (cne y c e)⟩
  .obtain⟨w',z⟩:=I.cell y c e;exact⟨w',z.sameBut hs (cne y c e)⟩
  .obtain⟨e,n,ne,nf,d⟩:=I.pin p hp;exact⟨(hs.2 p.1 ne).trans e,n,ne,nf,d⟩
 .have Nu:X.fn x=true:=by
   rcases hf with z|z
   .exact z
   .rw[z]at hk;cases hk
  obtain⟨c,hc⟩:=I.ok.has x (.inl hk);obtain⟨w',z⟩:=I.cell x c hc;refine wpAny_storeName_cell I.ok.kind hk hc z (λh' Bd hs=>?_);obtain⟨oc,IW,Nv⟩:=id z;refine h {s with heap:=h'} ⟨I.ok,I.os,I.bare,⟨λb o e n hb hx=>?_,λb o e n hb hx=>?_,I.base.free,λb o e hx=>?_,I.base.tups,I.base.frzs,I.base.tbls⟩,⟨m,hn.sameBut hs (Zb (cne x c hc)),λj y v' e1 e2 e3=>?_⟩,λy c' e=>?_,I.free,I.freeC,λp hp=>?_,tracked ⟨oc,IW,I.freeC x c hc⟩ hs,by simpa using I.len⟩ ⟨c,hs,.inr hc⟩
  .exact(hs.2 b (XD (Xz (Xi e) (I.ok.cab x c Nu hc)))).trans (I.base.keep b o e n hb hx)
  .obtain⟨sl,e1⟩:=I.base.slot b o e n hb hx;exact⟨sl,(hs.2 b (XD (Xz (Xi e) (I.ok.cab x c Nu hc)))).trans e1⟩
  .obtain⟨o',e1⟩:=I.base.there b o e hx;exact⟨o',(hs.2 b (XD (Xz (Xi e) (I.ok.cab x c Nu hc)))).trans e1⟩
  .by_cases hj:j=i
   .subst hj;rw[hi]at e1;cases e1;rw[Yn JL]at e2;cases e2;exact⟨u,r,.inr ⟨.inl hk,c,hc,Bd⟩⟩
   .rw[Y0 (Zb hj)]at e2;obtain⟨u',r',q⟩:=hl j y v' e1 e2 e3;refine⟨u',r',?_⟩;rcases q with q|⟨k,c',e,z'⟩
    .exact .inl q
    .refine .inr ⟨k,c',e,z'.sameBut hs ?_⟩;rintro rfl;exact hj (oT hN e1 (I.ok.inj _ _ _ e hc ▸ hi))
  .by_cases C2:c'=c
   .subst C2;exact⟨_,Bd⟩
   .obtain⟨w2,z2⟩:=I.cell y c' e;exact⟨w2,z2.sameBut hs C2⟩
  .obtain⟨e,n,ne,nf,d⟩:=I.pin p hp;refine⟨(hs.2 p.1 ?_).trans e,n,ne,nf,d⟩;intro q;rw[q,IW]at e;have q':oc=p.2:=Xl e;exact d w' (by rw[<-q'];exact Nv)
theorem gq{i:Nat}{Q:Unit->WZ->Prop}(I:Inv X Z Y H s)(hN:X.N.Nodup)(hi:X.N[i]?=A? x)(hx:Loc X.env.scope x)(r:RelV v u)
 (h:∀s',Inv X Z (Y.set i (A? v)) H s'->Q () s') (hf:X.fn x=C?\/X.env.scope.names.lookup x=A? .local:=by first|exact .inl rfl|exact .inr rfl|assumption):Xc M A (storeName X.env x u) Q E s :=
 mK I hN hi hx r (λs' I' _=>h s' I') hf
theorem Inv.call'{s':WZ}(I:Inv X Z Y H s)(ho:s'.os=s.os)(u:Un (frs X.stack) ch H H' s.1 s'.1)(hok:HOk X.prog X.w H' s'.1)(hg:AllBare s'.gens)
 (C1:∀b∈ch,(b∈X.ex\/X.s₀.heap.1.size<=b)/\b≠X.env.locals/\(∀x c,X.env.cells.lookup x=A? c->c≠b)/\∀p∈X.pn++Z,p.1≠b):Inv X Z Y H' s':=by
 obtain⟨h',g',d',t',o'⟩:=s';have e:o'=s.os:=ho;subst e;exact I.call (g':=g') (t':=t') (d':=d') u hok hg C1
end
abbrev XK:=WV->Option WS->Hp->Prop
abbrev St:=List (Option V)
abbrev VK:=V->Hp->Prop
abbrev TE:=St->Hp->VK->Prop
abbrev TT:=St->Hp->(Bool->Hp->Prop)->Prop
abbrev TA:=St->Hp->(List V->Hp->Prop)->Prop
structure Ends where
 nx:St->Hp->Prop
 rt:VK
 bk:St->Hp->Prop:=λ_ _=>False
 ct:St->Hp->Prop:=λ_ _=>False
abbrev TS:=Ends->St->Hp->Prop
def EP(X:Cx)(Z:List (WS×YF))(Y:St)(Q:VK)(u:WV)(s':WZ):Prop:=∃v H',Inv X Z Y H' s'/\RelV v u/\Q v H'
def TP(X:Cx)(Z:List (WS×YF))(Y:St)(Q:Bool->Hp->Prop)(b:Bool)(s':WZ):Prop:=∃H',Inv X Z Y H' s'/\Q b H'
def AP(X:Cx)(Z:List (WS×YF))(Y:St)(Q:List V->Hp->Prop)(us:List WV)(s':WZ):Prop:=∃vs H',Inv X Z Y H' s'/\Vals vs us/\Q vs H'
def SP(X:Cx)(Z:List (WS×YF))(D:Ends)(f:Flow)(s':WZ):Prop :=
 match f with
 |.next=>∃Ae H',Inv X Z Ae H' s'/\D.nx Ae H'
 |.brk=>∃Ae H',Inv X Z Ae H' s'/\D.bk Ae H'
 |.cont=>∃Ae H',Inv X Z Ae H' s'/\D.ct Ae H'
 |.ret u=>∃v Ae H',Inv X Z Ae H' s'/\RelV v u/\D.rt v H'
def PE(X:Cx)(e:X3)(t:TE):Prop :=
 ∀(Z:List (WS×YF))(s:WZ)(Y:St)(H:Hp)(Q:VK),Inv X Z Y H s->t Y H Q->Xc (Xy X.prog X.w) X.A (YS e X.env) (EP X Z Y Q) X.xe s
def PT(X:Cx)(e:X3)(t:TT):Prop :=
 ∀(Z:List (WS×YF))(s:WZ)(Y:St)(H:Hp)(Q:Bool->Hp->Prop),Inv X Z Y H s->t Y H Q->Xc (Xy X.prog X.w) X.A (isTrue e X.env (YS e X.env)) (TP X Z Y Q) X.xe s
def PW(X:Cx)(e:X3)(t:TT):Prop :=
 ∀(whole:Sem WV)(Z:List (WS×YF))(s:WZ)(Y:St)(H:Hp)(Q:Bool->Hp->Prop),Inv X Z Y H s->t Y H Q->Xc (Xy X.prog X.w) X.A (isTrue e X.env whole) (TP X Z Y Q) X.xe s
theorem PW.pt{X:Cx}{t:TT}(h:PW X e t):PT X e t:=h _
def PA(X:Cx)(es:List X3)(t:TA):Prop :=
 ∀(pos:Pos)(Z:List (WS×YF))(s:WZ)(Y:St)(H:Hp)(Q:List V->Hp->Prop),Inv X Z Y H s->t Y H Q->Xc (Xy X.prog X.w) X.A (spliced (Z0 pos (XO es X.env))) (AP X Z Y Q) X.xe s
def PS(X:Cx)(st:Z4)(t:TS):Prop :=
 ∀(Z:List (WS×YF))(s:WZ)(Y:St)(H:Hp)(D:Ends),Inv X Z Y H s->t D Y H->Xc (Xy X.prog X.w) X.A (exec st X.env) (SP X Z D) X.xe s
def PSs(X:Cx)(st:List Z4)(t:TS):Prop :=
 ∀(Z:List (WS×YF))(s:WZ)(Y:St)(H:Hp)(D:Ends),Inv X Z Y H s->t D Y H->Xc (Xy X.prog X.w) X.A (execs st X.env) (SP X Z D) X.xe s
theorem thn{t:Sem α}{Q Q':α->WZ->Prop}(h:Xc M A t Q E s)(hQ:∀a s,Q a s->Q' a s):Xc M A t Q' E s:=YR h hQ λ_ _ x=>x
end L2
variable{tb:L2.TS}{Y:L2.St}{D:L2.Ends}{te tl:L2.TE}{tt:L2.TT}
namespace L2
open PySem PySem.Spec PyProof.Rows
section
variable{X:Cx}
inductive xm(i:Nat)(Y:St)(H:Hp)(Q:VK):Prop
 |mk (v:_) (Ci:Y[i]?=A? (A? v)) (Cj:Q v H):xm i Y H Q
def aZ(i:Nat):TE:=xm i
def tC(v:V):TE:=λ_ H Q=>Q v H
theorem uY{i:Nat}(hN:X.N[i]?=A? x)(hv:Vis X.env.scope x)(hd:(x == ("__debug__":Xk))=false:=by decide)(Co:(x == ("__classdict__":Xk))=false:=by decide):PE X (.Name x pos) (aZ i):=by
 intro Z s Y H Q I h;obtain⟨v,e,h⟩:=h;obtain⟨m,hn,hl⟩:=I.loc;obtain⟨u,r,l⟩:=hl i x v hN e hv;have fin:EP X Z Y Q u s:=⟨v,H,I,r,h⟩;rcases l with⟨hk,hm⟩|⟨hk,c,hc,By⟩
 .exact wpAny_Name (wpAny_loadName_local I.ok.kind hk hn hm fin) hd
 .rcases hk with hk|hk
  .exact wpAny_Name (wpAny_loadName_cell I.ok.kind hk hc By fin) hd
  .exact wpAny_Name (wpAny_loadName_free I.ok.kind hk hc By fin Co) hd
theorem ai{i j pos}:PE X (.Constant (.int i) j pos) (tC (.int i)):=λ_ _ _ H _ I h=>wpAny_Constant_int ⟨.int i,H,I.tok _,⟨_,rfl⟩,h⟩
theorem eM{x j pos}:PE X (.Constant (.str x) j pos) (tC (.str x)):=λ_ _ _ H _ I h=>Calls.Constant_str ⟨.str x,H,I.tok _,⟨_,rfl⟩,h⟩
def Gl(X:Cx)(x:Xk):Prop:=X.env.kindOf x=A? .globalImplicit
theorem j6(I:Inv X Z Y H s)(hg:Gl X x)(hm:X.mg x=A? u)(h:Q u s)
 (hd:(x == ("__debug__":Xk))=false:=by decide):Xc (Xy X.prog X.w) X.A (YS (.Name x pos) X.env) Q E s :=
 Calls.Name_function_global I.ok.kind hg (Calls.loadGlobal_global (by rw[I.ok.glob];exact I.mod.glob.keeps I.bk) hm h) hd
theorem gf(I:Inv X Z Y H s)(hg:Gl X x)(hm:X.mg x=B?)(hv:bootBuiltins x=A? u)(h:Q u s)
 (hn:x≠"__name__":=by decide) (hd:(x == ("__debug__":Xk))=false:=by decide):Xc (Xy X.prog X.w) X.A (YS (.Name x pos) X.env) Q E s:=by
 obtain⟨mb,h1,h2⟩:=I.mod.blt;exact Calls.Name_function_global I.ok.kind hg (Calls.loadGlobal_builtin (by rw[I.ok.glob];exact I.mod.glob.keeps I.bk) hm (by rw[I.ok.blt];exact h1.keeps I.bk) ((h2 x hn).trans hv) h) hd
theorem bP(hg:Gl X x)(hm:X.mg x=A? u)(r:RelV v u)(hd:(x == ("__debug__":Xk))=false:=by decide):PE X (.Name x pos) (tC v) :=
 λ_ _ _ H _ I h=>j6 I hg hm ⟨v,H,I,r,h⟩ hd
variable{a b:X3}{ta tb:TE}
def PC(X:Cx)(op:CmpOp)(a b:X3)(t:TE):Prop :=
 ∀(Z:List (WS×YF))(s:WZ)(Y:St)(H:Hp)(Q:VK),Inv X Z Y H s->t Y H Q ->
   Xc (Xy X.prog X.w) X.A (YS a X.env) (λv Af=>Xc (Xy X.prog X.w) X.A (YS b X.env) (λu Bj=>Xc (Xy X.prog X.w) X.A (ZP op v u) (EP X Z Y Q) X.xe Bj) X.xe Af) X.xe s
def tB(t:TE):TT:=λY H Q=>t Y H λx H1=>∃c,x=.bl c/\Q c H1
theorem xO{t:TE}(h:PC X op a b t)(h1:behindInMarks op b=false:=by first|exact JM _ (by decide) (by decide)|rfl):PT X (.Compare a [op] [b] pos) (tB t):=by
 intro Z s Y H Q I hw;refine wpAny_isTrue_Compare1 (thn (h Z s Y H _ I hw) λv s1 h1=>thn h1 λu s2 h2=>thn h2 λc s3⟨x,H1,I1,r1,q1⟩=>?_) h1;obtain⟨d,rfl,q⟩:=q1;cases r1;exact wpAny_truthy_bool ⟨H1,I1,q⟩
variable{tA Ml:TT}{rest:List X3}
def aao(t u:TT):TT:=λY H Q=>t Y H λc H1=>if c=C? then u Y H1 Q else Q CG H1
def tOr(t u:TT):TT:=λY H Q=>t Y H λc H1=>if c=C? then Q C? H1 else u Y H1 Q
def z8(t:TT):TT:=λY H Q=>t Y H λc H1=>Q (!c) H1
theorem j7(ha:PT X a tA):PW X (.BoolOp .And [a] pos) tA:=by
 intro wh Z s Y H Q I h;refine isTrue_and (thn (ha Z s Y H Q I h) λc s1 e=>?_);cases c with
 |true=>exact isTrue_and_nil e
 |false=>exact e
theorem tZ(ha:PT X a tA):PW X (.BoolOp .Or [a] pos) tA:=by
 intro wh Z s Y H Q I h;refine isTrue_or (thn (ha Z s Y H Q I h) λc s1 e=>?_);cases c with
 |false=>exact isTrue_or_nil e
 |true=>exact e
theorem jh(ha:PT X a tA)(hb:PW X (.BoolOp .And (b::rest) pos) Ml):PW X (.BoolOp .And (a::b::rest) pos) (aao tA Ml):=by
 intro wh Z s Y H Q I h;refine isTrue_and (thn (ha Z s Y H _ I h) λc s1⟨H1,I1,q1⟩=>?_);cases c with
 |true=>exact hb wh Z s1 Y H1 Q I1 q1
 |false=>exact⟨H1,I1,q1⟩
theorem xg(ha:PT X a tA)(hb:PW X (.BoolOp .Or (b::rest) pos) Ml):PW X (.BoolOp .Or (a::b::rest) pos) (tOr tA Ml):=by
 intro wh Z s Y H Q I h;refine isTrue_or (thn (ha Z s Y H _ I h) λc s1⟨H1,I1,q1⟩=>?_);cases c with
 |true=>exact⟨H1,I1,q1⟩
 |false=>exact hb wh Z s1 Y H1 Q I1 q1
theorem xG(ha:PT X a tA):PT X (.UnaryOp .Not a pos) (z8 tA):=by
 intro Z s Y H Q I h;exact isTrue_not (ha Z s Y H (λc H1=>Q (!c) H1) I h)
def y6(ta tb:TE):TE:=λY H Q=>ta Y H λx H1=>∃c,x=.bl c/\if c=C? then tb Y H1 Q else Q (.bl CG) H1
def yT(ta:TE):TE:=λY H Q=>ta Y H λx H1=>∃c,x=.bl c/\Q (.bl (!c)) H1
theorem qN{op}{t:TE}(h:PE X a t):PE X (.BoolOp op [a] pos) t:=λZ s Y H Q I hw=>BoolOp_one (h Z s Y H Q I hw)
theorem og(ha:PE X a ta)(hb:PE X (.BoolOp .And (b::rest) pos) tb):PE X (.BoolOp .And (a::b::rest) pos) (y6 ta tb):=by
 intro Z s Y H Q I h;refine BoolOp_and (thn (ha Z s Y H _ I h) λv s1⟨x,H1,I1,r1,q1⟩=>?_);obtain⟨c,rfl,q1⟩:=q1;cases r1;refine wpAny_truthy_bool ?_;cases c with
 |true=>exact hb Z s1 Y H1 Q I1 q1
 |false=>exact⟨.bl CG,H1,I1,D?,q1⟩
theorem vj(ha:PE X a ta):PE X (.UnaryOp .Not a pos) (yT ta):=by
 intro Z s Y H Q I h;refine UnaryOp_ (thn (ha Z s Y H _ I h) λv s1⟨x,H1,I1,r1,q1⟩=>?_);obtain⟨c,rfl,q1⟩:=q1;cases r1;exact not_of (wpAny_truthy_bool ⟨.bl (!c),H1,I1,rfl,q1⟩)
end
def SqL(K:WY)(H:Hp)(a:WS)(xs:List V):Prop :=
 Rd H a (.lst xs) \/
  ∃(o:YF)(its:Array WV)(n:Nat),K.lookup a=A? o/\o.cls=.type "list"/\o.dict=B?/\o.data=.seq its n/\its.size<=Xj/\Vals xs its.toList
def SqT(K:WY)(H:Hp)(a:WS)(xs:List V):Prop :=
 Rd H a (.tup xs) \/
  ∃(o:YF)(its:Array WV)(n:Nat),K.lookup a=A? o/\o.cls=.type "tuple"/\o.data=.seq its n/\its.size<=Xj/\Vals xs its.toList
def aal:WV->Option V
 |.none=>A? .non
 |.bool b=>A? (.bl b)
 |.int i _=>A? (.int i)
 |.str x _=>A? (.str x)
 |.bytes b _=>A? (.byt b)
 |.float b _=>A? (.flt b)
 |.ref a=>A? (.ref a)
 |.type n=>A? (.ty n)
 |_=>B?
theorem RelV.abs{x:V}(r:RelV x u):aal u=A? x:=by
 cases x with
 |non=>cases r;rfl
 |bl _=>cases r;rfl
 |int _=>obtain⟨t,rfl⟩:=r;rfl
 |str _=>obtain⟨t,rfl⟩:=r;rfl
 |byt _=>obtain⟨t,rfl⟩:=r;rfl
 |flt _=>obtain⟨t,rfl⟩:=r;rfl
 |ref _=>cases r;rfl
 |ty _=>cases r;rfl
theorem RelV.inj{x:V}(r:RelV x u)(q:RelV y u):x=y:=Xl (r.abs.symm.trans q.abs)
theorem Vals.inj:∀{xs ys:List V}{us:List WV},Vals xs us->Vals ys us->xs=ys
 |_,_,_,.nil,.nil=>rfl
 |_,_,_,.cons r t,.cons r' t'=>by rw[r.inj r',Vals.inj t t']
section
variable{X:Cx}{ys:List V}
theorem SqL.of(h:H a=A? (.lst xs)):SqL K H a xs:=.inl (.inl h)
theorem SqT.of(h:H a=A? (.tup xs)):SqT K H a xs:=.inl (.inl h)
theorem Inv.list(I:Inv X Z Y H s)(h:SqL X.K H a xs):∃its:List WV,Vals xs its/\PlainL s.1 a its.toArray/\xs.length<=Xj:=by
 rcases h with h|⟨o,its,n,hk,hc,hd,hs,hz,r⟩
 .obtain⟨z,its,n,r,e⟩:=h.ok I.hok;exact⟨its,r,⟨_,n,e,D?,D?,D?⟩,z⟩
 .refine⟨its.toList,r,⟨o,n,I.kIn a o hk,hc,hd,by simpa using hs⟩,?_⟩;have e:=r.length;simp only[Xo]at e;lia
theorem Inv.tuple(I:Inv X Z Y H s)(h:SqT X.K H a xs):∃its:List WV,Vals xs its/\IsTup s.1 a its.toArray/\xs.length<=Xj:=by
 rcases h with h|⟨o,its,n,hk,hc,hs,hz,r⟩
 .obtain⟨z,its,n,r,p⟩:=h.ok I.hok;exact⟨its,r,⟨_,p,D?,n,D?⟩,z⟩
 .refine⟨its.toList,r,⟨o,I.kIn a o hk,hc,n,by simpa using hs⟩,?_⟩;have e:=r.length;simp only[Xo]at e;lia
theorem Inv.list_inj(I:Inv X Z Y H s)(h:SqL X.K H a xs)(h':SqL X.K H a ys):xs=ys:=by
 obtain⟨its,r,⟨o,n,e,_,_,d⟩,_⟩:=I.list h;obtain⟨its',r',⟨o',n',e',_,_,d'⟩,_⟩:=I.list h';rw[e]at e';cases e';rw[d]at d';injection d' with d1 _;have:its=its':=by simpa using h! Array.toList d1
 subst this;exact r.inj r'
theorem Inv.tuple_inj(I:Inv X Z Y H s)(h:SqT X.K H a xs)(h':SqT X.K H a ys):xs=ys:=by
 obtain⟨its,r,⟨o,e,_,n,d⟩,_⟩:=I.tuple h;obtain⟨its',r',⟨o',e',_,n',d'⟩,_⟩:=I.tuple h';rw[e]at e';cases e';rw[d]at d';injection d' with d1 _;have:its=its':=by simpa using h! Array.toList d1
 subst this;exact r.inj r'
end
abbrev Cx.wish(X:Cx)(E:WV->WZ->Prop):Cx:={X with xe:=E}
abbrev Cx.nox(X:Cx):Cx:=X.wish λ_ _=>False
theorem Cx.Ok.wish{X:Cx}(ok:X.Ok)(E:WV->WZ->Prop):(X.wish E).Ok :=
 ⟨ok.mod,ok.kind,ok.glob,ok.blt,ok.above,ok.inj,ok.has,ok.cab,ok.hd,ok.frames,ok.stk,ok.exf,ok.bs,ok.bsz,ok.noex,ok.exfs,ok.funs,ok.frf⟩
theorem Cx.Ok.unwish{X:Cx}(ok:(X.wish E).Ok):X.Ok :=
 ⟨ok.mod,ok.kind,ok.glob,ok.blt,ok.above,ok.inj,ok.has,ok.cab,ok.hd,ok.frames,ok.stk,ok.exf,ok.bs,ok.bsz,ok.noex,ok.exfs,ok.funs,ok.frf⟩
section
variable{X:Cx}
theorem Inv.wish(I:Inv X Z Y H s)(E:WV->WZ->Prop):Inv (X.wish E) Z Y H s:=⟨I.ok.wish E,I.os,I.bare,I.base,I.loc,I.cell,I.free,I.freeC,I.pin,I.hok,I.len⟩
theorem Inv.unwish(I:Inv (X.wish E) Z Y H s):Inv X Z Y H s:=⟨I.ok.unwish,I.os,I.bare,I.base,I.loc,I.cell,I.free,I.freeC,I.pin,I.hok,I.len⟩
theorem SP.unwish{f:Flow}{s':WZ}(h:SP (X.wish E) Z D f s'):SP X Z D f s':=by
 cases f with
 |next=>obtain⟨Ae,H',I,q⟩:=h;exact⟨Ae,H',I.unwish,q⟩
 |brk=>obtain⟨Ae,H',I,q⟩:=h;exact⟨Ae,H',I.unwish,q⟩
 |cont=>obtain⟨Ae,H',I,q⟩:=h;exact⟨Ae,H',I.unwish,q⟩
 |ret u=>obtain⟨v,Ae,H',I,r,q⟩:=h;exact⟨v,Ae,H',I.unwish,r,q⟩
theorem PSs.nox{st:List Z4}{t:TS}(h:PSs X.nox st t):PSs X st t:=λZ s Y H D I hw =>
 YR (h Z s Y H D (I.wish _) hw) (λ_ _ q=>q.unwish) λ_ _ z=>Yk z
end
section
variable{X:Cx}{rest:List Z4}{t u:TS}
def w8:TS:=λD Y H=>D.nx Y H
def yI(t u:TS):TS:=λD Y H=>t {D with nx:=u D} Y H
theorem bR:PSs X [] w8:=λ_ _ Y H _ I h=>wpAny_execs_nil ⟨Y,H,I,h⟩
theorem ag(h1:PS X st t)(h2:PSs X rest u):PSs X (st::rest) (yI t u):=by
 intro Z s Y H D I h;refine wpAny_execs_cons (thn (h1 Z s Y H {D with nx:=u D} I h) λf s1 q=>?_);cases f with
 | next =>
   obtain⟨Ae,H',I',q⟩:=q;exact h2 Z s1 Ae H' D I' q
 |ret v=>exact q
 |brk=>exact q
 |cont=>exact q
theorem am(h1:PS X st t):PSs X [st] t:=by
 intro Z s Y H D I h;refine wpAny_execs_cons (thn (h1 Z s Y H D I h) λf s1 q=>?_);cases f with
 |next=>exact wpAny_execs_nil q
 |ret v=>exact q
 |brk=>exact q
 |cont=>exact q
theorem Inv.quiet(I:Inv X Z Y H s):interactive X.env=false:=by simp[interactive,I.ok.kind]
def yP(te:TE):TS:=λD Y H=>te Y H λ_ H1=>D.nx Y H1
theorem aS(he:PE X e te)(hs:swapsWith e B? pos.line X.env=pure false:=by rfl):PS X (.Expr e pos) (yP te):=by
 intro Z s Y H D I h;exact wpAny_Expr_any (thn (he Z s Y H _ I h) λv s1⟨x,H1,I1,r1,q1⟩=>⟨Y,H1,I1,q1⟩) I.quiet hs
def zR(te:TE):TS:=λD Y H=>te Y H D.rt
theorem ay(he:PE X e te):PS X (.Return (A? e) pos) (zR te):=by
 intro Z s Y H D I h;exact wpAny_Return_some (thn (he Z s Y H _ I h) λv s1⟨x,H1,I1,r1,q1⟩=>⟨x,Y,H1,I1,r1,q1⟩)
def yZ(c:TT)(t u:TS):TS:=λD Y H=>c Y H λb H1=>if b=C? then t D Y H1 else u D Y H1
theorem cN{c:X3}{a b:List Z4}{tc:TT}(hc:PT X c tc)(ha:PSs X a t)(hb:PSs X b u):PS X (.If c a b pos) (yZ tc t u):=by
 intro Z s Y H D I h;refine wpAny_If (thn (hc Z s Y H _ I h) λd s1⟨H1,I1,q1⟩=>?_);cases d with
 |true=>exact ha Z s1 Y H1 D I1 q1
 |false=>exact hb Z s1 Y H1 D I1 q1
def xK:TS:=λ_ _ _=>False
theorem lg:PS X st xK:=λ_ _ _ _ _ _ h=>h.elim
end
abbrev TG:=V->St->Hp->(St->Hp->Prop)->Prop
abbrev TGs:=List V->St->Hp->(St->Hp->Prop)->Prop
def PG(X:Cx)(target:X3)(t:TG):Prop :=
 ∀(Z:List (WS×YF))(s:WZ)(Y:St)(H:Hp)(v:V)(u:WV)(Q:St->Hp->Prop),Inv X Z Y H s->RelV v u->t v Y H Q ->
   Xc (Xy X.prog X.w) X.A (assign target X.env u) (λ_ s'=>∃Ae H',Inv X Z Ae H' s'/\Q Ae H') X.xe s
def PGs(X:Cx)(ts:List X3)(t:TGs):Prop :=
 ∀(Z:List (WS×YF))(s:WZ)(Y:St)(H:Hp)(vs:List V)(us:List WV)(Q:St->Hp->Prop),Inv X Z Y H s->Vals vs us->t vs Y H Q ->
   Xc (Xy X.prog X.w) X.A (assignInOrder ((assignEach ts X.env).map (·.2)) us) (λ_ s'=>∃Ae H',Inv X Z Ae H' s'/\Q Ae H') X.xe s
abbrev xF:=V->V->V->Hp->(Hp->Prop)->Prop
def zq(X:Cx)(t:xF):Prop :=
 ∀(Z:List (WS×YF))(s:WZ)(Y:St)(H:Hp)(o i v:V)(ov iv u:WV)(Q:Hp->Prop),Inv X Z Y H s->RelV o ov->RelV i iv->RelV v u->t o i v H Q ->
   Xc (Xy X.prog X.w) X.A (setItem ov iv u) (λ_ s'=>∃H',Inv X Z Y H' s'/\Q H') X.xe s
abbrev TIp:=V->V->Hp->VK->Prop
def PIp(X:Cx)(op:Operator)(t:TIp):Prop :=
 ∀(Z:List (WS×YF))(s:WZ)(Y:St)(H:Hp)(x y:V)(v u:WV)(Q:VK),Inv X Z Y H s->RelV x v->RelV y u->t x y H Q ->
   Xc (Xy X.prog X.w) X.A (inplaceOp op v u) (EP X Z Y Q) X.xe s
section
variable{X:Cx}
def az(i:Nat):TG:=λv Y H Q=>Q (Y.set i (A? v)) H
theorem wA{i:Nat}(hN:X.N.Nodup)(hi:X.N[i]?=A? x)(hx:Loc X.env.scope x)(hf:X.fn x=C?\/X.env.scope.names.lookup x=A? .local:=by first|exact .inl rfl|exact .inr rfl|assumption):PG X (.Name x pos) (az i):=by
 intro Z s Y H v u Q I r h;exact wpAny_assign_Name (gq I hN hi hx r (λs' I'=>⟨_,H,I',h⟩) hf)
def qD:TGs:=λvs Y H Q=>vs=[]/\Q Y H
def fP(t:TG)(u:TGs):TGs:=λvs Y H Q=>∃v r,vs=v::r/\t v Y H λAe H'=>u r Ae H' Q
theorem aY:PGs X [] qD:=by
 intro Z s Y H vs us Q I r h;obtain⟨e,h⟩:=h;subst e;cases r;exact assignInOrder_nil ⟨Y,H,I,h⟩
theorem au{es:List X3}{t:TG}{u:TGs}(h1:PG X e t)(h2:PGs X es u)
 (hs:(assignEach (e::es) X.env).map (·.2)=assign e X.env::(assignEach es X.env).map (·.2):=by rfl):PGs X (e::es) (fP t u):=by
 intro Z s Y H vs us Q I r h;obtain⟨v,vr,e1,h⟩:=h;subst e1;cases r with
 | cons r rr =>
   rw[hs];refine assignInOrder_cons (thn (h1 Z s Y H _ _ _ I r h) λ_ s1⟨Bt,H1,I1,q1⟩=>?_);exact h2 Z s1 Bt H1 _ _ Q I1 rr q1
def qp(K:WY)(n:Nat)(t:TGs):TG:=λv Y H Q=>∃a xs,v=.ref a/\SqT K H a xs/\xs.length=n/\t xs Y H Q
theorem bw{es:List X3}{k:Nat}{t:TGs}(hc:X.calm=C?)(h:PGs X es t)
 (hn:(assignEach es X.env).length=n:=by rfl) (BP:(assignEach es X.env).findIdx? (·.1)=none:=by rfl):PG X (.Tuple es k pos) (qp X.K n t):=by
 intro Z s Y H v u Q I r hw;obtain⟨a,xs,e1,hq,hl,hw⟩:=hw;subst e1;cases r;obtain⟨its,rv,ht,hz⟩:=I.tuple hq;refine assign_Tuple_tuple (I.ok.hd hc) ht (by simp[hn,<-hl,rv.length]) BP λh' hx=>?_;have I1:Inv X Z Y H {s with heap:=h'}:=I.kept (t':=s.toks) λb o e=>hx b o (XD (Xi e)) e;exact h Z _ Y H xs _ Q I1 (by simpa using rv) hw
def aae(to ti:TE)(t:xF):TG:=λv Y H Q=>to Y H λo H1=>ti Y H1 λi H2=>t o i v H2 λH3=>Q Y H3
theorem xX{o i:X3}{to ti:TE}{t:xF}(ho:PE X o to)(hi:PE X i ti)(hs:zq X t)
 (ha:∀v,assign (.Subscript o i pos) X.env v=(do
  let ov <-holding [v] (YS o X.env)
  let iv <-holding [v,ov] (YS i X.env)
  standAt pos
  holding [v,ov,iv] (setItem ov iv v)
  release [v,ov,iv] []):=by intro _;rfl):PG X (.Subscript o i pos) (aae to ti t):=by
 intro Z s Y H v u Q I r h;rw[ha];refine WN (Yv (thn (ho Z s Y H _ I h) λov s1⟨x,H1,I1,r1,q1⟩=>?_));refine WN (Yv (thn (hi Z s1 Y H1 _ I1 q1) λiv s2⟨y,H2,I2,r2,q2⟩=>?_));refine WN (wpAny_standAt (WN (Yv (thn (hs Z s2 Y H2 x y v ov iv u _ I2 r1 r2 r q2) λ_ s3⟨H3,I3,q3⟩=>?_))));exact wpAny_release ⟨Y,H3,I3,q3⟩
def wg(te:TE)(g:TG):TS:=λD Y H=>te Y H λx H1=>g x Y H1 D.nx
theorem fo{g:TG}(he:PE X e te)(hg:PG X tg g)(hs:swapsWithSole [tg] e pos.line X.env=pure false:=by rfl)(hw:swappedStores [tg] e X.env=pure none:=by rfl)
 (h1:(assignEach [tg] X.env).map (·.2)=[assign tg X.env]:=by rfl):PS X (.Assign [tg] e pos) (wg te g):=by
 intro Z s Y H D I h;refine wpAny_Assign_stores (thn (he Z s Y H _ I h) λv s1⟨x,H1,I1,r1,q1⟩=>?_) hs hw;rw[h1];exact thn (hg Z s1 Y H1 x v _ I1 r1 q1) λ_ s2 q=>q
theorem yG{i:Nat}(hN:X.N.Nodup)(hi:X.N[i]?=A? x)(hx:Loc X.env.scope x)(he:PE X e te)(hs:swapsWith e (A? (.Name x pos')) pos.line X.env=pure false:=by rfl)(hf:X.fn x=C?\/X.env.scope.names.lookup x=A? .local:=by first|exact .inl rfl|exact .inr rfl|assumption) :
 PS X (.Assign [.Name x pos'] e pos) (wg te (az i)):=by
 intro Z s Y H D I h;refine wpAny_Assign_Name (thn (he Z s Y H _ I h) λv s1⟨y,H1,I1,r1,q1⟩=>?_) hs;exact gq I1 hN hi hx r1 (λs2 I2=>⟨_,H1,I2,q1⟩) hf
def zO(i:Nat)(te:TE)(ti:TIp):TS:=λD Y H=>∃x,Y[i]?=A? (A? x)/\te Y H λy H1=>ti x y H1 λz H2=>D.nx (Y.set i (A? z)) H2
theorem yB{i:Nat}{op:Operator}{ti:TIp}(hN:X.N.Nodup)(hi:X.N[i]?=A? x)(hx:Loc X.env.scope x)(he:PE X e te)(ho:PIp X op ti)(hf:X.fn x=C?\/X.env.scope.names.lookup x=A? .local:=by first|exact .inl rfl|exact .inr rfl|assumption) :
 PS X (.AugAssign (.Name x pos') op e pos) (zO i te ti):=by
 intro Z s Y H D I h;obtain⟨v,e1,h⟩:=h;obtain⟨m,hn,hl⟩:=I.loc;have Q8:Vis X.env.scope x:=by rcases hx with k|k;exact .inl k;exact .inr (.inl k)
 obtain⟨u,r,l⟩:=hl i x v hi e1 Q8;refine wpAny_AugAssign_Name ?_
 have go:Xc (Xy X.prog X.w) X.A (YS e X.env) (λw Bj=>Xc (Xy X.prog X.w) X.A (inplaceOp op u w) (λr Cp=>Xc (Xy X.prog X.w) X.A (storeName X.env x r) (λ_=>SP X Z D .next) X.xe Cp) X.xe Bj) X.xe s:=by
  refine thn (he Z s Y H _ I h) λw s1⟨y,H1,I1,r1,q1⟩=>?_;refine thn (ho Z s1 Y H1 v y u w _ I1 r r1 q1) λz s2⟨zv,H2,I2,r2,q2⟩=>?_;exact gq I2 hN hi hx r2 (λs3 I3=>⟨_,H2,I3,q2⟩) hf
 rcases l with⟨hk,hm⟩|⟨hk,c,hc,By⟩
 .exact wpAny_loadName_local I.ok.kind hk hn hm go
 .rcases hk with hk|hk
  .exact wpAny_loadName_cell I.ok.kind hk hc By go
  .rcases hx with k|k
   .have:X.env.scope.names.lookup x=A? .free:=hk;rw[k]at this;cases this
   .have:X.env.scope.names.lookup x=A? .free:=hk;rw[k]at this;cases this
def ipI(f:Int->Int->Int):TIp:=λx y H Q=>∃i j,x=.int i/\y=.int j/\Q (.int (f i j)) H
theorem yt:PIp X .Add (ipI λi j=>i+j):=by
 intro Z s Y H x y v u Q I r1 r2 h;obtain⟨i,j,e1,e2,q⟩:=h;subst e1;subst e2;obtain⟨t,rfl⟩:=r1;obtain⟨t',rfl⟩:=r2;exact iadd_int ⟨.int _,H,I.tok _,⟨_,rfl⟩,q⟩
end
section
variable{X:Cx}
def ye(c:TT)(tb:TS):TS:=λD Y H=>∃W:Nat->St->Hp->Prop,(∃m,W m Y H)/\∀m Y H,W m Y H ->
 c Y H λb H1=>if b=C? then∃N:St->Hp->Prop,(∀Ae H',N Ae H'->∃m',m'<m/\W m' Ae H')/\tb {D with nx:=N,ct:=N,bk:=D.nx} Y H1 else D.nx Y H1
theorem dk{c:X3}{tc:TT}(hp:PassesOwn (Xy X.prog X.w) X.A X.env X.xe)(hc:PT X c tc)(hb:PSs X body tb):PS X (.While c body [] pos) (ye tc tb):=by
 intro Z s Y H D I h;obtain⟨W,⟨m0,w0⟩,turn⟩:=h;refine wpAny_While (codeAny_whileLoop (λn s'=>∃Ae H',Inv X Z Ae H' s'/\W n Ae H') ?_ m0 ⟨Y,H,I,w0⟩);rintro n s1 ⟨Bt,H1,I1,w1⟩;refine Z2 hp (thn (hc Z s1 Bt H1 _ I1 (turn n Bt H1 w1)) λb s2⟨H2,I2,q2⟩=>?_);cases b with
 | true =>
   obtain⟨N,hN,q2⟩:=q2;rw[b! rfl];refine Z2 hp (thn (hb Z s2 Bt H2 _ I2 q2) λf s3 q3=>?_);cases f with
   | next =>
     obtain⟨Ep,H3,I3,n3⟩:=q3;obtain⟨m',hm,w3⟩:=hN Ep H3 n3;exact⟨m',hm,Ep,H3,I3,w3⟩
   | cont =>
     obtain⟨Ep,H3,I3,n3⟩:=q3;obtain⟨m',hm,w3⟩:=hN Ep H3 n3;exact⟨m',hm,Ep,H3,I3,w3⟩
   |brk=>exact q3
   |ret v=>exact q3
 | false =>
   rw[a! Xm];exact wpAny_execs_nil ⟨Bt,H2,I2,q2⟩
end
structure It where
 go:Nat->Hp->Prop
 yld:Nat->Hp->V->Hp->Prop
 stop:Nat->Hp->Prop
def ja(X:Cx)(Z:List (WS×YF))(H:Hp)(b:WS):Prop :=
 H b=B?/\b≠X.env.locals/\b∉X.fs/\(b∈X.ex\/X.s₀.heap.1.size<=b)/\(∀x c,X.env.cells.lookup x=A? c->c≠b)/\∀p∈X.pn++Z,p.1≠b
theorem Inv.fpOk{X:Cx}(I:Inv X Z Y H s)(hb:s.1.1.size<=b)(hn:H' b=B?):ja X Z H' b:=by
 refine⟨hn,ZK (Xz I.lt hb),I.nofs hb,.inr (Xh I.sz hb),λx c e z=>?_,λp hp z=>?_⟩
 .obtain⟨v,q⟩:=I.cell x c e;exact g! (Xz q.lt (by rw[z];exact hb)) (Ys _)
 .exact g! (Xz (Xi (I.pin p hp).1) (by rw[z];exact hb)) (Ys _)
structure Turn(P:Xe)(w:Xv)(K:WY)(tg:X3)(J:It)(fp:List WS)(it:WS)(tn:Nat->X5->Prop):Prop where
 mem:it∈fp
 obj:∀i h,tn i h->∀b∈fp,∃o,h.get? b=A? o/\∀v,o.data≠.cell v
 keep:∀i h h',tn i h->(∀b∈fp,∀o,h.get? b=A? o->h'.get? b=A? o)->tn i h'
 item:∀(X:Cx),X.prog=P->X.w=w->X.K=K->X.calm=C?->∀(i:Nat)(Z:List (WS×YF))(s:WZ)(Y:St)(H:Hp)(E:WV->WZ->Prop),Inv X Z Y H s->(∀b∈fp,ja X Z H b)->tn i s.1->J.go i H ->
  Xc (Xy P w) X.A (ZJ (.ref it)) (λr s1=>∃u,r=A? u /\
   Xc (Xy P w) X.A (letOwnedTupleGo tg (.ref it) u) (λ_ s2=>∃x H',Inv X Z Y H' s2/\RelV x u/\J.yld i H x H'/\tn (i+1) s2.1/\∀b∈fp,H' b=B?) E s1) E s
 done:∀(X:Cx),X.prog=P->X.w=w->X.K=K->X.calm=C?->∀(i:Nat)(Z:List (WS×YF))(s:WZ)(Y:St)(H:Hp)(E:WV->WZ->Prop),Inv X Z Y H s->(∀b∈fp,ja X Z H b)->tn i s.1->J.stop i H ->
  Xc (Xy P w) X.A (ZJ (.ref it)) (λr s1=>r=B?/\Inv X Z Y H s1) E s
 self:∀(A:XF)(i:Nat)(s:WZ)(Q:WV->WZ->Prop)(E:WV->WZ->Prop),tn i s.1->Q (.ref it) s->Xc (Xy P w) A (pyIter (.ref it)) Q E s
abbrev TI:=St->Hp->(It->Hp->Prop)->Prop
def PIE(X:Cx)(Z:List (WS×YF))(Y:St)(tg:X3)(R:It->Hp->Prop)(Mm:WV)(s2:WZ):Prop :=
 ∃(it:WS)(fp:List WS)(tn:Nat->X5->Prop)(J:It)(H':Hp),Mm=.ref it/\Inv X Z Y H' s2/\Turn X.prog X.w X.K tg J fp it tn/\tn 0 s2.1/\(∀b∈fp,ja X Z H' b)/\R J H'
def PI(X:Cx)(tg iter:X3)(wi:TI):Prop :=
 ∀(Z:List (WS×YF))(s:WZ)(Y:St)(H:Hp)(R:It->Hp->Prop),Inv X Z Y H s->wi Y H R ->
   Xc (Xy X.prog X.w) X.A (YS iter X.env) (λv s1=>Xc (Xy X.prog X.w) X.A (pyIter v) (PIE X Z Y tg R) X.xe s1) X.xe s
theorem kg{o:YF}{n:String}{vs:Array WV}{Q:Unit->WZ->Prop}(ho:s.1.get? it=A? o)(hc:o.cls=.type n)(hd:o.data=.fields vs)
 (hn:["enumerate","zip","dict_itemiterator","dict_reverseitemiterator","odict_iterator","itertools.zip_longest","itertools.pairwise"].contains n=CG) (hQ:Q () s):Xc M A (letOwnedTupleGo tg (.ref it) u) Q E s:=by
 unfold letOwnedTupleGo
 cases tg <;> first
  |exact WW hQ
  |(cases u <;> first
   |exact WW hQ
   | (refine WN (wpAny_load ho ?_)
      rw[hc,hd];show Xc M A (if(["enumerate","zip","dict_itemiterator","dict_reverseitemiterator","odict_iterator","itertools.zip_longest","itertools.pairwise"].contains n && vs[0]? == A? (YH _))=C? then _ else _) Q E s;rw[a! (by intro h;rw[hn,Bool.false_and]at h;cases h)];exact WW hQ))
def Itl(K:WY)(a:WS):It :=
 ⟨λi H=>∃xs x,SqL K H a xs/\xs[i]?=A? x,λi H x H'=>H'=H/\∀xs,SqL K H a xs->xs[i]?=A? x,λi H=>∃xs,SqL K H a xs/\xs.length<=i⟩
def Itt(K:WY)(a:WS):It :=
 ⟨λi H=>∃xs x,SqT K H a xs/\xs[i]?=A? x,λi H x H'=>H'=H/\∀xs,SqT K H a xs->xs[i]?=A? x,λi H=>∃xs,SqT K H a xs/\xs.length<=i⟩
def Itr(lo:Int)(n:Nat):It:=⟨λi _=>i<n,λi H x H'=>H'=H/\x=.int (lo+i),λi _=>n<=i⟩
theorem nD(a it:WS):Turn P w K tg (Itl K a) [it] it (λi h=>h.IsListIter it a i) where
 mem:=by simp
 obj:=λi h st b hb=>by
  have e:b=it:=by simpa using hb
  subst e;obtain⟨o,e,c,d⟩:=st;exact⟨o,e,λv z=>by rw[d]at z;cases z⟩
 keep:=λi h h' st k=>st.at λo e=>k it (by simp) o e
 item:=by
  walk_at"a";obtain⟨xs,x,hq,hx⟩:=hg;obtain⟨its,rv,p,hz⟩:=I.list hq;obtain⟨u,hu,ru⟩:=rv.get hx;obtain⟨f0,f1,f2,f3,f4,f5⟩:=hf it (by simp);refine wpAny_pyNext_list_item st p.isList (x:=u) (by simpa using hu) λh' BH sb=>?_;have I1:Inv X Z Y H {s with heap:=h'}:=I.turned (t':=s.toks) (λb o hb e=>(sb.2 b hb).trans e) f0 f1 f3 f4 f5;obtain⟨o,e,c,d⟩:=id BH;exact⟨u,D?,kg (s:={s with heap:=h'}) e c d (by decide) ⟨x,H,I1,ru,⟨D?,λys hy=>by rw[I.list_inj hy hq];exact hx⟩,BH,λb hb=>(hf b hb).1⟩⟩
 done:=by
  walk_at"a";obtain⟨xs,hq,hx⟩:=hg;obtain⟨its,rv,p,hz⟩:=I.list hq;obtain⟨f0,f1,f2,f3,f4,f5⟩:=hf it (by simp);have hl:=rv.length;exact wpAny_pyNext_list_end (I.ok.hd hc) st p.isList (by simp;lia) λh' eb=>⟨rfl,I.turned (t':=s.toks) (λb o hb e=>eb b o hb e) f0 f1 f3 f4 f5⟩
 self:=λ_ _ _ _ _ st h=>wpAny_pyIter_listiter st h
theorem ly(a it:WS):Turn P w K tg (Itt K a) [it] it (λi h=>h.IsTupleIter it a i) where
 mem:=by simp
 obj:=λi h st b hb=>by
  have e:b=it:=by simpa using hb
  subst e;obtain⟨o,e,c,d⟩:=st;exact⟨o,e,λv z=>by rw[d]at z;cases z⟩
 keep:=λi h h' st k=>st.at λo e=>k it (by simp) o e
 item:=by
  walk_at"a";obtain⟨xs,x,hq,hx⟩:=hg;obtain⟨its,rv,p,hz⟩:=I.tuple hq;obtain⟨u,hu,ru⟩:=rv.get hx;obtain⟨f0,f1,f2,f3,f4,f5⟩:=hf it (by simp);refine wpAny_pyNext_tuple_item st (show s.1.IsTuple a its.toArray from p) (x:=u) (by simpa using hu) λh' BH sb=>?_;have I1:Inv X Z Y H {s with heap:=h'}:=I.turned (t':=s.toks) (λb o hb e=>(sb.2 b hb).trans e) f0 f1 f3 f4 f5;obtain⟨o,e,c,d⟩:=id BH;exact⟨u,D?,kg (s:={s with heap:=h'}) e c d (by decide) ⟨x,H,I1,ru,⟨D?,λys hy=>by rw[I.tuple_inj hy hq];exact hx⟩,BH,λb hb=>(hf b hb).1⟩⟩
 done:=by
  walk_at"a";obtain⟨xs,hq,hx⟩:=hg;obtain⟨its,rv,p,hz⟩:=I.tuple hq;obtain⟨f0,f1,f2,f3,f4,f5⟩:=hf it (by simp);have hl:=rv.length;exact wpAny_pyNext_tuple_end (I.ok.hd hc) st (show s.1.IsTuple a its.toArray from p) (by simp;lia) λh' eb=>⟨rfl,I.turned (t':=s.toks) (λb o hb e=>eb b o hb e) f0 f1 f3 f4 f5⟩
 self:=λ_ _ _ _ _ st h=>wpAny_pyIter_tupleiter st h
theorem qS(it:WS)(lo:Int)(n:Nat):Turn P w K tg (Itr lo n) [it] it (λi h=>IsRangeIter h it (lo+(i:Nat) * 1) ((n:Int) - (i:Nat)) 1) where
 mem:=by simp
 obj:=λi h st b hb=>by
  have e:b=it:=by simpa using hb
  subst e
  exact⟨_,st,λv z=>by
   have z':Data.fields _=Data.cell v:=z;cases z'⟩
 keep:=λi h h' st k=>k it (by simp) _ st
 item:=by
  walk_at"a";obtain⟨f0,f1,f2,f3,f4,f5⟩:=hf it (by simp);have W:=Walks.range (prog:=X.prog) (w:=X.w) (I.ok.hd hc) it lo 1 n;refine W.item i s _ _ hg st λv h' tk hv BH kk=>?_;obtain⟨t,rfl⟩:=hv;have I1:Inv X Z Y H {s with heap:=h',toks:=tk}:=I.turned (λb o hb e=>kk b o (by simpa using hb) e) f0 f1 f3 f4 f5;refine⟨_,D?,kg (s:={s with heap:=h',toks:=tk}) (n:="range_iterator") BH rfl rfl (by decide) ⟨.int (lo+i),H,I1,⟨t,?_⟩,⟨D?,D?⟩,BH,λb hb=>(hf b hb).1⟩⟩;rw[Int.mul_one]
 done:=by
  walk_at"a";obtain⟨f0,f1,f2,f3,f4,f5⟩:=hf it (by simp);exact wpAny_pyNext_range_end (I.ok.hd hc) st (by have:n<=i:=hg;lia) λh' eb=>⟨rfl,I.turned (t':=s.toks) (λb o hb e=>eb b o hb e) f0 f1 f3 f4 f5⟩
 self:=λ_ _ _ _ _ st h=>wpAny_pyIter_rangeiter st h
end L2
open L2.SqT renaming of->l!
open L2.SqL renaming of->n!
variable{wi:L2.TI}{J:L2.It}
namespace L2
open PySem PySem.Spec PyProof.Rows
section
variable{X:Cx}
def zi(K:WY)(tl:TE):TI:=λY H R=>tl Y H λx H1=>∃a,x=.ref a/\(∃xs,SqL K H1 a xs)/\R (Itl K a) H1
def zP(K:WY)(tl:TE):TI:=λY H R=>tl Y H λx H1=>∃a,x=.ref a/\(∃xs,SqT K H1 a xs)/\R (Itt K a) H1
theorem cj{l:X3}(hl:PE X l tl):PI X tg l (zi X.K tl):=by
 intro Z s Y H R I h;refine thn (hl Z s Y H _ I h) λv s1⟨x,H1,I1,r1,q1⟩=>?_;obtain⟨a,e,⟨xs,hq⟩,q⟩:=q1;subst e;cases r1;obtain⟨its,rv,p,hz⟩:=I1.list hq;refine wpAny_pyIter_list p.isList ?_;refine⟨s1.1.1.size,[s1.1.1.size],_,_,H1,D?,I1.kept (t':=s1.toks) λb o e=>WU _ e,nD a _,⟨_,W2 _ rfl,D?,D?⟩,λb hb=>?_,q⟩;have e:b=s1.1.1.size:=by simpa using hb
 subst e;exact I1.fpOk (WX _) (I1.hok.fresh (WX _))
theorem dB{l:X3}(hl:PE X l tl):PI X tg l (zP X.K tl):=by
 intro Z s Y H R I h;refine thn (hl Z s Y H _ I h) λv s1⟨x,H1,I1,r1,q1⟩=>?_;obtain⟨a,e,⟨xs,hq⟩,q⟩:=q1;subst e;cases r1;obtain⟨its,rv,p,hz⟩:=I1.tuple hq;refine Zr (show s1.1.IsTuple a its.toArray from p) ?_;refine⟨s1.1.1.size,[s1.1.1.size],_,_,H1,D?,I1.kept (t':=s1.toks) λb o e=>WU _ e,ly a _,⟨_,W2 _ rfl,D?,D?⟩,λb hb=>?_,q⟩;have e:b=s1.1.1.size:=by simpa using hb
 subst e;exact I1.fpOk (WX _) (I1.hok.fresh (WX _))
theorem vh{R:It->Hp->Prop}{lo hi:Int}{t u v:Tok}{tk:Nat}(I:Inv X Z Y H s)(h1:-(2 ^ 62)<=lo)(h2:lo<2 ^ 62)(h3:-(2 ^ 62)<=hi)(h4:hi<2 ^ 62)
 (q:R (Itr lo (hi - lo).toNat) H):Xc (Xy X.prog X.w) X.A (pyIter (.ref s.1.1.size)) (PIE X Z Y tg R) E {s with heap:=s.1.push {cls:=.type "range",data:=.fields #[.int lo t,.int hi u,.int 1 v]},toks:=tk}:=by
 refine wpAny_pyIter_range (IsRange.new ..) (small_one h1 h2 h3 h4) ?_;have I1:Inv X Z Y H {s with heap:=s.1.push {cls:=.type "range",data:=.fields #[.int lo t,.int hi u,.int 1 v]},toks:=tk}:=I.kept λb o e=>WU _ e
 refine⟨(s.1.push {cls:=.type "range",data:=.fields #[.int lo t,.int hi u,.int 1 v]}).objs.size,[(s.1.push {cls:=.type "range",data:=.fields #[.int lo t,.int hi u,.int 1 v]}).objs.size],_,_,H,D?,
  I1.kept (t':=tk) λb o e=>WU _ e,qS _ lo (hi - lo).toNat,?_,λb hb=>?_,q⟩
 .have e1:lo+((0:Nat):Int) * 1=lo:=by simp
  have e2:(((hi - lo).toNat:Nat):Int) - ((0:Nat):Int)=Builtin.Range.rangeSize lo hi 1:=by rw[rangeSize_one];split <;> lia
  show IsRangeIter _ _ (lo+((0:Nat):Int) * 1) ((((hi - lo).toNat:Nat):Int) - ((0:Nat):Int)) 1;rw[e1,e2];exact W2 _ rfl
 .have e:b=(s.1.push {cls:=.type "range",data:=.fields #[.int lo t,.int hi u,.int 1 v]}).objs.size:=by simpa using hb
  subst e;exact I1.fpOk (WX _) (I1.hok.fresh (WX _))
def zF(ta:TA):TI:=λY H R=>ta Y H λvs H1=>∃j:Int,vs=[.int j]/\-(2 ^ 62)<=j/\j<2 ^ 62/\R (Itr 0 j.toNat) H1
theorem b9{a:X3}{ta:TA}{p:Pos}(hg:Gl X "range")(hm:X.mg "range"=B?)(ha:PA X [a] ta)(hs:XO [a] X.env=[(CG,YS a X.env)]:=by rfl):PI X tg (.Call (.Name "range" p) [a] [] pos) (zF ta):=by
 intro Z s Y H R I h;refine Call_ (gf I hg hm boot_range (Yu (thn (ha pos Z s Y H _ I h) λus s1⟨vs,H1,I1,r1,q1⟩=>?_) hs rfl));obtain⟨j,e,q1,q2,q⟩:=q1;subst e;cases r1 with
 | cons r rr =>
   cases rr;obtain⟨t,rfl⟩:=r;exact call_range_1 (vh I1 (by lia) (by lia) q1 q2 (by simpa using q))
def aak(wi:TI)(g:TG)(tb:TS):TS:=λD Y H=>wi Y H λJ H1=>∃W:Nat->Nat->St->Hp->Prop,(∃m,W 0 m Y H1)/\∀i m Y H,W i m Y H ->
 (J.stop i H/\D.nx Y H)\/(J.go i H/\∃N:St->Hp->Prop,(∀Ae H',N Ae H'->∃m',m'<m/\W (i+1) m' Ae H')/\∀x H',J.yld i H x H'->g x Y H' λAq H2=>tb {D with nx:=N,ct:=N,bk:=D.nx} Aq H2)
def ki(fp:List WS)(h:X5):List (WS×YF):=fp.filterMap λb=>(h.get? b).map λo=>(b,o)
theorem fz{o:YF}(hb:b∈fp)(e:h.get? b=A? o):(b,o)∈ki fp h:=List.mem_filterMap.mpr ⟨b,hb,by rw[e];rfl⟩
theorem tM{p:WS×YF}(hp:p∈ki fp h):p.1∈fp/\h.get? p.1=A? p.2:=by
 obtain⟨b,hb,e⟩:=List.mem_filterMap.mp hp;cases q:h.get? b with
 |none=>rw[q]at e;cases e
 | some o =>
   rw[q]at e;have e':(b,o)=p:=Xl e;subst e';exact⟨hb,q⟩
theorem Inv.pinned(I:Inv X Z Y H s)(hf:∀b∈fp,ja X Z H b)(ho:∀b∈fp,∃o,s.1.get? b=A? o/\∀v,o.data≠.cell v):Inv X (Z++ki fp s.1) Y H s :=
 I.pins_of λp hp=>(Xd.mp hp).elim (λz=>I.pin p (Xu _ z)) λz=>by
  obtain⟨hb,e⟩:=tM z;obtain⟨f0,f1,f2,_⟩:=hf p.1 hb;obtain⟨o,e',d⟩:=ho p.1 hb;rw[e]at e';cases e';exact⟨e,f0,f1,f2,d⟩
theorem Inv.unpinned{pl:List (WS×YF)}(I:Inv X (Z++pl) Y H s):Inv X Z Y H s:=I.pins_of λp hp=>I.pin p (Xu _ (XA _ hp))
theorem bx{g:TG}(hp:PassesOwn (Xy X.prog X.w) X.A X.env X.xe)(hc:X.calm=C?)(hi:PI X tg iter wi)(hg:PG X tg g)(hb:PSs X body tb)
 (hs:∀x,foldedSetIterable iter X.env x=pure x:=by intro _;rfl):PS X (.For tg iter body [] pos) (aak wi g tb):=by
 intro Z s Y H D I h;refine wpAny_For (thn (hi Z s Y H _ I h) λv s1 h1=>thn h1 λMm s2 h2=>?_) hs;obtain⟨it,fp,tn,J,H2,e,I2,T,JN,f2,W,⟨m0,w0⟩,turn⟩:=h2;subst e
 have Dc:∀{H':Hp},(∀b∈fp,H' b=B?)->∀b∈fp,ja X Z H' b:=λhn b hb=>⟨hn b hb,(f2 b hb).2⟩;refine codeAny_forLoop_any (λn s'=>∃i Ae H',Inv X Z Ae H' s'/\tn i s'.1/\(∀b∈fp,H' b=B?)/\W i n Ae H') ?_ m0 ⟨0,Y,H2,I2,JN,λb hb=>(f2 b hb).1,w0⟩;rintro n s3 ⟨i,Ep,H3,I3,Q9,Gs,w3⟩;rcases turn i n Ep H3 w3 with⟨stop,qn⟩|⟨go,N,hN,step⟩
 .refine Z2 hp (thn (T.done X rfl rfl rfl hc i Z s3 Ep H3 X.xe I3 (Dc Gs) Q9 stop) λr s4⟨hr,I4⟩=>?_);subst hr;exact wpAny_execs_nil ⟨Ep,H3,I4,qn⟩
 .refine Z2 hp (thn (T.item X rfl rfl rfl hc i Z s3 Ep H3 X.xe I3 (Dc Gs) Q9 go) λr s4⟨u,hr,h4⟩=>?_);subst hr;refine Z2 hp (thn h4 λ_ s5⟨x,H5,I5,r5,y5,IX,Fx⟩=>?_);have Td:=I5.pinned (Dc Fx) (T.obj _ _ IX);refine Z2 hp (thn (hg _ s5 Ep H5 x u _ Td r5 (step x H5 y5)) λ_ s6⟨Te,H6,I6,q6⟩=>?_);refine Z2 hp (thn (hb _ s6 Te H6 _ I6 q6) λf s7 q7=>?_)
  have again:∀{Er:St}{H7:Hp},Inv X (Z++ki fp s5.1) Er H7 s7->N Er H7->∃m,m<n/\∃i Ae H',Inv X Z Ae H' s7/\tn i s7.1/\(∀b∈fp,H' b=B?)/\W i m Ae H':=λ{Er H7}I7 n7=>by
   obtain⟨m',hm,w7⟩:=hN Er H7 n7;refine⟨m',hm,i+1,Er,H7,I7.unpinned,T.keep _ _ _ IX λb hb o e=>(I7.pin (b,o) (Xu _ (Xu _ (fz hb e)))).1,λb hb=>?_,w7⟩;obtain⟨o,e,d⟩:=T.obj _ _ IX b hb;exact(I7.pin (b,o) (Xu _ (Xu _ (fz hb e)))).2.1
  cases f with
  |next=>obtain⟨Er,H7,I7,n7⟩:=q7;exact again I7 n7
  |cont=>obtain⟨Er,H7,I7,n7⟩:=q7;exact again I7 n7
  |brk=>obtain⟨Er,H7,I7,q7⟩:=q7;exact⟨Er,H7,I7.unpinned,q7⟩
  |ret v=>obtain⟨x7,Er,H7,I7,r7,q7⟩:=q7;exact⟨x7,Er,H7,I7.unpinned,r7,q7⟩
end
theorem dS{g:TG}(Pv:Nat->St->Hp->Prop)(h0:Pv 0 Y H)(hl:∀i Y H,i<=xs.length->Pv i Y H->SqL K H a xs)
 (hs:∀i x Y H,xs[i]?=A? x->Pv i Y H->g x Y H λAq H2=>tb {D with nx:=Pv (i+1),ct:=Pv (i+1),bk:=D.nx} Aq H2) (hd:∀Y H,Pv xs.length Y H->D.nx Y H) :
 ∃W:Nat->Nat->St->Hp->Prop,(∃m,W 0 m Y H)/\∀i m Y H,W i m Y H ->
   ((Itl K a).stop i H/\D.nx Y H)\/((Itl K a).go i H/\∃N:St->Hp->Prop,(∀Ae H',N Ae H'->∃m',m'<m/\W (i+1) m' Ae H')/\∀x H',(Itl K a).yld i H x H'->g x Y H' λAq H2=>tb {D with nx:=N,ct:=N,bk:=D.nx} Aq H2):=by
 refine⟨λi m Y H=>m=xs.length - i/\i<=xs.length/\Pv i Y H,⟨xs.length,by simp,Xr _,h0⟩,?_⟩;rintro i m Y H ⟨rfl,hi,p⟩;have q:=hl i Y H hi p;by_cases Al:i<xs.length
 .refine .inr ⟨⟨xs,xs[i],q,by simp[Al]⟩,Pv (i+1),λAe H' p'=>⟨xs.length - (i+1),by lia,rfl,Al,p'⟩,λx H' y=>?_⟩;obtain⟨e,y⟩:=y;subst e;exact hs i x Y _ (y xs q) p
 .have e:i=xs.length:=by lia
  subst e;exact .inl ⟨⟨xs,q,WX _⟩,hd Y H p⟩
theorem cy{lo:Int}{g:TG}(Pv:Nat->St->Hp->Prop)(h0:Pv 0 Y H)
 (hs:∀i Y H,i<n->Pv i Y H->g (.int (lo+i)) Y H λAq H2=>tb {D with nx:=Pv (i+1),ct:=Pv (i+1),bk:=D.nx} Aq H2) (hd:∀Y H,Pv n Y H->D.nx Y H) :
 ∃W:Nat->Nat->St->Hp->Prop,(∃m,W 0 m Y H)/\∀i m Y H,W i m Y H ->
   ((Itr lo n).stop i H/\D.nx Y H)\/((Itr lo n).go i H/\∃N:St->Hp->Prop,(∀Ae H',N Ae H'->∃m',m'<m/\W (i+1) m' Ae H')/\∀x H',(Itr lo n).yld i H x H'->g x Y H' λAq H2=>tb {D with nx:=N,ct:=N,bk:=D.nx} Aq H2):=by
 refine⟨λi m Y H=>m=n - i/\i<=n/\Pv i Y H,⟨n,by simp,Xr _,h0⟩,?_⟩;rintro i m Y H ⟨rfl,hi,p⟩;by_cases Al:i<n
 .refine .inr ⟨Al,Pv (i+1),λAe H' p'=>⟨n - (i+1),by lia,rfl,Al,p'⟩,λx H' y=>?_⟩;obtain⟨e,y⟩:=y;subst e y;exact hs i Y _ Al p
 .have e:i=n:=by lia
  subst e;exact .inl ⟨WX _,hd Y H p⟩
abbrev R2:=V->V->Hp->VK->Prop
def OpR(X:Cx)(f:WV->WV->Sem WV)(r:R2):Prop :=
 ∀(Z:List (WS×YF))(s:WZ)(Y:St)(H:Hp)(x y:V)(v u:WV)(Q:VK),Inv X Z Y H s->RelV x v->RelV y u->r x y H Q ->
   Xc (Xy X.prog X.w) X.A (f v u) (EP X Z Y Q) X.xe s
def UnR(X:Cx)(f:WV->Sem WV)(r:V->Hp->VK->Prop):Prop :=
 ∀(Z:List (WS×YF))(s:WZ)(Y:St)(H:Hp)(x:V)(v:WV)(Q:VK),Inv X Z Y H s->RelV x v->r x H Q ->
   Xc (Xy X.prog X.w) X.A (f v) (EP X Z Y Q) X.xe s
def fQ(X:Cx)(f:WV)(r:List V->Hp->VK->Prop):Prop :=
 ∀(Z:List (WS×YF))(s:WZ)(Y:St)(H:Hp)(xs:List V)(us:List WV)(Q:VK),Inv X Z Y H s->Vals xs us->r xs H Q ->
   Xc (Xy X.prog X.w) X.A (call f us) (EP X Z Y Q) X.xe s
def zS(X:Cx)(r:V->Hp->(Bool->Hp->Prop)->Prop):Prop :=
 ∀(Z:List (WS×YF))(s:WZ)(Y:St)(H:Hp)(x:V)(v:WV)(Q:Bool->Hp->Prop),Inv X Z Y H s->RelV x v->r x H Q ->
   Xc (Xy X.prog X.w) X.A (truthy v) (TP X Z Y Q) X.xe s
def tOp(r:R2)(ta tb:TE):TE:=λY H Q=>ta Y H λx H1=>tb Y H1 λy H2=>r x y H2 Q
def tUn(r:V->Hp->VK->Prop)(ta:TE):TE:=λY H Q=>ta Y H λx H1=>r x H1 Q
inductive IrI(C:Int->Int->Prop)(g:Int->Int->V)(x:V)(y:V)(H:Hp)(Q:VK):Prop
 |mk (i:_) (j:_) (Ci:x=.int i) (Cj:y=.int j) (DA:C i j) (Fy:Q (g i j) H):IrI C g x y H Q
def rI(C:Int->Int->Prop)(g:Int->Int->V):R2:=IrI C g
inductive y8(g:Int->Int->V)(x:V)(y:V)(H:Hp)(Q:VK):Prop
 |mk (i:_) (j:_) (Ci:x=.int i) (Cj:y=.int j) (DA:Q (g i j) H):y8 g x y H Q
def rI0(g:Int->Int->V):R2:=y8 g
inductive IrU(g:Int->V)(x:V)(H:Hp)(Q:VK):Prop
 |mk (i:_) (Ci:x=.int i) (Cj:Q (g i) H):IrU g x H Q
def rU(g:Int->V):V->Hp->VK->Prop:=IrU g
section
variable{X:Cx}{a b c:X3}{ta tb tc:TE}
theorem xL(ha:PE X a ta)(hb:PE X b tb){R:V->V->Hp->Prop}(I:Inv X Z Y H s)
 (h:ta Y H λx H1=>tb Y H1 λy H2=>R x y H2) {f:WV->WV->Sem WV}
 (hf:∀v u s2 x y H2,Inv X Z Y H2 s2->RelV x v->RelV y u->R x y H2->Xc (Xy X.prog X.w) X.A (f v u) Q X.xe s2) :
 Xc (Xy X.prog X.w) X.A (YS a X.env) (λv Af=>Xc (Xy X.prog X.w) X.A (YS b X.env) (λu Bj=>Xc (Xy X.prog X.w) X.A (f v u) Q X.xe Bj) X.xe Af) X.xe s:=by
 refine thn (ha Z s Y H _ I h) λv s1⟨x,H1,I1,r1,q1⟩=>?_;refine thn (hb Z s1 Y H1 _ I1 q1) λu s2⟨y,H2,I2,r2,q2⟩=>?_;exact hf v u s2 x y H2 I2 r1 r2 q2
theorem av{op:Operator}{r:R2}(ho:OpR X (ZC op) r)(ha:PE X a ta)(hb:PE X b tb):PE X (.BinOp a op b pos) (tOp r ta tb):=by
 intro Z s Y H Q I h;exact wpAny_BinOp (xL ha hb I h λv u s2 x y H2 I2 rx ry q=>ho Z s2 Y H2 x y v u Q I2 rx ry q)
theorem zo{op:UnaryOp}{r:V->Hp->VK->Prop}(ho:UnR X (unaryOp op) r)(ha:PE X a ta):PE X (.UnaryOp op a pos) (tUn r ta):=by
 intro Z s Y H Q I h;exact UnaryOp_ (thn (ha Z s Y H _ I h) λv s1⟨x,H1,I1,r1,q1⟩=>ho Z s1 Y H1 x v Q I1 r1 q1)
theorem opI{f:WV->WV->Sem WV}{C:Int->Int->Prop}{g:Int->Int->Int}
 (rule:∀(i j:Int)(t u:Tok)(s:WZ)(Q:WV->WZ->Prop)(E:WV->WZ->Prop),C i j->Q (.int (g i j) s.toks) {s with toks:=s.toks+1}->Xc (Xy X.prog X.w) X.A (f (.int i t) (.int j u)) Q E s) :
 OpR X f (rI C λi j=>.int (g i j)):=by
 intro Z s Y H x y v u Q I rx ry h;obtain⟨i,j,rfl,rfl,hc,q⟩:=h;obtain⟨t,rfl⟩:=rx;obtain⟨t',rfl⟩:=ry;exact rule i j t t' s _ _ hc ⟨.int (g i j),H,I.tok _,⟨_,rfl⟩,q⟩
theorem yM{f:WV->WV->Sem WV}{g:Int->Int->Int}
 (rule:∀(i j:Int)(t u:Tok)(s:WZ)(Q:WV->WZ->Prop)(E:WV->WZ->Prop),Q (.int (g i j) s.toks) {s with toks:=s.toks+1}->Xc (Xy X.prog X.w) X.A (f (.int i t) (.int j u)) Q E s) :
 OpR X f (rI0 λi j=>.int (g i j)):=by
 intro Z s Y H x y v u Q I rx ry h;obtain⟨i,j,rfl,rfl,q⟩:=h;obtain⟨t,rfl⟩:=rx;obtain⟨t',rfl⟩:=ry;exact rule i j t t' s _ _ ⟨.int (g i j),H,I.tok _,⟨_,rfl⟩,q⟩
theorem wz{f:WV->WV->Sem WV}{g:Int->Int->Bool}
 (rule:∀(i j:Int)(t u:Tok)(s:WZ)(Q:WV->WZ->Prop)(E:WV->WZ->Prop),Q (.bool (g i j)) s->Xc (Xy X.prog X.w) X.A (f (.int i t) (.int j u)) Q E s) :
 OpR X f (rI0 λi j=>.bl (g i j)):=by
 intro Z s Y H x y v u Q I rx ry h;obtain⟨i,j,rfl,rfl,q⟩:=h;obtain⟨t,rfl⟩:=rx;obtain⟨t',rfl⟩:=ry;exact rule i j t t' s _ _ ⟨.bl (g i j),H,I,rfl,q⟩
def zI(i j:Int):Prop:=0<j/\j<1073741824
def aam(i j:Int):Prop:=0<=j/\j<=1000000/\i.natAbs<2 ^ 64
def CMul(i j:Int):Prop:=(-(2 ^ 64)<i/\i<2 ^ 64)\/(-(2 ^ 64)<j/\j<2 ^ 64)
theorem CMul.ok{i j:Int}(h:CMul i j):IntMulOk i j:=by
 rcases h with⟨h1,h2⟩|⟨h1,h2⟩
 .exact .of_left (intBits_le_64 h1 h2)
 .exact .of_right (intBits_le_64 h1 h2)
theorem bz:OpR X (ZC .Add) (rI0 λi j=>.int (i+j)):=yM λ_ _ _ _ _ _ _ q=>add_int q
theorem jx:OpR X (ZC .Sub) (rI0 λi j=>.int (i - j)):=yM λ_ _ _ _ _ _ _ q=>sub_int q
theorem dY:OpR X (ZC .Mult) (rI CMul λi j=>.int (i * j)):=opI λ_ _ _ _ _ _ _ hc q=>mul_int q hc.ok
theorem bQ:OpR X (ZC .FloorDiv) (rI zI λi j=>.int (i / j)):=opI λi j _ _ _ _ _ hc q=>by
 have h1:(0:Int)<j:=hc.1;have h2:j<1073741824:=hc.2;exact floordiv_int (by lia) (by rw[Int.fdiv_eq_ediv_of_nonneg i (by lia)];exact q) (.inl (PyProof.noPylong_small (by lia)))
theorem bB:OpR X (ZC .Mod) (rI (λ_ j=>0<j) λi j=>.int (i%j)):=opI λi j _ _ _ _ _ hc q=>by
 have h1:(0:Int)<j:=hc;exact mod_int' (by lia) (by rw[Int.fmod_eq_emod_of_nonneg i (by lia)];exact q)
theorem yd:OpR X (ZC .Pow) (rI aam λi j=>.int (i ^ j.toNat)):=opI λ_ _ _ _ _ _ _ hc q=>pow_int_small hc.1 hc.2.1 hc.2.2 q
theorem unI{f:WV->Sem WV}{g:Int->Int}
 (rule:∀(i:Int)(t:Tok)(s:WZ)(Q:WV->WZ->Prop)(E:WV->WZ->Prop),Q (.int (g i) s.toks) {s with toks:=s.toks+1}->Xc (Xy X.prog X.w) X.A (f (.int i t)) Q E s) :
 UnR X f (rU λi=>.int (g i)):=by
 intro Z s Y H x v Q I rx h;obtain⟨i,rfl,q⟩:=h;obtain⟨t,rfl⟩:=rx;exact rule i t s _ _ ⟨.int (g i),H,I.tok _,⟨_,rfl⟩,q⟩
theorem yb:UnR X (unaryOp .USub) (rU λi=>.int (-i)):=unI λ_ _ _ _ _ q=>neg_int q
end
def yK:V->V->Bool
 |.non,.non=>C?|.non,.int _=>C?|.int _,.non=>C?|.non,.bl _=>C?|.bl _,.non=>C?|.non,.str _=>C?|.str _,.non=>C?
 |.int _,.int _=>C?|.bl _,.bl _=>C?|.str _,.str _=>C?|.byt _,.byt _=>C?
 |.int _,.str _=>C?|.str _,.int _=>C?|.bl _,.str _=>C?|.str _,.bl _=>C?
 |_,_=>CG
inductive zd(x:V)(y:V)(H:Hp)(Q:VK):Prop
 |mk  (Ci:yK x y=C?) (Cj:Q (.bl (decide (x=y))) H):zd  x y H Q
def rEq:R2:=zd
inductive yN(x:V)(y:V)(H:Hp)(Q:VK):Prop
 |mk  (Ci:yK x y=C?) (Cj:Q (.bl (!decide (x=y))) H):yN  x y H Q
def rNe:R2:=yN
theorem rD{i j:Int}:decide (o! i=o! j)=(i == j):=by
 rw[ZR];simp
theorem uh{i j:Bool}:decide (V.bl i=V.bl j)=(i == j):=by
 rw[ZR];simp
theorem r9{i j:Xk}:decide (G! i=G! j)=(i == j):=by
 rw[ZR];simp
theorem rn{i j:Array UInt8}:decide (V.byt i=V.byt j)=(i.toList == j.toList):=by
 rw[ZR];cases i;cases j;simp
section
variable{X:Cx}{a b c:X3}{ta tb tc:TE}
theorem be{Q:VK}{k k':Bool}(I:Inv X Z Y H s)(q:Q (.bl k) H)(e:k=k'):EP X Z Y Q (.bool k') s:=by
 subst e;exact⟨.bl k,H,I,D?,q⟩
theorem fR:OpR X (ZP .Eq) rEq:=by
 intro Z s Y H x y v u Q I rx ry h;obtain⟨hs,q⟩:=h;cases x with
 | non =>
   cases rx;cases y with
   |non=>cases ry;exact PySem.EqNone.eq_none_none (be I q (by simp))
   |bl j=>cases ry;exact PySem.EqNone.eq_none_bool (be I q (by simp))
   |int j=>obtain⟨t',rfl⟩:=ry;exact PySem.EqNone.eq_none_int (be I q (by simp))
   |str j=>obtain⟨t',rfl⟩:=ry;exact PySem.EqNone.eq_none_str (be I q (by simp))
   |_=>exact g! (show CG=C? from hs) Xm
 | bl i =>
   cases rx;cases y with
   |non=>cases ry;exact PySem.EqNone.eq_bool_none (be I q (by simp))
   |bl j=>cases ry;exact eq_bool (be I q uh)
   |str j=>obtain⟨t',rfl⟩:=ry;exact PySem.EqMixed.eq_bool_str (be I q (by simp))
   |_=>exact g! (show CG=C? from hs) Xm
 | int i =>
   obtain⟨t,rfl⟩:=rx;cases y with
   |non=>cases ry;exact PySem.EqNone.eq_int_none (be I q (by simp))
   |int j=>obtain⟨t',rfl⟩:=ry;exact eq_int (be I q rD)
   |str j=>obtain⟨t',rfl⟩:=ry;exact PySem.EqMixed.eq_int_str (be I q (by simp))
   |_=>exact g! (show CG=C? from hs) Xm
 | str i =>
   obtain⟨t,rfl⟩:=rx;cases y with
   |non=>cases ry;exact PySem.EqNone.eq_str_none (be I q (by simp))
   |bl j=>cases ry;exact PySem.EqMixed.eq_str_bool (be I q (by simp))
   |int j=>obtain⟨t',rfl⟩:=ry;exact PySem.EqMixed.eq_str_int (be I q (by simp))
   |str j=>obtain⟨t',rfl⟩:=ry;exact eq_str (be I q r9)
   |_=>exact g! (show CG=C? from hs) Xm
 | byt i =>
   obtain⟨t,rfl⟩:=rx;cases y with
   |byt j=>obtain⟨t',rfl⟩:=ry;exact PySem.W.eq_bytes (be I q rn)
   |_=>exact g! (show CG=C? from hs) Xm
 |_=>cases y <;> exact g! (show CG=C? from hs) Xm
theorem zn:OpR X (ZP .NotEq) rNe:=by
 intro Z s Y H x y v u Q I rx ry h;obtain⟨hs,q⟩:=h;cases x with
 | non =>
   cases rx;cases y with
   |non=>cases ry;exact PySem.EqNone.ne_none_none (be I q (by simp))
   |bl j=>cases ry;exact PySem.EqNone.ne_none_bool (be I q (by simp))
   |int j=>obtain⟨t',rfl⟩:=ry;exact PySem.EqNone.ne_none_int (be I q (by simp))
   |str j=>obtain⟨t',rfl⟩:=ry;exact PySem.EqNone.ne_none_str (be I q (by simp))
   |_=>exact g! (show CG=C? from hs) Xm
 | bl i =>
   cases rx;cases y with
   |non=>cases ry;exact PySem.EqNone.ne_bool_none (be I q (by simp))
   |bl j=>cases ry;exact ne_bool (be I q (h! not uh))
   |str j=>obtain⟨t',rfl⟩:=ry;exact PySem.EqMixed.ne_bool_str (be I q (by simp))
   |_=>exact g! (show CG=C? from hs) Xm
 | int i =>
   obtain⟨t,rfl⟩:=rx;cases y with
   |non=>cases ry;exact PySem.EqNone.ne_int_none (be I q (by simp))
   |int j=>obtain⟨t',rfl⟩:=ry;exact ne_int (be I q (h! not rD))
   |str j=>obtain⟨t',rfl⟩:=ry;exact PySem.EqMixed.ne_int_str (be I q (by simp))
   |_=>exact g! (show CG=C? from hs) Xm
 | str i =>
   obtain⟨t,rfl⟩:=rx;cases y with
   |non=>cases ry;exact PySem.EqNone.ne_str_none (be I q (by simp))
   |bl j=>cases ry;exact PySem.EqMixed.ne_str_bool (be I q (by simp))
   |int j=>obtain⟨t',rfl⟩:=ry;exact PySem.EqMixed.ne_str_int (be I q (by simp))
   |str j=>obtain⟨t',rfl⟩:=ry;exact ne_str (be I q (h! not r9))
   |_=>exact g! (show CG=C? from hs) Xm
 | byt i =>
   obtain⟨t,rfl⟩:=rx;cases y with
   |byt j=>obtain⟨t',rfl⟩:=ry;exact PySem.W.ne_bytes (be I q (h! not rn))
   |_=>exact g! (show CG=C? from hs) Xm
 |_=>cases y <;> exact g! (show CG=C? from hs) Xm
theorem uM:OpR X (ZP .Lt) (rI0 λi j=>.bl (decide (i<j))):=wz λ_ _ _ _ _ _ _ q=>lt_int q
theorem vk:OpR X (ZP .LtE) (rI0 λi j=>.bl (decide (i<=j))):=wz λ_ _ _ _ _ _ _ q=>le_int q
theorem d4:OpR X (ZP .Gt) (rI0 λi j=>.bl (decide (j<i))):=wz λ_ _ _ _ _ _ _ q=>gt_int q
theorem zt:OpR X (ZP .GtE) (rI0 λi j=>.bl (decide (j<=i))):=wz λ_ _ _ _ _ _ _ q=>ge_int q
theorem aP(b:X3)(h:op≠.In:=by decide)(h2:op≠.NotIn:=by decide):behindInMarks op b=false:=by
 have e1:(op == CmpOp.In)=false:=by cases op <;> first|rfl|exact g! rfl h
 have e2:(op == CmpOp.NotIn)=false:=by cases op <;> first|rfl|exact g! rfl h2
 cases b <;> simp[behindInMarks,e1,e2]
theorem cV{r:R2}(ho:OpR X (ZP op) r)(ha:PE X a ta)(hb:PE X b tb)(hm:behindInMarks op b=CG):PE X (.Compare a [op] [b] pos) (tOp r ta tb):=by
 intro Z s Y H Q I h;exact wpAny_Compare1 (xL ha hb I h λv u s2 x y H2 I2 rx ry q=>ho Z s2 Y H2 x y v u Q I2 rx ry q) hm
inductive xD(x:V)(Q:Bool->Hp->Prop)(H':Hp):Prop
 |mk (k:Bool) (Ci:x=.bl k) (Cj:Q k H'):xD x Q H'
def pN(t:TE):TT:=λY H Q=>t Y H λx H'=>xD x Q H'
theorem aV{r:R2}(ho:OpR X (ZP op) r)(ha:PE X a ta)(hb:PE X b tb)(hm:behindInMarks op b=CG):PT X (.Compare a [op] [b] pos) (pN (tOp r ta tb)):=by
 intro Z s Y H Q I h
 refine wpAny_isTrue_Compare1 (thn (ha Z s Y H _ I h) λv s1⟨x,H1,I1,r1,q1⟩=>thn (hb Z s1 Y H1 _ I1 q1) λu s2⟨y,H2,I2,r2,q2⟩ =>
  thn (ho Z s2 Y H2 x y v u _ I2 r1 r2 q2) λc s3⟨z,H3,I3,r3,k,e,q3⟩=>?_) hm
 subst e;cases r3;exact wpAny_truthy_bool ⟨H3,I3,q3⟩
def vq(K:WY)(x:V)(H:Hp)(k:Bool):Prop :=
 match x with
 |.non=>k=CG
 |.bl b=>k=b
 |.int i=>k=(i != 0)
 |.str y=>y.length<=Xj/\k=((y.length:Int) != 0)
 |.byt y=>y.size<=Xj/\k=((y.size:Int) != 0)
 |.ref p=>(∃xs,SqL K H p xs/\k=!xs.isEmpty)\/(∃xs,SqT K H p xs/\k=!xs.isEmpty)\/∃kvs,H p=A? (.dK kvs)/\k=!kvs.isEmpty
 |_=>False
theorem qw{kvs:List (κ×V)}(r:KV kvs vs):(!vs.isEmpty)=!kvs.isEmpty:=by
 cases r <;> rfl
theorem lu(r:Vals xs its):(!its.toArray.isEmpty)=!xs.isEmpty:=by
 cases r <;> simp
theorem eL:(Xj:Nat)<2 ^ 63:=by rw[ZA];decide
theorem xT:zS X (λx H Q=>∃k,vq X.K x H k/\Q k H):=by
 intro Z s Y H x v Q I rx h;obtain⟨k,e,q⟩:=h;have hl:=eL;have hs:Xj=16777216:=ZA;cases x with
 | non =>
   cases rx;have e':k=false:=e;subst e';exact truthy_none ⟨H,I,q⟩
 | bl b =>
   cases rx;have e':k=b:=e;subst e';exact wpAny_truthy_bool ⟨H,I,q⟩
 | int i =>
   obtain⟨t,rfl⟩:=rx;have e':k=(i != 0):=e;subst e';exact PySem.P.truthy_int ⟨H,I,q⟩
 | str y =>
   obtain⟨t,rfl⟩:=rx;obtain⟨hy,e'⟩:y.length<=Xj/\k=((y.length:Int) != 0):=e;subst e';exact PySem.P.truthy_str (by lia) ⟨H,I.tok _,q⟩
 | byt y =>
   obtain⟨t,rfl⟩:=rx;obtain⟨hy,e'⟩:y.size<=Xj/\k=((y.size:Int) != 0):=e;subst e';exact PySem.W.truthy_bytes (by lia) ⟨H,I.tok _,q⟩
 | ref p =>
   cases rx;have e':(∃xs,SqL X.K H p xs/\k=!xs.isEmpty)\/(∃xs,SqT X.K H p xs/\k=!xs.isEmpty)\/∃kvs,H p=A? (.dK kvs)/\k=!kvs.isEmpty:=e;rcases e' with⟨xs,hx,e'⟩|⟨xs,hx,e'⟩|⟨kvs,hx,e'⟩
   .subst e';obtain⟨its,r,pl,hz⟩:=I.list hx;have hlen:=r.length;exact wpAny_truthy_list pl.isList (by simp only[W9];lia) ⟨H,I.tok _,by rw[lu r];exact q⟩
   .subst e';obtain⟨its,r,pl,hz⟩:=I.tuple hx;have hlen:=r.length;exact truthy_tuple pl (by simp only[W9];lia) ⟨H,I.tok _,by rw[lu r];exact q⟩
   .subst e';obtain⟨hz,hS,vs,r,m⟩:kvs.length<=Xj/\(p == Yr)=CG/\∃vs,KV kvs vs/\s.1.DictOf (aC X.prog X.w) p vs:=I.hok p _ hx;have hlen:kvs.length=vs.length:=Xa r;exact wpAny_truthy_dict hS m (by lia) ⟨H,I.tok _,by rw[qw r];exact q⟩
 |_=>exact(show False from e).elim
theorem bJ(ha:PE X a ta)(he:∀whole,isTrue a X.env whole=(do let v <-whole;standAt a.pos;holding [v] (truthy v))) :
 PT X a (λY H Q=>ta Y H λx H'=>∃k,vq X.K x H' k/\Q k H'):=by
 intro Z s Y H Q I h;exact isTrue_plain (thn (ha Z s Y H _ I h) λv s1⟨x,H1,I1,r1,q1⟩=>xT Z s1 Y H1 x v Q I1 r1 q1) (he _)
theorem g8:OpR X (ZC .Add) (λx y H Q=>∃i j,x=.str i/\y=.str j/\i.length+j.length<=Xj/\Q (.str (i++j)) H):=by
 intro Z s Y H x y v u Q I rx ry h;obtain⟨i,j,rfl,rfl,hz,q⟩:=h;obtain⟨t,rfl⟩:=rx;obtain⟨t',rfl⟩:=ry;exact add_str (λt' tk=>⟨.str (i++j),H,I.tok _,⟨_,rfl⟩,q⟩) hz
theorem vals1{x:V}(r:Vals [x] us):∃u,us=[u]/\RelV x u:=by
 cases r with
 |cons r1 r2=>cases r2;exact⟨_,D?,r1⟩
theorem vals2{x:V}(r:Vals [x,y] us):∃u w',us=[u,w']/\RelV x u/\RelV y w':=by
 cases r with
 | cons r1 r2 =>
   cases r2 with
   |cons r3 r4=>cases r4;exact⟨_,_,D?,r1,r3⟩
theorem gE(hc:X.calm=C?):fQ X (.builtin "max") (λxs H Q=>∃i j,xs=[.int i,.int j]/\Q (.int (if j > i then j else i)) H):=by
 intro Z s Y H xs us Q I r h;obtain⟨i,j,rfl,q⟩:=h;obtain⟨u,w',rfl,⟨t,rfl⟩,⟨t',rfl⟩⟩:=vals2 r;refine max_two_ints (I.ok.hd hc) λh' tk k=>⟨_,H,I.kept k,?_,q⟩;by_cases hj:j > i
 .rw[b! hj,b! hj];exact⟨_,D?⟩
 .rw[a! hj,a! hj];exact⟨_,D?⟩
theorem ji:fQ X (.type "int") (λxs H Q=>(∃i,xs=[.int i]/\Q (.int i) H)\/∃k,xs=[.bl k]/\Q (.int (if k then 1 else 0)) H):=by
 intro Z s Y H xs us Q I r h;rcases h with⟨i,rfl,q⟩|⟨k,rfl,q⟩
 .obtain⟨u,rfl,t,rfl⟩:=vals1 r;exact call_int_int ⟨.int i,H,I,⟨_,rfl⟩,q⟩
 .obtain⟨u,rfl,r1⟩:=vals1 r;cases r1;exact call_int_bool ⟨.int (if k then 1 else 0),H,I.tok _,⟨_,rfl⟩,q⟩
end
structure ObjM(h:X5)(x dx C:WS)(mA:Xk->Option WV):Prop where
 obj:h.get? x=A? (Zn C dx)
 ns:h.Ns1 dx mA
 ne:dx≠x
theorem sQ{mA:Xk->Option WV}(n:h.Ns1 dx mA):∃od,h.get? dx=A? od/\∀name,PySem.W.lookIn name od=A? (mA name):=by
 obtain⟨o,es,ep,ho,hd,hk,_,hm⟩:=n;refine⟨o,ho,λname=>?_⟩;have e:=hm name;unfold nsFind findBy at e;rw[<-Array.find?_toList]at e;unfold PySem.W.lookIn;rw[hd];dsimp only;split
 .rename_i y q
  rw[q]at e;exact h! A? e
 .rename_i q
  rw[q]at e
  have a:es.toList.any (·.refKey)=false:=by
   rw[List.any_eq_false];intro y hy;obtain⟨z,t,Cq⟩:=hk y (Array.mem_toList_iff.mp hy);simp[DictEntry.refKey,Cq]
  have a':¬es.toList.any (·.refKey)=true:=by rw[a];exact Xm
  rw[a! a'];exact h! A? e
theorem ObjM.look{x C:WS}{mA:Xk->Option WV}(I:ObjM h x dx C mA):∃od,PySem.W.InstAt h x (Zn C dx) C (A? od)/\∀name,PySem.W.lookIn name od=A? (mA name) :=
 let⟨od,ho,hl⟩:=sQ I.ns
 ⟨od,⟨I.obj,rfl,rfl,ho⟩,hl⟩
section
variable{x C:WS}{mA:Xk->Option WV}{v:WV}
theorem get_map{expr:Bool}(X:K.In s.1)(I:ObjM s.1 x dx C mA)(hg:PySem.W.plainGet K C name=C?)(hh:PySem.W.hasDictIn K C=C?)
 (ha:Zk K (.ref C) name=A? B?) (hv:mA name=A? v) (Cr:PySem.W.handedIn v=C?) (h:Q v {s with toks:=s.toks+1}) :
 Xc (Xy prog w) A (getAttr (.ref x) name expr) Q E s:=by
 obtain⟨od,J,hl⟩:=I.look;exact PySem.W.get_value X J (PySem.W.plainGet_of hg).1 (PySem.W.findObj_own hh ha rfl (by rw[hl,hv])) Cr h
theorem vf{pl:Sem Bool}{Q:WV×List WV->WZ->Prop}(X:K.In s.1)(I:ObjM s.1 x dx C mA)(hg:PySem.W.plainGet K C name=C?)
 (hf:Zk K (.ref C) name=A? (A? (.ref f))) (ht:PySem.W.isFn K (.ref f)=C?) (hv:mA name=B?) (h:Q (.ref f,[.ref x]) s) :
 Xc (Xy prog w) A (getMethod (.ref x) name pl) Q E s:=by
 obtain⟨od,J,hl⟩:=I.look;exact PySem.W.method_fn X J (PySem.W.plainGet_of hg).1 (PySem.W.plainGet_of hg).2 hf (beq_iff_eq.mp ht) (by show(PySem.W.lookIn name od).map (·.isSome)=A? CG;rw[hl,hv];rfl) h
theorem v7{ns:List Xk}{Q:Unit->WZ->Prop}(X:K.In s.1)(I:ObjM s.1 x dx C mA)
 (hs:Zk K (.ref C) "__setattr__"=A? (A? (.builtin "object.__setattr__"))) (hp:PySem.W.plainOver K C=C?) (ht:PySem.W.takerIn K C name=A? B?) (hh:PySem.W.hasDictIn K C=C?)
 (hw:PySem.Within mA ns) (hsz:ns.length<=Xj)
 (h:∀h',ObjM h' x dx C (λy=>if y=name then A? v else mA y)->XW dx s.1 h'->Q () {s with heap:=h',toks:=s.toks+2}) :
 Xc (Xy prog w) A (setAttr (.ref x) name v) Q E s:=by
 obtain⟨od,J,hl⟩:=I.look;refine PySem.W.set_plain X J hs (PySem.W.osa_open (s:={s with toks:=s.toks+1}) (r:=B?) X J hp ht λb=>?_);obtain⟨cd,hc,Cy⟩:=PySem.W.any_some hh;have hx:s.1.get? x=A? ⟨.ref C,A? dx,.plain,#[]⟩:=I.obj;refine WN (WW (WN (WN (wpAny_loadPart hx (WN (PySem.W.Looks.here (s:={s with toks:=s.toks+1}) (PySem.W.looks_clsIn X hc) ?_))))));rw[Cy];refine WW (a:=A? dx) (WN (WW (WN ?_)));refine wpAny_nsSet1 (s:={s with toks:=s.toks+1}) I.ns λh' JO G9=>?_;obtain⟨oD,esD,epD,Tf,Tg,Ti⟩:=JO.count (PySem.Within.cons name v hw);refine WN (wpAny_lookBehind Tf (by rw[Tg];exact pastItsLine_dict (Xh Ti (by rw[Xf];lia))) ?_);exact WW (h _ ⟨(G9.2 _ (Zb I.ne)).trans I.obj,JO,I.ne⟩ G9)
theorem tS{R:Result->WZ->Prop}{vs:List WV}(X:K.In s.1)(hm:PySem.W.makesIn K C=C?)
 (hi:Zk K (.ref C) "__init__"=A? (A? (.ref f))) (hf:PySem.W.typeIn K (.ref f)=A? (.type "function"))
 (h:codeAny (Xy prog w) (A.under (.builtin "type.__call__" ⟨.ref C::vs,kw⟩)) (.call (.ref f) ⟨.ref (s.1.1.size+1)::vs,kw⟩) (PySem.W.InitBack (s.1.1.size+1) R)
  {s with heap:=(s.1.push YK).push (Zn C s.1.1.size)}) :
 codeAny (Xy prog w) A (.call (.ref C) ⟨vs,kw⟩) R s:=by
 obtain⟨hh,g,d,t,os⟩:=s;exact PySem.W.make_core (PySem.W.makes_of X hm) (PySem.W.looks_findIn X hi) (λself=>PySem.W.bind_fn X self hf) (.inl rfl) h
end
def cz(f:Xk)(v:V):List (Xk×V)->List (Xk×V)
 | []=>[(f,v)]
 |(g,x)::r=>if g=f then(g,v)::r else(g,x)::cz f v r
theorem jE(f g:Xk)(v:V):∀fs:List (Xk×V),(cz f v fs).lookup g=if g=f then A? v else fs.lookup g
 | []=>by
   show YI g [(f,v)]=_;by_cases h:g=f
   .have hb:(g == f)=true:=beq_iff_eq.mpr h;simp only[YI,hb,b! h]
   .have hb:(g == f)=false:=beq_eq_false_iff_ne.mpr h;simp only[YI,hb,a! h]
 | (k,x)::r=>by
   have ih:=jE f g v r;rw[show cz f v ((k,x)::r)=(if k=f then(k,v)::r else(k,x)::cz f v r)from rfl];by_cases hk:k=f
   .rw[b! hk];by_cases h:g=k
    .have hb:(g == k)=true:=beq_iff_eq.mpr h;simp only[YI,hb,b! (h.trans hk)]
    .have hb:(g == k)=false:=beq_eq_false_iff_ne.mpr h;simp only[YI,hb,a! (λe:g=f=>h (e.trans hk.symm))]
   .rw[a! hk];by_cases h:g=k
    .have hb:(g == k)=true:=beq_iff_eq.mpr h;simp only[YI,hb,a! (λe:g=f=>hk (h.symm.trans e))]
    .have hb:(g == k)=false:=beq_eq_false_iff_ne.mpr h;simp only[YI,hb];exact ih
theorem jd(f:Xk)(v:V):∀fs:List (Xk×V),f∈(cz f v fs).map (·.1)/\∀g,g∈fs.map (·.1)->g∈(cz f v fs).map (·.1)
 | []=>⟨by simp[cz],λg h=>by simp at h⟩
 | (k,x)::r=>by
   obtain⟨i1,i2⟩:=jd f v r;rw[show cz f v ((k,x)::r)=(if k=f then(k,v)::r else(k,x)::cz f v r)from rfl];by_cases hk:k=f
   .rw[b! hk];subst hk;exact⟨by simp,λg h=>by simpa using h⟩
   .rw[a! hk];refine⟨?_,λg h=>?_⟩
    .rw[XC];exact WT _ i1
    .rw[XC]at h |-;rcases W6.mp h with e|e
     .exact W6.mpr (.inl e)
     .exact WT _ (i2 g e)
theorem jC(f:Xk)(v:V):∀fs:List (Xk×V),(cz f v fs).length<=fs.length+1
 | []=>by simp[cz]
 | (k,x)::r=>by
   have ih:=jC f v r;rw[show cz f v ((k,x)::r)=(if k=f then(k,v)::r else(k,x)::cz f v r)from rfl];by_cases hk:k=f
   .rw[b! hk,Xf,Xf];lia
   .rw[a! hk,Xf,Xf];lia
theorem RelO.some_of{o:Option WV}(r:RelO (A? v) o):∃u,o=A? u/\RelV v u:=by
 cases o with
 |none=>exact(show False from r).elim
 |some u=>exact⟨u,D?,r⟩
theorem RelO.none_of{o:Option WV}(r:RelO B? o):o=none:=by
 cases o with
 |none=>rfl
 |some u=>exact(show False from r).elim
theorem sY(r:RelV v u):PySem.W.handedIn u=true:=by
 cases v with
 |non=>cases(show u=Yj from r);rfl
 |bl b=>cases(show u=Value.bool b from r);rfl
 |int i=>obtain⟨t,e⟩:=(show∃t,u=Value.int i t from r);cases e;rfl
 |str x=>obtain⟨t,e⟩:=(show∃t,u=Value.str x t from r);cases e;rfl
 |byt b=>obtain⟨t,e⟩:=(show∃t,u=Value.bytes b t from r);cases e;rfl
 |flt b=>obtain⟨t,e⟩:=(show∃t,u=Value.float b t from r);cases e;rfl
 |ref a=>cases(show u=XG a from r);rfl
 |ty n=>cases(show u=Value.type n from r);rfl
section
variable{C:WS}{fs IV:List (Xk×V)}
theorem oE(hok:HOk P w H h)(e:H a=A? (.ins C dx fs)):∃mA,ObjM h a dx C mA/\(∀f,RelO (fs.lookup f) (mA f))/\PySem.Within mA (fs.map (·.1))/\fs.length<=1000/\H dx=A? (.own a):=by
 obtain⟨d,z,ne,ob,mA,n,r,q⟩:=(show ObjOk P w H h a (.ins C dx fs)from hok a _ e);exact⟨mA,⟨ob,n,ne⟩,r,q,z,d⟩
end
structure Cls(K:WY)(C:WS):Prop where
 pg:PySem.W.plainGet K C Yy=C?
 hd:PySem.W.hasDictIn K C=C?
 po:PySem.W.plainOver K C=C?
 sa:Zk K (.ref C) "__setattr__"=A? (A? (.builtin "object.__setattr__"))
theorem Cls.get{C:WS}(c:Cls K C)(f:Xk):PySem.W.plainGet K C f=true:=c.pg
def NoAttr(K:WY)(C:WS)(f:Xk):Prop:=Zk K (.ref C) f=A? B?
theorem NoAttr.taker{C:WS}{f:Xk}(n:NoAttr K C f):PySem.W.takerIn K C f=A? none:=by
 unfold PySem.W.takerIn;rw[show Zk K (.ref C) f=A? B? from n];rfl
structure Meth(K:WY)(C:WS)(m:Xk)(f:WS):Prop where
 at_:Zk K (.ref C) m=A? (A? (.ref f))
 fn:PySem.W.isFn K (.ref f)=C?
 kp:ZE K (.ref f)=C?
section
variable{X:Cx}{C:WS}{fs:List (Xk×V)}{f:Xk}
theorem kJ{b:Bool}(I:Inv X Z Y H s)(e:H a=A? (.ins C dx fs))(c:Cls X.K C)(n:NoAttr X.K C f)(l:fs.lookup f=A? v)
 (h:∀u s',Inv X Z Y H s'->RelV v u->Q u s'):Xc (Xy X.prog X.w) A (getAttr (.ref a) f b) Q E s:=by
 obtain⟨mA,O,r,_,_,_⟩:=oE I.hok e;obtain⟨u,hu,ru⟩:=RelO.some_of (v:=v) (o:=mA f) (by rw[<-l];exact r f);exact get_map I.kIn O (c.get f) c.hd n hu (sY ru) (h u _ (I.tok _) ru)
theorem qM{m:Xk}{g:WS}{pl:Sem Bool}{Q:WV×List WV->WZ->Prop}(I:Inv X Z Y H s)(e:H a=A? (.ins C dx fs))(c:Cls X.K C)(k:Meth X.K C m g)(l:fs.lookup m=B?)
 (h:Q (.ref g,[.ref a]) s):Xc (Xy X.prog X.w) A (getMethod (.ref a) m pl) Q E s:=by
 obtain⟨mA,O,r,_,_,_⟩:=oE I.hok e;have hn:mA m=none:=RelO.none_of (by rw[<-l];exact r m);exact vf I.kIn O (c.get m) k.at_ k.fn hn h
theorem kM{Q:Unit->WZ->Prop}(I:Inv X Z Y H s)(e:H a=A? (.ins C dx fs))(c:Cls X.K C)(n:NoAttr X.K C f)(hl:fs.length<1000)(ry:RelV y u)
 (h:∀s',Inv X Z Y (upd H a (.ins C dx (cz f y fs))) s'->Q () s'):Xc (Xy X.prog X.w) A (setAttr (.ref a) f u) Q E s:=by
 obtain⟨mA,O,r,wi,_,ho⟩:=oE I.hok e;have hz:(fs.map (·.1)).length<=Xj:=by rw[WO,ZA];lia
 refine v7 I.kIn O c.sa c.po n.taker c.hd wi hz λh' O' sb=>h _ ?_;have hd:∃o,h'.get? dx=A? o:=let⟨o,_,_,e',_⟩:=O'.ns;⟨o,e'⟩
 refine I.write (x:=a) (e:=dx) (by rw[e];exact Z3) (.inr ho) (λb q hb z=>(sb.2 b hb).trans z) hd ?_;refine⟨by rw[af O.ne];exact ho,?_,O.ne,O'.obj,_,O'.ns,λg=>?_,λg hg=>?_⟩
 .have:=jC f y fs;lia
 .show RelO ((cz f y fs).lookup g) (if g=f then A? u else mA g);rw[jE];by_cases q:g=f
  .rw[b! q,b! q];exact ry
  .rw[a! q,a! q];exact r g
 .by_cases q:g=f
  .rw[q];exact(jd f y fs).1
  .refine(jd f y fs).2 g (wi g λz=>hg ?_);show(if g=f then A? u else mA g)=B?;rw[a! q];exact z
theorem Inv.made(I:Inv X Z Y H s):Inv X Z Y (upd (upd H s.1.1.size (.own (s.1.1.size+1))) (s.1.1.size+1) (.ins C s.1.1.size []))
 {s with heap:=(s.1.push YK).push (Zn C s.1.1.size)}:=by
 have e1:(s.1.push YK).get? s.1.1.size=A? YK:=W2 s.1 rfl
 have e2:((s.1.push YK).push (Zn C s.1.1.size)).get? (s.1.1.size+1)=A? (Zn C s.1.1.size):=by
  have:=W2 (s.1.push YK) (o:=Zn C s.1.1.size) rfl
  rwa [Yb]at this
 have e3:(s.1.push YK).Ns s.1.1.size (λ_=>B?):=⟨YK,#[],_,e1,rfl,(λe he=>g! he (by simp)),λ_=>rfl⟩;have I1:=I.laid (a:=s.1.1.size) (o:=.own (s.1.1.size+1)) (h':=s.1.push YK) (t':=s.toks) (λb u q=>WU _ q) (WX _) ⟨_,e1⟩;refine I1.laid (a:=s.1.1.size+1) (o:=.ins C s.1.1.size []) (t':=s.toks) (λb u q=>WU _ q) (Nat.le_of_eq (Yb _ _)) ?_;have ne:s.1.1.size≠s.1.1.size+1:=XD (Nat.lt_succ_self _);refine⟨by rw[af ne,ad],Xr _,ne,e2,λ_=>B?,(Heap.Ns1.of_empty e3).at λo q=>WU _ q,λ_=>Z3,λy hy=>g! rfl hy⟩
theorem wR{f:Xk}(hb:Z6 e f env (YS e env)=YS e env)
 (h:Xc (Xy prog w) A (YS e env) (λo Af=>Xc (Xy prog w) A (getAttr o f C?) Q E Af) E s):Xc (Xy prog w) A (YS (.Attribute e f pos) env) Q E s :=
 Attribute_any_ h (by rw[arm_eval_Attribute,hb])
end
def zJ(K:WY)(ta:TE)(f:Xk):TE:=λY H Q=>ta Y H λx H1=>∃a C dx fs v,x=.ref a/\H1 a=A? (.ins C dx fs)/\Cls K C/\NoAttr K C f/\fs.lookup f=A? v/\Q v H1
def zK(K:WY)(ta tv:TE)(f:Xk):TS:=λD Y H=>tv Y H λy H1=>ta Y H1 λx H2=>∃a C dx fs,x=.ref a/\H2 a=A? (.ins C dx fs)/\Cls K C/\NoAttr K C f/\fs.length<1000 /\
 D.nx Y (upd H2 a (.ins C dx (cz f y fs)))
def zE(X:Cx)(op:Operator)(rd:V->V->Hp->VK->Prop):Prop :=
 ∀(Z:List (WS×YF))(s:WZ)(Y:St)(H:Hp)(x y:V)(u v:WV)(Q:VK),Inv X Z Y H s->RelV x u->RelV y v->rd x y H Q->Xc (Xy X.prog X.w) X.A (inplaceOp op u v) (EP X Z Y Q) X.xe s
def wC(K:WY)(ta tv:TE)(rd:V->V->Hp->VK->Prop)(f:Xk):TS:=λD Y H=>ta Y H λx H1=>∃a C dx fs v,x=.ref a/\H1 a=A? (.ins C dx fs)/\Cls K C/\NoAttr K C f/\fs.lookup f=A? v /\
 tv Y H1 λy H2=>rd v y H2 λz H3=>∃Nw IV,H3 a=A? (.ins C Nw IV)/\IV.length<1000/\D.nx Y (upd H3 a (.ins C Nw (cz f z IV)))
section
variable{X:Cx}{o value:X3}{f:Xk}{JP:Pos}{ta tv:TE}
theorem cB(he:PE X e ta)(hb:Z6 e f X.env (YS e X.env)=YS e X.env):PE X (.Attribute e f pos) (zJ X.K ta f):=by
 intro Z s Y H Q I h;refine wR hb (thn (he Z s Y H _ I h) λu s1⟨x,H1,I1,rx,a,C,dx,fs,v,ex,ea,c,n,l,q⟩=>?_);subst ex;obtain rfl:u=XG a:=rx;exact kJ I1 ea c n l λu' s2 I2 ru=>⟨v,H1,I2,ru,q⟩
theorem kD(ha:PE X o ta)(hv:PE X value tv)(hs:swapsWith value (A? (.Attribute o f pos')) pos.line X.env=pure CG):PS X (.Assign [.Attribute o f pos'] value pos) (zK X.K ta tv f):=by
 intro Z s Y H D I h;refine plainObj_wpAny_Assign_Attribute (thn (hv Z s Y H _ I h) λu s1⟨y,H1,I1,ry,q⟩=>thn (ha Z s1 Y H1 _ I1 q) λov s2⟨x,H2,I2,rx,a,C,dx,fs,ex,ea,c,n,l,q2⟩=>?_) hs;subst ex;obtain rfl:ov=XG a:=rx;exact kM I2 ea c n l ry λs3 I3=>⟨Y,_,I3,q2⟩
theorem mT{op:Operator}{rd:V->V->Hp->VK->Prop}(ha:PE X o ta)(hv:PE X value tv)(Tj:zE X op rd):PS X (.AugAssign (.Attribute o f JP) op value pos) (wC X.K ta tv rd f):=by
 intro Z s Y H D I h;refine wpAny_AugAssign_AttributeAny (thn (ha Z s Y H _ I h) λov s1⟨x,H1,I1,rx,a,C,dx,fs,v,ex,ea,c,n,l,q⟩=>?_);subst ex;obtain rfl:ov=XG a:=rx;refine kJ I1 ea c n l λu s2 I2 ru=>thn (hv Z s2 Y H1 _ I2 q) λw3 s3⟨y,H2,I3,ry,q3⟩=>thn (Tj Z s3 Y H2 v y u w3 _ I3 ru ry q3) λw4 s4⟨z,H3,I4,rz,Nw,IV,G',l',q4⟩=>?_;exact kM I4 G' c n l' rz λs5 I5=>⟨Y,_,I5,q4⟩
def aaa:V->V->Hp->VK->Prop:=λx y H Q=>∃i j,x=.int i/\y=.int j/\Q (.int (i+j)) H
theorem ur:zE X .Add aaa:=by
 rintro Z s Y H x y u v Q I rx ry ⟨i,j,rfl,rfl,q⟩;obtain⟨t,rfl⟩:=(show∃t,u=Value.int i t from rx);obtain⟨t',rfl⟩:=(show∃t',v=Value.int j t' from ry);exact PyProof.Rows.iadd_int ⟨.int (i+j),H,I.tok _,⟨_,rfl⟩,q⟩
end
section
variable{X:Cx}{c:WV}{b:Bool}
end
structure Room(k:Nat)(A:XF):Prop where
 hd:A.handled=B?
 dp:A.depth+3 * k+5<recursionLimit
 un:A.units+16 * k+200<YJ
theorem Room.mono{k:Nat}(r:Room k A)(h:j<=k):Room j A:=⟨r.hd,by have:=r.dp;lia,by have:=r.un;lia⟩
theorem Room.deeper{k:Nat}(r:Room (k+1) A)(env:Env):Room k (A.deeper env) :=
 ⟨r.hd,by have:=r.dp;show A.depth+1+3 * k+5<_;lia,by have:=r.un;show A.units+3+16 * k+200<_;lia⟩
theorem qL{C:WS}:(A.under (.builtin "type.__call__" ⟨.ref C::us,kw⟩)).depth=A.depth+1:=by
 first|rfl|simp[Around.under,Code.weight,Code.isCreation,Code.isGuard,Code.isCaller,Code.frames,Code.isFrame,guardIds]
theorem qR{C:WS}:(A.under (.builtin "type.__call__" ⟨.ref C::us,kw⟩)).units=A.units+1:=by
 first|rfl|simp[Around.under,Code.cUnits,Code.frames,Code.isFrame]
theorem Room.make{k:Nat}(r:Room (k+1) A)(C:WS)(us:List WV)(kw:List (Xk×WV)):Room k (A.under (.builtin "type.__call__" ⟨.ref C::us,kw⟩)) :=
 ⟨r.hd,by have:=r.dp;rw[qL];lia,by have:=r.un;rw[qR];lia⟩
theorem Room.depth{k:Nat}(r:Room k A):A.depth<recursionLimit:=by have:=r.dp;lia
theorem Room.units{k:Nat}(r:Room k A):A.units+64<YJ:=by have:=r.un;lia
def d7:TA:=λ_ H Q=>Q [] H
def ba(ta:TE)(tr:TA):TA:=λY H Q=>ta Y H λx H1=>tr Y H1 λxs H2=>Q (x::xs) H2
section
variable{X:Cx}{es:List X3}{t:TA}
theorem ae:PA X [] d7:=λ_ _ _ _ H Q I h=>Calls.spliced_nil ⟨[],H,I,.nil,h⟩
theorem ac(ha:PE X e te)(hr:PA X es t)(hs:XO (e::es) X.env=(CG,YS e X.env)::XO es X.env:=by rfl):PA X (e::es) (ba te t):=by
 intro pos Z s Y H Q I h;rw[hs];show Xc _ _ (spliced ((CG,YS e X.env)::Z0 pos (XO es X.env))) _ _ s;refine Z1 (thn (ha Z s Y H _ I h) λu s1⟨x,H1,I1,r1,q1⟩=>?_);exact thn (hr pos Z s1 Y H1 _ I1 q1) λus s2⟨xs,H2,I2,r2,q2⟩=>⟨x::xs,H2,I2,.cons r1 r2,q2⟩
def tK(t:TA):TE:=λY H Q=>t Y H λxs H1=>xs.length<=Xj/\∀p,H1 p=B?->Q (.ref p) (upd H1 p (.tup xs))
def aab(t:TA):TE:=λY H Q=>t Y H λxs H1=>xs.length<=Xj/\∀p,H1 p=B?->Q (.ref p) (upd H1 p (.lst xs))
theorem aQ{x1}(h:PA X es t):PE X (.Tuple es x1 pos) (tK t):=by
 intro Z s Y H Q I hq;refine wpAny_Tuple_spliced (thn (h pos Z s Y H _ I hq) λus s1⟨xs,H1,I1,r,z,q⟩=>⟨by rw[<-r.length];exact z,?_⟩);have hf:H1 s1.1.1.size=none:=I1.hok.fresh (WX _);refine⟨.ref s1.1.1.size,upd H1 s1.1.1.size (.tup xs),I1.laid (t':=s1.toks) (λb u e=>WU _ e) (WX _) ?_,D?,q _ hf⟩;exact⟨z,us,0,r,W2 _ rfl⟩
theorem aL(h:PA X es t):PE X (.List es pos) (aab t):=by
 intro Z s Y H Q I hq;refine wpAny_List_spliced (thn (h pos Z s Y H _ I hq) λus s1⟨xs,H1,I1,r,z,q⟩=>⟨by rw[<-r.length];exact z,?_⟩);have hf:H1 s1.1.1.size=none:=I1.hok.fresh (WX _);refine⟨.ref s1.1.1.size,upd H1 s1.1.1.size (.lst xs),I1.laid (t':=s1.toks) (λb u e=>WU _ e) (WX _) ?_,D?,q _ hf⟩;exact⟨z,us,0,r,W2 _ rfl⟩
end
abbrev Sp:=List V->Hp->VK->XK->Prop
abbrev CXT:=List Env->Hp->WZ->XK->WV->WZ->Prop
structure Env0(P:Xe)(w:Xv)(K:WY)(mg:Xk->Option WV)(base:X5)(A:XF)(outer:List Env)(s:WZ)(H:Hp):Prop where
 frames:A.frames=A? outer
 mod:Mod K mg base
 bs:∀b o,base.get? b=A? o->s.1.get? b=A? o/\H b=B?
 bsz:base.objs.size<=s.1.1.size
 funs:s.1.FunFrames base outer
 frf:∀b∈frs outer,H b=B?
 hok:HOk P w H s.1
 bare:AllBare s.gens
def CE(outer:List Env)(P:Xe)(w:Xv)(H:Hp)(s:WZ)(Q:VK)(u:WV)(s':WZ):Prop :=
 ∃v H',s'.os=s.os/\AllBare s'.gens/\Un (frs outer) [] H H' s.1 s'.1/\HOk P w H' s'.1/\RelV v u/\Q v H'
def CR(CX:CXT)(outer:List Env)(P:Xe)(w:Xv)(H:Hp)(s:WZ)(Q:VK)(E:XK)(r:Result)(s':WZ):Prop :=
 match r with
 |.ok (.ret u)=>CE outer P w H s Q u s'
 |.ok _=>False
 |.error e=>CX outer H s E e s'
structure FnOk(P:Xe)(w:Xv)(K:WY)(mg:Xk->Option WV)(base:X5)(CX:CXT)(k:Nat)(f:WS)(fd:Za)(ps:List Xk)(sp:Sp):Prop where
 len:∀vs H Q E,sp vs H Q E->vs.length=ps.length
 run:∀(A:XF)(outer:List Env)(s:WZ)(H:Hp)(args:Args)(us:List WV)(vs:List V)(Q:VK)(E:XK),Room k A->Env0 P w K mg base A outer s H->BindsTo s fd args (ps.zip us)->Vals vs us->sp vs H Q E ->
  codeAny (Xy P w) A (.call (.ref f) args) (CR CX outer P w H s Q E) s
theorem FnOk.imp{CX:CXT}{k:Nat}{sp DB:Sp}(F:FnOk P w K mg base CX k f fd ps sp)
 (h:∀vs H Q E,DB vs H Q E->sp vs H Q E):FnOk P w K mg base CX k f fd ps DB :=
 ⟨λvs H Q E q=>F.len vs H Q E (h _ _ _ _ q),λA outer s H args us vs Q E hr he hb hv hs=>F.run A outer s H args us vs Q E hr he hb hv (h _ _ _ _ hs)⟩
theorem Env0.make{outer:List Env}(e:Env0 P w K mg base A outer s H)(C:WS)(us:List WV)(kw:List (Xk×WV)) :
 Env0 P w K mg base (A.under (.builtin "type.__call__" ⟨.ref C::us,kw⟩)) outer s H:=⟨by first|exact e.frames|(simpa[Around.under,Code.envs,Code.isFrame,pushEnvs]using e.frames),e.mod,e.bs,e.bsz,e.funs,e.frf,e.hok,e.bare⟩
section
variable{X:Cx}{s':WZ}
theorem Inv.env0(I:Inv X Z Y H s):Env0 X.prog X.w X.K X.mg X.base X.A X.stack s H :=
 ⟨I.ok.frames,I.ok.mod,I.bs,Xh I.ok.bsz I.sz,I.stack,I.stkFree,I.hok,I.bare⟩
theorem Inv.after{Q:VK}(I:Inv X Z Y H s)(h:CE X.stack X.prog X.w H s Q u s'):EP X Z Y Q u s':=by
 obtain⟨v,H',os,bare,un,hok,r,q⟩:=h;obtain⟨hh,g,d,t,DL⟩:=s';obtain rfl:DL=s.os:=os;exact⟨v,H',I.call (h':=hh) (g':=g) (d':=d) (t':=t) (ch:=[]) un hok bare (λb z=>g! z (by simp)),r,q⟩
end
def d3(sp:Sp)(dvs:List V)(E:XK)(t:TA):TE:=λY H Q=>t Y H λvs H1=>sp (vs++dvs) H1 Q E
def yS(C:WS)(m:Xk)(sp:Sp)(dvs:List V)(E:XK)(ta:TE)(t:TA):TE:=λY H Q=>ta Y H λx H1=>∃a dx fs,x=.ref a/\H1 a=A? (.ins C dx fs)/\fs.lookup m=B? /\
 t Y H1 λvs H2=>sp (x::(vs++dvs)) H2 Q E
def zG(C:WS)(sp:Sp)(dvs:List V)(E:XK)(t:TA):TE:=λY H Q=>t Y H λvs H1=>∀x dx,H1 x=B?->H1 dx=B?->dx≠x ->
 sp (.ref x::(vs++dvs)) (upd (upd H1 dx (.own x)) x (.ins C dx [])) (λv H2=>v=.non/\Q (.ref x) H2) E
def Binds(K:WY)(fd:Za)(ps:List Xk)(ds:List WV):Prop :=
 ∀(s:WZ)(us:List WV),K.In s.1->(us++ds).length=ps.length->BindsTo s fd ⟨us,[]⟩ (ps.zip (us++ds))
theorem Binds.all(h:∀us:List WV,us.length=ps.length->bindArgs fd ⟨us,[]⟩=pure (ps.zip us)):Binds K fd ps []:=λs us _ hl=>by
 rw[Ye]at hl |-;exact .of_eq (h us hl)
def Passes(CX:CXT)(X:Cx)(E:XK):Prop:=∀(Z:List (WS×YF))(Y:St)(H:Hp)(s:WZ)(e:WV)(s':WZ),Inv X Z Y H s->CX X.stack H s E e s'->X.xe e s'
section
variable{X:Cx}{CX:CXT}{k:Nat}{C:WS}{sp:Sp}{dvs:List V}{ds:List WV}{E:XK}{m:Xk}{p apos:Pos}{o:X3}{es:List X3}{ta:TE}{t:TA}
theorem u9{Q:VK}{vs:List V}(F:FnOk X.prog X.w X.K X.mg X.base CX k f fd ps sp)(hr:Room k X.A)(hb:Binds X.K fd ps ds)(hd:Vals dvs ds)(hx:Passes CX X E)
 (I:Inv X Z Y H s) (r:Vals vs us) (h:sp (vs++dvs) H Q E):Xc (Xy X.prog X.w) X.A (call (.ref f) us) (EP X Z Y Q) X.xe s:=by
 have r2:Vals (vs++dvs) (us++ds):=r.append hd;have hl:(us++ds).length=ps.length:=by rw[<-r2.length];exact F.len _ _ _ _ h
 refine wpAny_call (codeAny_mono (F.run X.A X.stack s H ⟨us,[]⟩ (us++ds) (vs++dvs) Q E hr I.env0 (hb s us I.kIn hl) r2 h) λr s' hq=>?_);cases r with
 |error e=>exact hx Z Y H s e s' I hq
 | ok fl =>
   cases fl with
   |ret u=>exact I.after hq
   |next=>exact Yk hq
   |brk=>exact Yk hq
   |cont=>exact Yk hq
theorem de(F:FnOk X.prog X.w X.K X.mg X.base CX k f fd ps sp)(hr:Room k X.A)(hg:Gl X x)(hm:X.mg x=A? (.ref f))(hk:ZE X.K (.ref f)=C?)(hb:Binds X.K fd ps ds)(hd:Vals dvs ds)(hx:Passes CX X E)
 (ha:PA X (e::es) t) (DM:(x == ("__debug__":Xk))=false:=by decide) (he:XO (e::es) X.env=(CG,YS e X.env)::XO es X.env:=by rfl) (AZ:(Z0 pos (XO es X.env)).any (·.1)=false:=by rfl) :
 PE X (.Call (.Name x p) (e::es) [] pos) (d3 sp dvs E t):=by
 intro Z s Y H Q I h;refine Yq (j6 I hg hm ?_ DM);refine PySem.W.callWith_K (h₀:=X.base) I.ok.mod.kin hk (thn (ha pos Z s Y H _ I h) λus s1⟨vs,H1,I1,r,q⟩=>⟨I1.kIn,?_⟩) he AZ;exact u9 F hr hb hd hx I1 r q
theorem oo{pl:Sem Bool}(he:PE X o ta)(c:Cls X.K C)(hm:Meth X.K C m f)(F:FnOk X.prog X.w X.K X.mg X.base CX k f fd ps sp)(hr:Room k X.A)(hb:Binds X.K fd ps ds)(hd:Vals dvs ds)(hx:Passes CX X E)(ha:PA X (e::es) t)
 (BP:XO (e::es) X.env=(CG,YS e X.env)::XO es X.env:=by rfl) (AZ:(Z0 pos (XO es X.env)).any (·.1)=false:=by rfl)
 (ht:YS (.Call (.Attribute o m apos) (e::es) [] pos) X.env=(do
  let ov <-YS o X.env
  standAt apos.atName
  let(f,first) <-holding [ov] (getMethod ov m pl)
  callWith pos f first (Z0 pos (XO (e::es) X.env)) (backToKw pos (keywordEach [] X.env))):=by rfl) :
 PE X (.Call (.Attribute o m apos) (e::es) [] pos) (yS C m sp dvs E ta t):=by
 intro Z s Y H Q I h;refine PySem.W.methodCall_KW (pl:=pl) (thn (he Z s Y H _ I h) λu s1⟨x,H1,I1,rx,a,dx,fs,ex,ea,l,q⟩=>?_) ht;subst ex;obtain rfl:u=XG a:=rx;refine qM I1 ea c hm l ?_;refine PySem.W.callWith_K (first:=[.ref a]) (h₀:=X.base) I.ok.mod.kin hm.kp (thn (ha pos Z s1 Y H1 _ I1 q) λus s2⟨vs,H2,I2,r,q2⟩=>⟨I2.kIn,?_⟩) BP AZ;exact u9 (us:=.ref a::us) (vs:=.ref a::vs) F hr hb hd hx I2 (.cons rfl r) q2
structure Mk(K:WY)(C f:WS):Prop where
 makes:PySem.W.makesIn K C=C?
 init:Zk K (.ref C) "__init__"=A? (A? (.ref f))
 fn:PySem.W.isFn K (.ref f)=C?
 kp:ZE K (.ref C)=C?
theorem uH{Q:VK}{vs:List V}(M:Mk X.K C f)(F:FnOk X.prog X.w X.K X.mg X.base CX k f fd ps sp)(hr:Room (k+1) X.A)(hb:Binds X.K fd ps ds)(hd:Vals dvs ds)
 (hx:Passes CX X E) (I:Inv X Z Y H s) (r:Vals vs us)
 (h:∀x dx,H x=B?->H dx=B?->dx≠x->sp (.ref x::(vs++dvs)) (upd (upd H dx (.own x)) x (.ins C dx [])) (λv H2=>v=.non/\Q (.ref x) H2) E) :
 Xc (Xy X.prog X.w) X.A (call (.ref C) us) (EP X Z Y Q) X.xe s:=by
 have hq:=h (s.1.1.size+1) s.1.1.size (I.hok.fresh (Nat.le_succ _)) (I.hok.fresh (WX _)) (XD (Nat.lt_succ_self _));have I2:=Inv.made (C:=C) I;have r2:Vals (i! (s.1.1.size+1)::(vs++dvs)) (XG (s.1.1.size+1)::(us++ds)):=.cons rfl (r.append hd)
 have hl:(XG (s.1.1.size+1)::us++ds).length=ps.length:=by
  have e:=r2.length;rw[F.len _ _ _ _ hq]at e;exact e.symm
 refine wpAny_call (tS (f:=f) I.kIn M.makes M.init (beq_iff_eq.mp M.fn) (codeAny_mono (F.run _ X.stack _ _ ⟨XG (s.1.1.size+1)::us,[]⟩ (XG (s.1.1.size+1)::(us++ds)) _ _ E (hr.make C us [])
  (I2.env0.make C us []) (hb _ (XG (s.1.1.size+1)::us) I2.kIn hl) r2 hq) λr s' Fz=>?_))
 cases r with
 |error e=>exact hx Z Y _ _ e s' I2 Fz
 | ok fl =>
   cases fl with
   | ret u =>
     obtain⟨v,H',I3,rv,ev,q3⟩:=I2.after Fz;subst ev;exact⟨rv,⟨i! (s.1.1.size+1),H',I3,D?,q3⟩⟩
   |next=>exact Yk Fz
   |brk=>exact Yk Fz
   |cont=>exact Yk Fz
theorem lA(M:Mk X.K C f)(F:FnOk X.prog X.w X.K X.mg X.base CX k f fd ps sp)(hr:Room (k+1) X.A)(hg:Gl X x)(hm:X.mg x=A? (.ref C))(hb:Binds X.K fd ps ds)(hd:Vals dvs ds)(hx:Passes CX X E)
 (DM:(x == ("__debug__":Xk))=false:=by decide):PE X (.Call (.Name x p) [] [] pos) (zG C sp dvs E d7):=by
 intro Z s Y H Q I h;refine Yq (j6 I hg hm ?_ DM);exact PySem.W.callWith_K0 I.kIn M.kp (uH (us:=[]) M F hr hb hd hx I .nil h)
end
section
variable{X:Cx}{CX:CXT}{k:Nat}{C:WS}{ks:List Xk}{sp:Sp}{E:XK}{m:Xk}{p apos Tn:Pos}{o:X3}{es:List X3}{kws:List Keyword}{ta:TE}{t tk:TA}{nm:Option Xk}
variable{g:List WV->List WV->List WV}{gV:List V->List V->List V}
end
structure cQ(N P:List Xk)(sc:ZD):Prop where
 kind:sc.kind=.function
 co:sc.isCoroutine=CG
 gen:sc.isGenerator=CG
 nd:N.Nodup
 pre:N.take P.length=P
 par:∀x∈P,sc.names.lookup x=A? .local\/sc.names.lookup x=A? .cell
 nofree:∀y∈sc.names,y.2≠.free
theorem nF:∀{binds:List (Xk×WV)}{m:Xk->Option WV},(∀v,(x,v)∉binds)->bindL kindOf binds m x=m x
 | [],_,_=>rfl
 | (n,v)::r,m,h=>by
   unfold bindL;rw[nF λw hw=>h w (WT _ hw)];split
   .have:x≠n:=by rintro rfl;exact h v W4
    simp[this]
   .rfl
theorem mE:∀{binds:List (Xk×WV)}{m:Xk->Option WV},(∀v,(x,v)∉binds)->bindC kindOf binds m x=m x
 | [],_,_=>rfl
 | (n,v)::r,m,h=>by
   unfold bindC;rw[mE λw hw=>h w (WT _ hw)];split
   .rfl
   .have:x≠n:=by rintro rfl;exact h v W4
    simp[this]
theorem mU{v:WV}:∀{P:List Xk}{vs:List WV}{i:Nat}{m:Xk->Option WV},P.Nodup->P[i]?=A? x->vs[i]?=A? v->kindOf x=A? .local ->
 bindL kindOf (P.zip vs) m x=A? v
 | [],_,_,_,_,h,_,_=>by simp at h
 |_::_,[],_,_,_,_,h,_=>by simp at h
 | p::P,w::vs,0,m,nd,h1,h2,hk=>by
   simp at h1 h2;subst h1;subst h2;show bindL kindOf ((p,w)::P.zip vs) m p=_;unfold bindL;rw[nF λv hv=>(Yd.mp nd).1 (List.of_mem_zip hv).1,b! hk];simp
 | p::P,w::vs,i+1,m,nd,h1,h2,hk=>by
   show bindL kindOf ((p,w)::P.zip vs) m x=_;unfold bindL;exact mU (i:=i) (Yd.mp nd).2 (by simpa using h1) (by simpa using h2) hk
theorem nC{v:WV}:∀{P:List Xk}{vs:List WV}{i:Nat}{m:Xk->Option WV},P.Nodup->P[i]?=A? x->vs[i]?=A? v->kindOf x≠A? .local ->
 bindC kindOf (P.zip vs) m x=A? v
 | [],_,_,_,_,h,_,_=>by simp at h
 |_::_,[],_,_,_,_,h,_=>by simp at h
 | p::P,w::vs,0,m,nd,h1,h2,hk=>by
   simp at h1 h2;subst h1;subst h2;show bindC kindOf ((p,w)::P.zip vs) m p=_;unfold bindC;rw[mE λv hv=>(Yd.mp nd).1 (List.of_mem_zip hv).1,a! hk];simp
 | p::P,w::vs,i+1,m,nd,h1,h2,hk=>by
   show bindC kindOf ((p,w)::P.zip vs) m x=_;unfold bindC;exact nC (i:=i) (Yd.mp nd).2 (by simpa using h1) (by simpa using h2) hk
def start(N:List Xk)(vs:List V):St:=vs.map A?++XY (N.length - vs.length) B?
def pf(CX:CXT)(P:Xe)(w:Xv)(K:WY)(mg:Xk->Option WV)(base:X5)(N:List Xk)(qual:Xk)(scope:ZD)(f:WS)(cd:WV)(A:XF)(outer:List Env)(s:WZ)(H:Hp)(E:XK):Cx where
 prog:=P
 w:=w
 K:=K
 mg:=mg
 base:=base
 A:=A.deeper (envOfC qual scope s.1.1.size f cd)
 N:=N
 s₀:=s
 H₀:=H
 env:=envOfC qual scope s.1.1.size f cd
 outer:=outer
 stack:=envOfC qual scope s.1.1.size f cd::outer
 ex:=[]
 calm:=C?
 fn:=λ_=>C?
 pn:=[]
 xe:=λe s'=>Xc (Xy P w) (A.deeper (envOfC qual scope s.1.1.size f cd)) (leaving (envOfC qual scope s.1.1.size f cd) e) (λ_ Nx=>CX outer H s E e Nx) (λe' Nx=>CX outer H s E e' Nx) s'
theorem oV(h:sc.names.lookup x=A? .cell):∃c,(cellsFrom n sc.names []).lookup x=A? c:=by
 have q:=PySem.W.cellsFrom_some sc.names n [] (.inl h);exact Option.isSome_iff_exists.mp q
theorem sW{CX:CXT}{cd:WV}{outer:List Env}{s1:WZ}{E:XK}{vs:List V}
 (S:cQ N ps scope) (hd:A.handled=B?) (e0:Env0 P w K mg base A outer s H) (hl:vs.length=ps.length) (r:Vals vs us)
 (x:InCallC s s.1.1.size (bindL (envOfC qual scope s.1.1.size f cd).kindOf (ps.zip us) λ_=>B?) (cellsFrom (s.1.1.size+1) scope.names []) (bindC (envOfC qual scope s.1.1.size f cd).kindOf (ps.zip us) λ_=>B?) s1) :
 Inv (pf CX P w K mg base N qual scope f cd A outer s H E) [] (start N vs) H s1:=by
 have AZ:ps.length<=N.length:=by have:=h! Ze S.pre;rw[XB]at this;lia
 obtain⟨h1,tk,rfl,hk⟩:=x.done;have Ny:∀b:WS,b∉(pf CX P w K mg base N qual scope f cd A outer s H E).ex:=λb z=>g! (show b∈([]:List WS)from z) (by simp)
 refine⟨⟨e0.mod,S.kind,D?,D?,WX _,λy z c h1 h2=>?_,λy hy=>?_,λy c _ h=>?_,λ_=>hd,Around.frames_deeper e0.frames,.inr ⟨D?,D?⟩,λb z=>g! z (Ny b),e0.bs,e0.bsz,λb _ _=>Ny b,λb z=>g! z (Ny b),e0.funs,e0.frf⟩,
  rfl,e0.bare,Un.kept hk,⟨_,x.toInCall.ns,λi y v h1 h2 h3=>?_⟩,λy c h=>⟨_,x.cell y c h⟩,e0.hok.fresh (WX _),λy c h=>?_,λp hp=>g! (show p∈([]:List (WS×YF))from hp) (by simp),e0.hok.kept hk,?_⟩
 .exact name_of_addr x.apart (X7 h1) (X7 h2)
 .have hy:scope.names.lookup y=A? .cell\/scope.names.lookup y=A? .free:=hy;rcases hy with hy|hy
  .exact oV hy
  .exact g! rfl (S.nofree _ (X7 hy))
 .exact Z9 (x.above y c (X7 h))
 .have hi:i<vs.length:=by
   unfold start at h2;by_cases hi:i<vs.length
   .exact hi
   .rw[X2 (by simpa using hi)]at h2;rw[List.getElem?_replicate]at h2;split at h2 <;> cases h2
  have ha:vs[i]?=A? v:=by
   unfold start at h2;rw[XJ (by simpa using hi),W3]at h2;cases e:vs[i]? with
   |none=>rw[e]at h2;cases h2
   |some a=>rw[e]at h2;cases h2;rfl
  obtain⟨u,hu,rv⟩:=r.get ha
  have hp:ps[i]?=A? y:=by
   rw[<-S.pre,List.getElem?_take_of_lt (by lia)];exact h1
  have ndP:ps.Nodup:=by rw[<-S.pre];exact S.nd.sublist (List.take_sublist _ _)
  refine⟨u,rv,?_⟩;rcases S.par y (WR hp)with k|k
  .exact .inl ⟨k,mU ndP hp hu k⟩
  .obtain⟨c,e⟩:=oV (n:=s.1.1.size+1) k;refine .inr ⟨.inl k,c,e,?_⟩;have q:=x.cell y c e;rw[nC ndP hp hu (by show scope.names.lookup y≠_;rw[k];decide)]at q;exact q
 .exact e0.hok.fresh (Z9 (x.above y c (X7 h)))
 .unfold start;show _=N.length;rw[W7,WO,List.length_replicate];lia
theorem xb{CX:CXT}{k:Nat}{dV kV doc pm Ak ct:WV}{an:Option WS}
 {Es:Array (Option WV)} {sp:Sp} (lk:K.lookup f=A? ⟨oc,od,.func (Z8 name qual params body scope dV kV doc pm an Ak ct),Es⟩) (Co:PySem.W.codeIn K Ak qual=C?) (S:cQ N ps scope)
 (len:∀vs H Q E,sp vs H Q E->vs.length=ps.length)
 (Bm:∀(A:XF)(outer:List Env)(s:WZ)(H:Hp)(vs:List V)(Q:VK)(E:XK),Room k (A.deeper (envOfC qual scope s.1.1.size f Ak))->sp vs H Q E ->
  ∃t,PSs (pf CX P w K mg base N qual scope f Ak A outer s H E) body t/\t {nx:=λ_ H'=>Q .non H',rt:=Q} (start N vs) H) :
 FnOk P w K mg base CX (k+1) f (Z8 name qual params body scope dV kV doc pm an Ak ct) ps sp:=by
 refine⟨len,λA outer s H args us vs Q E hr e0 hb r B7=>?_⟩;have hl:=len _ _ _ _ B7;have KX:K.In s.1:=e0.mod.kin.keeps λb o e=>(e0.bs b o e).1;have lim:s.1.NoLimit:=e0.mod.nolimit.keeps λb o e=>(e0.bs b o e).1
 have JQ:∀y∈ps.zip us,scope.names.lookup y.1=A? .local\/(scope.names.lookup y.1=A? .cell/\((cellsFrom (s.1.1.size+1) scope.names []).lookup y.1).isSome=C?):=λ⟨n,v⟩hy=>by
  rcases S.par n (List.of_mem_zip hy).1 with q|q
  .exact .inl q
  .exact .inr ⟨q,PySem.W.cellsFrom_some _ _ _ (.inl q)⟩
 refine codeAny_call_function hr.depth (KX _ _ lk) rfl S.co S.gen rfl (PySem.W.codeRec_of KX Co) (hb _ _ _ _ ?_);refine wpAny_newFunctionEnv_cells S.kind JQ λenv he s1 x=>?_;subst he;refine⟨lim.keeps x.toInCall.keep,codeAny_func ?_⟩;obtain⟨t,ht,hq⟩:=Bm A outer s H vs Q E (hr.deeper _) B7;have I:Inv (pf CX P w K mg base N qual scope f Ak A outer s H E) [] (start N vs) H s1:=sW S hr.hd e0 hl r x;refine YR (ht [] s1 (start N vs) H _ I hq) (λfl s' hs=>?_) λe s' hs=>hs
 have fin:∀{Ae:St}{H':Hp}{v:V}{u:WV},Inv (pf CX P w K mg base N qual scope f Ak A outer s H E) [] Ae H' s'->RelV v u->Q v H'->CE outer P w H s Q u s' :=
  λ{Ae H' v u}J rv q=>⟨v,H',J.os,J.bare,J.base,J.hok,rv,q⟩
 cases fl with
 | ret u =>
   obtain⟨v,Ae,H',J,rv,q⟩:=hs;exact fin J rv q
 | next =>
   obtain⟨Ae,H',J,q⟩:=hs;exact fin (v:=V.non) (u:=Yj) J rfl q
 | brk =>
   obtain⟨_,_,_,q⟩:=hs;exact Yk q
 | cont =>
   obtain⟨_,_,_,q⟩:=hs;exact Yk q
end L2
variable{CX:L2.CXT}{sp:L2.Sp}
namespace L2
open PySem PySem.Spec PyProof.Rows
section
variable{X:Cx}{p:Pos}{es:List X3}{t:TA}{id T:String}{r:List V->Hp->VK->Prop}
def tCB(r:List V->Hp->VK->Prop)(t:TA):TE:=λY H Q=>t Y H λvs H1=>r vs H1 Q
theorem aD(hc:fQ X (.builtin id) r)(hg:Gl X x)(hm:X.mg x=B?)(hv:bootBuiltins x=A? (.builtin id))(ha:PA X (e::es) t)(hn:x≠"__name__":=by decide)(DM:(x == ("__debug__":Xk))=false:=by decide)
 (he:XO (e::es) X.env=(CG,YS e X.env)::XO es X.env:=by rfl) (AZ:(Z0 pos (XO es X.env)).any (·.1)=false:=by rfl):PE X (.Call (.Name x p) (e::es) [] pos) (tCB r t):=by
 intro Z s Y H Q I h;refine Yq (gf I hg hm hv ?_ hn DM);exact PyProof.Rows.callWith_builtin1 (thn (ha pos Z s Y H _ I h) λus s1⟨vs,H1,I1,r1,q1⟩=>hc Z s1 Y H1 vs us Q I1 r1 q1) he AZ
theorem bj(hc:fQ X (.type T) r)(hg:Gl X x)(hm:X.mg x=B?)(hv:bootBuiltins x=A? (.type T))(ha:PA X (e::es) t)(hn:x≠"__name__":=by decide)(DM:(x == ("__debug__":Xk))=false:=by decide)
 (he:XO (e::es) X.env=(CG,YS e X.env)::XO es X.env:=by rfl) (AZ:(Z0 pos (XO es X.env)).any (·.1)=false:=by rfl):PE X (.Call (.Name x p) (e::es) [] pos) (tCB r t):=by
 intro Z s Y H Q I h;refine Yq (gf I hg hm hv ?_ hn DM);exact Yu (thn (ha pos Z s Y H _ I h) λus s1⟨vs,H1,I1,r1,q1⟩=>hc Z s1 Y H1 vs us Q I1 r1 q1) he AZ
end
end L2
namespace HT
open PySem PyProof.Rows
section
open PySem.SeqAt
open PySem.AutoSeq1 (wpAny_loadPart')
open PySem.MeetsSeq PySem.MeetsSeq2 PySem.MeetsSeq3
end
theorem cat_tup{t:WS}{vs ws:List WV}(ht:IsTup s.1 t vs.toArray)(hb:IsTup s.1 b ws.toArray)(hv:vs≠[])
 (h1:ws=[]->Q (.ref t) s) (h2:ws≠[]->Q (.ref s.1.1.size) {s with heap:=s.1.push {cls:=.type "tuple",data:=.seq (vs++ws).toArray}})
 (hsz:vs.length+ws.length<=Xj):Xc (Xy prog w) A (ZC .Add (.ref t) (.ref b)) Q E s:=by
 obtain⟨⟨cls,dd,data,sl⟩,ho,hc,n,hd⟩:=id ht;obtain⟨⟨JR,IY,data2,IZ⟩,FA,DC,n2,hd2⟩:=id hb;simp only at hc hd DC hd2;subst hc hd DC hd2;have e:vs.toArray++ws.toArray=(vs++ws).toArray:=by simp
 by_cases hw:ws=[]
 .exact concat_meets ⟨_,ho,rfl⟩ ⟨_,FA,rfl⟩ noFill_tuple_add seq_tuple_add PySem.F.slot_tuple_add PySem.F.entry_tuple_add (PySem.F.args_tuple_add_2 _ _)
   (tuple_addW1 t b vs.toArray ws.toArray n n2 dd IY sl IZ (by simpa using hv) (by simp[hw])) ⟨ho,FA,h1 hw⟩
 .refine concat_meets ⟨_,ho,rfl⟩ ⟨_,FA,rfl⟩ noFill_tuple_add seq_tuple_add PySem.F.slot_tuple_add PySem.F.entry_tuple_add (PySem.F.args_tuple_add_2 _ _)
   (tuple_addW2 t b vs.toArray ws.toArray n n2 dd IY sl IZ (by simpa using hv) (by simpa using hw) (by rw[W9,W9];exact hsz)) ⟨ho,FA,?_⟩
  rw[e];exact h2 hw
def sIx(n d:Nat):Option Int->Nat
 |none=>d
 |some v=>if v<0 then(v+(n:Int)).toNat else min v.toNat n
theorem sIx_none(n d:Nat):sIx n d B?=d:=rfl
theorem sIx_nat(n d k:Nat):sIx n d (A? (k:Int))=min k n:=by
 show(if(k:Int)<0 then((k:Int)+(n:Int)).toNat else min (k:Int).toNat n)=min k n;rw[a! (by lia),Yl]
theorem sIx_le(n d:Nat)(hd:d<=n)(o:Option Int):sIx n d o<=n:=by
 cases o with
 |none=>exact hd
 | some v =>
   show(if v<0 then(v+(n:Int)).toNat else min v.toNat n)<=n;by_cases hv:v<0
   .rw[b! hv];lia
   .rw[a! hv];exact Nat.min_le_right _ _
theorem clip_eq(v:Int)(n d:Nat):(if v<0 then max (v+(n:Int)) 0 else min v (n:Int))=((sIx n d (A? v):Nat):Int):=by
 show(if v<0 then max (v+(n:Int)) 0 else min v (n:Int))=(((if v<0 then(v+(n:Int)).toNat else min v.toNat n):Nat):Int);by_cases hv:v<0
 .simp only[b! hv];lia
 .simp only[a! hv];lia
theorem adjust_gen(lo hi:Option Int)(n:Nat):Zw lo hi 1 (n:Int)=(((sIx n 0 lo:Nat):Int),((sIx n n hi:Nat):Int)):=by
 have h1:¬((1:Int)<0):=by lia
 unfold Zw;simp only[h1,if_false];refine Prod.ext ?_ ?_
 .cases lo with
  |none=>rfl
  |some v=>exact clip_eq v n 0
 .cases hi with
  |none=>rfl
  |some v=>exact clip_eq v n n
theorem places_gen(i j:Nat):Yp (i:Int) (j:Int) 1=j - i:=by
 unfold Yp;have h1:(1:Int) > 0:=by lia
 simp only[h1,if_true,Int.ediv_one];split <;> lia
theorem slicePart_{v:WV}{o:Option Int}{Q:Option Int->WZ->Prop}(p:IsPart v o)(h:Q o s):Xc (Xy prog w) A (Builtin.Slice.slicePartIndex v) Q E s:=by
 cases p with
 |none=>exact slicePart_none h
 |int i t=>exact slicePart_int h
theorem sliceApplied_gen{Q:Int×Int×Nat->WZ->Prop}(hs:s.1.IsSliceOf sl vl vu .none)(pl:IsPart vl lo)(pu:IsPart vu hi)
 (h:Q (((sIx n 0 lo:Nat):Int),1,sIx n n hi - sIx n 0 lo) s):Xc (Xy prog w) A (Builtin.Slice.sliceApplied (.ref sl) (pure (n:Int))) Q E s:=by
 obtain⟨os,Bz,BZ,BQ⟩:=id hs;unfold Builtin.Slice.sliceApplied Builtin.Slice.sliceFields;refine WN (WN (XS Bz BQ (x:=vl) rfl (WN (XS Bz BQ (x:=vu) rfl (WN (XS Bz BQ (x:=.none) rfl (WW ?_)))))));refine WN (slicePart_none ?_);show Xc _ _ (if((1:Int) == 0)=C? then _ else _) _ _ s;rw[a! (by decide)];refine WN (slicePart_ pl (WN (slicePart_ pu (WN (WW ?_)))));show Xc _ _ (match Zw lo hi 1 (n:Int)with|(lo,hi)=>pure (lo,(1:Int),Yp lo hi 1)) _ _ s;rw[adjust_gen lo hi n];show Xc _ _ (pure (((sIx n 0 lo:Nat):Int),(1:Int),Yp ((sIx n 0 lo:Nat):Int) ((sIx n n hi:Nat):Int) 1)) _ _ s;rw[places_gen];exact WW h
theorem pick_gen(xs:Array WV)(i k:Nat):((YL k).filterMap λ(m:Nat)=>xs[((i:Int)+(m:Int) * 1).toNat]?).toArray=((xs.toList.drop i).take k).toArray:=by
 have e:(λ(m:Nat)=>xs[((i:Int)+(m:Int) * 1).toNat]?)=λm=>xs[i+m]?:=by
  funext m;have:((i:Int)+(m:Int) * 1).toNat=i+m:=by lia
  rw[this]
 rw[e];have:=pick_run xs i k;rw[List.filterMap_map]at this;have e2:((λx=>xs[x]?) ∘ λx=>i+x)=λm=>xs[i+m]?:=rfl;rw[e2]at this;rw[this]
theorem getItem_tuple_cut{t:WS}(ht:IsTup s.1 t items)(hs:s.1.IsSliceOf sl vl vu .none)(pl:IsPart vl lo)(pu:IsPart vu hi)
 (hw:¬(sIx items.size 0 lo=0/\sIx items.size items.size hi=items.size))
 (h:Q (.ref s.1.1.size) {s with heap:=s.1.push {cls:=.type "tuple",data:=.seq ((items.toList.drop (sIx items.size 0 lo)).take (sIx items.size items.size hi - sIx items.size 0 lo)).toArray}})
 (hsz:items.size<=Xj):Xc (Xy prog w) A (getItem (.ref t) (.ref sl)) Q E s:=by
 have Bn:sizeOk (.seq ((items.toList.drop (sIx items.size 0 lo)).take (sIx items.size items.size hi - sIx items.size 0 lo)).toArray):=by
  show((items.toList.drop (sIx items.size 0 lo)).take (sIx items.size items.size hi - sIx items.size 0 lo)).toArray.size<=Xj;rw[W9,XB,XX,Xo];lia
 have hj:sIx items.size items.size hi<=items.size:=sIx_le _ _ (WX _) hi;obtain⟨os,Bz,BZ,BQ⟩:=id hs;have JS:s.TypeIs (.ref sl) "slice":=⟨os,Bz,BZ⟩;unfold getItem
 try with_reducible refine Yv ?_
 first|refine WN (WW ?_)|skip
 refine WN (wpAny_sequenceKey ht.typeIs (by decide) ?_)
 refine WN (XR (name:=W5 "__getitem__") ht.typeIs XM
  (XT XM ht.typeIs entry_tuple_getitem ?_ (args_tuple_getitem _ _)))
 show Xc _ _ (Builtin.Tuple.tupleItemsOf (.ref t) >>= _) _ _ s;refine WN (tupleItemsOf_ ht ?_);refine WN (ZY JS ?_);rw[b! (by decide)];refine WN (sliceApplied_gen hs pl pu ?_)
 have Cs:¬((((sIx items.size 0 lo:Nat):Int) == 0 && (1:Int) == 1 && (sIx items.size items.size hi - sIx items.size 0 lo) == items.size)=C?):=by
  intro q;rw[Bool.and_eq_true,Bool.and_eq_true]at q;have q1:((sIx items.size 0 lo:Nat):Int)=0:=eq_of_beq q.1.1;have q2:sIx items.size items.size hi - sIx items.size 0 lo=items.size:=eq_of_beq q.2;exact hw ⟨by lia,by lia⟩
 show Xc _ _ (if(((sIx items.size 0 lo:Nat):Int) == 0 && (1:Int) == 1 && (sIx items.size items.size hi - sIx items.size 0 lo) == items.size)=C? then _ else _) _ _ s;rw[a! Cs,pick_gen]
 first
  |exact WN (m:=Yw _) (XQ (WW ⟨_,rfl,WW h⟩) Bn)
  |exact WN (m:=Yw _) (XQ (WN (WW (WW ⟨_,rfl,WW h⟩))) Bn)
  |exact WN (WN (m:=Yw _) (XQ (WW (WW ⟨_,rfl,WW h⟩)) Bn))
  |exact WN (WN (m:=Yw _) (XQ (WW ⟨_,rfl,WW h⟩) Bn))
end HT
open HT renaming sIx->u!,sIx_nat->B!,sIx_none->I!
namespace L2
open PySem PySem.Spec PyProof.Rows
abbrev TO:=St->Hp->(Option Int->Hp->Prop)->Prop
def PO(X:Cx)(e:Option X3)(t:TO):Prop :=
 ∀(Z:List (WS×YF))(s:WZ)(Y:St)(H:Hp)(Q:Option Int->Hp->Prop),Inv X Z Y H s->t Y H Q ->
   Xc (Xy X.prog X.w) X.A (evalPart e X.env) (λu s'=>∃o H',Inv X Z Y H' s'/\IsPart u o/\Q o H') X.xe s
def wD:TO:=λ_ H Q=>Q B? H
inductive xo(x:V)(Q:Option Int->Hp->Prop)(H1:Hp):Prop
 |mk (i:Int) (Ci:x=.int i) (Cj:Q (A? i) H1):xo x Q H1
def w6(t:TE):TO:=λY H Q=>t Y H λx H1=>xo x Q H1
theorem intsAre_of{ns:List Int}:∀{us:List WV},Vals (ns.map o!) us->IntsAre us ns:=by
 induction ns with
 |nil=>intro us r;rw[YM]at r;cases r;exact .nil
 | cons n ns ih =>
   intro us r;rw[XC]at r;cases r with
   | cons r1 r2 =>
     obtain⟨t,e⟩:=r1;subst e;exact .cons n t (ih r2)
section
variable{X:Cx}{lo hi:Option X3}{tl th:TO}{p2:Pos}
theorem bX:PO X B? wD:=by
 intro Z s Y H Q I h;rw[evalPart_none];exact WW ⟨B?,H,I,.none,h⟩
theorem bO(h:PE X e te):PO X (A? e) (w6 te):=by
 intro Z s Y H Q I hw;rw[evalPart_some];refine thn (h Z s Y H _ I hw) λu s1⟨x,H1,I1,r1,q1⟩=>?_;obtain⟨i,rfl,q⟩:=q1;obtain⟨t,rfl⟩:=r1;exact⟨A? i,H1,I1,.int i t,q⟩
def SlR(X:Cx)(r:V->Option Int->Option Int->Hp->VK->Prop):Prop :=
 ∀(Z:List (WS×YF))(s:WZ)(Y:St)(H:Hp)(x:V)(v vl vu:WV)(lo hi:Option Int)(sl:WS)(Q:VK),Inv X Z Y H s->RelV x v->s.1.IsSliceOf sl vl vu .none->IsPart vl lo->IsPart vu hi->r x lo hi H Q ->
   ∃T id,typeLookup (.type T) "__getitem__"=pure (A? (.builtin id))/\s.TypeIs v T/\Xc (Xy X.prog X.w) X.A (getItem v (.ref sl)) (EP X Z Y Q) X.xe s
def tSl(r:V->Option Int->Option Int->Hp->VK->Prop)(te:TE)(tl th:TO):TE:=λY H Q=>te Y H λx H1=>tl Y H1 λl H2=>th Y H2 λu H3=>r x l u H3 Q
theorem bD{r:V->Option Int->Option Int->Hp->VK->Prop}(hr:SlR X r)(he:PE X e te)(hl:PO X lo tl)(hu:PO X hi th):PE X (.Subscript e (.Slice lo hi B? p2) pos) (tSl r te tl th):=by
 intro Z s Y H Q I h;refine Subscript_ (thn (he Z s Y H _ I h) λv s1⟨x,H1,I1,r1,q1⟩=>?_);refine wpAny_Slice (thn (hl Z s1 Y H1 _ I1 q1) λvl s2⟨l,H2,I2,pl,q2⟩=>thn (hu Z s2 Y H2 _ I2 q2) λvu s3⟨u,H3,I3,pu,q3⟩=>?_);rw[evalPart_none];refine WW ?_;have I4:Inv X Z Y H3 {s3 with heap:=s3.1.push {cls:=.type "slice",data:=.fields #[vl,vu,.none]}}:=I3.kept (t':=s3.toks) λb ob q=>WU _ q;obtain⟨T,id,hT,ht,hg⟩:=hr Z {s3 with heap:=s3.1.push {cls:=.type "slice",data:=.fields #[vl,vu,.none]}} Y H3 x v vl vu l u s3.1.1.size Q I4 r1 (Heap.IsSliceOf.new ..) pl pu q3;show Xc (Xy X.prog X.w) X.A (subscriptTail e (.Slice lo hi B? p2) v (.ref s3.1.1.size)) (EP X Z Y Q) X.xe {s3 with heap:=s3.1.push {cls:=.type "slice",data:=.fields #[vl,vu,.none]}};exact tail_any (ops:=[.ref s3.1.1.size,v]) ht hT hg (by with_unfolding_all rfl)
def cJ(xs:List V)(lo hi:Option Int):List V:=(xs.drop (u! xs.length 0 lo)).take (u! xs.length xs.length hi - u! xs.length 0 lo)
theorem ej(xs:List V)(lo hi:Option Int):(cJ xs lo hi).length<=xs.length:=by
 unfold cJ;rw[XB,XX];lia
inductive xj(K:WY)(x:V)(lo:Option Int)(hi:Option Int)(H:Hp)(Q:VK):Prop
 |mk (a:_) (xs:_) (Ci:x=.ref a) (Cj:SqT K H a xs) (DA:¬(u! xs.length 0 lo=0/\u! xs.length xs.length hi=xs.length)) (Fy:∀p,H p=B?->Q (.ref p) (upd H p (.tup (cJ xs lo hi)))):xj K x lo hi H Q
def aap(K:WY):V->Option Int->Option Int->Hp->VK->Prop:=xj K
theorem kF:SlR X (aap X.K):=by
 intro Z s Y H x v vl vu lo hi sl Q I rx hs pl pu h;obtain⟨a,xs,rfl,hx,hw,q⟩:=h;cases rx;obtain⟨its,r,ht,hz⟩:=I.tuple hx;have hlen:its.toArray.size=xs.length:=by rw[W9];exact r.length.symm
 refine⟨"tuple",_,XM.lookup,ht.typeIs,?_⟩;refine HT.getItem_tuple_cut ht hs pl pu (by rw[hlen];exact hw) ?_ (by rw[hlen];exact hz);rw[hlen];refine⟨.ref s.1.1.size,_,I.laid (t':=s.toks) (o:=.tup (cJ xs lo hi)) (λb ob q=>WU _ q) (WX _) ?_,D?,q _ (I.hok.fresh (WX _))⟩;exact⟨Xh (ej xs lo hi) hz,_,0,(r.drop (u! xs.length 0 lo)).take (u! xs.length xs.length hi - u! xs.length 0 lo),W2 _ rfl⟩
def y9(K:WY):R2:=λx y H Q=>∃a b xs ys,x=.ref a/\y=.ref b/\SqT K H a xs/\SqT K H b ys/\xs≠[]/\xs.length+ys.length<=Xj /\
 (ys=[]->Q (.ref a) H)/\(ys≠[]->∀p,H p=B?->Q (.ref p) (upd H p (.tup (xs++ys))))
theorem Vals.nil_iff(r:Vals xs us):us=[]↔xs=[]:=by
 cases r with
 |nil=>simp
 |cons _ _=>simp
theorem vH:OpR X (ZC .Add) (y9 X.K):=by
 intro Z s Y H x y v u Q I rx ry h;obtain⟨a,b,xs,ys,rfl,rfl,ha,hb,hx,hz,q1,q2⟩:=h;cases rx;cases ry;obtain⟨its,r1,p1,_⟩:=I.tuple ha;obtain⟨An,r2,p2,_⟩:=I.tuple hb;refine HT.cat_tup p1 p2 (λz=>hx (r1.nil_iff.mp z)) (λz=>⟨.ref a,H,I,rfl,q1 (r2.nil_iff.mp z)⟩) (λz=>?_) (by rw[<-r1.length,<-r2.length];exact hz);refine⟨.ref s.1.1.size,_,I.laid (t':=s.toks) (o:=.tup (xs++ys)) (λb ob q=>WU _ q) (WX _) ?_,D?,q2 (λw=>z (r2.nil_iff.mpr w)) _ (I.hok.fresh (WX _))⟩;exact⟨by rw[W7];exact hz,_,0,r1.append r2,W2 _ rfl⟩
end
def ixN(n:Nat)(i:Int):Option Nat:=if 0<=i then(if i<n then A? i.toNat else B?)else if -(n:Int)<=i then A? (i+n).toNat else B?
def atI{α:Type}(xs:List α)(i:Int):Option α:=(ixN xs.length i).bind λj=>xs[j]?
theorem oM{i:Int}(h:ixN n i=A? j):seqIndex? i n=A? j/\j<n/\-(n:Int)<=i/\i<n:=by
 unfold ixN at h;by_cases h0:0<=i
 .rw[b! h0]at h;by_cases h1:i<n
  .rw[b! h1]at h;have e:i.toNat=j:=Xl h;exact⟨by rw[seqIndex_of h0 h1,e],by lia,by lia,h1⟩
  .rw[a! h1]at h;cases h
 .rw[a! h0]at h;by_cases h1:-(n:Int)<=i
  .rw[b! h1]at h;have e:(i+n).toNat=j:=Xl h;exact⟨by rw[seqIndex_neg (by lia) h1,e],by lia,h1,by lia⟩
  .rw[a! h1]at h;cases h
theorem nR{xs:List α}{i:Int}{v:α}(h:atI xs i=A? v):∃j,seqIndex? i xs.length=A? j/\xs[j]?=A? v/\j<xs.length/\-(xs.length:Int)<=i/\i<xs.length:=by
 unfold atI at h;cases e:ixN xs.length i with
 |none=>rw[e]at h;cases h
 | some j =>
   rw[e]at h;obtain⟨h1,h2,h3,h4⟩:=oM e;exact⟨j,h1,h,h2,h3,h4⟩
theorem bo{xs:List α}{v:α}(h:xs[j]?=A? v):atI xs (j:Int)=A? v:=by
 have hj:j<xs.length:=(glE h)
 have e:ixN xs.length (j:Int)=A? j:=by
  unfold ixN;rw[b! (by lia),b! (by lia)];simp
 unfold atI;rw[e];exact h
def wM(b:X3):Prop:=∀o i,subscripted b CG o i=operate [o,i] (getItem o i)
def IxR(X:Cx)(r:R2):Prop :=
 ∀(value slice:X3)(Z:List (WS×YF))(s:WZ)(Y:St)(H:Hp)(x y:V)(v u:WV)(Q:VK),Inv X Z Y H s->RelV x v->RelV y u->r x y H Q ->
   subscripted slice CG v u=operate [v,u] (getItem v u)->Xc (Xy X.prog X.w) X.A (subscriptTail value slice v u) (EP X Z Y Q) X.xe s
def MtR(X:Cx)(id:String)(r:V->List V->Hp->VK->Prop):Prop :=
 ∀(Z:List (WS×YF))(s:WZ)(Y:St)(H:Hp)(x:V)(xs:List V)(v:WV)(us:List WV)(Q:VK),Inv X Z Y H s->RelV x v->Vals xs us->r x xs H Q ->
   Xc (Xy X.prog X.w) X.A (call (.builtin id) (v::us)) (EP X Z Y Q) X.xe s
section
variable{X:Cx}{a b:X3}{ta tb:TE}
theorem aw{r:R2}(hr:IxR X r)(ha:PE X a ta)(hb:PE X b tb)(hs:wM b):PE X (.Subscript a b pos) (tOp r ta tb):=by
 intro Z s Y H Q I h;exact Subscript_ (xL ha hb I h λv u s2 x y H2 I2 rx ry q=>hr a b Z s2 Y H2 x y v u Q I2 rx ry q (hs _ _))
inductive xh(K:WY)(x:V)(y:V)(H:Hp)(Q:VK):Prop
 |mk (p:_) (xs:_) (i:_) (v:_) (Ci:x=.ref p) (Cj:y=.int i) (DA:SqL K H p xs) (Fy:atI xs i=A? v) (Ha:Q v H):xh K x y H Q
def aai(K:WY):R2:=xh K
inductive xn(K:WY)(x:V)(y:V)(H:Hp)(Q:VK):Prop
 |mk (p:_) (xs:_) (i:_) (v:_) (Ci:x=.ref p) (Cj:y=.int i) (DA:SqT K H p xs) (Fy:atI xs i=A? v) (Ha:Q v H):xn K x y H Q
def ii(K:WY):R2:=xn K
inductive xq(x:V)(y:V)(H:Hp)(Q:VK):Prop
 |mk (z:_) (i:_) (c:_) (Ci:x=.str z) (Cj:y=.int i) (DA:z.length<=Xj) (Fy:atI z.cps.toList i=A? c) (Ha:Q (.str ⟨#[c]⟩) H):xq  x y H Q
def aaj:R2:=xq
theorem aT:IxR X (aai X.K):=by
 intro value slice Z s Y H x y v u Q I rx ry h hs;obtain⟨p,xs,i,z,rfl,rfl,hq,he,q⟩:=h;cases rx;obtain⟨t,rfl⟩:=ry;obtain⟨its,r,pl,hz⟩:=I.list hq;obtain⟨j,h1,h2,h3,h4,h5⟩:=nR he;obtain⟨w,ew,DO⟩:=r.get h2;have hl:=r.length;have hn:=eL;have fin:EP X Z Y Q w s:=⟨z,H,I,DO,q⟩;by_cases h0:0<=i
 .have hj:i.toNat=j:=by
   rw[seqIndex_of h0 h5]at h1;exact Xl h1
  exact item_listR pl.isList h0 (by lia) (by rw[hj];simpa using ew) fin hs
 .have hj:(i+(its.toArray.size:Int)).toNat=j:=by
   rw[seqIndex_neg (by lia) h4]at h1;rw[W9,<-hl];exact Xl h1
  exact subscriptTail_builtinR (x:=w) pl.isList.typeIs slot_list_getitem.lookup
   (wpAny_getItem_list_neg (Q:=λr s'=>r=w/\EP X Z Y Q r s') pl.isList (by lia) (by rw[W9] <;> lia) (by lia) (by rw[hj];simpa using ew) ⟨rfl,fin⟩) hs
theorem aA:IxR X (ii X.K):=by
 intro value slice Z s Y H x y v u Q I rx ry h hs;obtain⟨p,xs,i,z,rfl,rfl,hq,he,q⟩:=h;cases rx;obtain⟨t,rfl⟩:=ry;obtain⟨its,r,pl,hz⟩:=I.tuple hq;obtain⟨j,h1,h2,h3,h4,h5⟩:=nR he;obtain⟨w,ew,DO⟩:=r.get h2;have hl:=r.length;have hn:=eL;have fin:EP X Z Y Q w s:=⟨z,H,I,DO,q⟩
 exact subscriptTail_builtinR (x:=w) pl.typeIs slot_tuple_getitem.lookup
  (getItem_tuple (j:=j) (Q:=λr s'=>r=w/\EP X Z Y Q r s') pl (by lia) (by lia) (by rw[W9,<-hl];exact h1) (by simpa using ew) ⟨rfl,fin⟩) hs
theorem uD:IxR X aaj:=by
 intro value slice Z s Y H x y v u Q I rx ry h hs;obtain⟨z,i,c,rfl,rfl,hz,he,q⟩:=h;obtain⟨t,rfl⟩:=rx;obtain⟨t',rfl⟩:=ry;obtain⟨j,h1,h2,h3,h4,h5⟩:=nR he;have hl:z.cps.toList.length=z.length:=by simp[Str.length]
 rw[hl]at h1 h4 h5;have hn:=eL
 exact tail_any (typeIs_str s z t) slot_str_getitem.lookup (getItem_str (c:=c) (by
  have e1:decide (i < -(2 ^ 63:Int))=false:=c! (by lia);have e2:decide (i >= 2 ^ 63)=false:=c! (by lia);rw[e1,e2,Bool.or_false]) (by rw[h1];simpa using h2) ⟨.str ⟨#[c]⟩,H,I.tok _,⟨_,rfl⟩,q⟩) hs
theorem qj(its:List WV)(n j:Nat)(u:WV):Zf (·.setIfInBounds j u) {cls:=.type "list",data:=.seq its.toArray n}={cls:=.type "list",data:=.seq (its.set j u).toArray n}:=by
 simp[Zf]
theorem Inv.lst{p:WS}(I:Inv X Z Y H s)(h:H p=A? (.lst xs)) :
 ∃(its:List WV)(n:Nat),Vals xs its/\s.1.get? p=A? {cls:=.type "list",data:=.seq its.toArray n}/\xs.length<=Xj:=by
 obtain⟨z,its,n,r,e⟩:=I.hok p _ h;exact⟨its,n,r,e,z⟩
theorem Inv.lstUpd{p:WS}{ys:List V}{its':List WV}{n':Nat}{f:YF->YF}(I:Inv X Z Y H s)(h:H p=A? (.lst xs))
 (ho:s.1.get? p=A? {cls:=.type "list",data:=.seq its.toArray n}) (hf:f {cls:=.type "list",data:=.seq its.toArray n}={cls:=.type "list",data:=.seq its'.toArray n'}) (r:Vals ys its') (hz:ys.length<=Xj) (t:Nat) :
 Inv X Z Y (upd H p (.lst ys)) {s with heap:=s.1.update p f,toks:=t}:=by
 have e:(s.1.update p f).get? p=A? {cls:=.type "list",data:=.seq its'.toArray n'}:=by
  rw[Ym f ho (by rw[hf] <;> rfl),hf]
 refine I.write (x:=p) (e:=p) (by rw[h];trivial) (.inl rfl) (λb u hb q=>(YD _ _ (Zb hb)).trans q) ⟨_,e⟩ ?_;exact⟨hz,its',n',r,e⟩
def zD:V->V->V->Hp->(Hp->Prop)->Prop:=λo i v H Q=>∃p xs k j,o=.ref p/\i=.int k/\H p=A? (.lst xs)/\ixN xs.length k=A? j/\Q (upd H p (.lst (xs.set j v)))
theorem set_list:zq X zD:=by
 intro Z s Y H o i v ov iv u Q I ro ri rv h;obtain⟨p,xs,k,j,rfl,rfl,hp,hj,q⟩:=h;cases ro;obtain⟨t,rfl⟩:=ri;obtain⟨its,n,r,ho,hz⟩:=I.lst hp;obtain⟨h1,h2,h3,h4⟩:=oM hj;have hl:=r.length;have hn:=eL
 have I':Inv X Z Y (upd H p (.lst (xs.set j v))) {s with heap:=s.1.update p (Zf (·.setIfInBounds j u))} :=
  I.lstUpd hp ho (qj its n j u) (r.set rv j) (by rw[List.length_set];exact hz) s.toks
 by_cases h0:0<=k
 .have hk:k.toNat=j:=by
   rw[seqIndex_of h0 h4]at h1;exact Xl h1
  exact PySem.W.ki_setAt ho h0 (by lia) (by rw[W9,<-hl];exact h4) (by rw[hk];exact⟨_,I',q⟩)
 .have hk:(k+(its.toArray.size:Int)).toNat=j:=by
   rw[seqIndex_neg (by lia) h3]at h1;rw[W9,<-hl];exact Xl h1
  exact PySem.W.ki_setBack ho (by lia) (by rw[W9,<-hl];exact h3) (by lia) (by rw[hk];exact⟨_,I',q⟩)
theorem ol(lo hi:Option Int)(n:Nat):(sliceBounds lo hi B? n).1=((u! n 0 lo:Nat):Int)/\(sliceBounds lo hi B? n).2.1=((u! n n hi:Nat):Int)/\(sliceBounds lo hi B? n).2.2=1:=by
 refine⟨?_,?_,D?⟩
 .cases lo with
  |none=>simp[sliceBounds,u!]
  | some i =>
    simp only[sliceBounds,u!,Option.getD_none,show(1:Int) > 0 by decide,if_true];by_cases h:i<0
    .simp only[h,if_true] <;> lia
    .simp only[h,if_false] <;> lia
 .cases hi with
  |none=>simp[sliceBounds,u!]
  | some i =>
    simp only[sliceBounds,u!,Option.getD_none,show(1:Int) > 0 by decide,if_true];by_cases h:i<0
    .simp only[h,if_true] <;> lia
    .simp only[h,if_false] <;> lia
theorem l8(its:List WV)(lo hi:Option Int):slicePick its.toArray lo hi B?=((its.drop (u! its.length 0 lo)).take (u! its.length its.length hi - u! its.length 0 lo)).toArray:=by
 obtain⟨h1,h2,h3⟩:=ol lo hi its.toArray.size;unfold slicePick;rw[h1,h2,h3];simp only[sliceRange_one,pick_run,W9] <;> rfl
inductive xy(K:WY)(x:V)(lo:Option Int)(hi:Option Int)(H:Hp)(Q:VK):Prop
 |mk (a:_) (xs:_) (Ci:x=.ref a) (Cj:SqL K H a xs) (DA:∀p,H p=B?->Q (.ref p) (upd H p (.lst (cJ xs lo hi)))):xy K x lo hi H Q
def aah(K:WY):V->Option Int->Option Int->Hp->VK->Prop:=xy K
theorem gz:SlR X (aah X.K):=by
 intro Z s Y H x v vl vu lo hi sl Q I rx hs pl pu h;obtain⟨a,xs,rfl,hx,q⟩:=h;cases rx;obtain⟨its,r,ht,hz⟩:=I.list hx;have hlen:=r.length;refine⟨"list",_,slot_list_getitem.lookup,ht.isList.typeIs,?_⟩;refine wpAny_getItem_list_slice ht.isList hs pl pu .none (by simp) ?_ (by rw[W9] <;> lia);rw[l8,<-hlen];refine⟨.ref s.1.1.size,_,I.laid (t':=s.toks) (o:=.lst (cJ xs lo hi)) (λb ob q=>WU _ q) (WX _) ?_,D?,q _ (I.hok.fresh (WX _))⟩;exact⟨Xh (ej xs lo hi) hz,_,0,(r.drop (u! xs.length 0 lo)).take (u! xs.length xs.length hi - u! xs.length 0 lo),W2 _ rfl⟩
inductive xi(K:WY)(xs:List V)(H:Hp)(Q:VK):Prop
 |mk (p:WS) (ys:List V) (Ci:xs=[.ref p]) (Cj:SqL K H p ys\/SqT K H p ys) (DA:Q (.int ys.length) H):xi K xs H Q
theorem aB:fQ X (.builtin "len") (xi X.K):=by
 intro Z s Y H xs us Q I r h;obtain⟨p,ys,rfl,hq,q⟩:=h;obtain⟨u,rfl,rx⟩:=vals1 r;cases rx;have hn:=eL;rcases hq with hq|hq
 .obtain⟨its,r',pl,hz⟩:=I.list hq;have hlen:=r'.length;exact Calls.call_len_list pl.isList (by simp only[W9] <;> lia) ⟨.int ys.length,H,I.tok _,⟨s.toks+1,by rw[W9,hlen]⟩,q⟩
 .obtain⟨its,r',pl,hz⟩:=I.tuple hq;have hlen:=r'.length;exact len_tuple pl (by simp only[W9] <;> lia) ⟨.int ys.length,H,I.tok _,⟨s.toks+1,by rw[W9,hlen]⟩,q⟩
theorem ip:fQ X (.builtin "len") (λxs H Q=>∃z,xs=[.str z]/\z.length<=Xj/\Q (.int z.length) H):=by
 intro Z s Y H xs us Q I r h;obtain⟨z,rfl,hz,q⟩:=h;obtain⟨u,rfl,t,rfl⟩:=vals1 r;have hn:=eL;exact len_str (by lia) ⟨.int z.length,H,I.tok _,⟨_,rfl⟩,q⟩
theorem aX:fQ X (.type "tuple") (λxs H Q=>∃p ys,xs=[.ref p]/\((SqL X.K H p ys/\∀l,H l=B?->Q (.ref l) (upd H l (.tup ys)))\/(SqT X.K H p ys/\Q (.ref p) H))):=by
 intro Z s Y H xs us Q I r h;obtain⟨p,ys,rfl,h⟩:=h;obtain⟨u,rfl,rx⟩:=vals1 r;cases rx;rcases h with⟨hq,q⟩|⟨hq,q⟩
 .obtain⟨its,r',pl,hz⟩:=I.list hq;have hlen:=r'.length;refine call_tuple_list pl.isList (λh' kp=>?_) (by simp only[W9] <;> lia);have I1:Inv X Z Y H {s with heap:=h'}:=I.kept (t':=s.toks) kp
  have I2:Inv X Z Y (upd H h'.objs.size (.tup ys)) {s with heap:=h'.push {cls:=.type "tuple",data:=.seq its.toArray}} :=
   I1.laid (t':=s.toks) (λb o e=>WU _ e) (WX _) (show ObjOk X.prog X.w _ _ _ (.tup ys)from⟨hz,its,0,r',W2 _ rfl⟩)
  exact⟨.ref h'.objs.size,_,I2,D?,q _ (I1.hok.fresh (WX _))⟩
 .obtain⟨its,r',pl,hz⟩:=I.tuple hq;exact call_tuple_same pl ⟨.ref p,H,I,rfl,q⟩
def tyV(K:WY)(T:String)(x:V)(H:Hp):Prop:=match x with
 |.str _=>T="str"
 |.int _=>T="int"
 |.ref p=>(T="list"/\∃xs,SqL K H p xs)\/(T="tuple"/\∃o,K.lookup p=A? o/\o.cls=.type "tuple"/\o.dict=B?) \/
  (T="dict"/\((∃kvs,H p=A? (.dK kvs))\/∃kvs,H p=A? (.dT kvs)))\/(T="set"/\∃S n,H p=A? (.set S n))
 |_=>False
theorem uj{T:String}{x:V}{v:WV}(I:Inv X Z Y H s)(r:RelV x v)(ty:tyV X.K T x H) :
 s.TypeIs v T/\∀a,v=.ref a->∃ob,s.1.get? a=A? ob/\ob.dict=none:=by
 cases x with
 | str z =>
   obtain⟨t,rfl⟩:=r;cases(show T="str" from ty);exact⟨typeIs_str s z t,λ_ e=>nomatch e⟩
 | int i =>
   obtain⟨t,rfl⟩:=r;cases(show T="int" from ty);exact⟨typeIs_int s i t,λ_ e=>nomatch e⟩
 | ref p =>
   cases r;rcases ty with⟨rfl,xs,hq⟩|⟨rfl,o,hk,hc,hd⟩|⟨rfl,hk⟩|⟨rfl,S,n,hk⟩
   .obtain⟨its,_,pl,_⟩:=I.list hq;refine⟨pl.isList.typeIs,λa e=>?_⟩;cases e;obtain⟨o,n,e,c,hd,_⟩:=pl;exact⟨o,e,hd⟩
   .refine⟨⟨o,I.kIn p o hk,hc⟩,λa e=>?_⟩;cases e;exact⟨o,I.kIn _ o hk,hd⟩
   .have z:∃o,s.1.get? p=A? o/\o.ExactDict:=by
     rcases hk with⟨kvs,hk⟩|⟨kvs,hk⟩
     .obtain⟨_,_,_,_,o,_,_,e,ex,_⟩:=I.hok p _ hk;exact⟨o,e,ex⟩
     .obtain⟨_,_,_,_,o,_,_,e,ex,_⟩:=I.hok p _ hk;exact⟨o,e,ex⟩
    obtain⟨o,e,ex⟩:=z;refine⟨⟨o,e,ex.1⟩,λa e2=>?_⟩;cases e2;exact⟨o,e,ex.2.1⟩
   .obtain⟨o,_,_,_,e,ex,_⟩:=I.hok p _ hk;refine⟨⟨o,e,ex.1⟩,λa e2=>?_⟩;cases e2;exact⟨o,e,ex.2.1⟩
 |_=>exact Yk ty
def yO(K:WY)(T:String)(r:V->List V->Hp->VK->Prop)(to:TE):TE:=λY H Q=>to Y H λx H1=>tyV K T x H1/\r x [] H1 Q
def tBM(K:WY)(T:String)(r:V->List V->Hp->VK->Prop)(to:TE)(t:TA):TE:=λY H Q=>to Y H λx H1=>tyV K T x H1/\t Y H1 λxs H2=>r x xs H2 Q
variable{o:X3}{es:List X3}{to:TE}{t:TA}{apos Az:Pos}{T id:String}{r:V->List V->Hp->VK->Prop}
theorem ox(pa:PlainAttrs T)(slot:Slot T name id)(Nz:typeOf (.builtin id)=pure (.type "method_descriptor"))(hm:MtR X id r)(ho:PE X o to)
 (A9:Z6 o name X.env (YS o X.env)=YS o X.env:=by rfl) (Bo:(apos.endLine == Az.line)=true:=by rfl):PE X (.Call (.Attribute o name apos) [] [] Az) (yO X.K T r to):=by
 intro Z s Y H Q I h;refine wpAny_Call_method0_late A9 Bo (thn (ho Z s Y H _ I h) λv s1⟨x,H1,I1,r1,ty,q1⟩=>?_);obtain⟨h1,h2⟩:=uj I1 r1 ty;exact⟨T,id,pa,slot,Nz,h1,h2,Calls.callWith_builtin rfl (PySem.evalArgs_none (hm Z s1 Y H1 x [] v [] Q I1 r1 .nil q1))⟩
theorem bC(pa:PlainAttrs T)(slot:Slot T name id)(Nz:typeOf (.builtin id)=pure (.type "method_descriptor"))(hm:MtR X id r)(ho:PE X o to)(ha:PA X (e::es) t)
 (A9:Z6 o name X.env (YS o X.env)=YS o X.env:=by rfl)
 (NA:((Z0 Az (XO (e::es) X.env)).all (λx=>!x.1) && (backToKw Az (keywordEach [] X.env)).all (λx=>x.1.isSome)
  && decide ((e::es).length+([]:List Keyword).length+(if([]:List Keyword).isEmpty then 0 else 1)<30))=true:=by rfl)
 (Bo:(apos.endLine == Az.line)=true:=by rfl) (hs:XO (e::es) X.env=(CG,YS e X.env)::XO es X.env:=by rfl) (Dd:(Z0 Az (XO es X.env)).any (·.1)=false:=by rfl) :
 PE X (.Call (.Attribute o name apos) (e::es) [] Az) (tBM X.K T r to t):=by
 intro Z s Y H Q I h;refine wpAny_Call_method_late A9 NA Bo rfl (thn (ho Z s Y H _ I h) λv s1⟨x,H1,I1,r1,ty,q1⟩=>?_);obtain⟨h1,h2⟩:=uj I1 r1 ty;refine⟨T,id,pa,slot,Nz,h1,h2,?_⟩;have hA:=ha Az Z s1 Y H1 _ I1 q1;rw[hs]at hA |-;refine Calls.callWith_builtin (by show(CG ||(Z0 Az (XO es X.env)).any (·.1))=CG;rw[Dd] <;> rfl) (Calls.evalArgs_plain ?_);exact thn hA λus s2⟨vs,H2,I2,r2,q2⟩=>hm Z s2 Y H2 x vs v us Q I2 r1 r2 q2
end
def MtM(X:Cx)(id:String)(r:V->List V->Hp->VK->Prop):Prop :=
 ∀(Z:List (WS×YF))(s:WZ)(Y:St)(H:Hp)(x:V)(xs:List V)(v:WV)(us:List WV)(Q:VK),Inv X Z Y H s->RelV x v->Vals xs us->r x xs H Q ->
   Xc (Xy X.prog X.w) X.A (call (.builtin id) (v::us)) (EP X Z Y Q) X.xe s
theorem Vals.one:∀{x:V}{us:List WV},Vals [x] us->∃u,us=[u]/\RelV x u
 |_,_,.cons r .nil=>⟨_,rfl,r⟩
theorem Vals.zero:∀{us:List WV},Vals [] us->us=[]
 |_,.nil=>rfl
theorem Vals.dropLast(h:Vals xs us):Vals xs.dropLast us.dropLast:=by
 induction h with
 |nil=>exact .nil
 | cons r t ih =>
   cases t with
   |nil=>exact .nil
   |cons q t'=>exact .cons r ih
theorem Vals.rep(h:Vals xs us):∀k:Nat,Vals (XY k xs).flatten (XY k us).flatten
 |0=>.nil
 | k+1=>by
   rw[Y9,Y9,List.flatten_cons,List.flatten_cons];exact Vals.append h (Vals.rep h k)
theorem qA(l:List α):l.eraseIdx (l.length - 1)=l.dropLast:=by
 induction l with
 |nil=>rfl
 | cons a r ih =>
   cases r with
   |nil=>rfl
   | cons b r =>
     have e:(a::b::r).length - 1=((b::r).length - 1)+1:=by
      have h1:(a::b::r).length=r.length+2:=rfl;have h2:(b::r).length=r.length+1:=rfl;lia
     rw[e,List.eraseIdx_cons_succ,ih]
     all_goals rfl
theorem foldl_rep(its:List WV):∀(k:Nat)(acc:List WV),
 List.foldl (λx1 x2=>x1++x2) acc.toArray (XY k its.toArray)=(acc++(XY k its).flatten).toArray
 |0,acc=>by simp
 | k+1,acc=>by
   have e:acc.toArray++its.toArray=(acc++its).toArray:=by simp
   have e2:(acc++its)++(XY k its).flatten=acc++(XY (k+1) its).flatten:=by
    rw[Y9,List.flatten_cons,YN]
   rw[<-e2,<-foldl_rep its k (acc++its),<-e,Y9,List.foldl_cons]
section
variable{X:Cx}{ys zs:List V}
theorem Inv.lset{its':List WV}{f:Array WV->Array WV}(I:Inv X Z Y H s)(hH:H l=A? (.lst xs))
 (e:s.1.get? l=A? {cls:=.type "list",data:=.seq its.toArray n}) (hf:f its.toArray=its'.toArray) (hv:Vals ys its') (hz:ys.length<=Xj) :
 Inv X Z Y (upd H l (.lst ys)) {s with heap:=s.1.update l (Zf f),toks:=t'}:=by
 have q:=PySem.IsL.update e f;rw[hf]at q;refine I.write (x:=l) (e:=l) (by rw[hH];exact trivial) (.inl rfl) (λb' u hb hu=>(YD s.1 (Zf f) (Zb hb)).trans hu) ⟨_,q⟩ ?_;exact⟨hz,its',_,hv,q⟩
theorem Inv.lnew(I:Inv X Z Y H s)(hv:Vals ys its)(hz:ys.length<=Xj) :
 Inv X Z Y (upd H s.1.1.size (.lst ys)) {s with heap:=s.1.push {cls:=.type "list",data:=.seq its.toArray},toks:=t'} :=
 I.laid (λ_ _ q=>WU _ q) (WX _) ⟨hz,its,0,hv,W2 _ rfl⟩
theorem Inv.fresh(I:Inv X Z Y H s):H s.1.1.size=none:=I.hok.fresh (WX _)
theorem Inv.lstM(I:Inv X Z Y H s)(hH:H l=A? (.lst xs)):xs.length<=Xj/\∃(its:List WV)(n:Nat),Vals xs its/\xs.length=its.length/\s.1.get? l=A? {cls:=.type "list",data:=.seq its.toArray n}:=by
 obtain⟨z,its,n,r,e⟩:=I.hok l _ hH;exact⟨z,its,n,r,r.length,e⟩
theorem kc(h:n<=Xj):Y6 n=false:=by
 unfold Y6;exact c! (by lia)
end
section
variable{X:Cx}
inductive pM(x:V)(vs:List V)(H:Hp)(Q:VK):Prop
 |mk (l:_) (xs:_) (y:_) (Ci:x=.ref l) (Cj:vs=[y]) (DA:H l=A? (.lst xs)) (Fy:xs.length<Xj) (Ha:Q .non (upd H l (.lst (xs++[y])))):pM  x vs H Q
def wP:V->List V->Hp->VK->Prop:=pM
theorem aK:MtM X "list.append" wP:=by
 intro Z s Y H x vs v us Q I rx rv h;obtain⟨l,xs,y,rfl,rfl,hH,hz,q⟩:=h;cases rx;obtain⟨u,rfl,ru⟩:=rv.one;obtain⟨z,its,n,r,hl,e⟩:=I.lstM hH;refine call_meets F.slot_list_append ⟨_,e,rfl⟩ F.entry_list_append (F.args_list_append_2 _ _) (PySem.list_append l its.toArray n u (by rw[W9];lia)) ⟨e,?_⟩;refine⟨.non,_,I.lset (its':=its++[u]) hH e (by simp) (r.append (.cons ru .nil)) ?_,D?,q⟩;rw[W7,YE];lia
inductive pd(x:V)(vs:List V)(H:Hp)(Q:VK):Prop
 |mk (l:_) (b:_) (xs:_) (zs:_) (Ci:x=.ref l) (Cj:vs=[.ref b]) (DA:H l=A? (.lst xs)) (Fy:H b=A? (.lst zs)) (Ha:xs.length+zs.length<=Xj) (Ra:Q .non (upd H l (.lst (xs++zs)))):pd  x vs H Q
def wV:V->List V->Hp->VK->Prop:=pd
theorem nh:MtM X "list.extend" wV:=by
 intro Z s Y H x vs v us Q I rx rv h;obtain⟨l,b,xs,zs,rfl,rfl,hH,hB,hz,q⟩:=h;cases rx;obtain⟨u,rfl,ru⟩:=rv.one;cases ru;obtain⟨z,its,n,r,hl,e⟩:=I.lstM hH;obtain⟨z2,An,n2,r2,Bb,e2⟩:=I.lstM hB;have hsz:its.toArray.size+An.toArray.size<=Xj:=by rw[W9,W9];lia
 have CI:¬(!its.toArray.isEmpty && Y6 (its.toArray.size+An.toArray.size))=true:=by
  rw[kc hsz,Bool.and_false];exact Xm
 refine call_meets F.slot_list_extend ⟨_,e,rfl⟩ F.entry_list_extend (F.args_list_extend_2 _ _)
  (AutoSeq1.list_extend_list_list_0 l its.toArray n b An.toArray n2 CI (by rw[W9];lia) (by lia)) ⟨e,e2,?_⟩
 refine⟨.non,_,I.lset (its':=its++An) hH e (by simp) (r.append r2) ?_,D?,q⟩;rw[W7];lia
inductive xw(x:V)(vs:List V)(H:Hp)(Q:VK):Prop
 |mk (l:_) (xs:_) (y:_) (Ci:x=.ref l) (Cj:vs=[]) (DA:H l=A? (.lst xs)) (Fy:xs[xs.length - 1]?=A? y) (Ha:Q y (upd H l (.lst xs.dropLast))):xw  x vs H Q
def yQ:V->List V->Hp->VK->Prop:=xw
theorem nO:MtM X "list.pop" yQ:=by
 intro Z s Y H x vs v us Q I rx rv h;obtain⟨l,xs,y,rfl,rfl,hH,hy,q⟩:=h;cases rx;have DQ:=rv.zero;subst DQ;obtain⟨z,its,n,r,hl,e⟩:=I.lstM hH;obtain⟨u,hu,ru⟩:=r.get hy
 have De:its.toArray[its.toArray.size - 1]?=A? u:=by
  show its.toArray[its.length - 1]?=A? u;rw[<-ZU,<-hl];exact hu
 refine call_meets F.slot_list_pop ⟨_,e,rfl⟩ F.entry_list_pop (F.args_list_pop_1 _) (MeetsSeq.list_pop_last l its.toArray n u De (by rw[W9];lia)) ⟨e,?_⟩;refine⟨y,_,I.lset (its':=its.dropLast) hH e ?_ r.dropLast ?_,ru,q⟩
 .show its.toArray.eraseIdxIfInBounds (its.toArray.size - 1)=its.dropLast.toArray;rw[W9,List.eraseIdxIfInBounds_toArray,qA]
 .rw[List.length_dropLast];lia
inductive xA(x:V)(y:V)(H:Hp)(Q:VK):Prop
 |mk (l:_) (b:_) (xs:_) (zs:_) (Ci:x=.ref l) (Cj:y=.ref b) (DA:H l=A? (.lst xs)) (Fy:H b=A? (.lst zs)) (Ha:xs.length+zs.length<=Xj) (Ra:∀p,H p=B?->Q (.ref p) (upd H p (.lst (xs++zs)))):xA  x y H Q
def zY:R2:=xA
theorem hX:OpR X (ZC .Add) zY:=by
 intro Z s Y H x y v u Q I rx ry h;obtain⟨l,b,xs,zs,rfl,rfl,hH,hB,hz,q⟩:=h;cases rx;cases ry;obtain⟨z,its,n,r,hl,e⟩:=I.lstM hH;obtain⟨z2,An,n2,r2,Bb,e2⟩:=I.lstM hB;refine PySem.P.add_list e e2 ?_ (by rw[W9,W9];lia);have ea:its.toArray++An.toArray=(its++An).toArray:=by simp
 rw[ea];exact⟨.ref _,_,I.lnew (t':=s.toks) (r.append r2) (by rw[W7];lia),D?,q _ I.fresh⟩
def zL:R2:=λx y H Q=>∃l k xs,x=.ref l/\y=.int k/\H l=A? (.lst xs)/\-(2 ^ 63)<=k/\k<2 ^ 63/\xs.length * k.toNat<=Xj /\
 ∀p,H p=B?->Q (.ref p) (upd H p (.lst (XY k.toNat xs).flatten))
theorem len_rep(xs:List α)(k:Nat):(XY k xs).flatten.length=k * xs.length:=by
 induction k with
 |zero=>simp
 |succ k ih=>rw[Y9,List.flatten_cons,W7,ih,Nat.succ_mul,Nat.add_comm]
theorem yo:OpR X (ZC .Mult) zL:=by
 intro Z s Y H x y v u Q I rx ry h;obtain⟨l,k,xs,rfl,rfl,hH,h1,h2,hz,q⟩:=h;cases rx;obtain⟨t,rfl⟩:=ry;obtain⟨z,its,n,r,hl,e⟩:=I.lstM hH;have hlen:its.toArray.size * k.toNat<=Xj:=by rw[W9,<-hl];exact hz
 have NB:¬its.toArray.size * k.toNat > (2 ^ 63 - 1) / 8:=by
  have:(Xj:Nat)<=(2 ^ 63 - 1) / 8:=by decide
  lia
 have Ah:¬(!Builtin.List.listFitsIndex k)=true:=by
  rw[fitsIndex_both h1 h2];exact Xm
 have CI:¬Y6 (its.toArray.size * k.toNat)=true:=by
  rw[kc hlen];exact Xm
 have Hb:List.foldl (λx1 x2=>x1++x2) #[] (XY (if its.toArray.isEmpty=C? then 0 else k.toNat) its.toArray)=(XY k.toNat its).flatten.toArray:=by
  have f0:∀m:Nat,List.foldl (λx1 x2=>x1++x2) #[] (XY m its.toArray)=(XY m its).flatten.toArray:=λm=>by
   have:=foldl_rep its m [];rw[List.nil_append]at this;exact this
  rw[f0];cases its with
  |nil=>simp
  |cons a r'=>rw[a! (by simp)]
 refine wpAny_binaryOp_repeat_ref (T:="list") (U:="int") (by decide) ⟨_,e,rfl⟩ (λs'=>typeIs_int s' k t) noFill_list_mul F.fills_int_mul F.slot_int_rmul repeat_list F.slot_int_index.lookup
  (call_meets F.slot_int_rmul (typeIs_int s k t) F.entry_int_rmul (F.args_int_rmul_2 _ _) (int___rmul___int_list k t l its.toArray n)
   ⟨e,rfl,⟨_,e,rfl⟩,call_meets F.slot_list_mul ⟨_,e,rfl⟩ F.entry_list_mul (F.args_list_mul_2 _ _) (AutoListH.list___mul___list_int_3 l its.toArray n k t Ah NB CI) ⟨e,?_⟩⟩)
 rw[Hb];exact⟨.ref _,_,I.lnew (t':=s.toks) (r.rep k.toNat) (by rw[len_rep,Nat.mul_comm];exact hz),D?,q _ I.fresh⟩
end
section
variable{X:Cx}
end
end L2
namespace Att
open PySem PySem.W PySem.Calls PyProof.Rows
theorem ints_of_wellAll{P:Params}:∀(ns:List Int)(vs:List WV),WellAll P h vs (ns.map WData.int)->IntsAre vs ns:=by
 intro ns;induction ns with
 | nil =>
   intro vs w;rw[YM]at w;cases w;exact .nil
 | cons n ns ih =>
   intro vs w;rw[XC]at w;cases w with
   | cons a b =>
     cases a;exact .cons _ _ (ih _ b)
theorem script_of{l:OpenLaw}(hn:l.most=A? n){P:Params}{args:List WData}{vals:List WV}
 (Df:l.row.toRowW.claim.pre args=C?) (DR:WellAll P h vals args) :
 ∃a vs ns,vals=[XG a]/\args=[WData.list (ns.map WData.int)]/\h.get? a=A? {cls:=.type "list",data:=.seq vs.toArray}/\IntsAre vs ns/\ns.length<=n:=by
 have To:WShape.hasAll [] args [.list .int]=true:=(pre_splitW Df).1;have hc:l.pre.holds [] {args:=args}=true:=(pre_splitW Df).2;obtain⟨d,r,rfl,h1,h2⟩:=hasAllW_cons To;obtain rfl:=hasAllW_nil h2;obtain⟨xs,rfl,h3⟩:=hasW_list h1;obtain⟨ns,rfl⟩:=items_int h3
 have hlen:ns.length<=n:=by
  unfold OpenLaw.pre at hc
  have h4:(WTm.not (.lt (.lit (.int (n:Int))) (.len (.arg 0)))).holds [] {args:=[.list (ns.map .int)]}=true:=by
   have h4:=(holds_andW hc).1;rw[hn]at h4;exact h4
  have h5:=condW_of h4 (w_not (w_lt w_lit (w_len_list (w_arg rfl))));rw[WO]at h5;refine Nat.le_of_not_lt λq=>?_;have q':(n:Int)<((ns.length:Nat):Int):=by lia
  first
   |(rw[d! q']at h5;exact g! h5 (by decide))
   |(simp at h5;lia)
 cases DR with
 | cons w1 w2 =>
   cases w2;cases w1 with
   |list ho Ag=>exact⟨_,_,ns,D?,D?,ho,ints_of_wellAll ns _ Ag,hlen⟩
theorem post_true(l:OpenLaw)(args:List WData):l.row.toRowW.claim.post args (.bool C?) args=C? :=
 postW_of (r:=l.row.toRowW) (X:=(C? == C?))
  (show WShape.has [] (.bool C?) .bool=C? by first|rfl|decide|simp[WShape.has,WShape.arms,WShape.armsAll])
  (show(WTm.eq .res (.lit (.bool C?))).value [] {args:=args,res:=A? (.bool C?),after:=args}=A? (.bool (C? == C?))from w_eq_bool (w_res rfl) w_lit) rfl
theorem attach_call{l:OpenLaw}{q:Xe}{d:DefRec}
 (hn:l.most=A? n) (hdf:d.params.defaults=[])
 (call:∀(w:Xv)(s₀ Af:WZ)(mg mb:Xk->Option WV)(fa:WS)(o:YF)(pm cd doc:WV)(a:WS)(vs:List WV)(ns:List Int),
  Ground q loose [] XP w s₀ mg mb Af.heap->YP w Af.heap ->
  Af.heap.get? fa=A? o->o.data=.func (docDef d.name d.params d.body d.scope pm cd doc)->Af.heap.CodeRec cd d.name->mg d.name=A? (.ref fa) ->
  Af.heap.get? a=A? {cls:=.type "list",data:=.seq vs.toArray}->IntsAre vs ns->ns.length<=n->Af.gens=#[] ->
  codeAny (Xy l.prog w) callerA (.call (.ref fa) ⟨[.ref a],[]⟩) (λr s'=>r=.ok (.ret (.bool C?))/\OldK Af.heap s'.1/\s'.os=Af.os/\AllBare s'.gens) Af) :
 WalkO q loose XP YP l.row.toRowW d [] (λf vs=>PySem.call f vs):=by
 intro w s₀ Af mg mb G Y fa o pm cd doc dV kV ho hd Co hD NC hg args vals as Df Tp Ja DR Rb;obtain rfl:dV=.none:=Dflts.none hD hdf;obtain rfl:kV=.none:=Dflts.noKw hD;obtain⟨a,vs,ns,rfl,rfl,Hc,hints,hlen⟩:=script_of hn Df DR;refine enter_call (codeAny_mono (call w s₀ Af mg mb fa o pm cd doc a vs ns G Y ho (fd_plain hd) Co NC Hc hints hlen hg) λr s' hq=>?_);obtain⟨rfl,h2,h3,h4⟩:=hq;exact⟨.inl ⟨.bool C?,.bool C?,[],D?,λ_=>rfl,.bool C?,post_true l _,λ_=>⟨List.Pairwise.nil,λ_ hm=>(nomatch hm)⟩⟩,h2,h3,h4⟩
section
variable{K:Frag}
end
end Att
namespace L2
open PySem PySem.Spec PyProof.Rows
theorem nH:∀{vs:List WV}{ns:List Int},IntsAre vs ns->Vals (ns.map o!) vs
 |_,_,.nil=>.nil
 |_,_,.cons n t h=>.cons ⟨t,rfl⟩ (nH h)
def inClass(s:Z4)(j:Nat):Z4:=match s with
 |.ClassDef _ _ _ body _ _ _ _ _ _ _=>body.getD j (.Pass ⟨0,0,0,0⟩)
 |_=>.Pass ⟨0,0,0,0⟩
def ck(s:Z4):Arguments:=match s with
 |.FunctionDef _ a _ _ _ _ _ _ _ _=>a
 |_=>{posonlyargs:=[],args:=[],vararg:=B?,kwonlyargs:=[],kw_defaults:=[],kwarg:=B?,defaults:=[]}
def bI(s:Z4):List Z4:=match s with
 |.FunctionDef _ _ b _ _ _ _ _ _ _=>b
 |_=>[]
def aI(s:Z4):ZD:=match s with
 |.FunctionDef _ _ _ _ _ _ sc _ _ _=>sc
 |_=>{kind:=.function,names:=[],isGenerator:=CG,isCoroutine:=CG}
abbrev CX0:CXT:=λ_ _ _ _ _ _=>False
abbrev E0:XK:=λ_ _ _=>False
theorem cP{X:Cx}:Passes CX0 X E0:=λ_ _ _ _ _ _ _ h=>h.elim
structure Fun(K:WY)(x qual:Xk)(st:Z4)(f:WS)(fd:Za):Prop where
 ex:∃(oc:WV)(od:Option WS)(kV doc pm:WV)(an:Option WS)(Ak ct:WV)(Es:Array (Option WV)),
  fd=Z8 x qual (ck st) (bI st) (aI st) .none kV doc pm an Ak ct/\K.lookup f=A? ⟨oc,od,.func fd,Es⟩/\PySem.W.codeIn K Ak qual=C?
 kp:ZE K (.ref f)=C?
theorem Fun.ok{k:Nat}(F:Fun K x qual st f fd)(S:cQ N ps (aI st))(len:∀vs H Q E,sp vs H Q E->vs.length=ps.length)
 (Bm:∀(Ak:WV)(A:XF)(outer:List Env)(s:WZ)(H:Hp)(vs:List V)(Q:VK)(E:XK),Room k (A.deeper (envOfC qual (aI st) s.1.1.size f Ak))->sp vs H Q E ->
  ∃t,PSs (pf CX0 P w K mg base N qual (aI st) f Ak A outer s H E).nox (bI st) t/\t {nx:=λ_ H'=>Q .non H',rt:=Q} (start N vs) H):FnOk P w K mg base CX0 (k+1) f fd ps sp:=by
 obtain⟨oc,od,kV,doc,pm,an,Ak,ct,Es,rfl,lk,Co⟩:=F.ex;refine xb lk Co S len λA outer s H vs Q E hr B7=>?_;obtain⟨t,h,q⟩:=Bm Ak A outer s H vs Q E hr B7;exact⟨t,h.nox,q⟩
theorem Fun.okA{k:Nat}(F:Fun K x qual st f fd)(S:cQ N ps (aI st))
 (Bm:∀(Ak:WV)(A:XF)(outer:List Env)(s:WZ)(H:Hp)(vs:List V)(Q:VK)(E:XK),Room k (A.deeper (envOfC qual (aI st) s.1.1.size f Ak))->sp vs H Q E ->
  ∃t,PSs (pf CX0 P w K mg base N qual (aI st) f Ak A outer s H E).nox (bI st) t/\t {nx:=λ_ H'=>Q .non H',rt:=Q} (start N vs) H) (len:∀vs H Q E,sp vs H Q E->vs.length=ps.length:=by intro _ _ _ _ h;cases h;subst_vars;rfl):FnOk P w K mg base CX0 (k+1) f fd ps sp:=F.ok S len Bm
theorem pgN{X:Cx}(i:Nat)(hN:X.N.Nodup)(hi:X.N[i]?=A? x:=by rfl)(hx:Loc X.env.scope x:=by first|exact .inl rfl|exact .inr rfl)(hf:X.fn x=C?\/X.env.scope.names.lookup x=A? .local:=by first|exact .inl rfl|exact .inr rfl|assumption):PG X (.Name x pos) (az i):=wA hN hi hx hf
theorem ao{X:Cx}(i:Nat)(hN:X.N.Nodup)(he:PE X e te)(hi:X.N[i]?=A? x:=by rfl)(hx:Loc X.env.scope x:=by first|exact .inl rfl|exact .inr rfl)(hs:swapsWith e (A? (.Name x pos')) pos.line X.env=pure false:=by rfl)(hf:X.fn x=C?\/X.env.scope.names.lookup x=A? .local:=by first|exact .inl rfl|exact .inr rfl|assumption):PS X (.Assign [.Name x pos'] e pos) (wg te (az i)):=yG hN hi hx he hs hf
theorem Fun.binds(F:Fun K x qual st f fd)
 (h:∀(kV doc pm:WV)(an:Option WS)(Ak ct:WV)(us:List WV),us.length=ps.length->bindArgs (Z8 x qual (ck st) (bI st) (aI st) .none kV doc pm an Ak ct) ⟨us,[]⟩=pure (ps.zip us)):Binds K fd ps []:=by
 obtain⟨oc,od,kV,doc,pm,an,Ak,ct,Es,rfl,lk,Co⟩:=F.ex;exact .all (h kV doc pm an Ak ct)
theorem kC{an:Option WS}{Es:Array (Option WV)}{kV doc pm Ak ct:WV}(l:K.lookup f=A? ⟨oc,od,.func (Z8 x qual (ck st) (bI st) (aI st) .none kV doc pm an Ak ct),Es⟩)
 (c:PySem.W.codeIn K Ak qual=C?) (k:ZE K (.ref f)=C?):Fun K x qual st f (Z8 x qual (ck st) (bI st) (aI st) .none kV doc pm an Ak ct):=⟨⟨oc,od,kV,doc,pm,an,Ak,ct,Es,rfl,l,c⟩,k⟩
theorem di{k:Nat}(hr:Room k A):A.units+1<YJ:=Nat.lt_of_le_of_lt (Nat.add_le_add_left (by decide:1<=64) _) hr.units
section
variable{X:Cx}
theorem pv(i:Nat)(hN:X.N[i]?=A? x:=by rfl)(hv:Vis X.env.scope x:=by first|exact Or.inl rfl|exact Or.inr (Or.inl rfl)|exact Or.inr (Or.inr rfl))(hd:(x == ("__debug__":Xk))=false:=by decide)
 (Co:(x == ("__classdict__":Xk))=false:=by decide):PE X (.Name x pos) (aZ i):=uY hN hv hd Co
end
theorem qg{A B:Prop}(h:B):if CG=C? then A else B:=by
 rw[a! Xm];exact h
theorem qx{A B:Prop}(h:A):if C?=C? then A else B:=by
 rw[b! rfl];exact h
theorem dA{c A B:Prop}[Decidable c](h1:c->A)(h2:¬c->B):if c then A else B:=by
 by_cases h:c
 .rw[b! h];exact h1 h
 .rw[a! h];exact h2 h
def Same(H H':Hp):Prop:=∀b o,H b=A? o->H' b=A? o
theorem Same.refl(H:Hp):Same H H:=λ_ _ h=>h
theorem Same.trans(a:Same H H1)(b:Same H1 H2):Same H H2:=λc o h=>b c o (a c o h)
theorem Same.free(e:Same H H')(h:H' l=Option.none):H l=Option.none:=by
 cases q:H l with
 |none=>rfl
 | some o =>
   rw[e l o q]at h;cases h
theorem Same.seq(e:Same H H')(h:SqL K H a xs):SqL K H' a xs:=by
 rcases h with(h|⟨o,h⟩)|h
 .exact .inl (.inl (e _ _ h))
 .exact .inl (.inr ⟨o,e _ _ h⟩)
 .exact .inr h
theorem g7(env:Env):∀(ns:List (Xk×Zl))(acc:List (Xk×WS)),(∀n,(n,Yh)∈ns->∃c,env.cells.lookup n=A? c) ->
 (∀x c,acc.lookup x=A? c->env.cells.lookup x=A? c) ->
 ∃cl,(forIn ns acc λ(x:Xk×Zl)(cs:List (Xk×WS))=>(if(x.2 == Yh)=C? then(do let a <-cellOf env x.1;pure (Zq ((x.1,a)::cs)))else pure (Zq cs):Sem _))=pure cl /\
   (∀x c,cl.lookup x=A? c->env.cells.lookup x=A? c)/\(∀n,(n,Yh)∈ns->∃c,cl.lookup n=A? c)/\∀n c,acc.lookup n=A? c->cl.lookup n=A? c
 | [],acc,_,ha=>⟨acc,rfl,ha,λ_ h=>by simp at h,λ_ _ h=>h⟩
 | (n,k)::r,acc,hf,ha=>by
   by_cases hk:k=Yh
   .subst hk;obtain⟨c,hc⟩:=hf n W4
    have Tq:∀x c',((n,c)::acc).lookup x=A? c'->env.cells.lookup x=A? c':=λx c' e=>by
     rw[Yt]at e;cases hx:x == n with
     | true =>
       rw[hx]at e;have e1:x=n:=by simpa using hx
       cases e;rw[e1];exact hc
     |false=>rw[hx]at e;exact ha x c' e
    obtain⟨cl,h1,h2,h3,h4⟩:=g7 env r ((n,c)::acc) (λm hm=>hf m (WT _ hm)) Tq;have up:∀m c',((n,c)::acc).lookup m=A? c'->cl.lookup m=A? c':=h4;refine⟨cl,?_,h2,?_,?_⟩
    .rw[List.forIn_cons];have e0:cellOf env n=pure c:=by unfold cellOf;rw[hc]
     simp only[beq_self_eq_true,if_true,e0,pure_bind];exact h1
    .intro m hm;rcases W6.mp hm with e|e
     .have:m=n:=by simpa using(Prod.mk.inj e).1
      subst this;exact⟨c,up m c (by rw[Yt];simp)⟩
     .exact h3 m e
    .intro m c' e;by_cases hm:m=n
     .subst hm;have:=ha m c' e;rw[hc]at this;cases this;exact up m c (by rw[Yt];simp)
     .have Tr:(m == n)=false:=by simpa using hm
      exact up m c' (by rw[Yt,Tr];exact e)
   .have hb:(k == Yh)=false:=by simpa using hk
    obtain⟨cl,h1,h2,h3,h4⟩:=g7 env r acc (λm hm=>hf m (WT _ hm)) ha;refine⟨cl,?_,h2,?_,h4⟩
    .rw[List.forIn_cons];simp only[hb,X6,if_false,pure_bind];exact h1
    .intro m hm;rcases W6.mp hm with e|e
     .exact g! (Prod.mk.inj e).2.symm hk
     .exact h3 m e
theorem lq(hf:∀n,(n,Yh)∈sc.names->∃c,env.cells.lookup n=A? c) :
 ∃cl,closureFor sc env=pure cl/\(∀x c,cl.lookup x=A? c->env.cells.lookup x=A? c)/\∀n,(n,Yh)∈sc.names->∃c,cl.lookup n=A? c:=by
 obtain⟨cl,h1,h2,h3,_⟩:=g7 env sc.names [] hf (λx c e=>by simp at e);refine⟨cl,?_,h2,h3⟩;unfold closureFor;have e:(forIn sc.names ([]:List (Xk×WS)) λ(x:Xk×Zl)(cs:List (Xk×WS))=>(do if(x.2 == Yh)=C? then(do let a <-cellOf env x.1;pure (Zq ((x.1,a)::cs)))else pure (Zq cs):Sem _))=pure cl:=h1
 first
  |(rw[show(forIn sc.names ([]:List (Xk×WS)) _:Sem _)=pure cl from h1];rfl)
  |(simp only[h1,pure_bind])
theorem kI{f:Xk×Zl->Xk×Zl}(hf:∀p,(f p).1=p.1):∀{l:List (Xk×Zl)}{x:Xk}{k:Zl},l.lookup x=A? k->(l.map f).lookup x=A? (f (x,k)).2
 | [],_,_,h=>by simp at h
 | (n,k0)::r,x,k,h=>by
   have ih:=@kI f hf r x k;rw[XC];obtain⟨a,b,e⟩:∃a b,f (n,k0)=(a,b):=⟨_,_,rfl⟩;have ea:a=n:=by have:=hf (n,k0);rw[e]at this;exact this
   subst ea;rw[e,Yt];cases hx:x == a with
   | true =>
     rw[Yt,hx]at h;cases h;have:x=a:=by simpa using hx
     subst this;rw[e]
   |false=>rw[Yt,hx]at h;exact ih h
theorem eN{f:Xk×Zl->Xk×Zl}(hf:∀p,(f p).1=p.1):∀{l:List (Xk×Zl)}{x:Xk}{k:Zl},(l.map f).lookup x=A? k->∃k0,(x,k0)∈l/\(f (x,k0)).2=k
 | [],_,_,h=>by simp at h
 | (n,k0)::r,x,k,h=>by
   have ih:=@eN f hf r x k;rw[XC]at h;obtain⟨a,b,e⟩:∃a b,f (n,k0)=(a,b):=⟨_,_,rfl⟩;have ea:a=n:=by have:=hf (n,k0);rw[e]at this;exact this
   subst ea;rw[e,Yt]at h;cases hx:x == a with
   | true =>
     rw[hx]at h;cases h;have:x=a:=by simpa using hx
     subst this;exact⟨k0,W4,by rw[e]⟩
   | false =>
     rw[hx]at h;obtain⟨k1,h1,h2⟩:=ih h;exact⟨k1,WT _ h1,h2⟩
def rlb(env:Env)(p:Xk×Zl):Xk×Zl:=if(p.2 == Yh && env.scope.kind == .function && env.kindOf p.1 == A? .cell)then(p.1,NameKind.cell)else(p.1,p.2)
theorem n9(env:Env)(p:Xk×Zl):(rlb env p).1=p.1:=by unfold rlb;split <;> rfl
theorem gJ(sc:ZD)(env:Env):(relabel sc env).names=sc.names.map (rlb env):=rfl
theorem iM(h:sc.names.lookup x=A? .free):(relabel sc env).names.lookup x=A? .cell\/(relabel sc env).names.lookup x=A? .free:=by
 rw[gJ,kI (n9 env) h];unfold rlb;split
 .exact .inl rfl
 .exact .inr rfl
theorem lY(hn:∀y∈sc.names,y.2≠NameKind.cell)(h:(relabel sc env).names.lookup x=A? .cell\/(relabel sc env).names.lookup x=A? .free):(x,Yh)∈sc.names:=by
 rw[gJ]at h
 have:∃k0,(x,k0)∈sc.names/\((rlb env (x,k0)).2=.cell\/(rlb env (x,k0)).2=.free):=by
  rcases h with h|h
  .obtain⟨k0,a,b⟩:=eN (n9 env) h;exact⟨k0,a,.inl b⟩
  .obtain⟨k0,a,b⟩:=eN (n9 env) h;exact⟨k0,a,.inr b⟩
 obtain⟨k0,hm,hk⟩:=this;have nc:=hn _ hm;cases k0 with
 |free=>exact hm
 |cell=>exact g! rfl nc
 |_=>simp[rlb]at hk
def bV(X:Cx)(N:List Xk)(sc:ZD)(cl:List (Xk×WS))(C:WS)(s:WZ)(H:Hp)(fp:List WS)(Z:List (WS×YF)):Cx :=
 {X with N:=N,s₀:=s,H₀:=H,env:=compEnvC sc cl C X.env,outer:=X.stack,ex:=fp,fn:=λ_=>CG,pn:=X.pn++Z,xe:=λ_ _=>False}
def cσ(js:List (Option Nat))(Y:St):St:=js.map λo=>o.bind λj=>(Y[j]?).join
structure fc(X:Cx)(sc:ZD)(N:List Xk)(js:List (Option Nat)):Prop where
 kind:sc.kind=.function
 nocell:∀y∈sc.names,y.2≠NameKind.cell
 names:∀y∈sc.names,y.2=NameKind.local->sc.names.lookup y.1=A? .local
 frees:∀y∈sc.names,y.2=Yh->X.env.kindOf y.1=A? .cell\/X.env.kindOf y.1=A? .free
 len:js.length=N.length
 slots:∀(i j:Nat)(x:Xk),js[i]?=A? (A? j)->N[i]?=A? x->X.N[j]?=A? x/\sc.names.lookup x=A? .free/\(X.env.kindOf x=A? .cell\/X.env.kindOf x=A? .free)
theorem bU{X:Cx}(k:sc.kind=.function)(nc:∀y∈sc.names,y.2≠NameKind.cell)(nm:∀y∈sc.names,y.2=NameKind.local->sc.names.lookup y.1=A? .local)
 (fr:(sc.names.all λy=>y.2 != Yh ||X.env.kindOf y.1 == A? NameKind.cell ||X.env.kindOf y.1 == A? Yh)=C?) (ln:js.length=N.length)
 (sl:((js.zip N).all λp=>match p.1 with|none=>C?|some j=>X.N[j]? == A? p.2 && sc.names.lookup p.2 == A? Yh && (X.env.kindOf p.2 == A? NameKind.cell ||X.env.kindOf p.2 == A? Yh))=C?):fc X sc N js:=by
 refine⟨k,nc,nm,λy hy hf=>?_,ln,λi j x e1 e2=>?_⟩
 .have h:=List.all_eq_true.mp fr y hy;rw[hf]at h;simpa using h
 .have hm:(A? j,x)∈js.zip N:=by
   have:(js.zip N)[i]?=A? (A? j,x):=by rw[YQ];exact⟨e1,e2⟩
   exact WR this
  have h:=List.all_eq_true.mp sl _ hm;simp at h;exact⟨h.1.1,h.1.2,h.2⟩
def PTs(X:Cx)(ifs:List X3)(t:TT):Prop :=
 ∀(Z:List (WS×YF))(s:WZ)(Y:St)(H:Hp)(Q:Bool->Hp->Prop),Inv X Z Y H s->t Y H Q ->
   Xc (Xy X.prog X.w) X.A (forIn ifs C? λc r=>if r=C? then do let ok <-isTrue c X.env (YS c X.env);pure (Zq ok)else pure (Zq r)) (TP X Z Y Q) X.xe s
def bf:TT:=λ_ H Q=>Q C? H
theorem bt{X:Cx}:PTs X [] bf:=λ_ _ _ H _ I h=>wpAny_tests_nil ⟨H,I,h⟩
theorem gA{X:Cx}{c:X3}{t:TT}(h:PT X c t):PTs X [c] t:=λZ s Y H Q I q=>wpAny_tests_one (h Z s Y H Q I q)
def Keep(Y Ae:St):Prop:=Y.length=Ae.length/\∀(i:Nat)(v:V),Y[i]?=A? (A? v)->Ae[i]?=A? (A? v)
def mn(js:List (Option Nat))(g:TG):Prop:=∀(Y Bt:St)(x:V)(H:Hp)(Q:St->Hp->Prop),Keep (cσ js Y) Bt->g x Bt H Q->g x Bt H λAq H2=>Keep (cσ js Y) Aq/\Q Aq H2
def oK(js:List (Option Nat))(g:TGs):Prop:=∀(Y Bt:St)(x:List V)(H:Hp)(Q:St->Hp->Prop),Keep (cσ js Y) Bt->g x Bt H Q->g x Bt H λAq H2=>Keep (cσ js Y) Aq/\Q Aq H2
theorem Keep.refl(Y:St):Keep Y Y:=⟨rfl,λ_ _ h=>h⟩
theorem wt{i:Nat}(h:js[i]?=A? B?):(cσ js Y)[i]?=A? none:=by
 unfold cσ;rw[W3,h];rfl
theorem aO{i:Nat}(h:js[i]?=A? B?):mn js (az i):=λY Bt x H Q k q=>by
 refine⟨⟨by rw[List.length_set];exact k.1,λj v e=>?_⟩,q⟩;by_cases hj:i=j
 .subst hj;rw[wt h]at e;cases e
 .rw[Y0 hj];exact k.2 j v e
theorem kT:oK js qD:=λY Bt x H Q k⟨e,q⟩=>⟨e,k,q⟩
theorem cZ{t:TG}{u:TGs}(mono:∀x Y H(Q Q':St->Hp->Prop),(∀a b,Q a b->Q' a b)->t x Y H Q->t x Y H Q')(h1:mn js t)(h2:oK js u):oK js (fP t u):=λY Bt x H Q k⟨v,r,e,q⟩ =>
 ⟨v,r,e,mono _ _ _ _ _ (λa b⟨k',q'⟩=>h2 Y a r b Q k' q') (h1 Y Bt v H _ k q)⟩
theorem bL{i:Nat}:∀x Y H(Q Q':St->Hp->Prop),(∀a b,Q a b->Q' a b)->az i x Y H Q->az i x Y H Q':=λ_ _ _ _ _ h q=>h _ _ q
theorem ld{t:TGs}(h:oK js t):mn js (qp K n t):=λY Bt x H Q k⟨a,xs,e,hs,hl,q⟩=>⟨a,xs,e,hs,hl,h Y Bt xs H Q k q⟩
def fN(js:List (Option Nat))(g:TG)(tt:TT)(te:TE)(Y:St)(J:It)(D:WS)(n:Nat)(W:Nat->Hp->Prop)(fin:Hp->Prop):Prop :=
 ∀i H,W i H->(J.stop i H/\fin H)\/(i<n/\J.go i H/\∀x H1,J.yld i H x H1->g x (cσ js Y) H1 λAq H2=>tt Aq H2 λb H3 =>
   if b=C? then te Aq H3 λv H4=>∃ys,H4 D=A? (.lst ys)/\ys.length<Xj/\W (i+1) (upd H4 D (.lst (ys++[v])))else W (i+1) H3)
def qY(js:List (Option Nat))(wi:TI)(g:TG)(tt:TT)(te:TE):TE:=λY H Q=>wi Y H λJ H1=>∀D,H1 D=B? ->
 ∃(n:Nat)(W:Nat->Hp->Prop),W 0 (upd H1 D (.lst []))/\fN js g tt te Y J D n W λH'=>Q (.ref D) H'
section
variable{X:Cx}
theorem u6{h1:X5}(S:fc X sc N js)(I:Inv X Z Y H s)
 (AF:∀x c,cl.lookup x=A? c->X.env.cells.lookup x=A? c) (DS:∀n,(n,Yh)∈sc.names->∃c,cl.lookup n=A? c)
 (hf:∀b∈fp,ja X Z H b) (Al:∀b∈fp,b<s.1.1.size) (CJ:h1.Ns s.1.1.size λx=>YI x ([]:List (Xk×WV)))
 (C3:∀b o,s.1.get? b=A? o->h1.get? b=A? o) :
 Inv (bV X N sc cl s.1.1.size s H fp Z) [] (cσ js Y) H {s with heap:=h1,toks:=t'}:=by
 have hok:(bV X N sc cl s.1.1.size s H fp Z).Ok :=
  { mod:=I.ok.mod
    kind:=S.kind
    glob:=I.ok.glob
    blt:=I.ok.blt
    above:=WX _
    inj:=λx y c a b=>I.ok.inj x y c (AF x c a) (AF y c b)
    has:=λx h=>DS x (lY S.nocell h)
    cab:=λx c h=>by cases h
    hd:=I.ok.hd
    frames:=I.ok.frames
    stk:=.inl rfl
    exf:=λb hb=>⟨λe=>g! (Al b hb) (by rw[e];exact Ys _),λx c e z=>(hf b hb).2.2.2.2.1 x c (AF x c e) z⟩
    bs:=I.bs
    bsz:=Xh I.ok.bsz I.sz
    noex:=λb o e hb=>by
     rcases(hf b hb).2.2.2.1 with h|h
     .exact I.ok.noex b o e h
     .exact g! (Xz (Xz (Xi e) I.ok.bsz) h) (Ys _)
    exfs:=λb hb hm=>by
     rcases W6.mp (I.stkSub b hm)with e|e
     .exact(hf b hb).2.1 e
     .exact(hf b hb).2.2.1 e
    funs:=I.stack
    frf:=I.stkFree }
 have hC:H s.1.1.size=none:=I.hok.fresh (WX _);obtain⟨m0,Rc,JT⟩:=I.loc
 exact
  { ok:=hok
    os:=rfl
    bare:=I.bare
    base:=Un.kept C3
    loc:=⟨_,CJ,λi x v e1 e2 Q8=>by
     have Et:∃j,js[i]?=A? (A? j)/\Y[j]?=A? (A? v):=by
      unfold cσ at e2;rw[W3]at e2;cases q:js[i]? with
      |none=>rw[q]at e2;cases e2
      | some o =>
        rw[q]at e2;cases o with
        |none=>cases e2
        | some j =>
          refine⟨j,D?,?_⟩;have e3:(Y[j]?).join=A? v:=Xl e2;cases r:Y[j]? with
          |none=>rw[r]at e3;cases e3
          |some z=>rw[r]at e3;exact h! A? e3
     obtain⟨j,q1,q2⟩:=Et;obtain⟨n1,n2,n3⟩:=S.slots i j x q1 e1;obtain⟨u,ru,look⟩:=JT j x v n1 q2 (by rcases n3 with z|z;exact .inr (.inl z);exact .inr (.inr z));refine⟨u,ru,.inr ⟨iM n2,?_⟩⟩;have hm:(x,Yh)∈sc.names:=lY (env:=X.env) S.nocell (iM n2);obtain⟨c,hc⟩:=DS x hm;refine⟨c,hc,?_⟩;rcases look with⟨k1,_⟩|⟨_,c',Bd,ic⟩
     .rcases n3 with z|z <;> (rw[k1]at z;cases z)
     .have:=AF x c hc;rw[Bd]at this;cases this;exact ic.keeps C3⟩
    cell:=λx c e=>by
     obtain⟨v,q⟩:=I.cell x c (AF x c e);exact⟨v,q.keeps C3⟩
    free:=hC
    freeC:=λx c e=>I.freeC x c (AF x c e)
    pin:=λp hp=>by
     have BA:p∈X.pn++Z:=by simpa[bV]using hp
     obtain⟨a1,a2,a3,a4,a5⟩:=I.pin p BA;refine⟨C3 _ _ a1,a2,λe=>?_,λhm=>?_,a5⟩
     .have e':p.1=s.1.1.size:=e;exact g! (Xi a1) (by rw[e'];exact Ys _)
     .rcases W6.mp (I.stkSub p.1 hm)with e|e
      .exact a3 e
      .exact a4 e
    hok:=I.hok.kept C3
    len:=by
     show(cσ js Y).length=N.length;unfold cσ;rw[WO];exact S.len }
theorem sg{R:Result->WZ->Prop}{target:X3}{it acc:WV}(J:Nat->WZ->Prop)
 (turn:∀n s,J n s->Xc (Xy prog w) A (ZJ it) (λr Af=>(r=B?/\R (.ok .next) Af)\/∃v,r=A? v /\
  Xc (Xy prog w) A (letOwnedTupleGo target it v) (λ_ Bj=>Xc (Xy prog w) A (assign target env v) (λ_ Cp =>
   Xc (Xy prog w) A (forIn ifs C? λc r=>if r=C? then do let ok <-isTrue c env (YS c env);pure (Zq ok)else pure (Zq r)) (λok Eu =>
    (ok=CG/\∃m,m<n/\J m Eu)\/(ok=C?/\Xc (Xy prog w) A (YS elt env) (λx JU=>Xc (Xy prog w) A (call (.builtin "list.append") [acc,x]) (λ_ JV=>∃m,m<n/\J m JV) (λ_ _=>False) JU) (λ_ _=>False) Eu))
    (λ_ _=>False) Cp) (λ_ _=>False) Bj) (λ_ _=>False) Af) (λ_ _=>False) s)
 (n:Nat) (h:J n s):codeAny (Xy prog w) A (.compLoop (.ListComp elt [⟨target,iter,ifs,0⟩] scope pos) 0 it acc env) R s:=by
 refine codeAny_loop rfl J (λn s hJ=>?_) n h;show Xc _ A ((compTurn (.ListComp elt [⟨target,iter,ifs,0⟩] scope pos) 0 it acc env).onRaise _) _ _ s;refine wpAny_noted ?_;rw[compTurn_list];have up:∀{α:Type}{m:Sem α}{Q:α->WZ->Prop}{E:WV->WZ->Prop}{s:WZ},Xc (Xy prog w) A m Q (λ_ _=>False) s->Xc (Xy prog w) A m Q E s:=λq=>YR q (λ_ _ z=>z) λ_ _ z=>z.elim;refine WN (wpAny_standAt (WN (YR (up (turn n s hJ)) (λr Af Au=>?_) λ_ _ z=>z)));rcases Au with⟨rfl,Au⟩|⟨v,rfl,Au⟩
 .exact WW Au
 .refine WN (YR (up Au) (λ_ Bj Bp=>?_) λ_ _ z=>z);refine WN (YR (up Bp) (λ_ Cp CK=>?_) λ_ _ z=>z);refine WN (YR (up CK) (λok Eu BR=>?_) λ_ _ z=>z);rcases BR with⟨rfl,BR⟩|⟨rfl,BR⟩
  .exact WW ⟨rfl,BR⟩
  .exact WN (WN (YR (up BR) (λx JU AU=>WN (YR (up AU) (λ_ JV NF=>WW (WW ⟨rfl,NF⟩)) λ_ _ z=>z)) λ_ _ z=>z))
theorem lN{g:TG}{tn:Nat->X5->Prop}{W:Nat->Hp->Prop}{fin:Hp->Prop}
 {R:WV->WS->Result->WZ->Prop} (hc:X.calm=C?) (S:fc X sc N js) (I:Inv X Z Y H s) (T:Turn X.prog X.w X.K tg J fp it tn) (st:tn 0 s.1) (hf:∀b∈fp,ja X Z H b)
 (AF:∀x c,cl.lookup x=A? c->X.env.cells.lookup x=A? c) (DS:∀n,(n,Yh)∈sc.names->∃c,cl.lookup n=A? c)
 (hg:∀cl C s H fp Z,PG (bV X N sc cl C s H fp Z) tg g) (gk:mn js g) (ht:∀cl C s H fp Z,PTs (bV X N sc cl C s H fp Z) ifs tt) (he:∀cl C s H fp Z,PE (bV X N sc cl C s H fp Z) elt te)
 (w0:W 0 (upd H s.1.1.size (.lst []))) (turn:fN js g tt te Y J s.1.1.size n W fin)
 (hR:∀C H' s',C≠X.env.locals->s.1.1.size<C->(∃m,s'.1.Ns C m)->H' C=B?->(∀h' t',XW C s'.1 h'->Inv X Z Y H' {s' with heap:=h',toks:=t'})->fin H'->R (.ref s.1.1.size) C (.ok .next) s') :
 Xc (Xy X.prog X.w) X.A (newList []) (λacc Cp=>Xc (Xy X.prog X.w) X.A (newFunctionEnv sc X.env.globals cl [] X.env.qual B? .none (A? X.env)) (λJW Eu =>
  codeAny (Xy X.prog X.w) X.A (.compStart (.ListComp elt [⟨tg,iter,ifs,0⟩] sc pos) 0 (.ref it) acc {JW with scope:=relabel sc X.env}) (R acc JW.locals) Eu) E Cp) E s:=by
 refine XQ (wpAny_newFunctionEnv S.nocell (by intro y hy;simp at hy) (λAu Dg Dh=>?_) S.kind);dsimp only at Dg Dh |-;have I3:Inv X Z Y (upd H s.1.1.size (.lst [])) {s with heap:=s.1.push {cls:=.type "list",dict:=B?,data:=.seq ([]:List WV).toArray}}:=I.lnew (t':=s.toks) (its:=[]) .nil (by decide)
 have Al:∀b∈fp,b<s.1.1.size:=λb hb=>by
  obtain⟨o,ho,_⟩:=T.obj _ _ st b hb;exact Xi ho
 have Gu:∀b o,s.1.get? b=A? o->(s.1.push {cls:=.type "list",dict:=B?,data:=.seq ([]:List WV).toArray}).get? b=A? o:=λb o e=>WU _ e;have hsz:(s.1.push {cls:=.type "list",dict:=B?,data:=.seq ([]:List WV).toArray}).objs.size=s.1.1.size+1:=Yb ..;generalize Rf:({s with heap:=s.1.push {cls:=.type "list",dict:=B?,data:=.seq ([]:List WV).toArray}}:WZ)=s3 at I3;have JX:s.1.push {cls:=.type "list",dict:=B?,data:=.seq ([]:List WV).toArray}=s3.1:=by rw[<-Rf]
 rw[JX]at Dg Dh Gu hsz;rw[JX];have Ts:∀t',({s with heap:=Au,toks:=t'}:WZ)={s3 with heap:=Au,toks:=t'}:=λt'=>by rw[<-Rf]
 rw[Ts];have C3:∀b o,s3.1.get? b=A? o->Au.get? b=A? o:=λb o e=>Dh.extBut b o (XD (Xi e)) (WU _ e);have NG:∀b∈fp,ja X Z (upd H s.1.1.size (.lst [])) b:=λb hb=>⟨by rw[af (XD (Al b hb))];exact(hf b hb).1,(hf b hb).2⟩;have I4:=u6 (t':=s.toks+([]:List (Xk×WV)).length) S I3 AF DS NG (λb hb=>by rw[hsz];exact Nat.lt_succ_of_lt (Al b hb)) Dg C3;generalize hH3:upd H s.1.1.size (.lst [])=H3 at I3 I4 NG w0;have BP:tn 0 Au:=T.keep _ _ _ st λb hb o e=>C3 _ _ (Gu _ _ e)
 have Dc:∀{H':Hp},(∀b∈fp,H' b=B?)->∀b∈fp,ja (bV X N sc cl s3.1.1.size s3 H3 fp Z) [] H' b:=λ{H'}hn b hb=>by
  obtain⟨f0,f1,f2,f3,f4,f5⟩:=hf b hb;refine⟨hn b hb,λe=>?_,λhm=>?_,.inl hb,λx c e=>f4 x c (AF x c e),λp hp=>f5 p (by simpa[bV]using hp)⟩
  .have e':b=s3.1.1.size:=e;have h9:b<s.1.1.size:=Al b hb;rw[e',hsz]at h9;exact g! h9 (Nat.not_lt.mpr (Nat.le_succ _))
  .rcases W6.mp (I.stkSub b hm)with e|e
   .exact f1 e
   .exact f2 e
 have loop:codeAny (Xy X.prog X.w) X.A (.compLoop (.ListComp elt [⟨tg,iter,ifs,0⟩] sc pos) 0 (.ref it) (.ref s.1.1.size) (compEnvC sc cl s3.1.1.size X.env)) (R (.ref s.1.1.size) s3.1.1.size)
  {s3 with heap:=Au,toks:=s.toks+([]:List (Xk×WV)).length}:=by
  refine sg (λk s'=>∃i H',Inv (bV X N sc cl s3.1.1.size s3 H3 fp Z) [] (cσ js Y) H' s'/\tn i s'.1/\(∀b∈fp,H' b=B?)/\W i H'/\k=n - i) ?_ n ⟨0,H3,I4,BP,λb hb=>(NG b hb).1,w0,rfl⟩;rintro k s5 ⟨i,H5,I5,IX,Fx,w5,rfl⟩;rcases turn i H5 w5 with⟨stop,qn⟩|⟨CL,go,step⟩
  .refine thn (T.done (bV X N sc cl s3.1.1.size s3 H3 fp Z) rfl rfl rfl hc i [] s5 (cσ js Y) H5 _ I5 (Dc Fx) IX stop) λr s6⟨hr,I6⟩=>.inl ⟨hr,?_⟩;have I7:Inv X Z Y H5 s6:=I3.call' (ch:=fp) (I6.os.trans rfl) I6.base I6.hok I6.bare λb hb=>⟨(hf b hb).2.2.2.1,(hf b hb).2.1,(hf b hb).2.2.2.2.1,(hf b hb).2.2.2.2.2⟩;have Rg:H5 s3.1.1.size=none:=I6.free;have Rh:s3.1.1.size≠X.env.locals:=ZK I3.lt;obtain⟨m6,Tt,_⟩:=I6.loc;refine hR s3.1.1.size H5 s6 Rh (by lia) ⟨m6,Tt⟩ Rg (λh' t' sb=>?_) qn;refine I7.turned (it:=s3.1.1.size) (λb o hb e=>sb.extBut b o hb e) Rg Rh (.inr I3.sz) (λx c e z=>?_) λp hp z=>?_
   .obtain⟨v,q⟩:=I3.cell x c e;exact g! q.lt (by rw[z];exact Ys _)
   .exact g! (Xi (I3.pin p hp).1) (by rw[z];exact Ys _)
  .refine thn (T.item (bV X N sc cl s3.1.1.size s3 H3 fp Z) rfl rfl rfl hc i [] s5 (cσ js Y) H5 _ I5 (Dc Fx) IX go) λr s6⟨u,hr,h6⟩=>.inr ⟨u,hr,?_⟩;refine thn h6 λ_ s7⟨x,H7,I7,r7,y7,NH,Tu⟩=>?_;have Tv:=I7.pinned (Dc Tu) (T.obj _ _ NH);refine thn (hg cl s3.1.1.size s3 H3 fp Z _ s7 (cσ js Y) H7 x u _ Tv r7 (gk Y (cσ js Y) x H7 _ (.refl _) (step x H7 y7))) λ_ s8⟨NI,H8,I8,k8,q8⟩=>?_;refine thn (ht cl s3.1.1.size s3 H3 fp Z _ s8 NI H8 _ I8 q8) λok s9⟨H9,I9,q9⟩=>?_
   have again:∀{s':WZ}{Ae:St}{H':Hp},Keep (cσ js Y) Ae->Inv (bV X N sc cl s3.1.1.size s3 H3 fp Z) ([]++ki fp s7.1) Ae H' s'->W (i+1) H'->∃m,m<n - i/\∃i H',Inv (bV X N sc cl s3.1.1.size s3 H3 fp Z) [] (cσ js Y) H' s'/\tn i s'.1/\(∀b∈fp,H' b=B?)/\W i H'/\m=n - i:=λ{s' Ae H'}kp I' w'=>by
    refine⟨n - (i+1),by lia,i+1,H',(I'.unpinned).weak kp.1 kp.2,T.keep _ _ _ NH λb hb o e=>(I'.pin (b,o) (Xu _ (Xu _ (fz hb e)))).1,λb hb=>?_,w',D?⟩;obtain⟨o,e,d⟩:=T.obj _ _ NH b hb;exact(I'.pin (b,o) (Xu _ (Xu _ (fz hb e)))).2.1
   cases ok with
   | false =>
     refine .inl ⟨rfl,again k8 I9 ?_⟩;have Ri:if CG=C? then _ else W (i+1) H9:=q9
     rw[a! Xm]at Ri;exact Ri
   | true =>
     refine .inr ⟨rfl,?_⟩;rw[b! rfl]at q9;refine thn (he cl s3.1.1.size s3 H3 fp Z _ s9 NI H9 _ I9 q9) λvv Ew⟨v,Ex,Tw,rv,ys,hD,NJ,Tx⟩=>?_;refine thn (aK _ Ew NI Ex (.ref s.1.1.size) [v] (.ref s.1.1.size) [vv] (λ_ H'=>W (i+1) H') Tw rfl (.cons rv .nil) ⟨_,ys,v,rfl,rfl,hD,NJ,Tx⟩) λ_ Hd⟨_,Mn,Tz,_,TB⟩=>?_;exact again k8 Tz TB
 exact codeAny_compStart_list loop (T.self X.A 0 _ _ _ BP loop)
theorem bv{g:TG}(hc:X.calm=C?)(S:fc X sc N js)(hi:PI X tg iter wi)
 (hg:∀cl C s H fp Z,PG (bV X N sc cl C s H fp Z) tg g) (gk:mn js g) (ht:∀cl C s H fp Z,PTs (bV X N sc cl C s H fp Z) ifs tt) (he:∀cl C s H fp Z,PE (bV X N sc cl C s H fp Z) elt te)
 (hs:∀x,foldedSetIterable iter X.env x=pure x:=by intro _;rfl):PE X (.ListComp elt [⟨tg,iter,ifs,0⟩] sc pos) (qY js wi g tt te):=by
 intro Z s Y H Q I h;obtain⟨cl,e1,e2,e3⟩:=lq (env:=X.env) (sc:=sc) λn hn=>I.ok.has n (S.frees _ hn rfl);rw[eval_ListComp];refine wpAny_comprehension_free (use:=B?) rfl hs e1 S.kind S.names (thn (hi Z s Y H _ I h) λv s1 h1=>thn h1 λMm s2 h2=>?_);obtain⟨it,fp,tn,J,H2,rfl,I2,T,JN,f2,R2⟩:=h2;obtain⟨n,W,w0,turn⟩:=R2 s2.1.1.size I2.fresh;refine lN (R:=λacc C=>compPost (Xy X.prog X.w) X.A X.xe B? (EP X Z Y Q) acc C) hc S I2 T JN f2 e2 e3 hg gk ht he w0 turn λC H' s' _ _ hn _ inv fi=>?_;obtain⟨m,hm⟩:=hn;exact⟨m,hm,λh' sb=>⟨.ref s2.1.1.size,H',inv h' s'.toks sb,D?,fi⟩⟩
theorem gB{i:Nat}{y:Xk}{JY py:Pos}{g:TG}(hN:X.N.Nodup)(hy:X.N[i]?=A? y)(TC:Loc X.env.scope y)(hc:X.calm=C?)(S:fc X sc N js)(hi:PI X tg iter wi)
 (hg:∀cl C s H fp Z,PG (bV X N sc cl C s H fp Z) tg g) (gk:mn js g) (ht:∀cl C s H fp Z,PTs (bV X N sc cl C s H fp Z) ifs tt) (he:∀cl C s H fp Z,PE (bV X N sc cl C s H fp Z) elt te)
 (Mo:swapsWith (.ListComp elt [⟨tg,iter,ifs,0⟩] sc pos) (A? (.Name y py)) JY.line X.env=pure true:=by rfl)
 (hs:∀x,foldedSetIterable iter X.env x=pure x:=by intro _;rfl) (hf:X.fn y=C?\/X.env.scope.names.lookup y=A? .local:=by first|exact .inl rfl|exact .inr rfl|assumption) :
 PS X (.Assign [.Name y py] (.ListComp elt [⟨tg,iter,ifs,0⟩] sc pos) JY) (wg (qY js wi g tt te) (az i)):=by
 intro Z s Y H D I h;obtain⟨cl,e1,e2,e3⟩:=lq (env:=X.env) (sc:=sc) λn hn=>I.ok.has n (S.frees _ hn rfl);rw[exec_Assign_Name_used _ _ _ _ Mo];refine WN (wpAny_standAt (WN ?_));show Xc _ X.A (do let _ <-comprehension (.ListComp elt [⟨tg,iter,ifs,0⟩] sc pos) sc X.env _ (newList []) CG (YS iter X.env) (A? (assign (.Name y py) X.env))) _ _ s;refine WN (YR (wpAny_comprehension_free (use:=A? (assign (.Name y py) X.env)) (Q:=λ_ s'=>SP X Z D .next s') rfl hs e1 S.kind S.names (thn (hi Z s Y H _ I h) λv s1 h1=>thn h1 λMm s2 h2=>?_)) (λ_ s' hq=>WW (WW hq)) λ_ _ z=>z);obtain⟨it,fp,tn,J,H2,rfl,I2,T,JN,f2,R2⟩:=h2;obtain⟨n,W,w0,turn⟩:=R2 s2.1.1.size I2.fresh;refine lN (R:=λacc C=>compPost (Xy X.prog X.w) X.A X.xe (A? (assign (.Name y py) X.env)) (λ_ s'=>SP X Z D .next s') acc C) hc S I2 T JN f2 e2 e3 hg gk ht he w0 turn λC H' s' Rj hC hn TF inv fi=>?_;obtain⟨m,hm⟩:=hn
 have I5:Inv X Z Y H' s':=by
  have q:=inv s'.1 s'.toks (.refl ..);exact q
 refine wpAny_assign_Name (mK (v:=.ref s2.1.1.size) I5 hN hy TC rfl (λs6 I6⟨a,sb,ha⟩=>?_) hf)
 have TH:C≠a:=by
  rcases ha with ha|ha
  .rw[ha];exact Rj
  .intro z;obtain⟨v,q⟩:=I2.cell y a ha;exact g! (Nat.lt_trans q.lt hC) (by rw[z];exact Ys _)
 refine⟨m,hm.sameBut sb TH,λh' TJ=>⟨_,H',I6.turned (it:=C) (t':=s6.toks) (λb o hb e=>TJ.extBut b o hb e) TF Rj (.inr (Xh I2.sz (Z9 hC))) (λx c e z=>?_) λp hp z=>?_,fi⟩⟩
 .obtain⟨v,q⟩:=I2.cell x c e;exact g! (Nat.lt_trans q.lt hC) (by rw[z];exact Ys _)
 .exact g! (Nat.lt_trans (Xi (I2.pin p hp).1) hC) (by rw[z];exact Ys _)
end
def jV{α:Type}(xs:List α)(lo hi:Option Int):List α:=(xs.drop (u! xs.length 0 lo)).take (u! xs.length xs.length hi - u! xs.length 0 lo)
def cI(z:Xk)(lo hi:Option Int):Xk:=⟨(jV z.cps.toList lo hi).toArray⟩
theorem uo(xs:List α)(a n:Nat):((YL n).map λ(k:Nat)=>a+k).filterMap (xs[·]?)=(xs.drop a).take n:=by
 induction n with
 |zero=>simp
 | succ n ih =>
   rw[List.range_succ,W8,ZT,ih,Yc];congr 1;rw[List.getElem?_drop];cases h:xs[a+n]? <;> simp[h]
theorem tF(n d:Nat)(i:Int):max 0 (min (if i<0 then i+(n:Int)else i) (n:Int))=((u! n d (A? i):Nat):Int):=by
 show max 0 (min (if i<0 then i+(n:Int)else i) (n:Int))=(((if i<0 then(i+(n:Int)).toNat else min i.toNat n):Nat):Int);by_cases h:i<0
 .rw[b! h,b! h];lia
 .rw[a! h,a! h];lia
theorem va(A B:Int)(a b:Nat)(hA:A=(a:Int))(hB:B=(b:Int)):sliceRange A B 1=(YL (b - a)).map λ(k:Nat)=>a+k:=by
 subst hA;subst hB;unfold sliceRange;simp only[show(1:Int) > 0 by decide,if_true]
 have c:(if(a:Int)<(b:Int)then((b:Int) - a+1 - 1) / 1 else 0).toNat=b - a:=by
  split
  .rw[Int.ediv_one];lia
  .lia
 rw[c];refine List.map_congr_left λk _=>?_;lia
theorem rQ(lo hi:Option Int)(n:Nat):Builtin.Str.strSliceIndices lo hi 1 n=(YL (u! n n hi - u! n 0 lo)).map λ(k:Nat)=>u! n 0 lo+k:=by
 unfold Builtin.Str.strSliceIndices;simp only[show(1:Int) > 0 by decide,if_true];cases lo <;> cases hi <;> refine va _ _ _ _ ?_ ?_ <;> first|rfl|exact tF _ _ _
theorem gb(z:Xk)(lo hi:Option Int):(cI z lo hi).length<=z.length:=by
 show(jV z.cps.toList lo hi).toArray.size<=z.cps.size;unfold jV;rw[W9,XB,XX,Xo];lia
theorem l6(x:Xk)(t:Tok)(l u:Option (Int×Tok))(hz:x.length<=Xj)(h:∀t' k,Q (.str (cI x (l.map (·.1)) (u.map (·.1))) t') {s with toks:=k}):(sliceMade x t l u B?).post Q s:=by
 have e:(slicePicked x l u B?).filterMap (x.cps[·]?)=jV x.cps.toList (l.map (·.1)) (u.map (·.1)):=by
  unfold slicePicked jV;show(Builtin.Str.strSliceIndices (l.map (·.1)) (u.map (·.1)) 1 x.length).filterMap (x.cps[·]?)=_;rw[rQ,show(x.cps[·]?)=(x.cps.toList[·]?)from funext λi=>(ZU ..).symm,uo,Xo];rfl
 unfold sliceMade;split
 .rename_i hc
  have hl:(slicePicked x l u B?).length=x.length:=by
   have:=(Bool.and_eq_true _ _ ▸ hc).2;simpa using this
  have hw:cI x (l.map (·.1)) (u.map (·.1))=x:=by
   have e2:(jV x.cps.toList (l.map (·.1)) (u.map (·.1)))=x.cps.toList:=by
    have hp:slicePicked x l u B?=(YL (u! x.length x.length (u.map (·.1)) - u! x.length 0 (l.map (·.1)))).map λ(k:Nat)=>u! x.length 0 (l.map (·.1))+k:=rQ _ _ _;rw[hp,WO,List.length_range]at hl;have b1:=HT.sIx_le x.length x.length (WX _) (u.map (·.1));have hx:x.cps.toList.length=x.length:=Xo;unfold jV;rw[hx,hl];have Fj:u! x.length 0 (l.map (·.1))=0\/x.length=0:=by lia
    rcases Fj with h0|h0
    .rw[h0,Y1,X1 (by rw[hx];exact WX _)]
    .have:x.cps.toList=[]:=Yx.mp (by rw[hx];exact h0);rw[this];simp
   unfold cI;rw[e2]
  have:=h t s.toks;rw[hw]at this;exact this
 .show(⟨((slicePicked x l u B?).filterMap (x.cps[·]?)).toArray⟩:Xk).length<=Xj/\Q _ _;rw[e];exact⟨Xh (gb x _ _) hz,h s.toks (s.toks+1)⟩
section
variable{X:Cx}
inductive xr(x:V)(lo:Option Int)(hi:Option Int)(H:Hp)(Q:VK):Prop
 |mk (z:_) (Ci:x=.str z) (Cj:z.length<=Xj) (DA:Q (.str (cI z lo hi)) H):xr  x lo hi H Q
def aac:V->Option Int->Option Int->Hp->VK->Prop:=xr
theorem part_of{v:WV}{o:Option Int}(h:IsPart v o):∃l:Option (Int×Tok),v=partValue l/\l.map (·.1)=o:=by
 cases h with
 |none=>exact⟨B?,D?,D?⟩
 |int i t=>exact⟨A? (i,t),D?,D?⟩
theorem oG:SlR X aac:=by
 intro Z s Y H x v vl vu lo hi sl Q I rx hs pl pu h;obtain⟨z,rfl,hz,q⟩:=h;obtain⟨t,rfl⟩:=rx;obtain⟨l,rfl,rfl⟩:=part_of pl;obtain⟨u,rfl,rfl⟩:=part_of pu;refine⟨"str",_,F.slot_str_getitem.lookup,typeIs_str s z t,wpAny_getItem_str_slice (l:=l) (u:=u) (st:=B?) ?_ rfl (l6 z t l u hz λt' k=>?_)⟩
 .obtain⟨o,ho,hc,hd⟩:=hs;exact⟨o,ho,hc,hd⟩
 .exact⟨.str (cI z (l.map (·.1)) (u.map (·.1))),H,I.tok k,⟨_,D?⟩,q⟩
theorem oS(hc:X.calm=C?):fQ X (.builtin "sum") (λxs H Q=>∃(p:WS)(ns:List Int),xs=[.ref p]/\SqL X.K H p (ns.map o!)/\Q (.int ns.sum) H):=by
 intro Z s Y H xs us Q I r h;obtain⟨p,ns,rfl,hl,q⟩:=h;obtain⟨u,rfl,rx⟩:=vals1 r;cases rx;obtain⟨its,rv,pl,_⟩:=I.list hl;have hi:=intsAre_of rv;obtain⟨ys,e⟩:=(hi.allInts).items;have Cn:s.1.IsList p (intItems ys):=by rw[<-e];exact pl.isList
 refine sum_intListG (I.ok.hd hc) Cn λh' tk t' hk=>?_
 have e3:preSum (numAt ys) ys.size=ns.sum:=by
  rw[preSum_eq,X1 (by simp),<-nums_intItems,<-e];show(numsOf its).sum=_;rw[hi.numsOf]
 rw[e3];exact⟨.int ns.sum,H,I.kept hk,⟨_,D?⟩,q⟩
theorem je(hc:X.calm=C?):fQ X (.builtin "max") (λxs H Q=>∃(p:WS)(ns:List Int),xs=[.ref p]/\SqL X.K H p (ns.map o!)/\ns≠[]/\∀M,M∈ns->(∀a,a∈ns->a<=M)->Q (.int M) H):=by
 intro Z s Y H xs us Q I r h;obtain⟨p,ns,rfl,hl,Ay,q⟩:=h;obtain⟨u,rfl,rx⟩:=vals1 r;cases rx;obtain⟨its,rv,pl,_⟩:=I.list hl;have hi:=intsAre_of rv;have hlen:=hi.length;obtain⟨ys,e⟩:=(hi.allInts).items;have Cn:s.1.IsList p (intItems ys):=by rw[<-e];exact pl.isList
 have hn:ys.toList.map (·.1)=ns:=by rw[<-nums_intItems,<-e];exact hi.numsOf
 have hsz:0<ys.size:=by
  have:ns.length=ys.size:=by rw[<-hn];simp
  have:=List.length_pos_iff.mpr Ay;lia
 refine max_intList (I.ok.hd hc) Cn hsz λv h' tk hv hk=>?_;obtain⟨t,rfl⟩:=intItems_at hv;obtain⟨h1,h2⟩:=argBest_gt (numAt ys) (ys.size - 1);refine⟨.int _,H,I.kept hk,⟨_,D?⟩,q _ ?_ λa ha=>?_⟩
 .rw[numAt_eq,<-hn];exact getD_mem (by rw[WO,Xo];lia)
 .rw[<-hn]at ha;obtain⟨j,hj,rfl⟩:=mem_getD ha;rw[WO,Xo]at hj;rw[<-numAt_eq];exact h2 j (by lia)
end
end L2
open L2 renaming Same->j!
namespace PySem
namespace F
theorem bb_owner_rev:Manifest.owners.lookup (String.ofList ['d','e','s','r','e','v','e','r'].reverse)=A? Manifest.sig_reversed:=by kernel_rfl
theorem bb_slot_rev_next:Slot "reversed" "__next__" "reversed.__next__" :=
 .of (owner:="reversed") (n:="__next__") (by rw[typeLookup_type,Z7];kernel_rfl) (by decide +kernel) (by decide +kernel) (by decide +kernel)
  (by first|exact .inl (by decide +kernel)|exact .inr (by decide +kernel)) (by rw[isSubtype_type];kernel_rfl)
theorem bb_entry_rev_next:entryFor table "reversed.__next__"=A? Y7.«reversed.__next__»:=entryFor_of_tree (by kernel_rfl)
theorem bb_args_rev_next(a:WV):argsOk "reversed.__next__" ⟨[a],[]⟩:=by
 unfold argsOk;rw[signature?_of (id:="reversed.__next__") (n:=['_','_','t','x','e','n','_','_']) (o:=['d','e','s','r','e','v','e','r']) (by kernel_rfl) bb_owner_rev];kernel_rfl
theorem bb_slot_rev_iter:Slot "reversed" "__iter__" "reversed.__iter__" :=
 .of (owner:="reversed") (n:="__iter__") (by rw[typeLookup_type,Z7];kernel_rfl) (by decide +kernel) (by decide +kernel) (by decide +kernel)
  (by first|exact .inl (by decide +kernel)|exact .inr (by decide +kernel)) (by rw[isSubtype_type];kernel_rfl)
theorem bb_args_rev_iter(a:WV):argsOk "reversed.__iter__" ⟨[a],[]⟩:=by
 unfold argsOk;rw[signature?_of (id:="reversed.__iter__") (n:=['_','_','r','e','t','i','_','_']) (o:=['d','e','s','r','e','v','e','r']) (by kernel_rfl) bb_owner_rev];kernel_rfl
theorem bb_entry_rev_iter:entryFor table "reversed.__iter__"=A? Y7.«dict_keyiterator.__iter__» :=
 entryFor_alias (id':="dict_keyiterator.__iter__") (by kernel_rfl) (by first|rfl|decide +kernel|(unfold String.splitOn;simp +decide [String.splitOnAux])) (by decide +kernel) (by kernel_rfl)
theorem bb_tuple_norev:typeLookup (.type "tuple") "__reversed__"=pure none:=by rw[typeLookup_type,Z7];kernel_rfl
theorem bb_sub_rev_rev:isSubtype (.type "reversed") (.type "reversed")=pure true:=by rw[isSubtype_type];kernel_rfl
theorem bb_sub_tuple_dict:isSubtype (.type "tuple") (.type "dict")=pure false:=by rw[isSubtype_type];kernel_rfl
end F
open Sem (wp)
theorem bb_slot_rev_init:Slot "reversed" "__init__" "object.__init__" :=
 .of (owner:="object") (n:="__init__") (by rw[typeLookup_type,Z7];kernel_rfl) (by decide +kernel) (by decide +kernel) (by decide +kernel)
  (by first|exact .inl (by decide +kernel)|exact .inr (by decide +kernel)) (by rw[isSubtype_type];kernel_rfl)
theorem bb_called_rev:TypeCalled "reversed" "reversed.__new__" "object.__init__" :=
 ⟨by decide +kernel,by decide +kernel,⟨_,_,F.mro_reversed⟩,F.made_reversed,by decide +kernel,F.bb_sub_rev_rev,bb_slot_rev_init⟩
def revTup(t:WS)(i:Int):YF:={cls:=.type "reversed",data:=.fields #[.ref t,YH i]}
theorem bb_meets_rev_tuple(t:WS)(items:Array WV)(hz:(items.size:Int)<2 ^ 63) :
 Meets (Y7.«reversed.__new__» ⟨[.type "reversed",.ref t],[]⟩) (λ_ R s=>PyProof.Rows.IsTup s.1 t items/\∀tk,R (.ok (.ret (.ref s.1.1.size))) {s with heap:=s.1.push (revTup t ((items.size:Int) - 1)),toks:=tk}):=by
 refine .of_wp λprog w A R s h=>?_;obtain⟨ht,h⟩:=h;unfold Y7.«reversed.__new__»;refine WN (wpAny_of_eq (newClass_reversed _) ?_)
 try dsimp only
 refine WN (wpAny_of_eq (a:=()) (by first|rfl|kernel_rfl) ?_);refine WN (wpAny_of_eq (a:=()) (by first|rfl|kernel_rfl) ?_)
 try dsimp only
 refine WN (Zx ht.typeIs F.bb_tuple_norev ?_)
 try dsimp only
 have hsd:=F.bb_sub_tuple_dict;have hgi:=XM.lookup;have hT:s.TypeIs (.ref t) "tuple":=ht.typeIs
 wp_walk using PyProof.Rows.len_tuple ht hz,ZY hT
 exact⟨_,D?,h _⟩
theorem bb_call_rev_tuple{t:WS}(ht:PyProof.Rows.IsTup s.1 t items)(hz:(items.size:Int)<2 ^ 63)
 (h:∀tk,Q (.ref s.1.1.size) {s with heap:=s.1.push (revTup t ((items.size:Int) - 1)),toks:=tk}):Xc (Xy prog w) A (call (.type "reversed") [.ref t]) Q E s :=
 callType_new bb_called_rev (by decide) (F.typeCall_reversed_1 _) (F.newCall_reversed_1 _) (λobj=>F.args_object_init_2 obj _) F.entry_reversed_new (bb_meets_rev_tuple t items hz)
  ⟨ht,λtk=>⟨⟨_,W2 _ rfl,rfl⟩,h tk⟩⟩
def IsRevT(h:X5)(a t:WS)(i:Int):Prop:=∃o,h.get? a=A? o/\o.cls=.type "reversed"/\o.data=.fields #[.ref t,YH i]
theorem IsRevT.typeIs{t:WS}{i:Int}(x:IsRevT s.1 a t i):s.TypeIs (.ref a) "reversed":=let⟨o,ho,hc,_⟩:=x;⟨o,ho,hc⟩
theorem IsRevT.at{t:WS}{i:Int}(x:IsRevT h a t i)(e:∀o,h.get? a=A? o->h'.get? a=A? o):IsRevT h' a t i:=let⟨o,ho,r⟩:=x;⟨o,e _ ho,r⟩
theorem bb_rev_iter{t:WS}{i:Int}(hit:IsRevT s.1 it t i)(h:Q (.ref it) s):Xc (Xy prog w) A (pyIter (.ref it)) Q E s:=by
 refine wpAny_pyIter_slot hit.typeIs F.bb_slot_rev_iter (XT F.bb_slot_rev_iter hit.typeIs F.bb_entry_rev_iter ?_ (F.bb_args_rev_iter _));show Xc _ _ (ret (.ref it)) _ _ s;exact WW ⟨_,rfl,"reversed",_,hit.typeIs,F.bb_slot_rev_next.lookup,h⟩
theorem bb_rev_next{t:WS}{i:Nat}{x:WV}{Q:Option WV->WZ->Prop}(hit:IsRevT s.1 it t (i:Int))(ht:PyProof.Rows.IsTup s.1 t items)(hx:items[i]?=A? x)(hz:(items.size:Int)<2 ^ 63)
 (hQ:∀h' tk,IsRevT h' it t ((i:Int) - 1)->XW it s.1 h'->Q (A? x) {s with heap:=h',toks:=tk}):Xc (Xy prog w) A (ZJ (.ref it)) Q E s:=by
 obtain⟨o,ho,hc,hd⟩:=id hit;have hi:i<items.size:=(Zm.mp hx).1;unfold ZJ
 refine WN (ZI (XR (name:=W5 "__next__") hit.typeIs F.bb_slot_rev_next
  (XT F.bb_slot_rev_next hit.typeIs F.bb_entry_rev_next ?_ (F.bb_args_rev_next _))))
 unfold Y7.«reversed.__next__»;refine WN (wpAny_of_eq (a:=(XG it,[])) rfl ?_)
 try dsimp only
 refine WN (XS ho hd (x:=.ref t) rfl ?_);refine WN (XS ho hd (x:=YH (i:Int)) rfl ?_);show Xc _ _ (if(i:Int)<0 then _ else _) _ _ s;rw[a! (by lia)];refine WN (Zx ht.typeIs XM.lookup ?_)
 try dsimp only
 rw[a! (by decide)];refine WN (m:=mkInt (i:Int)) (wpAny_mkInt ?_);refine WN (ZI (PyProof.Rows.getItem_tuple (j:=i) (x:=x) ht (by lia) (by lia) ?_ hx ?_))
 .refine(L2.oM (n:=items.size) (i:=(i:Int)) (j:=i) ?_).1;unfold L2.ixN;rw[b! (by lia),b! (by lia)];simp
 .try dsimp only
  refine WN (XS ho hd (x:=YH (i:Int)) rfl ?_)
  try dsimp only
  refine WN (ZM ho hd (by simp) ?_);refine WW ⟨x,rfl,WW (hQ _ _ ?_ (YG ..))⟩;exact⟨_,Ym _ ho (Obj.isFreed_of_fields (Y3 hd _)),(Obj.cls_mapFields ..).trans hc,by rw[Y3 hd];simp⟩
theorem bb_rev_end{t:WS}{Q:Option WV->WZ->Prop}(hh:A.handled=B?)(hit:IsRevT s.1 it t (-1))
 (hQ:∀h' tk,Heap.ExtBut it s.1 h'->Q B? {s with heap:=h',toks:=tk}):Xc (Xy prog w) A (ZJ (.ref it)) Q E s:=by
 obtain⟨o,ho,hc,hd⟩:=id hit;unfold ZJ
 refine WN (ZI (XR (name:=W5 "__next__") hit.typeIs F.bb_slot_rev_next
  (XT F.bb_slot_rev_next hit.typeIs F.bb_entry_rev_next ?_ (F.bb_args_rev_next _))))
 unfold Y7.«reversed.__next__»;refine WN (wpAny_of_eq (a:=(XG it,[])) rfl ?_)
 try dsimp only
 refine WN (XS ho hd (x:=.ref t) rfl ?_);refine WN (XS ho hd (x:=YH (-1)) rfl ?_);show Xc _ _ (if(-1:Int)<0 then _ else _) _ _ s;rw[b! (by decide)];refine WN (wpAny_rule ?_);refine WN ?_
 wp_delta
 refine WN (ZM ho hd (by simp) ?_);have FA:=Ym (Obj.mapFields (·.setIfInBounds 1 (YH (-1)))) ho (Obj.isFreed_of_fields (Y3 hd _));refine ZM FA (Y3 hd _) (by simp) ?_;refine WN ?_
 wp_delta
 refine WN ?_;simp only[newExc,newTuple];refine WN (XQ ?_ (by size_fits));refine WN (m:=ZO _ _) (wpAny_of_eq (a:=Yj) (by first|rfl|(simp only[ZO];rfl)) ?_);refine XQ ?_ (by size_fits);simp only[raiseNew];refine WN (wpAny_handled ?_)
 first|rw[show A.in1.handled=B? from hh]|rw[hh]
 refine WN (WW (wpAny_throw ?_));refine WN (ZN (T:="StopIteration") (b:=C?) ⟨_,W2 _ rfl,rfl⟩ isSubtype_stop ?_);refine WW (hQ _ _ ?_);refine Heap.ExtBut.push (Heap.ExtBut.push ?_ _) _;intro b o' hb e;rw[YD _ _ (Zb hb),YD _ _ (Zb hb)];exact e
end PySem
namespace L2
open PySem PySem.Spec PyProof.Rows
section
variable{X:Cx}{p p2 Bl:Pos}
def Itv(K:WY)(a:WS)(n:Nat):It:=⟨λi H=>i<n/\∃xs,SqL K H a xs/\xs.length=n,λi H x H'=>H'=H/\∀xs,SqL K H a xs->xs[n - 1 - i]?=A? x,λi _=>i=n⟩
theorem uL(a it:WS)(n:Nat):Turn P w K tg (Itv K a n) [it] it (λi h=>h.IsRevIter it a ((n:Int) - 1 - (i:Nat))) where
 mem:=by simp
 obj:=λi h st b hb=>by
  have e:b=it:=by simpa using hb
  subst e;obtain⟨o,e,c,d⟩:=st;exact⟨o,e,λv z=>by rw[d]at z;cases z⟩
 keep:=λi h h' st k=>st.at λo e=>k it (by simp) o e
 item:=by
  walk_at"a";obtain⟨hi,xs,hq,hx⟩:=hg;obtain⟨its,rv,p,hz⟩:=I.list hq;have hl:=rv.length;obtain⟨x,Bc⟩:∃x,xs[n - 1 - i]?=A? x:=⟨_,WQ (by lia)⟩;obtain⟨u,hu,ru⟩:=rv.get Bc;obtain⟨f0,f1,f2,f3,f4,f5⟩:=hf it (by simp);have e1:(n:Int) - 1 - (i:Nat)=((n - 1 - i:Nat):Int):=by lia
  rw[e1]at st;refine wpAny_pyNext_rev_item st p.isList (x:=u) (by simpa using hu) λh' BH sb=>?_;have I1:Inv X Z Y H {s with heap:=h'}:=I.turned (t':=s.toks) (λb o hb e=>(sb.2 b hb).trans e) f0 f1 f3 f4 f5;have e2:((n - 1 - i:Nat):Int) - 1=(n:Int) - 1 - ((i+1:Nat):Int):=by lia
  rw[e2]at BH;obtain⟨o,e,c,d⟩:=id BH;exact⟨u,D?,kg (s:={s with heap:=h'}) e c d (by decide) ⟨x,H,I1,ru,⟨D?,λys hy=>by rw[I.list_inj hy hq];exact Bc⟩,BH,λb hb=>(hf b hb).1⟩⟩
 done:=by
  walk_at"a";have NK:i=n:=hg;subst NK;obtain⟨f0,f1,f2,f3,f4,f5⟩:=hf it (by simp);rw[show(i:Int) - 1 - (i:Nat)=-1 by lia]at st;exact wpAny_pyNext_rev_end (I.ok.hd hc) st λh' eb=>⟨rfl,I.turned (t':=s.toks) (λb o hb e=>eb b o hb e) f0 f1 f3 f4 f5⟩
 self:=λ_ _ _ _ _ st h=>wpAny_pyIter_revIter st h
def zM(K:WY)(tl:TE):TI:=λY H R=>tl Y H λx H1=>∃a xs,x=.ref a/\SqL K H1 a xs/\R (Itv K a xs.length) H1
theorem tV(g2:Gl X "reversed")(m2:X.mg "reversed"=B?)(he:PE X e te)(h2:XO [e] X.env=[(CG,YS e X.env)]:=by rfl):PI X tg (.Call (.Name "reversed" p2) [e] [] Bl) (zM X.K te):=by
 intro Z s Y H R I h;refine Yq (gf I g2 m2 boot_reversed (Yu ?_ h2 rfl));rw[h2];show Xc _ _ (spliced ((CG,YS e X.env)::[])) _ _ s;refine Z1 (thn (he Z s Y H _ I h) λu s1⟨x,H1,I1,r1,a,ys,ex,hq,q⟩=>Calls.spliced_nil ?_);subst ex;cases r1;obtain⟨its,rv,p,hz⟩:=I1.list hq;have hl:=rv.length;refine call_reversed_list p.isList ?_
 have hit:(s1.1.push (revObj a ((its.toArray.size:Int) - 1))).IsRevIter s1.1.1.size a ((ys.length:Int) - 1 - ((0:Nat):Int)):=by
  rw[hl,show(its.length:Int) - 1 - ((0:Nat):Int)=(its.toArray.size:Int) - 1 by rw[W9];lia];exact⟨_,W2 _ rfl,D?,D?⟩
 refine wpAny_pyIter_revIter (s:={s1 with heap:=s1.1.push (revObj a ((its.toArray.size:Int) - 1))}) hit ?_;refine⟨s1.1.1.size,[s1.1.1.size],_,_,H1,D?,I1.kept (t':=s1.toks) λb o e=>WU _ e,uL a _ ys.length,hit,λb hb=>?_,q⟩;have e:b=s1.1.1.size:=by simpa using hb
 subst e;exact I1.fpOk (WX _) (I1.hok.fresh (WX _))
theorem rT{g:TG}(Pv:Nat->St->Hp->Prop)(h0:Pv 0 Y H)(hl:∀i Y H,i<=xs.length->Pv i Y H->SqL K H a xs)
 (hs:∀i x Y H,i<xs.length->xs[xs.length - 1 - i]?=A? x->Pv i Y H->g x Y H λAq H2=>tb {D with nx:=Pv (i+1),ct:=Pv (i+1),bk:=D.nx} Aq H2) (hd:∀Y H,Pv xs.length Y H->D.nx Y H) :
 ∃W:Nat->Nat->St->Hp->Prop,(∃m,W 0 m Y H)/\∀i m Y H,W i m Y H ->
   ((Itv K a xs.length).stop i H/\D.nx Y H)\/((Itv K a xs.length).go i H/\∃N:St->Hp->Prop,(∀Ae H',N Ae H'->∃m',m'<m/\W (i+1) m' Ae H')/\∀x H',(Itv K a xs.length).yld i H x H'->g x Y H' λAq H2=>tb {D with nx:=N,ct:=N,bk:=D.nx} Aq H2):=by
 refine⟨λi m Y H=>i<=xs.length/\m=xs.length - i/\Pv i Y H,⟨xs.length,Xr _,D?,h0⟩,?_⟩;rintro i m Y H ⟨hi,rfl,p⟩;by_cases h:i=xs.length
 .left;exact⟨h,hd Y H (by rw[<-h];exact p)⟩
 .right;have B0:i<xs.length:=by lia
  refine⟨⟨B0,xs,hl i Y H hi p,D?⟩,Pv (i+1),λAe H' q=>⟨xs.length - (i+1),by lia,by lia,D?,q⟩,?_⟩;rintro x H' ⟨rfl,hx⟩;exact hs i x Y H' B0 (hx xs (hl i Y H' hi p)) p
end
end L2
namespace BB
open PySem L2
set_option genInjectivity true in
inductive Th where
 |knot (n:Xk) (ks:List Th)
 |call (s k:Int)
def q:Xk:=W5 "?"
def Th.kids:Th->List Th
 |.knot _ ks=>ks
 |.call _ _=>[]
mutual
def Th.size:Th->Nat
 |.knot _ ks=>ar ks+1
 |.call _ _=>1
def ar:List Th->Nat
 | []=>0
 |t::ts=>t.size+ar ts
end
mutual
def Th.tall:Th->Nat
 |.knot _ ks=>ax ks+1
 |.call _ _=>1
def ax:List Th->Nat
 | []=>0
 |t::ts=>max t.tall (ax ts)
end
mutual
def Th.walk:Th->List Th
 |.knot n ks=>.knot n ks::walks ks
 |.call s k=>[.call s k]
def walks:List Th->List Th
 | []=>[]
 |t::ts=>t.walk++walks ts
end
theorem Th.walk_eq(t:Th):t.walk=t::walks t.kids:=by
 cases t with
 |knot n ks=>rw[Th.walk];rfl
 |call s k=>rw[Th.walk];simp[Th.kids,walks]
theorem Th.size_eq(t:Th):t.size=ar t.kids+1:=by
 cases t with
 |knot n ks=>rw[Th.size];rfl
 |call s k=>rw[Th.size];simp[Th.kids,ar]
theorem Th.tall_eq(t:Th):t.tall=ax t.kids+1:=by
 cases t with
 |knot n ks=>rw[Th.tall];rfl
 |call s k=>rw[Th.tall];simp[Th.kids,ax]
theorem fw:∀a b:List Th,walks (a++b)=walks a++walks b
 | [],b=>by simp[walks]
 |t::a,b=>by rw[YU,walks,walks,fw a b,YN]
theorem aR:∀a b:List Th,ar (a++b)=ar a+ar b
 | [],b=>by simp[ar]
 |t::a,b=>by rw[YU,ar,ar,aR a b,Nat.add_assoc]
mutual
theorem Th.walk_len:∀t:Th,t.walk.length=t.size
 |.knot n ks=>by rw[Th.walk,Th.size,Xf,gy ks]
 |.call s k=>by rw[Th.walk,Th.size];rfl
theorem gy:∀ts:List Th,(walks ts).length=ar ts
 | []=>rfl
 |t::ts=>by rw[walks,ar,W7,t.walk_len,gy ts]
end
theorem Th.size_pos(t:Th):1<=t.size:=by rw[t.size_eq];lia
mutual
def At(H:Hp):Th->WS->Prop
 |.knot n ks,a=>n≠q/\∃as:List WS,H a=A? (.tup (.str n::as.map i!))/\Ats H ks as
 |.call s k,a=>H a=A? (.tup [.str q,.int s,.int k])
def Ats(H:Hp):List Th->List WS->Prop
 | [],as=>as=[]
 |t::ts,as=>∃a r,as=a::r/\At H t a/\Ats H ts r
end
def KT(H H':Hp):Prop:=∀b xs,H b=A? (.tup xs)->H' b=A? (.tup xs)
theorem KT.trans(a:KT H H1)(b:KT H1 H2):KT H H2:=λc o h=>b c o (a c o h)
theorem Same.kt(h:j! H H'):KT H H':=λb xs e=>h b _ e
theorem eK(h:H l=B?):KT H (upd H l o):=λb xs e=>by rw[af (aq e h)];exact e
theorem aU(h:H l=A? (.lst xs)):KT H (upd H l o):=λb ys e=>by rw[af (aF e h (by intro z;cases z))];exact e
mutual
theorem At.mono(k:KT H H'):∀{t:Th}{a:WS},At H t a->At H' t a
 | .knot n ks,a,h=>by
   rw[At]at h |-;obtain⟨h0,as,h1,h2⟩:=h;exact⟨h0,as,k _ _ h1,Ats.mono k h2⟩
 | .call s c,a,h=>by
   rw[At]at h |-;exact k _ _ h
theorem Ats.mono(k:KT H H'):∀{ts:List Th}{as:List WS},Ats H ts as->Ats H' ts as
 | [],as,h=>by rw[Ats]at h |-;exact h
 | t::ts,as,h=>by
   rw[Ats]at h |-;obtain⟨a,r,e,h1,h2⟩:=h;exact⟨a,r,e,At.mono k h1,Ats.mono k h2⟩
end
theorem Ats.nil:Ats H [] []:=by rw[Ats]
theorem Ats.cons{t:Th}{ts:List Th}(h1:At H t a)(h2:Ats H ts as):Ats H (t::ts) (a::as):=by rw[Ats];exact⟨a,as,D?,h1,h2⟩
theorem Ats.append:∀{ts us:List Th}{as bs:List WS},Ats H ts as->Ats H us bs->Ats H (ts++us) (as++bs)
 | [],us,as,bs,h,g=>by rw[Ats]at h;subst h;exact g
 | t::ts,us,as,bs,h,g=>by
   rw[Ats]at h;obtain⟨a,r,rfl,h1,h2⟩:=h;exact .cons h1 (h2.append g)
theorem Ats.length:∀{ts:List Th}{as:List WS},Ats H ts as->as.length=ts.length
 | [],as,h=>by rw[Ats]at h;subst h;rfl
 | t::ts,as,h=>by
   rw[Ats]at h;obtain⟨a,r,rfl,h1,h2⟩:=h;rw[Xf,Xf,h2.length]
theorem Ats.get:∀{ts:List Th}{as:List WS}{i:Nat}{a:WS},Ats H ts as->as[i]?=A? a->∃t,ts[i]?=A? t/\At H t a
 | [],as,i,a,h,e=>by rw[Ats]at h;subst h;simp at e
 | t::ts,as,i,a,h,e=>by
   rw[Ats]at h;obtain⟨b,r,rfl,h1,h2⟩:=h;cases i with
   |zero=>simp at e;subst e;exact⟨t,D?,h1⟩
   |succ i=>exact h2.get (i:=i) (by simpa using e)
theorem Ats.at:∀{ts:List Th}{as:List WS}{i:Nat}{t:Th},Ats H ts as->ts[i]?=A? t->∃a,as[i]?=A? a/\At H t a
 | [],as,i,a,h,e=>by simp at e
 | t::ts,as,i,a,h,e=>by
   rw[Ats]at h;obtain⟨b,r,rfl,h1,h2⟩:=h;cases i with
   |zero=>simp at e;subst e;exact⟨b,D?,h1⟩
   |succ i=>exact h2.at (i:=i) (by simpa using e)
end BB
open BB.Same renaming kt->k!
open BB.Th renaming tall->q!,size->t!,knot->w!,walk_len->D!,call->F!
variable{p p':BB.Th}{R:Int->List BB.Th}{W ts:List BB.Th}{Ab Aa:List (List BB.Th)}
namespace BB
open PySem L2
theorem at_nonneg{xs:List α}{i:Int}{v:α}(h0:0<=i)(h:xs[i.toNat]?=A? v):atI xs i=A? v:=by
 have e:i=((i.toNat:Nat):Int):=by lia
 rw[e];exact bo h
def Low(x:Xk):Prop:=∀c∈x.cps.toList,97<=c/\c<=122
theorem nK(h:Low x)(lo hi:Option Int):Low (cI x lo hi):=by
 intro c hc;have Bd:c∈jV x.cps.toList lo hi:=by simpa[cI]using hc
 exact h c (Zu (YZ Bd))
theorem rX{y:Xk}(hx:Low x)(hy:Low y):Low (x++y):=by
 intro c hc;have Bd:c∈(x.cps++y.cps).toList:=hc;rw[Zz,Xd]at Bd;rcases Bd with h|h
 .exact hx c h
 .exact hy c h
theorem wE{c:Nat}(h1:97<=c)(h2:c<=122):Low ⟨#[c]⟩:=by
 intro d hd;have:d=c:=by simpa using hd
 lia
theorem mB(h:Low x):x≠q:=by
 intro e;subst e;have:=h 63 (by decide +kernel);lia
end BB
namespace L2
open PySem PySem.Spec PyProof.Rows
theorem Same.seqT(e:Same H H')(h:SqT K H a xs):SqT K H' a xs:=by
 rcases h with(h|⟨o,h⟩)|h
 .exact .inl (.inl (e _ _ h))
 .exact .inl (.inr ⟨o,e _ _ h⟩)
 .exact .inr h
theorem aj{p:WS}(h:H p=B?)(o:HO):Same H (upd H p o):=λb u q=>by rw[af (aq q h)];exact q
@[elab_as_elim] theorem gU{G:Hp->Prop}(h:H a=B?)(k:∀H',j! H H'->H' a=A? o->G H'):G (upd H a o):=k _ (aj h _) ad
theorem aE(h:Same H H1)(n:H l=B?):Same H (upd H1 l o):=λb u e=>by rw[af (aq e n)];exact h b u e
theorem rS(zs:List α)(p:α->Bool)(f:α->V)(hz:zs.length=xs.length)(hn:xs.length<=1000000)
 (He:∀i H2,Same H H2->i<xs.length->J.go i H2) (BS:∀H2,Same H H2->J.stop xs.length H2) (Di:∀(i:Nat)H2 x H3,Same H H2->i<xs.length->J.yld i H2 x H3->H3=H2/\xs[i]?=A? x)
 (FC:∀(i:Nat)x z H2(R:Bool->Hp->Prop),xs[i]?=A? x->zs[i]?=A? z->Same H H2->R (p z) H2->tt ((cσ js Y).set 0 (A? x)) H2 R)
 (FD:∀(i:Nat)x z H2(R:VK),xs[i]?=A? x->zs[i]?=A? z->p z=C?->Same H H2->R (f z) H2->te ((cσ js Y).set 0 (A? x)) H2 R)
 (q:∀D,H D=B?->fin D (upd H D (.lst ((zs.filter p).map f)))) :
 ∀D,H D=B?->∃(n:Nat)(W:Nat->Hp->Prop),W 0 (upd H D (.lst []))/\fN js (az 0) tt te Y J D n W λH'=>fin D H':=by
 intro D hD;refine⟨xs.length,λi H2=>i<=xs.length/\H2=upd H D (.lst (((zs.take i).filter p).map f)),⟨Xr _,by simp⟩,?_⟩;rintro i H2 ⟨hi,rfl⟩;have sm:∀o,Same H (upd H D o):=λo=>aj hD o;by_cases h:i=xs.length
 .left;subst h;refine⟨BS _ (sm _),?_⟩;rw[<-hz,YA];exact q D hD
 .right;have B0:i<xs.length:=by lia
  refine⟨B0,He i _ (sm _) B0,λx H1 hy=>?_⟩;obtain⟨rfl,hx⟩:=Di i _ x H1 (sm _) B0 hy;have TL:i<zs.length:=by lia
  have e1:zs[i]?=A? zs[i]:=WQ TL
  have e2:(zs.take (i+1)).filter p=(zs.take i).filter p++(if p zs[i]=C? then[zs[i]]else[]):=by
   rw[Yc,e1,List.filter_append];show _++List.filter p [zs[i]]=_;rw[List.filter_cons,List.filter_nil]
  refine FC i x zs[i] _ _ hx e1 (sm _) ?_
  have hlen:(((zs.take i).filter p).map f).length<=1000000:=by
   rw[WO];have:=List.length_filter_le p (zs.take i);rw[XB]at this;lia
  by_cases hp:p zs[i]=C?
  .rw[b! hp];refine FD i x zs[i] _ _ hx e1 hp (sm _) ⟨_,ad,Nat.lt_of_le_of_lt hlen (by decide),B0,?_⟩;rw[nU,e2,b! hp,W8];rfl
  .rw[a! hp];refine⟨B0,?_⟩;rw[e2,a! hp,Ye]
theorem oF(zs:List α)(p:α->Bool)(f:α->V)(hS:SqL K H a xs)(hz:zs.length=xs.length)(hn:xs.length<=1000000)
 (FC:∀(i:Nat)x z H2(R:Bool->Hp->Prop),xs[i]?=A? x->zs[i]?=A? z->Same H H2->R (p z) H2->tt ((cσ js Y).set 0 (A? x)) H2 R)
 (FD:∀(i:Nat)x z H2(R:VK),xs[i]?=A? x->zs[i]?=A? z->p z=C?->Same H H2->R (f z) H2->te ((cσ js Y).set 0 (A? x)) H2 R)
 (q:∀D,H D=B?->fin D (upd H D (.lst ((zs.filter p).map f)))) :
 ∀D,H D=B?->∃(n:Nat)(W:Nat->Hp->Prop),W 0 (upd H D (.lst []))/\fN js (az 0) tt te Y (Itl K a) D n W λH'=>fin D H' :=
 rS zs p f hz hn (λi H2 s hi=>⟨xs,xs[i],s.seq hS,WQ hi⟩) (λH2 s=>⟨xs,s.seq hS,WX _⟩) (λi H2 x H3 s hi hy=>⟨hy.1,hy.2 xs (s.seq hS)⟩) FC FD q
theorem jH(zs:List α)(p:α->Bool)(f:α->V)(hS:SqT K H a xs)(hz:zs.length=xs.length)(hn:xs.length<=1000000)
 (FC:∀(i:Nat)x z H2(R:Bool->Hp->Prop),xs[i]?=A? x->zs[i]?=A? z->Same H H2->R (p z) H2->tt ((cσ js Y).set 0 (A? x)) H2 R)
 (FD:∀(i:Nat)x z H2(R:VK),xs[i]?=A? x->zs[i]?=A? z->p z=C?->Same H H2->R (f z) H2->te ((cσ js Y).set 0 (A? x)) H2 R)
 (q:∀D,H D=B?->fin D (upd H D (.lst ((zs.filter p).map f)))) :
 ∀D,H D=B?->∃(n:Nat)(W:Nat->Hp->Prop),W 0 (upd H D (.lst []))/\fN js (az 0) tt te Y (Itt K a) D n W λH'=>fin D H' :=
 rS zs p f hz hn (λi H2 s hi=>⟨xs,xs[i],s.seqT hS,WQ hi⟩) (λH2 s=>⟨xs,s.seqT hS,WX _⟩) (λi H2 x H3 s hi hy=>⟨hy.1,hy.2 xs (s.seqT hS)⟩) FC FD q
end L2
namespace BB
open PySem L2
theorem at0{x:α}{xs:List α}:atI (x::xs) 0=A? x:=bo (j:=0) rfl
theorem at1{x y:α}{xs:List α}:atI (x::y::xs) 1=A? y:=bo (j:=1) rfl
theorem at2{x y z:α}{xs:List α}:atI (x::y::z::xs) 2=A? z:=bo (j:=2) rfl
theorem iq(x:V)(xs:List V):cJ (x::xs) (A? 1) B?=xs:=by
 unfold cJ;simp[u!]
theorem cL:∀ts:List Th,ts.length<=ar ts
 | []=>Xr _
 | t::ts=>by
   have:=t.size_pos;have:=cL ts;rw[Xf,ar];lia
theorem np(ts:List Th):ar ts.reverse=ar ts:=by
 induction ts with
 |nil=>rfl
 |cons x xs ih=>rw[XZ,aR,ih,ar,ar,ar];lia
theorem br(h:n<=1000000):n<Xj:=Nat.lt_of_le_of_lt h (by decide)
theorem bi(h:n<=1000000):n<=Xj:=Z9 (br h)
theorem lnE(h:Nat.ble n 1000000=C?):n<=Xj:=bi (Nat.le_of_ble_eq_true h)
theorem uAE:(upd H a (.lst (as.map i!++[.ref b]))) a=A? (.lst ((as++[b]).map i!)):=by rw[ad,W8];rfl
theorem lbE{f:α->β}{l:List α}(h:l.length<=1000000):(l.map f).length<Xj:=br (by rw[WO];exact h)
theorem int_at{ns:List Int}{k:Int}(h0:0<=k)(h:k<(ns.length:Int)):atI (ns.map o!) k=A? (.int (ns.getD k.toNat 0)):=by
 refine at_nonneg h0 ?_;have hk:k.toNat<ns.length:=by lia
 rw[W3,WQ hk,List.getD_eq_getElem?_getD,WQ hk];rfl
section
variable{G:α->β->Prop}
theorem P2.append:∀{a c:List α}{b d:List β},XH F a b->XH F c d->XH F (a++c) (b++d)
 |_,_,_,_,.nil,h=>h
 |_,_,_,_,.cons r t,h=>.cons r (P2.append t h)
theorem P2.get:∀{a:List α}{b:List β}{i:Nat}{x:α},XH F a b->a[i]?=A? x->∃y,b[i]?=A? y/\F x y
 |_,_,_,_,.nil,e=>by simp at e
 |_,_,0,_,.cons r _,e=>by simp at e;subst e;exact⟨_,D?,r⟩
 | _,_,i+1,x,.cons _ t,e=>by
   obtain⟨u,h1,h2⟩:=P2.get (i:=i) (x:=x) t (by simpa using e);exact⟨u,by simpa using h1,h2⟩
theorem P2.get':∀{a:List α}{b:List β}{i:Nat}{y:β},XH F a b->b[i]?=A? y->∃x,a[i]?=A? x/\F x y
 |_,_,_,_,.nil,e=>by simp at e
 |_,_,0,_,.cons r _,e=>by simp at e;subst e;exact⟨_,D?,r⟩
 | _,_,i+1,y,.cons _ t,e=>by
   obtain⟨u,h1,h2⟩:=P2.get' (i:=i) (y:=y) t (by simpa using e);exact⟨u,by simpa using h1,h2⟩
theorem P2.take:∀{a:List α}{b:List β}(n:Nat),XH F a b->XH F (a.take n) (b.take n)
 |_,_,0,_=>.nil
 |_,_,_+1,.nil=>.nil
 |_,_,n+1,.cons r t=>.cons r (P2.take n t)
theorem P2.drop:∀{a:List α}{b:List β}(n:Nat),XH F a b->XH F (a.drop n) (b.drop n)
 |_,_,0,r=>r
 |_,_,_+1,.nil=>.nil
 |_,_,n+1,.cons _ t=>P2.drop n t
theorem P2.mp(f:∀x y,F x y->G x y):∀{a:List α}{b:List β},XH F a b->XH G a b
 |_,_,.nil=>.nil
 |_,_,.cons r t=>.cons (f _ _ r) (P2.mp f t)
end
def KAt(H:Hp)(k:Xk×Int)(a:WS):Prop:=H a=A? (.tup [.str k.1,.int k.2])
def KsAt(H:Hp)(ks:List (Xk×Int))(as:List WS):Prop:=XH (KAt H) ks as
theorem KsAt.mono(k:KT H H'){ks:List (Xk×Int)}(h:KsAt H ks as):KsAt H' ks as:=P2.mp (λx y e=>k _ _ e) h
end BB
open BB.P2 renaming append->r!,mp->v!,get'->z!,get->A!
namespace L2
open PySem
theorem bS{t u:TS}(R:St->Hp->Prop)(h1:∀k:St->Hp->Prop,(∀Ae H',R Ae H'->k Ae H')->t {D with nx:=k} Y H)(h2:∀Ae H',R Ae H'->u D Ae H'):yI t u D Y H:=h1 _ h2
theorem cR{c:TT}{t u:TS}(R:Bool->Hp->Prop)(h1:∀k:Bool->Hp->Prop,(∀b H',R b H'->k b H')->c Y H k)(h2:∀H',R C? H'->t D Y H')(h3:∀H',R CG H'->u D Y H'):yZ c t u D Y H :=
 h1 _ λb H' r=>by
  cases b with
  |true=>rw[b! rfl];exact h2 H' r
  |false=>rw[a! Xm];exact h3 H' r
end L2
namespace BB
open PySem L2
mutual
def Th.Fit(ks:List (Xk×Int)):Th->Prop
 |.knot n ts=>(n,(ts.length:Int))∈ks/\Fits ks ts
 |.call _ _=>False
def Fits(ks:List (Xk×Int)):List Th->Prop
 | []=>True
 |t::ts=>t.Fit ks/\Fits ks ts
end
theorem Fits.of{ks:List (Xk×Int)}:∀{ts:List Th},(∀t∈ts,t.Fit ks)->Fits ks ts
 | [],_=>by rw[Fits];trivial
 | t::ts,h=>by
   rw[Fits];exact⟨h t (W4 ..),Fits.of λu hu=>h u (WT _ hu)⟩
section
variable{ext:Th->List V}{t:Th}{es:List WS}
end
theorem b8:∀{ts:List Th}{t:Th},t∈ts->t.tall<=ax ts
 | u::ts,t,h=>by
   rw[ax];rcases W6.mp h with rfl|h
   .lia
   .have:=b8 h;lia
theorem m8:∀{ts:List Th},ts≠[]->∃t∈ts,t.tall=ax ts
 | [],h=>g! rfl h
 | [u],_=>⟨u,W4 ..,by rw[ax,ax];lia⟩
 | u::v::ts,_=>by
   obtain⟨t,h1,h2⟩:=m8 (ts:=v::ts) (by simp);rw[ax];by_cases c:ax (v::ts)<=u.tall
   .exact⟨u,W4 ..,by lia⟩
   .exact⟨t,WT _ h1,by lia⟩
theorem mZ:∀ts:List Th,(ts.map λt=>((t.size:Nat):Int)).sum=((ar ts:Nat):Int)
 | []=>rfl
 | t::ts=>by
   rw[XC,List.sum_cons,mZ ts,ar];lia
theorem ints_map(ts:List Th)(f:Th->Int):(ts.map λt=>o! (f t))=(ts.map f).map o!:=by rw[Zc];rfl
theorem jt(h:n<=xs.length):cJ xs (A? (n:Int)) B?=xs.drop n:=by
 unfold cJ;rw[B!,I!,Nat.min_eq_left h];exact X1 (by rw[XX];exact WX _)
theorem take_snoc{xs:List α}{x:α}(h:xs[n]?=A? x):xs.take (n+1)=xs.take n++[x]:=by rw[Yc,h];rfl
theorem aN{xs:List WS}{i:Nat}{x:V}(h:(xs.map i!)[i]?=A? x):∃a,x=.ref a/\xs[i]?=A? a:=by
 rw[W3]at h;obtain⟨a,h1,h2⟩:=Yi.mp h;exact⟨a,h2.symm,h1⟩
end BB
open BB.Th renaming Fit->y!
namespace PySem
open Sem (wp)
theorem bb_tupNext{cur:WS}{i:Nat}{x:WV}(g:s.1.IsTupleIter cur tp i)(gt:s.1.IsTuple tp items)(hx:items[i]?=A? x)
 (fin:∀h',h'.IsTupleIter cur tp (i+1)->XW cur s.1 h'->Q x {s with heap:=h'}):Xc (Xy prog w) A (X9 (.ref cur)) Q E s:=by
 obtain⟨ob,e1,e2,e3⟩:=id g;obtain⟨ot,e4,_,nt,e5⟩:=gt;unfold X9;refine WN (XR (name:=W5 "__next__") g.typeIs F.slot_tuple_iterator_next (XT F.slot_tuple_iterator_next g.typeIs F.entry_tuple_iterator_next ?_ (F.args_tuple_iterator_next_1 _)));show Xc _ _ (field (.ref cur) 0 >>= _) _ _ s;refine WN (XS e1 e3 (x:=.ref tp) rfl ?_);show Xc _ _ (if(XG tp == Yj)=C? then _ else _) _ _ s;rw[a! (show¬((XG tp == Yj)=C?)from Xm)];show Xc _ _ (field (.ref cur) 1 >>= _) _ _ s;refine WN (XS e1 e3 (x:=.int i 0) rfl ?_);show Xc _ _ (seqItems? (.ref tp) >>= _) _ _ s;refine WN (YB e4 e5 ?_);simp only[Yl,hx];refine WN (ZM e1 e3 (by simp) (WW ⟨x,rfl,WW (fin _ ?_ (YG ..))⟩));exact⟨_,Ym _ e1 (Obj.isFreed_of_fields (Y3 e3 _)),(Obj.cls_mapFields ..).trans e2,by rw[Y3 e3];simp[YH]⟩
theorem bb_tupEnd{cur:WS}{i:Nat}(calm:A.handled=B?)(g:s.1.IsTupleIter cur tp i)(gt:s.1.IsTuple tp items)(hx:items[i]?=B?)
 (fin:∀h' e,Heap.ExtBut cur s.1 h'->(∃o,h'.get? e=A? o/\o.cls=.type "StopIteration")->E (.ref e) {s with heap:=h'}):Xc (Xy prog w) A (X9 (.ref cur)) Q E s:=by
 obtain⟨ob,e1,e2,e3⟩:=id g;obtain⟨ot,e4,_,nt,e5⟩:=gt;unfold X9;refine WN (XR (name:=W5 "__next__") g.typeIs F.slot_tuple_iterator_next (XT F.slot_tuple_iterator_next g.typeIs F.entry_tuple_iterator_next ?_ (F.args_tuple_iterator_next_1 _)));show Xc _ _ (field (.ref cur) 0 >>= _) _ _ s;refine WN (XS e1 e3 (x:=.ref tp) rfl ?_);show Xc _ _ (if(XG tp == Yj)=C? then _ else _) _ _ s;rw[a! (show¬((XG tp == Yj)=C?)from Xm)];show Xc _ _ (field (.ref cur) 1 >>= _) _ _ s;refine WN (XS e1 e3 (x:=.int i 0) rfl ?_);show Xc _ _ (seqItems? (.ref tp) >>= _) _ _ s;refine WN (YB e4 e5 ?_);simp only[Yl,hx];refine WN (wpAny_rule (WN (ZM e1 e3 (by simp) ?_)));show Xc _ _ (newExc (.type "StopIteration") [] >>= _) _ _ _;refine WN ?_;simp only[newExc,newTuple];refine WN (XQ ?_ (by size_fits));refine WN (m:=ZO _ _) (wpAny_of_eq (a:=Yj) (by first|rfl|(simp only[ZO];rfl)) ?_);refine XQ ?_ (by size_fits);simp only[raiseNew];refine WN (wpAny_handled ?_)
 first|rw[show A.in1.handled=B? from calm]|rw[calm]
 refine WN (WW (wpAny_throw ?_));exact fin _ _ (((YG ..).extBut.push _).push _) ⟨_,W2 _ rfl,rfl⟩
theorem bb_drawsT(calm:A.handled=B?)(cur tp:WS)(ne:tp≠cur)(items:Array WV) :
 Draws prog w A cur [cur,tp] items.size (λi v=>items[i]?=A? v) (λi h=>h.IsTupleIter cur tp i/\h.IsTuple tp items) where
 live:=λ_ _ st=>let⟨o,e,_⟩:=st.1;⟨o,e⟩
 frame:=λ_ _ _ st k=>⟨let⟨o,e,r⟩:=st.1;⟨o,k cur (by simp) o e,r⟩,let⟨o,e,r⟩:=st.2;⟨o,k tp (by simp) o e,r⟩⟩
 item:=λi s Q E hi st q=>by
  refine bb_tupNext st.1 st.2 (x:=items[i]) (by simp[hi]) λh' g' sb=>?_;exact q _ h' s.toks (by simp[hi]) ⟨g',st.2.extBut sb.extBut ne⟩ sb
 done:=λs Q E st e=>bb_tupEnd calm st.1 st.2 (by simp) e
theorem bb_meetsEnumT(tp:WS)(items:Array WV)(n:Nat)(dct:Option WS)(sl:Array (Option WV)) :
 Meets (Y7.«enumerate.__new__» ⟨[.type "enumerate",.ref tp],[]⟩) (λ_ R s=>s.1.get? tp=A? {cls:=.type "tuple",dict:=dct,data:=.seq items n,slots:=sl} /\
  R (.ok (.ret (.ref (s.1.push {cls:=.type "tuple_iterator",data:=.fields #[.ref tp,.int 0 0]}).objs.size)))
    {s with heap:=(s.1.push {cls:=.type "tuple_iterator",data:=.fields #[.ref tp,.int 0 0]}).push {cls:=.type "enumerate",data:=.fields #[.none,.bool CG,.ref s.1.1.size,YH 0,.none,.none]}}) :=
 .of_wp λprog w A R s h=>by
  obtain⟨hp,g,d,tk,os⟩:=s;obtain⟨gt,fin⟩:=h;have su:=sub_enumerate;have gT:Heap.IsTuple (Shared.heap ⟨hp,g,d,tk,os⟩) tp items:=⟨_,gt,rfl,n,rfl⟩
  wp_walk using Y8 gt
  refine wpAny_stack_any λst=>WW ?_;split
  .rename_i c _ _ _ _ _
   cases(c == Value.type "enumerate")
   .wp_walk using Y8 gt,Zr gT
    exact⟨_,D?,fin⟩
   .wp_walk using Y8 gt,Zr gT
    exact⟨_,D?,fin⟩
  .wp_walk using Y8 gt,Zr gT
   exact⟨_,D?,fin⟩
theorem bb_callEnumT(gT:s.1.IsTuple tp items)
 (fin:∀h',IsEnum h' (s.1.1.size+1) s.1.1.size 0 .none->h'.IsTupleIter s.1.1.size tp 0->h'.objs.size=s.1.1.size+2 ->
  (∀b o,s.1.get? b=A? o->h'.get? b=A? o)->Q (.ref (s.1.1.size+1)) {s with heap:=h'}):Xc (Xy prog w) A (call (.type "enumerate") [.ref tp]) Q E s:=by
 obtain⟨⟨c,dct,dt,sl⟩,e1,e2,n,e3⟩:=gT;replace e2:c=.type "tuple":=e2;replace e3:dt=.seq items n:=e3;subst e2 e3;refine callType_new F.called_enumerate (by decide) (F.typeCall_enumerate_1 _) (F.newCall_enumerate_1 _) (λobj=>F.args_object_init_2 obj _) F.entry_enumerate_new (bb_meetsEnumT tp items n dct sl) ⟨e1,?_⟩;have z:(s.1.push {cls:=.type "tuple_iterator",data:=.fields #[.ref tp,.int 0 0]}).objs.size=s.1.1.size+1:=Yb ..;show _/\_;rw[z]
 have ge:IsEnum ((s.1.push {cls:=.type "tuple_iterator",data:=.fields #[.ref tp,.int 0 0]}).push {cls:=.type "enumerate",data:=.fields #[.none,.bool CG,.ref s.1.1.size,YH 0,.none,.none]}) (s.1.1.size+1) s.1.1.size 0 .none:=by
  have t:=W2 (s.1.push {cls:=.type "tuple_iterator",data:=.fields #[.ref tp,.int 0 0]}) (o:={cls:=.type "enumerate",data:=.fields #[.none,.bool CG,.ref s.1.1.size,YH 0,.none,.none]}) rfl;rw[z]at t;exact t
 exact⟨⟨_,ge,D?⟩,fin _ ge ⟨_,WU _ (W2 _ rfl),D?,D?⟩ (by rw[Yb,z]) λb o x=>WU _ (WU _ x)⟩
end PySem
namespace L2
open PySem PySem.Spec PyProof.Rows
theorem Inv.turnedL{X:Cx}(I:Inv X Z Y H s)(k:∀b o,b∉fp->s.1.get? b=A? o->h'.get? b=A? o)(hf:∀b∈fp,ja X Z H b) :
 Inv X Z Y H {s with heap:=h',toks:=t'}:=by
 have JK:∀b u,H b=A? u->b∉fp:=λb u e z=>by rw[(hf b z).1]at e;cases e
 refine I.step (g':=s.gens) (d':=s.drawn) (ch:=fp) (λb hb=>?_) (λb o _ _ hc e _=>k b o hc e) (λb o _ _ hc e _=>⟨o.slots,k b o hc e⟩) (λ_ _ _ _ n=>n)
  (λb o hc e=>⟨o,k b o hc e⟩) (λ_ _ e=>e) (λ_ _ _ e=>e) (λb ps e=>⟨#[],by rw[e];simp⟩) (λm hm=>?_) (λb u e=>?_) I.bare
 .obtain⟨f0,f1,f2,f3,f4,f5⟩:=hf b hb;exact⟨f3,f1,f4,f5⟩
 .obtain⟨o,es,ep,ho,r⟩:=hm;exact⟨o,es,ep,k _ o (λz=>(hf _ z).2.1 rfl) ho,r⟩
 .refine(I.hok b u e).stay (λc v hc q=>k c v ?_ q) (λ_ q=>q) λ_ _ q=>q;rcases hc with z|z
  .rw[z];exact JK b u e
  .exact JK c _ z
def Ite(K:WY)(a:WS):It:=⟨λi H=>∃xs x,SqT K H a xs/\xs[i]?=A? x,λi H x H'=>∃p y,H p=B?/\x=.ref p/\H'=upd H p (.tup [.int (i:Nat),y])/\∀xs,SqT K H a xs->xs[i]?=A? y,λi H=>∃xs,SqT K H a xs/\xs.length=i⟩
theorem tO{k1}(a e it:WS):Turn P w K (.Tuple elts k1 pos) (Ite K a) [e,it] e (λi h=>(∃old,IsEnum h e it ((i:Nat):Int) old)/\h.IsTupleIter it a i) where
 mem:=by simp
 obj:=λi h st b hb=>by
  obtain⟨⟨old,he⟩,o,e1,e2,e3⟩:=st;rcases W6.mp hb with rfl|hb
  .exact⟨_,he,λv z=>by cases z⟩
  .have:b=it:=by simpa using hb
   subst this;exact⟨o,e1,λv z=>by rw[e3]at z;cases z⟩
 keep:=λi h h' st k=>by
  obtain⟨⟨old,he⟩,o,e1,e2⟩:=st;exact⟨⟨old,k e (by simp) _ he⟩,o,k it (by simp) _ e1,e2⟩
 item:=by
  walk_at"a";obtain⟨xs,x,hq,hx⟩:=hg;obtain⟨its,rv,p,hz⟩:=I.tuple hq;obtain⟨u,hu,ru⟩:=rv.get hx;obtain⟨⟨old,he⟩,hi⟩:=st
  have NL:e≠it:=by
   rintro rfl;obtain⟨o,e1,e2,_⟩:=hi;rw[he]at e1;cases e1;exact g! (Value.type.inj e2) (by decide)
  have NM:a≠it:=by
   rintro rfl;obtain⟨o,e1,e2,_⟩:=hi;obtain⟨o',Jc,Et,_⟩:=p;rw[Jc]at e1;cases e1;rw[Et]at e2;exact g! (Value.type.inj e2) (by decide)
  have TM:a≠e:=by
   rintro rfl;obtain⟨o',Jc,Et,_⟩:=p;rw[he]at Jc;cases Jc;exact g! (Value.type.inj Et) (by decide)
  have Al:i<its.toArray.size:=by
   have:=(glE hu);simpa using this
  have Fl:e<s.1.1.size:=Xi he;have Br:it<s.1.1.size:=by obtain⟨o,e1,_⟩:=hi;exact Xi e1
  refine wpAny_pyNext_enum_itemD (bb_drawsT (A:=X.A.in1) (show X.A.in1.handled=B? from I.ok.hd hc) it a NM its.toArray) he ⟨hi,p⟩ Al NL (by simp[NL,TM.symm]) λy h1 tk hy ho NN hT hsz hk=>?_
  have TN:y=u:=by
   have:its[i]?=A? y:=by simpa using hy
   rw[hu]at this;exact(Xl this).symm
  subst TN;refine⟨_,D?,wpAny_letOwnedTupleGo_enum ho λh2 NO Gv=>?_⟩;replace Gv:XW e h1 h2:=Gv
  have Ay:∀b∈[e,it],b<s.1.1.size:=λb hb=>by
   rcases W6.mp hb with rfl|hb
   .exact Fl
   .have:b=it:=by simpa using hb
    subst this;exact Br
  have FE:H s.1.1.size=none:=I.hok.fresh (WX _)
  have IA:Inv X Z Y (upd H s.1.1.size (.tup [.int (i:Nat),x])) {s with heap:=s.1.push {cls:=.type "tuple",data:=.seq #[.int (i:Nat) tk,y]},toks:=tk} :=
   I.laid (o:=.tup [.int (i:Nat),x]) (λb ob q=>WU _ q) (WX _) ⟨by show 2<=Xj;decide,[.int (i:Nat) tk,y],0,.cons ⟨tk,rfl⟩ (.cons ru .nil),W2 _ rfl⟩
  refine⟨.ref s.1.1.size,upd H s.1.1.size (.tup [.int (i:Nat),x]),?_,D?,⟨_,x,FE,D?,D?,λys NJ=>by rw[I.tuple_inj NJ hq];exact hx⟩,⟨⟨y,by simpa using NO⟩,?_⟩,λb hb=>?_⟩
  .have IB:Inv X Z Y (upd H s.1.1.size (.tup [.int (i:Nat),x])) {s with heap:=h2,toks:=tk+1}:=by
    refine Inv.turnedL (s:={s with heap:=s.1.push {cls:=.type "tuple",data:=.seq #[.int (i:Nat) tk,y]},toks:=tk}) (h':=h2) (fp:=[e,it]) (t':=tk+1) IA (λb o hb q=>?_) λb hb=>?_
    .have Fi:b≠e:=λz=>hb (by simp[z]);have TQ:b≠it:=λz=>hb (by simp[z]);rw[Gv.2 b Fi];by_cases hb2:b=s.1.1.size
     .subst hb2;rw[hT];have q':(s.1.push {cls:=.type "tuple",data:=.seq #[.int (i:Nat) tk,y]}).get? s.1.1.size=A? o:=q;rw[W2 _ rfl]at q';exact q'
     .have BL:b<(s.1.push {cls:=.type "tuple",data:=.seq #[.int (i:Nat) tk,y]}).objs.size:=Xi q;rw[Yb]at BL;refine hk b o Fi TQ ?_;have q':(s.1.push {cls:=.type "tuple",data:=.seq #[.int (i:Nat) tk,y]}).get? b=A? o:=q;rw[Heap.get?_push_ne _ _ _ hb2]at q';exact q'
    .obtain⟨f0,f1⟩:=hf b hb;exact⟨by rw[af (XD (Ay b hb))];exact f0,f1⟩
   exact IB
  .obtain⟨o,e1,r⟩:=NN.1;exact⟨o,(Gv.2 it (Zb NL)).trans e1,r⟩
  .rw[af (XD (Ay b hb))];exact(hf b hb).1
 done:=by
  walk_at"a";obtain⟨xs,hq,hx⟩:=hg;obtain⟨its,rv,p,hz⟩:=I.tuple hq;obtain⟨⟨old,he⟩,hi⟩:=st
  have NM:a≠it:=by
   rintro rfl;obtain⟨o,e1,e2,_⟩:=hi;obtain⟨o',Jc,Et,_⟩:=p;rw[Jc]at e1;cases e1;rw[Et]at e2;exact g! (Value.type.inj e2) (by decide)
  have hn:its.toArray.size=i:=by
   have:=rv.length;rw[W9];lia
  refine wpAny_pyNext_enum_endD (bb_drawsT (A:=X.A.in1) (show X.A.in1.handled=B? from I.ok.hd hc) it a NM its.toArray) he (by rw[hn];exact⟨hi,p⟩) λh' eb=>⟨rfl,?_⟩;exact I.turnedL (fp:=[e,it]) (t':=s.toks) (λb o hb q=>eb b o (λz=>hb (by simp[z])) q) hf
 self:=λ_ _ _ _ _ st h=>by
  obtain⟨⟨old,he⟩,_⟩:=st;exact wpAny_pyIter_enum he h
section
variable{X:Cx}{p2 Bl:Pos}
def yU(K:WY)(tl:TE):TI:=λY H R=>tl Y H λx H1=>∃a,x=.ref a/\(∃xs,SqT K H1 a xs)/\R (Ite K a) H1
theorem rA{k1}(g2:Gl X "enumerate")(m2:X.mg "enumerate"=B?)(he:PE X e te)(h2:XO [e] X.env=[(CG,YS e X.env)]:=by rfl):PI X (.Tuple elts k1 pos) (.Call (.Name "enumerate" p2) [e] [] Bl) (yU X.K te):=by
 intro Z s Y H R I h;refine Yq (gf I g2 m2 boot_enumerate (Yu ?_ h2 rfl));rw[h2];show Xc _ _ (spliced ((CG,YS e X.env)::[])) _ _ s;refine Z1 (thn (he Z s Y H _ I h) λu s1⟨x,H1,I1,r1,a,ex,⟨xs,hq⟩,q⟩=>Calls.spliced_nil ?_);subst ex;cases r1;obtain⟨its,rv,p,hz⟩:=I1.tuple hq;refine bb_callEnumT (show s1.1.IsTuple a its.toArray from p) λh' g1 g2 g3 g4=>?_;refine wpAny_pyIter_enum (s:={s1 with heap:=h'}) g1 ?_;refine⟨s1.1.1.size+1,[s1.1.1.size+1,s1.1.1.size],_,_,H1,D?,I1.kept (t':=s1.toks) g4,tO a _ _,⟨⟨_,g1⟩,g2⟩,λb hb=>?_,q⟩
 have AV:s1.1.1.size<=b:=by
  rcases W6.mp hb with rfl|hb
  .lia
  .have:b=s1.1.1.size:=by simpa using hb
   exact Nat.le_of_eq this.symm
 exact I1.fpOk AV (I1.hok.fresh AV)
inductive t9(K:WY)(x:V)(y:V)(H:Hp)(Q:VK):Prop
 |mk (a:_) (b:_) (xs:_) (ys:_) (Ci:x=.ref a) (Cj:y=.ref b) (DA:SqT K H a xs) (Fy:SqT K H b ys) (Ha:xs.length+ys.length<=Xj) (Ra:(xs=[]->Q (.ref b) H)) (zz6:(xs≠[]->ys=[]->Q (.ref a) H)) (zz7:(xs≠[]->ys≠[]->∀p,H p=B?->Q (.ref p) (upd H p (.tup (xs++ys))))):t9 K x y H Q
def tX(K:WY):R2:=t9 K
theorem io:OpR X (ZC .Add) (tX X.K):=by
 intro Z s Y H x y v u Q I rx ry h;obtain⟨a,b,xs,ys,e1,e2,ha,hb,hz,q0,q1,q2⟩:=h;by_cases hx:xs=[]
 .subst e1 e2;cases rx;cases ry;obtain⟨its,r1,p1,_⟩:=I.tuple ha;obtain⟨An,r2,p2,_⟩:=I.tuple hb;have hi:its=[]:=r1.nil_iff.mpr hx;obtain⟨⟨cls,dd,data,sl⟩,ho,hc,n,hd⟩:=p1;obtain⟨⟨JR,IY,data2,IZ⟩,FA,DC,n2,hd2⟩:=p2;simp only at hc hd DC hd2;subst hc hd DC hd2;exact concat_meets ⟨_,ho,rfl⟩ ⟨_,FA,rfl⟩ noFill_tuple_add seq_tuple_add PySem.F.slot_tuple_add PySem.F.entry_tuple_add (PySem.F.args_tuple_add_2 _ _) (tuple_addW0 a b its.toArray An.toArray n n2 dd IY sl IZ (by simp[hi])) ⟨ho,FA,⟨.ref b,H,I,rfl,q0 hx⟩⟩
 .exact vH Z s Y H x y v u Q I rx ry ⟨a,b,xs,ys,e1,e2,ha,hb,hx,hz,q1 hx,q2 hx⟩
end
end L2
namespace PySem
open Sem (wp)
abbrev tzH1(h:X5)(l1:WS):X5:=h.push {cls:=.type "tuple_iterator",data:=.fields #[.ref l1,.int 0 0]}
abbrev tzH2(h:X5)(l1 l2:WS):X5:=(tzH1 h l1).push {cls:=.type "tuple_iterator",data:=.fields #[.ref l2,.int 0 0]}
abbrev tzH3(h:X5)(l1 l2:WS):X5:=(tzH2 h l1 l2).push {cls:=.type "tuple",data:=.seq #[.ref h.objs.size,.ref (tzH1 h l1).objs.size]}
abbrev tzH4(h:X5)(l1 l2:WS):X5:=(tzH3 h l1 l2).push {cls:=.type "tuple",data:=.seq #[.none,.none]}
abbrev tzH5(h:X5)(l1 l2:WS):X5:=(tzH4 h l1 l2).push {cls:=.type "zip",data:=.fields #[.none,.bool CG,.bool CG,.ref (tzH2 h l1 l2).objs.size,.ref (tzH3 h l1 l2).objs.size]}
theorem IsTuple.push'{xs:Array WV}(x:h.IsTuple l xs)(o:YF):(h.push o).IsTuple l xs:=let⟨ob,e,r⟩:=x;⟨ob,WU _ e,r⟩
theorem bb_meets_zip(l1 l2:WS)(xs ys:Array WV) :
 Meets (Y7.«zip.__new__» ⟨[.type "zip",.ref l1,.ref l2],[]⟩) (λ_ R s=>s.1.IsTuple l1 xs/\s.1.IsTuple l2 ys /\
  R (.ok (.ret (.ref (tzH4 s.1 l1 l2).objs.size))) {s with heap:=tzH5 s.1 l1 l2}) :=
 .of_wp λprog w A R s h=>by
  obtain⟨hp,g,d,tk,os⟩:=s;obtain⟨Ck,Bb,h⟩:=h;have JZ:=sub_zip;have Hf:Heap.IsTuple (Shared.heap ⟨hp,g,d,tk,os⟩) l1 xs:=Ck;have NP:Heap.IsTuple (Shared.heap ⟨hp.push {cls:=.type "tuple_iterator",data:=.fields #[.ref l1,.int 0 0]},g,d,tk,os⟩) l2 ys:=IsTuple.push' Bb _
  wp_walk using Zr Hf,Zr NP
  exact⟨_,D?,h⟩
theorem bb_call_zip{xs:Array WV}(Ck:s.1.IsTuple l1 xs)(Bb:s.1.IsTuple l2 ys)
 (h:∀h',IsZip h' (s.1.1.size+4) (s.1.1.size+2) (s.1.1.size+3) .none->Zv h' (s.1.1.size+2) (.ref s.1.1.size) (.ref (s.1.1.size+1)) ->
  Zv h' (s.1.1.size+3) .none .none->h'.IsTupleIter s.1.1.size l1 0->h'.IsTupleIter (s.1.1.size+1) l2 0->h'.objs.size=s.1.1.size+5 ->
  (∀c o,s.1.get? c=A? o->h'.get? c=A? o)->Q (.ref (s.1.1.size+4)) {s with heap:=h'}) :
 Xc (Xy prog w) A (call (.type "zip") [.ref l1,.ref l2]) Q E s:=by
 refine callType_new F.called_zip (by decide) (F.typeCall_zip_2 _ _) (F.newCall_zip_2 _ _) (λobj=>F.args_object_init_3 obj _ _) F.entry_zip_new
  (bb_meets_zip l1 l2 xs ys) ⟨Ck,Bb,?_⟩
 have z1:(tzH1 s.1 l1).objs.size=s.1.1.size+1:=Yb ..;have z2:(tzH2 s.1 l1 l2).objs.size=s.1.1.size+2:=by rw[Yb,z1]
 have z3:(tzH3 s.1 l1 l2).objs.size=s.1.1.size+3:=by rw[Yb,z2]
 have z4:(tzH4 s.1 l1 l2).objs.size=s.1.1.size+4:=by rw[Yb,z3]
 have z5:(tzH5 s.1 l1 l2).objs.size=s.1.1.size+5:=by rw[Yb,z4]
 have g5:(tzH5 s.1 l1 l2).get? (tzH4 s.1 l1 l2).objs.size=A? _:=W2 _ rfl;have g4:(tzH5 s.1 l1 l2).get? (tzH3 s.1 l1 l2).objs.size=A? _:=WU _ (W2 _ rfl);have g3:(tzH5 s.1 l1 l2).get? (tzH2 s.1 l1 l2).objs.size=A? _:=WU _ (WU _ (W2 _ rfl));have g2:(tzH5 s.1 l1 l2).get? (tzH1 s.1 l1).objs.size=A? _:=WU _ (WU _ (WU _ (W2 _ rfl)));have g1:(tzH5 s.1 l1 l2).get? s.1.1.size=A? _:=WU _ (WU _ (WU _ (WU _ (W2 _ rfl))));show _/\_;rw[z2,z3,z4]at g5;rw[z1,z2]at g3;rw[z3]at g4;rw[z1]at g2;rw[z4]
 exact⟨⟨_,g5,D?⟩,h _ g5 g3 g4 ⟨_,g1,D?,D?⟩ ⟨_,g2,D?,D?⟩ z5 λc o x =>
  WU _ (WU _ (WU _ (WU _ (WU _ x))))⟩
structure ZSt(xs ys:Array WV)(z TI TO i1 i2 l1 l2:WS)(k:Nat)(h:X5):Prop where
 ap:ZipApart z TI TO i1 i2 l1 l2
 zip:IsZip h z TI TO .none\/∃(T:WS)(b:Bool)(x y:WV),h.get? z=A? {cls:=.type "zip",data:=.fields #[YH T,.bool b,.bool CG,.ref TI,.ref TO]}/\Zv h T x y/\T≠TO
 hTI:Zv h TI (.ref i1) (.ref i2)
 hTO:∃a b,Zv h TO a b
 h1:h.IsTupleIter i1 l1 k
 h2:h.IsTupleIter i2 l2 k
 t1:h.IsTuple l1 xs
 t2:h.IsTuple l2 ys
theorem ZSt.typeIs{xs:Array WV}{TI TO:WS}{k:Nat}(x:ZSt xs ys z TI TO i1 i2 l1 l2 k s.1):s.TypeIs (.ref z) "zip":=by
 rcases x.zip with e|⟨T,b,u,v,e,_⟩
 .exact⟨_,e,D?⟩
 .exact⟨_,e,D?⟩
theorem IsTuple.but{c:WS}{xs:Array WV}(x:h.IsTuple l xs)(e:Heap.ExtBut c h h')(n:l≠c):h'.IsTuple l xs:=let⟨ob,q,r⟩:=x;⟨ob,e _ _ n q,r⟩
theorem IsTupleIter.but{c i:WS}{k:Nat}(x:h.IsTupleIter i l k)(e:Heap.ExtBut c h h')(n:i≠c):h'.IsTupleIter i l k:=let⟨ob,q,r⟩:=x;⟨ob,e _ _ n q,r⟩
open Sem (wp)
theorem bb_zip_itemA{TI TO:WS}{k:Nat}{xs:Array WV}{x y a b:WV}(D:ZipApart z TI TO i1 i2 l1 l2)
 (hz:IsZip s.1 z TI TO .none) (hTI:Zv s.1 TI (.ref i1) (.ref i2)) (hTO:Zv s.1 TO a b)
 (h1:s.1.IsTupleIter i1 l1 k) (h2:s.1.IsTupleIter i2 l2 k) (Ck:s.1.IsTuple l1 xs) (Bb:s.1.IsTuple l2 ys) (hx:xs[k]?=A? x) (hy:ys[k]?=A? y)
 (hQ:∀h',IsZip h' z TI TO (YH s.1.1.size)->Zv h' TO x y->h'.IsTupleIter i1 l1 (k+1)->h'.IsTupleIter i2 l2 (k+1)->Zv h' s.1.1.size x y->h'.objs.size=s.1.1.size+1 ->
  (∀c o,c≠z->c≠TO->c≠i1->c≠i2->s.1.get? c=A? o->h'.get? c=A? o)->Q (.ref s.1.1.size) {s with heap:=h'}) :
 Xc (Xy prog w) A (Y7.«zip.__next__» ⟨[.ref z],[]⟩) (λfin s'=>∃v,fin=.done (.ret v)/\Q v s') E s:=by
 show Xc _ _ (field (.ref z) 2 >>= _) _ _ _;refine WN (XS hz rfl (x:=.bool CG) rfl ?_);show Xc _ _ (field (.ref z) 3 >>= _) _ _ _;refine WN (XS hz rfl (x:=.ref TI) rfl ?_);refine WN (YB hTI rfl ?_);show Xc _ _ (Yg (.ref z) >>= _) _ _ _;refine WN ?_;unfold Yg;refine WN (XS hz rfl (x:=.none) rfl (WW ?_));simp only[if_true];refine WN (wpAny_rule ?_);refine WN (XS hz rfl (x:=.ref TO) rfl ?_);refine WN (Y2 hz (by simp) λAu A' Am=>?_);replace A':IsZip Au z TI TO .ellipsis:=A';refine WN ?_;simp only[List.zipIdx_cons,List.zipIdx_nil,List.forIn_cons,List.forIn_nil];refine WN (WN (wpAny_onRaise ?_));show Xc _ _ (X9 (.ref i1) >>= _) _ _ _;refine WN (bb_tupNext (IsTupleIter.but h1 Am.extBut D.i1z) (IsTuple.but Ck Am.extBut D.l1z) hx λBp Ey Ar=>WW ?_);have BU:Zv Bp TO a b:=Ar.extBut _ _ D.TOi1 (Am.extBut _ _ D.TOz hTO);refine WN (YB BU rfl ?_);refine WN (wpAny_updateSeq_pair BU λCK Ct AM=>?_);replace Ct:Zv CK TO x b:=Ct;refine WN (wpAny_letGo (WW ?_));refine WN (WN (wpAny_onRaise ?_));show Xc _ _ (X9 (.ref i2) >>= _) _ _ _
 refine WN (bb_tupNext (IsTupleIter.but (IsTupleIter.but (IsTupleIter.but h2 Am.extBut D.i2z) Ar.extBut D.i12.symm) AM.extBut D.TOi2.symm)
  (IsTuple.but (IsTuple.but (IsTuple.but Bb Am.extBut D.l2z) Ar.extBut D.l2i1) AM.extBut D.l2TO) hy λBR J0 Bg=>WW ?_)
 have Ez:Zv BR TO x b:=Bg.extBut _ _ D.TOi2 Ct;refine WN (YB Ez rfl ?_);refine WN (wpAny_updateSeq_pair Ez λAU Cu BC=>?_);replace Cu:Zv AU TO x y:=Cu;refine WN (wpAny_letGo (WW (WW ?_)));refine WN (YB Cu rfl ?_);refine WN (wpAny_newTuple ?_);have hsz:AU.objs.size=s.1.1.size:=by rw[BC.1,Bg.1,AM.1,Ar.1,Am.1]
 have Gw:IsZip AU z TI TO .ellipsis:=BC.extBut _ _ D.TOz.symm (Bg.extBut _ _ D.i2z.symm (AM.extBut _ _ D.TOz.symm (Ar.extBut _ _ D.i1z.symm A')))
 have J1:∀c o,c≠z->c≠TO->c≠i1->c≠i2->s.1.get? c=A? o->AU.get? c=A? o:=λc o c1 c2 c3 c4 e =>
  BC.extBut _ _ c2 (Bg.extBut _ _ c4 (AM.extBut _ _ c2 (Ar.extBut _ _ c3 (Am.extBut _ _ c1 e))))
 have J2:AU.IsTupleIter i1 l1 (k+1):=IsTupleIter.but (IsTupleIter.but (IsTupleIter.but Ey AM.extBut D.TOi1.symm) Bg.extBut D.i12) BC.extBut D.TOi1.symm;have J3:AU.IsTupleIter i2 l2 (k+1):=IsTupleIter.but J0 BC.extBut D.TOi2.symm;have J4:z<AU.objs.size:=Xi Gw;show Xc _ _ (Builtin.SmallTypes.ownedTupleHandOut (.ref z) (.ref AU.objs.size) >>= _) _ _ _;refine WN ?_;unfold Builtin.SmallTypes.ownedTupleHandOut;have J5:IsZip (AU.push {cls:=.type "tuple",data:=.seq #[x,y]}) z TI TO .ellipsis:=WU _ Gw;refine WN (Y2 J5 (by simp) λNQ EA EB=>?_);replace EA:IsZip NQ z TI TO (YH AU.objs.size):=EA;refine Y2 EA (by simp) λEC DD ED=>?_;replace DD:IsZip EC z TI TO (YH AU.objs.size):=DD;have up:∀c o,c≠z->AU.get? c=A? o->EC.get? c=A? o:=λc o c1 e=>ED.extBut _ _ c1 (EB.extBut _ _ c1 (WU _ e));have Gx:Zv EC AU.objs.size x y:=ED.extBut _ _ (ZK J4) (EB.extBut _ _ (ZK J4) (W2 _ rfl));have Rk:EC.objs.size=AU.objs.size+1:=by rw[ED.1,EB.1,Yb]
 rw[hsz]at DD Gx Rk;refine WW ⟨_,rfl,?_⟩;show Q (.ref AU.objs.size) _;rw[hsz];refine hQ EC DD (up _ _ D.TOz Cu) ?_ ?_ Gx Rk λc o c1 c2 c3 c4 e=>up c o c1 (J1 c o c1 c2 c3 c4 e)
 .obtain⟨o,e,r⟩:=J2;exact⟨o,up _ o D.i1z e,r⟩
 .obtain⟨o,e,r⟩:=J3;exact⟨o,up _ o D.i2z e,r⟩
theorem bb_loadIfAlive{o:YF}{Q:Option YF->WZ->Prop}(hQ:∀u,A? o=A? u->Q (A? u) s)(h:s.1.get? a=A? o):Xc (Xy prog w) A (loadIfAlive a) Q E s:=by
 intro Γ p hΓ;show Sem.wp _ _ (.loadIfAlive a .pure) _ _ _ _;rw[Sem.wp_loadIfAlive,h];exact hQ o rfl
theorem bb_notfree{T:WS}{b:Bool}{f2 TI TO v:WV}(hz:s.1.get? z=A? {cls:=.type "zip",data:=.fields #[YH T,.bool b,f2,TI,TO]})(hT:Zv s.1 T u v) :
 Xc (Xy prog w) A (Yg (.ref z)) (λa s1=>a=CG/\∃Au,s1={s with heap:=Au}/\Au.get? z=A? {cls:=.type "zip",data:=.fields #[YH T,.bool C?,f2,TI,TO]}/\XW z s.1 Au) E s:=by
 unfold Yg;refine WN (XS hz rfl (x:=YH T) rfl ?_);show Xc _ _ (loadIfAlive (T:Int).toNat >>= _) _ _ _;rw[Yl];refine WN (bb_loadIfAlive (λo(e:A? _=A? o)=>?_) hT);cases e;show Xc _ _ (if(A? _:Option YF).isNone=C? then _ else _) _ _ _;rw[a! (show¬((A? _:Option YF).isNone=C?)from Xm)];refine WN (XS hz rfl (x:=.bool b) rfl ?_);cases b with
 |true=>exact WW ⟨rfl,s.1,rfl,hz,rfl,λ_ _=>rfl⟩
 |false=>exact WN (Y2 hz (by simp) λAu A' Am=>WW ⟨rfl,Au,rfl,A',Am⟩)
theorem bb_zip_end{TI TO:WS}{k:Nat}{xs:Array WV}{Q:Fin->WZ->Prop}(hh:A.handled=B?)
 (S:ZSt xs ys z TI TO i1 i2 l1 l2 k s.1) (CM:xs[k]?=B?\/ys[k]?=B?)
 (hE:∀h' e,(∀c o,c≠z->c≠TO->c≠i1->c≠i2->s.1.get? c=A? o->h'.get? c=A? o)->(∃o,h'.get? e=A? o/\o.cls=.type "StopIteration")->E (.ref e) {s with heap:=h'}) :
 Xc (Xy prog w) A (Y7.«zip.__next__» ⟨[.ref z],[]⟩) Q E s:=by
 obtain⟨D,hz,hTI,⟨a,b,hTO⟩,h1,h2,Ck,Bb⟩:=S;rcases hz with hz|⟨T,bb,u,v,hz,hT,hTT⟩
 .show Xc _ _ (field (.ref z) 2 >>= _) _ _ _;refine WN (XS hz rfl (x:=.bool CG) rfl ?_);show Xc _ _ (field (.ref z) 3 >>= _) _ _ _;refine WN (XS hz rfl (x:=.ref TI) rfl ?_);refine WN (YB hTI rfl ?_);show Xc _ _ (Yg (.ref z) >>= _) _ _ _;refine WN ?_;unfold Yg;refine WN (XS hz rfl (x:=.none) rfl (WW ?_));simp only[if_true];refine WN (wpAny_rule ?_);refine WN (XS hz rfl (x:=.ref TO) rfl ?_);refine WN (Y2 hz (by simp) λAu A' Am=>?_);replace A':IsZip Au z TI TO .ellipsis:=A';refine WN ?_;simp only[List.zipIdx_cons,List.zipIdx_nil,List.forIn_cons,List.forIn_nil];refine WN (WN (wpAny_onRaise ?_));show Xc _ _ (X9 (.ref i1) >>= _) _ _ _;cases hx:xs[k]? with
  | none =>
    refine WN (bb_tupEnd hh (IsTupleIter.but h1 Am.extBut D.i1z) (IsTuple.but Ck Am.extBut D.l1z) hx λBp e Ar he=>?_);obtain⟨oe,Hh,J6⟩:=he;have Gy:IsZip Bp z TI TO .ellipsis:=Ar _ _ D.i1z.symm A';have NR:e≠z:=λx=>by subst x;rw[Gy]at Hh;cases Hh;simp at J6
    refine Y2 Gy (by simp) λCK _ AM=>hE CK e (λc o c1 _ c3 _ x=>AM.extBut _ _ c1 (Ar _ _ c3 (Am.extBut _ _ c1 x))) ⟨oe,AM.extBut _ _ NR Hh,J6⟩
  | some x =>
    have hy:ys[k]?=none:=by rcases CM with h|h;rw[hx]at h;cases h;exact h
    refine WN (bb_tupNext (IsTupleIter.but h1 Am.extBut D.i1z) (IsTuple.but Ck Am.extBut D.l1z) hx λBp Ey Ar=>WW ?_);have BU:Zv Bp TO a b:=Ar.extBut _ _ D.TOi1 (Am.extBut _ _ D.TOz hTO);refine WN (YB BU rfl ?_);refine WN (wpAny_updateSeq_pair BU λCK Ct AM=>?_);refine WN (wpAny_letGo (WW ?_));refine WN (WN (wpAny_onRaise ?_));show Xc _ _ (X9 (.ref i2) >>= _) _ _ _
    refine WN (bb_tupEnd hh (IsTupleIter.but (IsTupleIter.but (IsTupleIter.but h2 Am.extBut D.i2z) Ar.extBut D.i12.symm) AM.extBut D.TOi2.symm)
     (IsTuple.but (IsTuple.but (IsTuple.but Bb Am.extBut D.l2z) Ar.extBut D.l2i1) AM.extBut D.l2TO) hy λBR e Bg he=>?_)
    obtain⟨oe,Hh,J6⟩:=he;have Gz:IsZip BR z TI TO .ellipsis:=Bg _ _ D.i2z.symm (AM.extBut _ _ D.TOz.symm (Ar.extBut _ _ D.i1z.symm A'));have NR:e≠z:=λx=>by subst x;rw[Gz]at Hh;cases Hh;simp at J6
    refine Y2 Gz (by simp) λAU _ BC=>hE AU e (λc o c1 c2 c3 c4 x=>BC.extBut _ _ c1 (Bg _ _ c4 (AM.extBut _ _ c2 (Ar.extBut _ _ c3 (Am.extBut _ _ c1 x))))) ⟨oe,BC.extBut _ _ NR Hh,J6⟩
 .show Xc _ _ (field (.ref z) 2 >>= _) _ _ _;refine WN (XS hz rfl (x:=.bool CG) rfl ?_);show Xc _ _ (field (.ref z) 3 >>= _) _ _ _;refine WN (XS hz rfl (x:=.ref TI) rfl ?_);refine WN (YB hTI rfl ?_);show Xc _ _ (Yg (.ref z) >>= _) _ _ _;refine WN (YR (bb_notfree hz hT) (λa s1⟨e1,Au,e2,A',Am⟩=>?_) λ_ _ x=>x);subst e1 e2;simp only[X6,if_false];rw[<-Array.forIn_toList];refine WN ?_;simp only[List.forIn_cons,List.forIn_nil];refine WN (WN (Yv ?_));show Xc _ _ (X9 (.ref i1) >>= _) _ _ _;cases hx:xs[k]? with
  | none =>
    refine WN (bb_tupEnd hh (IsTupleIter.but h1 Am.extBut D.i1z) (IsTuple.but Ck Am.extBut D.l1z) hx λBp e Ar he=>?_);exact hE Bp e (λc o c1 _ c3 _ x=>Ar _ _ c3 (Am.extBut _ _ c1 x)) he
  | some x =>
    have hy:ys[k]?=none:=by rcases CM with h|h;rw[hx]at h;cases h;exact h
    refine WN (bb_tupNext (IsTupleIter.but h1 Am.extBut D.i1z) (IsTuple.but Ck Am.extBut D.l1z) hx λBp Ey Ar=>WW (WW ?_));refine WN (WN (Yv ?_));show Xc _ _ (X9 (.ref i2) >>= _) _ _ _;refine WN (bb_tupEnd hh (IsTupleIter.but (IsTupleIter.but h2 Am.extBut D.i2z) Ar.extBut D.i12.symm) (IsTuple.but (IsTuple.but Bb Am.extBut D.l2z) Ar.extBut D.l2i1) hy λBR e Bg he=>?_);exact hE BR e (λc o c1 _ c3 c4 x=>Bg _ _ c4 (Ar.extBut _ _ c3 (Am.extBut _ _ c1 x))) he
theorem bb_zip_done{TI TO:WS}{k:Nat}{xs:Array WV}{Q:Option WV->WZ->Prop}(hh:A.handled=B?)(S:ZSt xs ys z TI TO i1 i2 l1 l2 k s.1)(CM:xs[k]?=B?\/ys[k]?=B?)
 (hQ:∀h',(∀c o,c∉[z,TO,i1,i2]->s.1.get? c=A? o->h'.get? c=A? o)->Q B? {s with heap:=h'}):Xc (Xy prog w) A (ZJ (.ref z)) Q E s:=by
 have hT:=S.typeIs;unfold ZJ
 refine WN (ZI (XR (name:=W5 "__next__") hT F.slot_zip_next
  (XT F.slot_zip_next hT F.entry_zip_next (bb_zip_end hh S CM λh' e hk he=>?_) (F.args_zip_next_1 _))))
 obtain⟨o,ho,hc⟩:=he;refine WN (ZN (T:="StopIteration") (b:=C?) ⟨o,ho,hc⟩ isSubtype_stop ?_);exact WW (hQ _ λc o hc=>hk c o (λq=>hc (by simp[q])) (λq=>hc (by simp[q])) (λq=>hc (by simp[q])) (λq=>hc (by simp[q])))
open Sem (wp)
namespace F
end F
section
variable{R:Result->WZ->Prop}
end
end PySem
namespace L2
open PySem PySem.Spec PyProof.Rows
section
variable{X:Cx}{e1 e2:X3}{t:TA}{p p2 Bl:Pos}
end
section
variable[DecidableEq κ]
def aM(kvs:List (κ×V))(k:κ):Option V:=(kvs.find? λkv=>decide (kv.1=k)).map (·.2)
def putK(kvs:List (κ×V))(k:κ)(v:V):List (κ×V) :=
 if(kvs.any λkv=>decide (kv.1=k))=C? then kvs.map (λkv=>if kv.1=k then(kv.1,v)else kv)else kvs++[(k,v)]
theorem bq{p:κ×V}{r:List (κ×V)}{k:κ}(e:p.1=k):aM (p::r) k=A? p.2:=by simp[aM,Zp,e]
theorem bA{p:κ×V}{r:List (κ×V)}{k:κ}(e:¬p.1=k):aM (p::r) k=aM r k:=by simp[aM,Zp,e]
theorem eR(k:κ):∀kvs:List (κ×V),(kvs.any λkv=>decide (kv.1=k))=(aM kvs k).isSome
 | []=>rfl
 | p::r=>by
   rw[List.any_cons];by_cases e:p.1=k
   .simp only[bq e,d! e,Bool.true_or,Option.isSome_some]
   .rw[bA e,c! e,Bool.false_or];exact eR k r
theorem pi(k j:κ)(y:V):∀kvs:List (κ×V),aM (kvs.map λkv=>if kv.1=k then(kv.1,y)else kv) j=(aM kvs j).map λx=>if j=k then y else x
 | []=>rfl
 | p::r=>by
   have ih:=pi k j y r;rw[XC];by_cases h:p.1=k
   .rw[b! h];by_cases e:p.1=j
    .rw[bq (p:=(p.1,y)) e,bq e,Option.map_some,b! (e.symm.trans h)]
    .rw[bA (p:=(p.1,y)) e,bA e,ih]
   .rw[a! h];by_cases e:p.1=j
    .rw[bq (p:=p) e,bq e,Option.map_some,a! (λz=>h (e.trans z))]
    .rw[bA (p:=p) e,bA e,ih]
theorem mY(k j:κ)(y:V):∀kvs:List (κ×V),aM kvs k=B?->aM (kvs++[(k,y)]) j=if j=k then A? y else aM kvs j
 | [],_=>by
   by_cases e:k=j
   .rw[b! e.symm];exact bq (p:=(k,y)) e
   .rw[a! (λz=>e z.symm)];exact bA (p:=(k,y)) e
 | p::r,hn=>by
   rw[YU];have hk:¬p.1=k:=λz=>by rw[bq z]at hn;cases hn
   rw[bA hk]at hn;have ih:=mY k j y r hn;by_cases e:p.1=j
   .rw[bq e,bq e,a! (λz=>hk (e.trans z))]
   .rw[bA e,bA e,ih]
theorem dq(kvs:List (κ×V))(k j:κ)(y:V):aM (putK kvs k y) j=if j=k then A? y else aM kvs j:=by
 unfold putK;by_cases a:(kvs.any λkv=>decide (kv.1=k))=C?
 .rw[b! a,pi];rw[eR]at a;by_cases e:j=k
  .obtain⟨x,hx⟩:=Option.isSome_iff_exists.mp a;rw[b! e,e,hx,Option.map_some,b! rfl]
  .rw[a! e];cases aM kvs j with
   |none=>rfl
   |some x=>rw[Option.map_some,a! e]
 .rw[a! a];refine mY k j y kvs ?_;rw[eR]at a;cases q:aM kvs k with
  |none=>rfl
  |some x=>rw[q]at a;exact(a rfl).elim
theorem bG(kvs:List (κ×V))(k:κ)(v:V):(putK kvs k v).length<=kvs.length+1:=by
 unfold putK;split
 .rw[WO];lia
 .rw[W7,Xf,List.length_nil];lia
theorem la{kvs:List (κ×V)}{k:κ}(v:V)(h:aM kvs k=B?):putK kvs k v=kvs++[(k,v)]:=by
 unfold putK;rw[eR,h];exact a! (by decide)
theorem RelO.isSome_eq{o:Option V}{u:Option WV}(r:RelO o u):o.isSome=u.isSome:=by
 cases o with
 | none=>cases u with
   |none=>rfl
   |some _=>exact(show False from r).elim
 | some _=>cases u with
   |none=>exact(show False from r).elim
   |some _=>rfl
theorem RelO.getD{o:Option V}{u:Option WV}{d:V}{d':WV}(r:RelO o u)(rd:RelV d d'):RelV (o.getD d) (u.getD d'):=by
 cases o with
 | none=>cases u with
   |none=>exact rd
   |some _=>exact(show False from r).elim
 | some _=>cases u with
   |none=>exact(show False from r).elim
   |some _=>exact r
theorem KV.val{kvs:List (κ×V)}(r:KV kvs vs)(k:κ):RelO (aM kvs k) (valueAt vs k):=by
 unfold KV at r;induction r with
 |nil=>exact Z3
 | @cons p q ps qs h t ih =>
   obtain⟨h1,h2⟩:=h;by_cases e:p.1=k
   .have e':q.1=k:=h1.symm.trans e;have b:valueAt (q::qs) k=A? q.2:=by simp[valueAt,Zp,e']
    rw[bq e,b];exact h2
   .have e':¬q.1=k:=λz=>e (h1.trans z);have b:valueAt (q::qs) k=valueAt qs k:=by simp[valueAt,Zp,e']
    rw[bA e,b];exact ih
theorem KV.any{kvs:List (κ×V)}(r:KV kvs vs)(k:κ):(kvs.any λkv=>decide (kv.1=k))=vs.any λkv=>decide (kv.1=k):=by
 unfold KV at r;induction r with
 |nil=>rfl
 |cons h t ih=>rw[List.any_cons,List.any_cons,ih,h.1]
theorem KV.repl{kvs:List (κ×V)}(r:KV kvs vs)(k:κ)(ry:RelV y u) :
 KV (kvs.map λkv=>if kv.1=k then(kv.1,y)else kv) (vs.map λkv=>if kv.1=k then(kv.1,u)else kv):=by
 unfold KV at r |-;induction r with
 |nil=>exact .nil
 | @cons p q ps qs h t ih =>
   rw[XC,XC];refine .cons ?_ ih;obtain⟨h1,h2⟩:=h;by_cases e:p.1=k
   .rw[b! e,b! (h1.symm.trans e)];exact⟨h1,ry⟩
   .rw[a! e,a! (λz=>e (h1.trans z))];exact⟨h1,h2⟩
theorem KV.put{kvs:List (κ×V)}(r:KV kvs vs)(k:κ)(ry:RelV y u):KV (putK kvs k y) (stored vs k u):=by
 unfold putK stored;rw[r.any k];by_cases e:(vs.any λkv=>decide (kv.1=k))=C?
 .rw[b! e,b! e];exact r.repl k ry
 .rw[a! e,a! e];exact Paired.snoc r ⟨rfl,ry⟩
theorem KV.length{kvs:List (κ×V)}(r:KV kvs vs):kvs.length=vs.length:=Xa r
end
theorem kE{k:Key}(r:RelV (kV k) u):(aC P w).is k u=true:=by
 cases k with
 |inl i=>obtain⟨t,e⟩:=(show∃t,u=Value.int i t from r);subst e;exact p9 P w i t
 |inr x=>obtain⟨t,e⟩:=(show∃t,u=Value.str x t from r);subst e;exact pY P w x t
theorem m9:∀{ks:List Key}{us:List WV},Vals (ks.map kV) us->ItemsAre (aC P w) ks us
 | [],_,r=>by rw[YM]at r;cases r;exact .nil
 | k::ks,_,r=>by
   rw[XC]at r;cases r with
   |cons h t=>exact .cons (kE h) (m9 t)
abbrev KTd(H:Hp):List (List Key×V)->List (List Key×WS×WV)->Prop:=XH λp q=>p.1=q.1/\H q.2.1=A? (.tup (p.1.map kV))/\RelV p.2 q.2.2
theorem KTd.val{xs:List (List Key×WS×WV)}(r:KTd H kvs xs)(k:List Key):RelO (aM kvs k) ((atKey xs k).map (·.2)):=by
 induction r with
 |nil=>exact Z3
 | @cons p q ps qs h t ih =>
   obtain⟨h1,_,h2⟩:=h;by_cases e:p.1=k
   .have e':q.1=k:=h1.symm.trans e;have b:atKey (q::qs) k=A? q.2:=by simp[atKey,Zp,e']
    rw[bq e,b];exact h2
   .have e':¬q.1=k:=λz=>e (h1.trans z);have b:atKey (q::qs) k=atKey qs k:=by simp[atKey,Zp,e']
    rw[bA e,b];exact ih
theorem KTd.repl{xs:List (List Key×WS×WV)}(r:KTd H kvs xs)(k:List Key)(ry:RelV y u) :
 KTd H (kvs.map λkv=>if kv.1=k then(kv.1,y)else kv) (xs.map (putAt k u)):=by
 induction r with
 |nil=>exact .nil
 | @cons p q ps qs h t ih =>
   rw[XC,XC];refine .cons ?_ ih;obtain⟨h1,h2,h3⟩:=h;unfold putAt;by_cases e:p.1=k
   .rw[b! e,b! (h1.symm.trans e)];exact⟨h1,h2,ry⟩
   .rw[a! e,a! (λz=>e (h1.trans z))];exact⟨h1,h2,h3⟩
theorem KTd.put{xs:List (List Key×WS×WV)}(r:KTd H kvs xs)(k:List Key)(hb:H b=A? (.tup (k.map kV)))(ry:RelV y u) :
 KTd H (putK kvs k y) (storedH xs k b u):=by
 have e:(kvs.any λkv=>decide (kv.1=k))=(atKey xs k).isSome:=by
  rw[eR,(r.val k).isSome_eq,Option.isSome_map]
 unfold putK storedH;rw[e];by_cases q:(atKey xs k).isSome=C?
 .rw[b! q,b! q];exact r.repl k ry
 .rw[a! q,a! q];exact Paired.snoc r ⟨rfl,hb,ry⟩
theorem KTd.keeps{xs:List (List Key×WS×WV)}(r:KTd H kvs xs)(ht:∀b ys,H b=A? (.tup ys)->H' b=A? (.tup ys)):KTd H' kvs xs :=
 XH.mapP r λ_ _ z=>⟨z.1,ht _ _ z.2.1,z.2.2⟩
theorem xz{u:HO}(ok:HOk P w H h)(e:Rd H a u):ObjOk P w H h a u:=e.ok ok
theorem nB{kvs:List (Key×V)}(ok:HOk P w H h)(e:Rd H a (.dK kvs)):kvs.length<=Xj/\(a == Yr)=CG/\∃vs,KV kvs vs/\h.DictOf (aC P w) a vs :=
 show ObjOk P w H h a (.dK kvs)from xz ok e
theorem xf{kvs:List (Key×V)}(ok:HOk P w H h)(e:H a=A? (.dK kvs)):kvs.length<=Xj/\(a == Yr)=CG/\∃vs,KV kvs vs/\h.DictOf (aC P w) a vs:=nB ok (.inl e)
theorem ig{ks:List Key}(ok:HOk P w H h)(e:H a=A? (.tup (ks.map kV))):(tupleKind (aC P w)).is h ks a:=by
 obtain⟨_,its,n,r,h1⟩:=(show ObjOk P w H h a (.tup (ks.map kV))from ok a _ e);exact⟨_,its.toArray,n,h1,D?,D?,by simpa using m9 r⟩
theorem nG(ok:HOk P w H h)(e:Rd H a (.dT kvs)):kvs.length<=Xj/\(a == Yr)=CG /\
 ∃xs,KTd H kvs xs/\h.DictOfH (tupleKind (aC P w)) a xs:=by
 obtain⟨z,y,xs,r,o,es,ep,h1,h2,h3,h4,h5⟩:=(show ObjOk P w H h a (.dT kvs)from xz ok e);refine⟨z,y,xs,r,o,es,ep,h1,h2,h3,h4,λx hx=>?_,h5⟩
 have all:∀{l:List (List Key×V)}{m:List (List Key×WS×WV)},KTd H l m->∀x∈m,(tupleKind (aC P w)).is h x.1 x.2.1:=by
  intro l m q;induction q with
  |nil=>intro x hx;exact nomatch hx
  | @cons p q ps qs hq t ih =>
    intro x hx;rcases W6.mp hx with e|hx
    .subst e;exact ig ok (by rw[<-hq.1];exact hq.2.1)
    .exact ih x hx
 exact all r x hx
theorem rV(ok:HOk P w H h)(e:H a=A? (.dT kvs)):kvs.length<=Xj/\(a == Yr)=CG /\
 ∃xs,KTd H kvs xs/\h.DictOfH (tupleKind (aC P w)) a xs:=nG ok (.inl e)
def DGet(H:Hp)(a:WS)(y:V)(r:Option V):Prop :=
 (∃kvs k,Rd H a (.dK kvs)/\y=kV k/\r=aM kvs k)\/∃kvs k b,Rd H a (.dT kvs)/\y=.ref b/\H b=A? (.tup (k.map kV))/\r=aM kvs k
def DPut(H:Hp)(a:WS)(y v:V)(H':Hp):Prop :=
 (∃kvs k,H a=A? (.dK kvs)/\y=kV k/\kvs.length<Xj/\H'=upd H a (.dK (putK kvs k v))) \/
 ∃kvs k b,H a=A? (.dT kvs)/\y=.ref b/\H b=A? (.tup (k.map kV))/\kvs.length<Xj/\H'=upd H a (.dT (putK kvs k v))
theorem DGet.k{kvs:List (Key×V)}{k:Key}(e:H a=A? (.dK kvs)):DGet H a (kV k) (aM kvs k):=.inl ⟨kvs,k,.inl e,rfl,rfl⟩
theorem DGet.t{k:List Key}(e:H a=A? (.dT kvs))(eb:H b=A? (.tup (k.map kV))):DGet H a (.ref b) (aM kvs k):=.inr ⟨kvs,k,b,.inl e,rfl,eb,rfl⟩
theorem DPut.k{kvs:List (Key×V)}{k:Key}(e:H a=A? (.dK kvs))(hl:kvs.length<Xj):DPut H a (kV k) v (upd H a (.dK (putK kvs k v))):=.inl ⟨kvs,k,e,rfl,hl,rfl⟩
theorem DPut.t{k:List Key}(e:H a=A? (.dT kvs))(eb:H b=A? (.tup (k.map kV)))(hl:kvs.length<Xj) :
 DPut H a (.ref b) v (upd H a (.dT (putK kvs k v))):=.inr ⟨kvs,k,b,e,rfl,eb,hl,rfl⟩
section
variable{X:Cx}{r:WV}{o:Option V}
theorem Inv.big(I:Inv X Z Y H s):Yr<s.1.1.size:=by
 have h:X8<s.1.1.size:=(I.mod.glob.keeps I.bk).lt;exact Nat.lt_trans (by decide) h
theorem tq(hu:A.units+1<YJ)(I:Inv X Z Y H s)(g:DGet H a y (A? v))(ry:RelV y u)(h:∀w' s',Inv X Z Y H s'->RelV v w'->Q w' s') :
 Xc (Xy X.prog X.w) A (getItem (.ref a) u) Q E s:=by
 rcases g with⟨kvs,k,e,ey,l⟩|⟨kvs,k,b,e,ey,eb,l⟩
 .subst ey;obtain⟨z,hd,vs,rel,dd⟩:=nB I.hok e;obtain⟨w',hw,DO⟩:=RelO.some_of (v:=v) (o:=valueAt vs k) (by rw[l];exact rel.val k);exact wpAny_getItem_of (kE ry) dd.mapOf hw (h w' _ (I.tok _) DO)
 .subst ey;cases(show u=XG b from ry);obtain⟨z,hd,xs,rel,dd⟩:=nG I.hok e;obtain⟨w',hw,DO⟩:=RelO.some_of (v:=v) (o:=(atKey xs k).map (·.2)) (by rw[l];exact rel.val k);obtain⟨p,hp,CN⟩:=Yi.mp hw;refine wpAny_getItem_heap (tupleKind_room_in1 hu) (ig I.hok eb) dd hp ?_;rw[CN];exact h w' _ (I.tok _) DO
theorem vS(hu:A.units+1<YJ)(I:Inv X Z Y H s)(g:DGet H a y o)(ry:RelV y u)(h:∀s',Inv X Z Y H s'->Q (.bool (!o.isSome)) s') :
 Xc (Xy X.prog X.w) A (ZP .NotIn u (.ref a)) Q E s:=by
 rcases g with⟨kvs,k,e,ey,l⟩|⟨kvs,k,b,e,ey,eb,l⟩
 .subst ey;obtain⟨z,hd,vs,rel,dd⟩:=nB I.hok e;refine wpAny_notIn_of (kE ry) hd dd.mapOf ?_;rw[<-(rel.val k).isSome_eq,<-l];exact h _ (I.tok _)
 .subst ey;cases(show u=XG b from ry);obtain⟨z,hd,xs,rel,dd⟩:=nG I.hok e;refine wpAny_notIn_heap (tupleKind_room_in1 hu) (ig I.hok eb) hd dd ?_;have q:=(rel.val k).isSome_eq;rw[Option.isSome_map]at q;rw[<-q,<-l];exact h _ (I.tok _)
theorem iE{ob:HO}(I:Inv X Z Y H s)(mu:Mut (H a))(hs:XW a s.1 h')(he:∃q,h'.get? a=A? q)(new:ObjOk X.prog X.w (upd H a ob) h' a ob) :
 Inv X Z Y (upd H a ob) {s with heap:=h',toks:=t'} :=
 I.write (x:=a) (e:=a) mu (.inl rfl) (λb q hb z=>(hs.2 b hb).trans z) he new
theorem yH{kvs:List (Key×V)}{vs:List (Key×WV)}(z:kvs.length<=Xj)(hd:(a == Yr)=CG)(rel:KV kvs vs)(dd:h'.DictOf (aC P w) a vs) :
 ObjOk P w H' h' a (.dK kvs):=⟨z,hd,vs,rel,dd⟩
theorem tD{Q:Unit->WZ->Prop}(hu:A.units+1<YJ)(I:Inv X Z Y H s)(g:DPut H a y v H')(ry:RelV y u)(rv:RelV v r)(h:∀s',Inv X Z Y H' s'->Q () s') :
 Xc (Xy X.prog X.w) A (setItem (.ref a) u r) Q E s:=by
 rcases g with⟨kvs,k,e,ey,l,eH⟩|⟨kvs,k,b,e,ey,eb,l,eH⟩
 .subst ey eH;obtain⟨z,hd,vs,rel,dd⟩:=xf I.hok e;have hz:vs.length<=Xj:=by rw[<-rel.length];exact z
  have hl:(putK kvs k v).length<=Xj:=by have:=bG kvs k v;lia
  refine wpAny_setItem_pairs (hsz:=hz) (kE ry) dd λh' EE hs=>h _ ?_;have he:∃q,h'.get? a=A? q:=let⟨q,_,_,hq,_⟩:=EE;⟨q,hq⟩
  exact iE I (by rw[e];exact Z3) hs he (yH hl hd (rel.put k rv) EE)
 .subst ey eH;cases(show u=XG b from ry);obtain⟨z,hd,xs,rel,dd⟩:=rV I.hok e;have hz:xs.length<=Xj:=by rw[<-Xa rel];exact z
  have hl:(putK kvs k v).length<=Xj:=by have:=bG kvs k v;lia
  refine wpAny_setItem_heap (hsz:=hz) (tupleKind_room_in1 hu) (ig I.hok eb) dd λh' EE hs=>h _ ?_;obtain⟨q,es,ep,hq,h2,h3,h4,_,h5⟩:=EE;refine iE I (by rw[e];exact Z3) hs ⟨q,hq⟩ ⟨hl,hd,_,(rel.put k eb rv).keeps λc ys ec=>?_,q,es,ep,hq,h2,h3,h4,h5⟩;rw[af (aF ec e (λz=>nomatch z))];exact ec
end
section
variable{X:Cx}{kvs:List (Key×V)}{k:Key}
end
def ym(i:X3):Prop:=∀ov iv,subscripted i CG ov iv=operate [ov,iv] (getItem ov iv)
theorem rh{value slice:X3}{T id:String}
 (hl:typeLookup (.type T) "__getitem__"=pure (A? (.builtin id))) (hs:ym slice)
 (h:Xc (Xy prog w) A (YS value env) (λo Af=>Xc (Xy prog w) A (YS slice env) (λi Bj=>Bj.TypeIs o T/\Xc (Xy prog w) A (getItem o i) Q E Bj) E Af) E s) :
 Xc (Xy prog w) A (YS (.Subscript value slice pos) env) Q E s:=by
 refine Subscript_ (YR h (λo Af Au=>YR Au (λi Bj Bp=>?_) λ_ _ x=>x) λ_ _ x=>x);obtain⟨hT,Bp⟩:=Bp;unfold subscriptTail;refine WN ?_;rw[getitemInPython_of_ne hT.not_modules];refine WN (Zx hT hl ?_)
 have fin:Xc (Xy prog w) A (subscripted slice CG o i) (λr Cp=>Xc (Xy prog w) A (letTemporaryGo value o r >>= λ_=>pure r) Q E Cp) E Bj:=by
  rw[hs o i];exact wpAny_operating (YR Bp (λr Cp CK=>WN (wpAny_letTemporaryGo (WW CK))) λ_ _ x=>x)
 first
  |exact WW (WN fin)
  |exact WN (WW (WN fin))
  |exact WN fin
theorem pP{X:Cx}{o:Option V}(I:Inv X Z Y H s)(g:DGet H a y o):s.TypeIs (.ref a) "dict":=by
 rcases g with⟨kvs,k,e,_,_⟩|⟨kvs,k,b,e,_,_,_⟩
 .obtain⟨_,_,vs,_,dd⟩:=nB I.hok e;exact dd.typeIs
 .obtain⟨_,_,xs,_,dd⟩:=nG I.hok e;exact dd.typeIs
def vx(td ty:TE):TE:=λY H Q=>td Y H λx H1=>ty Y H1 λy H2=>∃a v,x=.ref a/\DGet H2 a y (A? v)/\Q v H2
def wo(ty td:TE):TE:=λY H Q=>ty Y H λy H1=>td Y H1 λx H2=>∃a o,x=.ref a/\DGet H2 a y o/\Q (.bl (!o.isSome)) H2
def zm(td ty tv:TE):TS:=λD Y H=>tv Y H λv H1=>td Y H1 λx H2=>ty Y H2 λy H3=>∃a H4,x=.ref a/\DPut H3 a y v H4/\D.nx Y H4
section
variable{X:Cx}{o i value:X3}{JP:Pos}{td ty tv:TE}
theorem gw(hu:X.A.units+1<YJ)(ho:PE X o td)(hi:PE X i ty)(hs:ym i):PE X (.Subscript o i pos) (vx td ty):=by
 intro Z s Y H Q I h;refine rh PySem.F.slot_dict_getitem.lookup hs (thn (ho Z s Y H _ I h) λu s1⟨x,H1,I1,rx,q1⟩=>thn (hi Z s1 Y H1 _ I1 q1) λiv s2⟨y,H2,I2,ry,a,v,ex,g,q2⟩=>?_);subst ex;obtain rfl:u=XG a:=rx;exact⟨pP I2 g,tq hu I2 g ry λw' s3 I3 DO=>⟨v,H2,I3,DO,q2⟩⟩
theorem sj(hu:X.A.units+1<YJ)(hi:PE X i ty)(ho:PE X o td):PC X .NotIn i o (wo ty td):=by
 intro Z s Y H Q I h;refine thn (hi Z s Y H _ I h) λiv s1⟨y,H1,I1,ry,q1⟩=>thn (ho Z s1 Y H1 _ I1 q1) λu s2⟨x,H2,I2,rx,a,ov,ex,g,q2⟩=>?_;subst ex;obtain rfl:u=XG a:=rx;exact vS hu I2 g ry λs3 I3=>⟨.bl (!ov.isSome),H2,I3,rfl,q2⟩
theorem fj(hu:X.A.units+1<YJ)(ho:PE X o td)(hi:PE X i ty)(hv:PE X value tv)(hs:swapsWith value (A? (.Subscript o i pos')) pos.line X.env=pure CG) :
 PS X (.Assign [.Subscript o i pos'] value pos) (zm td ty tv):=by
 intro Z s Y H D I h;refine wpAny_Assign_Subscript (thn (hv Z s Y H _ I h) λr s1⟨v,H1,I1,rv,q1⟩=>thn (ho Z s1 Y H1 _ I1 q1) λu s2⟨x,H2,I2,rx,q2⟩=>thn (hi Z s2 Y H2 _ I2 q2) λiv s3⟨y,H3,I3,ry,a,H4,ex,g,q3⟩=>?_) hs;subst ex;obtain rfl:u=XG a:=rx;exact tD hu I3 g ry rv λs4 I4=>⟨Y,H4,I4,q3⟩
end
theorem oX(h:X5)(hb:Yr<h.objs.size):ObjOk P w H (h.push {cls:=.type "dict",data:=.dict #[]}) h.objs.size (.dK []) :=
 ⟨Xr _,beq_eq_false_iff_ne.mpr (Zb (XD hb)),[],.nil,Heap.DictOf.new h⟩
theorem u7(h:X5)(hb:Yr<h.objs.size):ObjOk P w H (h.push {cls:=.type "dict",data:=.dict #[]}) h.objs.size (.dT []) :=
 ⟨Xr _,beq_eq_false_iff_ne.mpr (Zb (XD hb)),[],.nil,_,#[],0,W2 _ rfl,⟨rfl,rfl,rfl⟩,rfl,rfl,ZH⟩
def yE:TE:=λ_ H Q=>∀p,H p=B?->Q (.ref p) (upd H p (.dK []))
def ya:TE:=λ_ H Q=>∀p,H p=B?->Q (.ref p) (upd H p (.dT []))
section
variable{X:Cx}
theorem qa:PE X (.Dict [] [] pos) yE:=λZ s Y H Q I h =>
 wpAny_Dict_empty ⟨.ref s.1.1.size,_,I.laid (a:=s.1.1.size) (o:=.dK []) (t':=s.toks) (λ_ _ q=>WU _ q) (WX _) (oX s.1 I.big),rfl,h _ (I.hok.fresh (WX _))⟩
theorem fT:PE X (.Dict [] [] pos) ya:=λZ s Y H Q I h =>
 wpAny_Dict_empty ⟨.ref s.1.1.size,_,I.laid (a:=s.1.1.size) (o:=.dT []) (t':=s.toks) (λ_ _ q=>WU _ q) (WX _) (u7 s.1 I.big),rfl,h _ (I.hok.fresh (WX _))⟩
end
structure M2(X:Cx)(o:X3)(m:Xk)(apos:Pos)(e f:X3)(Az:Pos):Prop where
 base:Z6 o m X.env (YS o X.env)=YS o X.env
 few:((Z0 Az (XO [e,f] X.env)).all (λx=>!x.1) && (backToKw Az (keywordEach [] X.env)).all (λx=>x.1.isSome)
  && decide (([e,f]:List X3).length+([]:List Keyword).length+(if([]:List Keyword).isEmpty then 0 else 1)<30))=C?
 line:(apos.endLine == Az.line)=C?
 trees:Z0 Az (XO [e,f] X.env)=[(CG,YS e X.env),(CG,YS f X.env)]
def IsD(H:Hp)(a:WS):Prop:=(∃kvs,Rd H a (.dK kvs))\/∃kvs,Rd H a (.dT kvs)
theorem xR{X:Cx}(I:Inv X Z Y H s)(d:IsD H a) :
 s.TypeIs (.ref a) "dict"/\(∀b,XG a=.ref b->∃ob,s.1.get? b=A? ob/\ob.dict=B?)/\(a == Yr)=false:=by
 rcases d with⟨kvs,e⟩|⟨kvs,e⟩
 .obtain⟨_,hd,vs,_,dd⟩:=nB I.hok e;refine⟨dd.typeIs,λb q=>?_,hd⟩;cases q;obtain⟨ob,_,_,h1,h2,_⟩:=dd;exact⟨ob,h1,h2.2.1⟩
 .obtain⟨_,hd,xs,_,dd⟩:=nG I.hok e;refine⟨dd.typeIs,λb q=>?_,hd⟩;cases q;obtain⟨ob,_,_,h1,h2,_⟩:=dd;exact⟨ob,h1,h2.2.1⟩
section
variable{X:Cx}{d:V}{r:WV}{o:Option V}
theorem xV(hu:A.units+1<YJ)(I:Inv X Z Y H s)(g:DGet H a y o)(ry:RelV y u)(rd:RelV d r)(h:∀w' s',Inv X Z Y H s'->RelV (o.getD d) w'->Q w' s') :
 Xc (Xy X.prog X.w) A (call (.builtin "dict.get") [.ref a,u,r]) Q E s:=by
 rcases g with⟨kvs,k,e,ey,l⟩|⟨kvs,k,b,e,ey,eb,l⟩
 .subst ey;obtain⟨z,hd,vs,rel,dd⟩:=nB I.hok e;refine call_meetsIn PySem.F.slot_dict_get dd.typeIs PySem.F.entry_dict_get (PySem.F.args_dict_get_3 _ _ _) (meets_dict_get_default (aC X.prog X.w) a (kE ry) hd r) ⟨_,dd.mapOf,h _ _ (I.tok _) ?_⟩;rw[l];exact(rel.val k).getD rd
 .subst ey;cases(show u=XG b from ry);obtain⟨z,hd,xs,rel,dd⟩:=nG I.hok e;refine call_meetsIn PySem.F.slot_dict_get dd.typeIs PySem.F.entry_dict_get (PySem.F.args_dict_get_3 _ _ _) (meetsH_dict_get_default (tupleKind (aC X.prog X.w)) a b hd r) ⟨tupleKind_room_in1 hu,k,xs,ig I.hok eb,dd,h _ _ (I.tok _) ?_⟩;rw[l];exact(rel.val k).getD rd
end
def yx(td ty tx:TE):TE:=λY H Q=>td Y H λx H1=>∃a,x=.ref a/\IsD H1 a/\ty Y H1 λy H2=>tx Y H2 λz H3=>∃o,DGet H3 a y o/\Q (o.getD z) H3
section
variable{X:Cx}{o f:X3}{apos Az:Pos}{td ty tx:TE}
theorem oR(hu:X.A.units+1<YJ)(ho:PE X o td)(he:PE X e ty)(hf:PE X f tx)(m:M2 X o "get" apos e f Az):PE X (.Call (.Attribute o "get" apos) [e,f] [] Az) (yx td ty tx):=by
 intro Z s Y H Q I h;refine wpAny_Call_method m.base m.few m.line PySem.F.plainAttrs_dict PySem.F.slot_dict_get PySem.F.type_dict_get (thn (ho Z s Y H _ I h) λu s1⟨x,H1,I1,rx,a,ex,d,q1⟩=>?_);subst ex;obtain rfl:u=XG a:=rx;obtain⟨t1,t2,_⟩:=xR I1 d;refine⟨t1,t2,?_⟩;rw[m.trees]
 refine Calls.callWith_builtin rfl (Calls.evalArgs_plain (Z1 (thn (he Z s1 Y H1 _ I1 q1) λiv s2⟨y,H2,I2,ry,q2⟩ =>
  Z1 (thn (hf Z s2 Y H2 _ I2 q2) λfv s3⟨z,H3,I3,rz,ov,g,q3⟩=>Calls.spliced_nil ?_))))
 exact xV hu I3 g ry rz λw' s4 I4 DO=>⟨_,H3,I4,DO,q3⟩
end
section
variable{X:Cx}{kvs:List (Key×V)}
end
section
variable{X:Cx}
end
end L2
namespace BB
open PySem L2
set_option genInjectivity true in
inductive Dv where
 |int (i:Int)
 |str (x:Xk)
 |tup (ds:List Dv)
mutual
def Dv.deep:Dv->Nat
 |.int _=>0
 |.str _=>0
 |.tup ds=>cu ds+1
def cu:List Dv->Nat
 | []=>0
 |d::ds=>max d.deep (cu ds)
end
mutual
def Dv.tot:Dv->Nat
 |.int _=>1
 |.str _=>1
 |.tup ds=>vE ds+1
def vE:List Dv->Nat
 | []=>0
 |d::ds=>d.tot+vE ds
end
mutual
def DAt(H:Hp):Dv->V->Prop
 |.int i,v=>v=.int i
 |.str x,v=>v=.str x
 |.tup ds,v=>∃a vs,v=.ref a/\H a=A? (.tup vs)/\DAts H ds vs
def DAts(H:Hp):List Dv->List V->Prop
 | [],vs=>vs=[]
 |d::ds,vs=>∃v r,vs=v::r/\DAt H d v/\DAts H ds r
end
theorem DAts.nil:DAts H [] []:=by rw[DAts]
theorem DAts.cons{d:Dv}{ds:List Dv}{vs:List V}(h1:DAt H d v)(h2:DAts H ds vs):DAts H (d::ds) (v::vs):=by rw[DAts];exact⟨v,vs,D?,h1,h2⟩
theorem DAts.length:∀{ds:List Dv}{vs:List V},DAts H ds vs->vs.length=ds.length
 | [],vs,h=>by rw[DAts]at h;subst h;rfl
 | d::ds,vs,h=>by
   rw[DAts]at h;obtain⟨v,r,rfl,h1,h2⟩:=h;rw[Xf,Xf,h2.length]
theorem DAts.at:∀{ds:List Dv}{vs:List V}{i:Nat}{d:Dv},DAts H ds vs->ds[i]?=A? d->∃v,vs[i]?=A? v/\DAt H d v
 | [],vs,i,d,h,e=>by simp at e
 | d0::ds,vs,i,d,h,e=>by
   rw[DAts]at h;obtain⟨v,r,rfl,h1,h2⟩:=h;cases i with
   |zero=>simp at e;subst e;exact⟨v,D?,h1⟩
   | succ i =>
     obtain⟨u,g1,g2⟩:=h2.at (i:=i) (by simpa using e);exact⟨u,by simpa using g1,g2⟩
theorem eW:∀{ds:List Dv}{i:Nat}{d:Dv},ds[i]?=A? d->d.deep<=cu ds
 | [],i,d,e=>by simp at e
 | d0::ds,i,d,e=>by
   rw[cu];cases i with
   |zero=>simp at e;subst e;lia
   | succ i =>
     have:=eW (ds:=ds) (i:=i) (by simpa using e);lia
theorem rH:∀{ds:List Dv}{i:Nat}{d:Dv},ds[i]?=A? d->d.tot<=vE ds
 | [],i,d,e=>by simp at e
 | d0::ds,i,d,e=>by
   rw[vE];cases i with
   |zero=>simp at e;subst e;lia
   | succ i =>
     have:=rH (ds:=ds) (i:=i) (by simpa using e);lia
theorem Dv.tot_pos(d:Dv):1<=d.tot:=by
 cases d with
 |int i=>rw[Dv.tot];lia
 |str x=>rw[Dv.tot];lia
 |tup ds=>rw[Dv.tot];lia
mutual
def Th.dv:Th->Dv
 |.knot n ks=>.tup (.str n::dvs ks)
 |.call s k=>.tup [.str q,.int s,.int k]
def dvs:List Th->List Dv
 | []=>[]
 |t::ts=>t.dv::dvs ts
end
mutual
theorem At.dv:∀{t:Th}{a:WS},At H t a->DAt H t.dv (.ref a)
 | .knot n ks,a,h=>by
   rw[At]at h;obtain⟨_,as,h1,h2⟩:=h;rw[Th.dv,DAt];exact⟨a,_,D?,h1,.cons (by rw[DAt]) (Ats.dvs h2)⟩
 | .call s k,a,h=>by
   rw[At]at h;rw[Th.dv,DAt];exact⟨a,_,D?,h,.cons (by rw[DAt]) (.cons (by rw[DAt]) (.cons (by rw[DAt]) .nil))⟩
theorem Ats.dvs:∀{ts:List Th}{as:List WS},Ats H ts as->DAts H (dvs ts) (as.map i!)
 | [],as,h=>by rw[Ats]at h;subst h;rw[BB.dvs];exact .nil
 | t::ts,as,h=>by
   rw[Ats]at h;obtain⟨a,r,rfl,h1,h2⟩:=h;rw[BB.dvs,XC];exact .cons (At.dv h1) (Ats.dvs h2)
end
mutual
theorem Th.dv_deep:∀t:Th,t.dv.deep<=t.tall
 | .knot n ks=>by
   have:=kK ks;rw[Th.dv,Dv.deep,cu,Dv.deep,q!];lia
 |.call s k=>by rw[Th.dv,q!];simp[Dv.deep,cu]
theorem kK:∀ts:List Th,cu (dvs ts)<=ax ts
 | []=>by rw[dvs,cu];exact Xr _
 | t::ts=>by
   have:=t.dv_deep;have:=kK ts;rw[dvs,cu,ax];lia
end
theorem vz{ys:List V}{Q:VK}(ha:H a=A? (.tup xs))(hb:H b=A? (.tup ys))(hz:xs.length+ys.length<=1000000)(q:∀p H',j! H H'->H' p=A? (.tup (xs++ys))->Q (.ref p) H'):tX K (.ref a) (.ref b) H Q:=by
 refine⟨a,b,xs,ys,D?,D?,l! ha,l! hb,bi hz,λe=>?_,λ_ e=>?_,λ_ _ p hp=>?_⟩
 .exact q b H (.refl _) (by rw[e];exact hb)
 .exact q a H (.refl _) (by rw[e,Ye];exact ha)
 .exact q p _ (aj hp _) ad
mutual
def Th.pl(pre:List Int):Th->List (List Int×Th)
 |.knot n ks=>(pre,.knot n ks)::pls pre 0 ks
 |.call s k=>[(pre,.call s k)]
def pls(pre:List Int)(i:Int):List Th->List (List Int×Th)
 | []=>[]
 |t::ts=>t.pl (pre++[i])++pls pre (i+1) ts
end
theorem Th.pl_eq(pre:List Int)(t:Th):t.pl pre=(pre,t)::pls pre 0 t.kids:=by
 cases t with
 |knot n ks=>rw[Th.pl];rfl
 |call s k=>rw[Th.pl];simp[Th.kids,pls]
mutual
theorem Th.pl_len(pre:List Int):∀t:Th,(t.pl pre).length=t.size
 |.knot n ks=>by rw[Th.pl,t!,Xf,rK pre 0 ks]
 |.call s k=>by rw[Th.pl,t!];rfl
theorem rK(pre:List Int)(i:Int):∀ts:List Th,(pls pre i ts).length=ar ts
 | []=>by rw[pls,ar];rfl
 |t::ts=>by rw[pls,ar,W7,Th.pl_len _ t,rK pre (i+1) ts]
end
def szP:List (List Int×Th)->Nat
 | []=>0
 |p::ps=>p.2.size+szP ps
def plP:List (List Int×Th)->List (List Int×Th)
 | []=>[]
 |p::ps=>p.2.pl p.1++plP ps
theorem fC:∀a b,szP (a++b)=szP a+szP b
 | [],b=>by simp[szP]
 |p::a,b=>by rw[YU,szP,szP,fC a b,Nat.add_assoc]
theorem rf(a:List (List Int×Th)):szP a.reverse=szP a:=by
 induction a with
 |nil=>rfl
 |cons x xs ih=>rw[XZ,fC,ih,szP,szP,szP];lia
theorem lI:∀a b,plP (a++b)=plP a++plP b
 | [],b=>by simp[plP]
 |p::a,b=>by rw[YU,plP,plP,lI a b,YN]
theorem rL:∀a,(plP a).length=szP a
 | []=>rfl
 |p::a=>by rw[plP,szP,W7,Th.pl_len,rL a]
theorem rN:∀a,a.length<=szP a
 | []=>Xr _
 | p::a=>by
   have:=p.2.size_pos;have:=rN a;rw[Xf,szP];lia
def eQ(pre:List Int)(i:Int):List Th->List (List Int×Th)
 | []=>[]
 |t::ts=>(pre++[i],t)::eQ pre (i+1) ts
theorem lD(pre:List Int)(i:Int):∀ts,(eQ pre i ts).length=ts.length
 | []=>rfl
 |t::ts=>by rw[eQ,Xf,Xf,lD pre (i+1) ts]
theorem o0(pre:List Int)(i:Int):∀ts,plP (eQ pre i ts)=pls pre i ts
 | []=>by rw[eQ,plP,pls]
 |t::ts=>by rw[eQ,plP,pls,o0 pre (i+1) ts]
theorem pA(pre:List Int)(i:Int):∀ts,szP (eQ pre i ts)=ar ts
 | []=>by rw[eQ,szP,ar]
 |t::ts=>by rw[eQ,szP,ar,pA pre (i+1) ts]
theorem o7(pre:List Int):∀(i:Int)(ts:List Th)(j:Nat)(t:Th),ts[j]?=A? t->(eQ pre i ts)[j]?=A? (pre++[i+j],t)
 |i,[],j,t,e=>by simp at e
 |i,u::ts,0,t,e=>by simp at e;subst e;rw[eQ];simp
 | i,u::ts,j+1,t,e=>by
   rw[eQ,List.getElem?_cons_succ,o7 pre (i+1) ts j t (by simpa using e)];have:i+1+(j:Int)=i+((j+1:Nat):Int):=by lia
   rw[this]
theorem oP(pre:List Int):∀(i:Int)(ts:List Th)(p:List Int×Th),p∈eQ pre i ts->p.1.length=pre.length+1/\p.2∈ts
 |i,[],p,h=>by rw[eQ]at h;cases h
 | i,u::ts,p,h=>by
   rw[eQ]at h;rcases W6.mp h with rfl|h
   .exact⟨by simp,W4 ..⟩
   .have:=oP pre (i+1) ts p h;exact⟨this.1,WT _ this.2⟩
def PAt(H:Hp)(p:List Int×Th)(a:WS):Prop:=∃pa ta,H a=A? (.tup [.ref pa,.ref ta])/\H pa=A? (.tup (p.1.map o!))/\At H p.2 ta
def PsAt(H:Hp)(ps:List (List Int×Th))(as:List WS):Prop:=XH (PAt H) ps as
theorem PAt.mono(k:KT H H'){p:List Int×Th}(h:PAt H p a):PAt H' p a:=by
 obtain⟨pa,ta,h1,h2,h3⟩:=h;exact⟨pa,ta,k _ _ h1,k _ _ h2,h3.mono k⟩
theorem PsAt.mono(k:KT H H'){ps:List (List Int×Th)}(h:PsAt H ps as):PsAt H' ps as:=v! (λ_ _ e=>PAt.mono k e) h
theorem P2.reverse:∀{a:List α}{b:List β},XH F a b->XH F a.reverse b.reverse
 |_,_,.nil=>.nil
 | _,_,.cons r t=>by
   rw[XZ,XZ];exact r! (P2.reverse t) (.cons r .nil)
theorem P2.snoc_inv{a:List α}{b:List β}{y:β}(h:XH F a (b++[y])):∃us x,a=us++[x]/\XH F us b/\F x y:=by
 have r:=P2.reverse h;rw[YO,List.reverse_singleton,List.singleton_append]at r;cases e:a.reverse with
 |nil=>rw[e]at r;cases r
 | cons x us =>
   rw[e]at r;cases r with
   | cons h1 h2 =>
     refine⟨us.reverse,x,?_,?_,h1⟩
     .rw[<-XZ,<-e,YY]
     .have:=P2.reverse h2;rw[YY]at this;exact this
theorem oj{t u:Th}(h:u∈t.kids):u.tall+1<=t.tall:=by
 have:=b8 h;rw[t.tall_eq];lia
theorem cY:∀{ts:List Th}{t:Th},t∈ts->t.size<=ar ts
 | u::ts,t,h=>by
   rw[ar];rcases W6.mp h with rfl|h
   .lia
   .have:=cY h;lia
theorem lL(n:Nat)(ts:List Th):ar (ts.take n)<=ar ts:=by
 have h:=aR (ts.take n) (ts.drop n);rw[List.take_append_drop]at h;lia
end BB
open BB.Th renaming dv->J!
variable{ds:List BB.Dv}
namespace BB
open PySem L2
mutual
def Th.kn:Th->Nat
 |.knot _ ks=>kns ks+1
 |.call _ _=>0
def kns:List Th->Nat
 | []=>0
 |t::ts=>t.kn+kns ts
end
section
variable{ext:Th->List V}{t:Th}{es:List WS}
end
def Th.isCall:Th->Bool
 |.knot _ _=>CG
 |.call _ _=>C?
def yy:List Int×Th->Option (List Int×Int×Int)
 |(_,.knot _ _)=>B?
 |(p,.call s k)=>A? (p,s,k)
def callsOf(ps:List (List Int×Th)):List (List Int×Int×Int):=ps.filterMap yy
theorem dW(a b:List (List Int×Th)):callsOf (a++b)=callsOf a++callsOf b:=ZT
theorem eJ(a:List (List Int×Th)):(callsOf a).length<=a.length:=List.length_filterMap_le _ _
def CAt(H:Hp)(c:List Int×Int×Int)(a:WS):Prop:=∃pa ca,H a=A? (.tup [.ref pa,.ref ca])/\H pa=A? (.tup (c.1.map o!))/\H ca=A? (.tup [.int c.2.1,.int c.2.2])
def CsAt(H:Hp)(cs:List (List Int×Int×Int))(as:List WS):Prop:=XH (CAt H) cs as
theorem CAt.mono(k:KT H H'){c:List Int×Int×Int}(h:CAt H c a):CAt H' c a:=by
 obtain⟨pa,ca,h1,h2,h3⟩:=h;exact⟨pa,ca,k _ _ h1,k _ _ h2,k _ _ h3⟩
theorem CsAt.mono(k:KT H H'){cs:List (List Int×Int×Int)}(h:CsAt H cs as):CsAt H' cs as:=v! (λ_ _ e=>CAt.mono k e) h
def TK(K:WY)(H:Hp)(a:WS)(xs:List V):Prop:=H a=A? (.tup xs)\/∃(o:YF)(its:Array WV)(n:Nat),K.lookup a=A? o/\o.cls=.type "tuple"/\o.data=.seq its n/\its.size<=Xj/\Vals xs its.toList
theorem TK.of(h:H a=A? (.tup xs)):TK K H a xs:=.inl h
theorem TK.sq(h:TK K H a xs):SqT K H a xs:=by
 rcases h with h|h
 .exact l! h
 .exact .inr h
mutual
def DAtK(K:WY)(H:Hp):Dv->V->Prop
 |.int i,v=>v=.int i
 |.str x,v=>v=.str x
 |.tup ds,v=>∃a vs,v=.ref a/\TK K H a vs/\DAtsK K H ds vs
def DAtsK(K:WY)(H:Hp):List Dv->List V->Prop
 | [],vs=>vs=[]
 |d::ds,vs=>∃v r,vs=v::r/\DAtK K H d v/\DAtsK K H ds r
end
theorem DAtsK.length:∀{ds:List Dv}{vs:List V},DAtsK K H ds vs->vs.length=ds.length
 | [],vs,h=>by rw[DAtsK]at h;subst h;rfl
 | d::ds,vs,h=>by
   rw[DAtsK]at h;obtain⟨v,r,rfl,h1,h2⟩:=h;rw[Xf,Xf,h2.length]
theorem DAtsK.at:∀{ds:List Dv}{vs:List V}{i:Nat}{d:Dv},DAtsK K H ds vs->ds[i]?=A? d->∃v,vs[i]?=A? v/\DAtK K H d v
 | [],vs,i,d,h,e=>by simp at e
 | d0::ds,vs,i,d,h,e=>by
   rw[DAtsK]at h;obtain⟨v,r,rfl,h1,h2⟩:=h;cases i with
   |zero=>simp at e;subst e;exact⟨v,D?,h1⟩
   | succ i =>
     obtain⟨u,g1,g2⟩:=h2.at (i:=i) (by simpa using e);exact⟨u,by simpa using g1,g2⟩
mutual
theorem DAt.k:∀{d:Dv}{v:V},DAt H d v->DAtK K H d v
 |.int i,v,h=>by rw[DAt]at h;rw[DAtK];exact h
 |.str x,v,h=>by rw[DAt]at h;rw[DAtK];exact h
 | .tup ds,v,h=>by
   rw[DAt]at h;rw[DAtK];obtain⟨a,vs,e,h1,h2⟩:=h;exact⟨a,vs,e,.of h1,DAts.k h2⟩
theorem DAts.k:∀{ds:List Dv}{vs:List V},DAts H ds vs->DAtsK K H ds vs
 | [],vs,h=>by rw[DAts]at h;rw[DAtsK];exact h
 | d::ds,vs,h=>by
   rw[DAts]at h;rw[DAtsK];obtain⟨v,r,e,h1,h2⟩:=h;exact⟨v,r,e,DAt.k h1,DAts.k h2⟩
end
mutual
theorem DAtK.inj{X:Cx}(I:Inv X Z Y H s):∀{d e:Dv}{v:V},DAtK X.K H d v->DAtK X.K H e v->d=e
 |.int i,.int j,v,h,g=>by rw[DAtK]at h;rw[DAtK]at g;rw[h]at g;cases g;rfl
 |.int i,.str y,v,h,g=>by rw[DAtK]at h;rw[DAtK]at g;rw[h]at g;cases g
 |.int i,.tup es,v,h,g=>by rw[DAtK]at h;rw[DAtK]at g;obtain⟨a,vs,e,_⟩:=g;rw[h]at e;cases e
 |.str x,.int j,v,h,g=>by rw[DAtK]at h;rw[DAtK]at g;rw[h]at g;cases g
 |.str x,.str y,v,h,g=>by rw[DAtK]at h;rw[DAtK]at g;rw[h]at g;cases g;rfl
 |.str x,.tup es,v,h,g=>by rw[DAtK]at h;rw[DAtK]at g;obtain⟨a,vs,e,_⟩:=g;rw[h]at e;cases e
 |.tup ds,.int j,v,h,g=>by rw[DAtK]at h;rw[DAtK]at g;obtain⟨a,vs,e,_⟩:=h;rw[e]at g;cases g
 |.tup ds,.str y,v,h,g=>by rw[DAtK]at h;rw[DAtK]at g;obtain⟨a,vs,e,_⟩:=h;rw[e]at g;cases g
 | .tup ds,.tup es,v,h,g=>by
   rw[DAtK]at h;rw[DAtK]at g;obtain⟨a,vs,e1,h1,h2⟩:=h;obtain⟨b,ws,e2,g1,g2⟩:=g;rw[e1]at e2;cases e2;have e3:=I.tuple_inj h1.sq g1.sq;subst e3;rw[DAtsK.inj I h2 g2]
theorem DAtsK.inj{X:Cx}(I:Inv X Z Y H s):∀{ds es:List Dv}{vs:List V},DAtsK X.K H ds vs->DAtsK X.K H es vs->ds=es
 | [],[],vs,h,g=>rfl
 | [],e::es,vs,h,g=>by rw[DAtsK]at h;rw[DAtsK]at g;obtain⟨v,r,z,_⟩:=g;rw[h]at z;cases z
 |d::ds,[],vs,h,g=>by rw[DAtsK]at h;rw[DAtsK]at g;obtain⟨v,r,z,_⟩:=h;rw[g]at z;cases z
 | d::ds,e::es,vs,h,g=>by
   rw[DAtsK]at h;rw[DAtsK]at g;obtain⟨v,r,z,h1,h2⟩:=h;obtain⟨v',r',z',g1,g2⟩:=g;rw[z]at z';cases z';rw[DAtK.inj I h1 g1,DAtsK.inj I h2 g2]
end
end BB
namespace L2
open PySem PySem.Spec PySem.SeqAt PyProof.Rows BB
open Classical in
theorem gZ[DecidableEq α]{An:List WV}{ds es:List α}(p1:s.1.IsTuple a its.toArray)(p2:s.1.IsTuple b An.toArray)(l1:its.length=ds.length)(l2:An.length=es.length)(hu:A.units<YJ)
 (ih:∀(j:Nat)(d e:α)(u v:WV),ds[j]?=A? d->es[j]?=A? e->its[j]?=A? u->An[j]?=A? v->EqAt A.in1 s u v (decide (d=e))):RcAt A s (.ref a) (.ref b) (decide (ds=es)):=by
 have NS:RcAt A s (.ref a) (.ref b) ((YL (min its.toArray.size An.toArray.size)).all (λj=>decide (ds[j]?=es[j]?)) && its.toArray.size == An.toArray.size):=by
  refine RcAt.tuples p1 p2 hu λj h1 h2=>?_;have C4:j<ds.length:=by rw[<-l1];simpa using h1
  have Dj:j<es.length:=by rw[<-l2];simpa using h2
  have e1:ds[j]?=A? ds[j]:=WQ C4;have e2:es[j]?=A? es[j]:=WQ Dj;have e3:decide (ds[j]?=es[j]?)=decide (ds[j]=es[j]):=by rw[e1,e2];simp
  have g1:its[j]?=A? its[j]:=WQ (by rw[l1];exact C4);have g2:An[j]?=A? An[j]:=WQ (by rw[l2];exact Dj);rw[e3];exact ih j ds[j] es[j] its[j] An[j] e1 e2 g1 g2
 have e:decide (ds=es)=((YL (min its.toArray.size An.toArray.size)).all (λj=>decide (ds[j]?=es[j]?)) && its.toArray.size == An.toArray.size):=by
  rw[W9,W9,l1,l2];by_cases h:ds=es
  .subst h;rw[d! rfl];symm;simp
  .rw[c! h];symm;by_cases hl:ds.length=es.length
   .rw[hl,Nat.min_self]
    have:¬((YL es.length).all (λj=>decide (ds[j]?=es[j]?)))=true:=by
     intro z;apply h;apply List.ext_getElem?;intro j;by_cases hj:j<es.length
     .exact e! (List.all_eq_true.mp z j (List.mem_range.mpr hj))
     .rw[XU (by lia),XU (by lia)]
    rw[Bool.eq_false_iff.mpr this];rfl
   .have:(ds.length == es.length)=false:=by simpa using hl
    rw[this,Bool.and_false]
 rw[e];exact NS
open Classical in
theorem mX{X:Cx}(I:Inv X Z Y H s){es:List Dv}{vs ws:List V}(ha:SqT X.K H a vs)(hb:SqT X.K H b ws)(Dk:DAtsK X.K H ds vs)(AR:DAtsK X.K H es ws)(hu:A.units<YJ)
 (ih:∀(j:Nat)(d e:Dv)(x y:V)(u v:WV),ds[j]?=A? d->DAtK X.K H d x->DAtK X.K H e y->RelV x u->RelV y v->EqAt A.in1 s u v (decide (d=e))):RcAt A s (.ref a) (.ref b) (decide (Dv.tup ds=Dv.tup es)):=by
 obtain⟨its,r1,p1,_⟩:=I.tuple ha;obtain⟨An,r2,p2,_⟩:=I.tuple hb;rw[show decide (Dv.tup ds=Dv.tup es)=decide (ds=es)from decide_eq_decide.mpr ⟨λz=>Dv.tup.inj z,λz=>h! _ z⟩];refine gZ (show s.1.IsTuple a its.toArray from p1) (show s.1.IsTuple b An.toArray from p2) (by rw[<-r1.length,Dk.length]) (by rw[<-r2.length,AR.length]) hu λj d e u v e1 e2 e3 e4=>?_;obtain⟨x',Bc,dx⟩:=Dk.at e1;obtain⟨y',De,dy⟩:=AR.at e2;obtain⟨u',B8,Hi⟩:=r1.get Bc;obtain⟨v',Cr,EF⟩:=r2.get De;rw[B8]at e3;rw[Cr]at e4;cases e3;cases e4;exact ih j d e x' y' _ _ e1 dx dy Hi EF
open Classical in
theorem kQ{X:Cx}(I:Inv X Z Y H s):∀(n:Nat)(d e:Dv),d.tot<=n->∀(x y:V)(u v:WV)(A:XF),DAtK X.K H d x->DAtK X.K H e y->RelV x u->RelV y v->A.units+d.deep<YJ->EqAt A s u v (decide (d=e))
 |0,d,e,hn,x,y,u,v,A,hd,he,ru,rv,hu=>by have:=d.tot_pos;lia
 | n+1,.int i,.int j,hn,x,y,u,v,A,hd,he,ru,rv,hu=>by
   rw[DAtK]at hd;rw[DAtK]at he;subst hd he;obtain⟨t,rfl⟩:=ru;obtain⟨t',rfl⟩:=rv
   have e:decide (Dv.int i=Dv.int j)=(i == j):=by
    by_cases h:i=j
    .subst h;simp
    .rw[c! (λz=>h (Dv.int.inj z))];simp[h]
   rw[e];exact EqAt.int_int i t j t'
 | n+1,.int i,.str b,hn,x,y,u,v,A,hd,he,ru,rv,hu=>by
   rw[DAtK]at hd;rw[DAtK]at he;subst hd he;obtain⟨t,rfl⟩:=ru;obtain⟨t',rfl⟩:=rv;rw[c! (λz=>by cases z)];exact EqAt.int_str i t b t'
 | n+1,.int i,.tup es,hn,x,y,u,v,A,hd,he,ru,rv,hu=>by
   rw[DAtK]at hd;rw[DAtK]at he;obtain⟨a,vs,rfl,ha,_⟩:=he;subst hd;obtain⟨t,rfl⟩:=ru;cases rv;obtain⟨its,_,p,_⟩:=I.tuple (ha.sq);rw[c! (λz=>by cases z)];exact EqAt.int_tuple i t (show s.1.IsTuple a its.toArray from p) (by lia)
 | n+1,.str b,.int j,hn,x,y,u,v,A,hd,he,ru,rv,hu=>by
   rw[DAtK]at hd;rw[DAtK]at he;subst hd he;obtain⟨t,rfl⟩:=ru;obtain⟨t',rfl⟩:=rv;rw[c! (λz=>by cases z)];exact EqAt.str_int b t j t'
 | n+1,.str b,.str c,hn,x,y,u,v,A,hd,he,ru,rv,hu=>by
   rw[DAtK]at hd;rw[DAtK]at he;subst hd he;obtain⟨t,rfl⟩:=ru;obtain⟨t',rfl⟩:=rv
   have e:decide (Dv.str b=Dv.str c)=(b == c):=by
    by_cases h:b=c
    .subst h;simp
    .rw[c! (λz=>h (Dv.str.inj z))];simp[h]
   rw[e];exact EqAt.str_str b t c t'
 | n+1,.str b,.tup es,hn,x,y,u,v,A,hd,he,ru,rv,hu=>by
   rw[DAtK]at hd;rw[DAtK]at he;obtain⟨a,vs,rfl,ha,_⟩:=he;subst hd;obtain⟨t,rfl⟩:=ru;cases rv;obtain⟨its,_,p,_⟩:=I.tuple (ha.sq);rw[c! (λz=>by cases z)];exact EqAt.str_tuple b t (show s.1.IsTuple a its.toArray from p) (by lia)
 | n+1,.tup ds,.int j,hn,x,y,u,v,A,hd,he,ru,rv,hu=>by
   rw[DAtK]at hd;rw[DAtK]at he;obtain⟨a,vs,rfl,ha,_⟩:=hd;subst he;cases ru;obtain⟨t,rfl⟩:=rv;obtain⟨its,_,p,_⟩:=I.tuple (ha.sq);rw[c! (λz=>by cases z)];exact EqAt.tuple_int j t (show s.1.IsTuple a its.toArray from p) (by lia)
 | n+1,.tup ds,.str b,hn,x,y,u,v,A,hd,he,ru,rv,hu=>by
   rw[DAtK]at hd;rw[DAtK]at he;obtain⟨a,vs,rfl,ha,_⟩:=hd;subst he;cases ru;obtain⟨t,rfl⟩:=rv;obtain⟨its,_,p,_⟩:=I.tuple (ha.sq);rw[c! (λz=>by cases z)];exact EqAt.tuple_str b t (show s.1.IsTuple a its.toArray from p) (by lia)
 | n+1,.tup ds,.tup es,hn,x,y,u,v,A,hd,he,ru,rv,hu=>by
   have Fm:=hd;have Jd:=he;rw[DAtK]at hd;rw[DAtK]at he;obtain⟨a,vs,rfl,ha,Dk⟩:=hd;obtain⟨b,ws,rfl,hb,AR⟩:=he;cases ru;cases rv;by_cases Dl:a=b
   .subst Dl;rw[d! (DAtK.inj I Fm Jd)];exact EqAt.same _
   rw[Dv.tot]at hn;rw[Dv.deep]at hu;refine EqAt.of_refs Dl (mX I ha.sq hb.sq Dk AR (by lia) λj d e x' y' u' v' e1 dx dy Hi EF=>?_);have q1:=rH e1;have q2:=eW e1;refine kQ I n d e (by lia) x' y' u' v' A.in1 dx dy Hi EF ?_;show A.units+1+_<YJ;lia
end L2
namespace BB
open PySem PySem.Spec PyProof.Rows L2
mutual
theorem DAt.inj:∀{d e:Dv}{v:V},DAt H d v->DAt H e v->d=e
 |.int i,.int j,v,h,g=>by rw[DAt]at h;rw[DAt]at g;rw[h]at g;cases g;rfl
 |.int i,.str y,v,h,g=>by rw[DAt]at h;rw[DAt]at g;rw[h]at g;cases g
 |.int i,.tup es,v,h,g=>by rw[DAt]at h;rw[DAt]at g;obtain⟨a,vs,e,_⟩:=g;rw[h]at e;cases e
 |.str x,.int j,v,h,g=>by rw[DAt]at h;rw[DAt]at g;rw[h]at g;cases g
 |.str x,.str y,v,h,g=>by rw[DAt]at h;rw[DAt]at g;rw[h]at g;cases g;rfl
 |.str x,.tup es,v,h,g=>by rw[DAt]at h;rw[DAt]at g;obtain⟨a,vs,e,_⟩:=g;rw[h]at e;cases e
 |.tup ds,.int j,v,h,g=>by rw[DAt]at h;rw[DAt]at g;obtain⟨a,vs,e,_⟩:=h;rw[e]at g;cases g
 |.tup ds,.str y,v,h,g=>by rw[DAt]at h;rw[DAt]at g;obtain⟨a,vs,e,_⟩:=h;rw[e]at g;cases g
 | .tup ds,.tup es,v,h,g=>by
   rw[DAt]at h;rw[DAt]at g;obtain⟨a,vs,e1,h1,h2⟩:=h;obtain⟨b,ws,e2,g1,g2⟩:=g;rw[e1]at e2;cases e2;rw[h1]at g1;cases g1;rw[DAts.inj h2 g2]
theorem DAts.inj:∀{ds es:List Dv}{vs:List V},DAts H ds vs->DAts H es vs->ds=es
 | [],[],vs,h,g=>rfl
 | [],e::es,vs,h,g=>by rw[DAts]at h;rw[DAts]at g;obtain⟨v,r,z,_⟩:=g;rw[h]at z;cases z
 |d::ds,[],vs,h,g=>by rw[DAts]at h;rw[DAts]at g;obtain⟨v,r,z,_⟩:=h;rw[g]at z;cases z
 | d::ds,e::es,vs,h,g=>by
   rw[DAts]at h;rw[DAts]at g;obtain⟨v,r,z,h1,h2⟩:=h;obtain⟨v',r',z',g1,g2⟩:=g;rw[z]at z';cases z';rw[DAt.inj h1 g1,DAts.inj h2 g2]
end
end BB
namespace L2
open PySem PySem.Spec PySem.SeqAt PyProof.Rows BB
open Classical in
theorem n8{X:Cx}(I:Inv X Z Y H s):∀(n:Nat)(d e:Dv),d.tot<=n->∀(x y:V)(u v:WV)(A:XF),DAt H d x->DAt H e y->RelV x u->RelV y v->A.units+d.deep<YJ->EqAt A s u v (decide (d=e)):=λn d e hn x y u v A hd he=>kQ I n d e hn x y u v A hd.k he.k
def aar(K:WY)(B:Nat):R2:=λx y H Q=>∃a b vs ws ds es,x=.ref a/\y=.ref b/\SqT K H a vs/\SqT K H b ws/\DAts H ds vs/\DAts H es ws/\cu ds<=B/\∀b:Bool,(b=C?↔ds=es)->Q (.bl b) H
open Classical in
theorem xH{X:Cx}{B:Nat}(hu:X.A.units+B+2<YJ):OpR X (ZP .Eq) (aar X.K B):=by
 intro Z s Y H x y v u Q I rx ry h;obtain⟨a,b,vs,ws,ds,es,rfl,rfl,ha,hb,Dk,AR,hB,q⟩:=h;cases rx;cases ry
 have r:RcAt X.A s (.ref a) (.ref b) (decide (Dv.tup ds=Dv.tup es)):=mX I ha hb Dk.k AR.k (by lia) λj d e x' y' u' v' e1 dx dy Hi EF=>by
  have q2:=eW e1;refine kQ I _ d e (WX _) x' y' u' v' X.A.in1 dx dy Hi EF ?_;show X.A.units+1+_<YJ;lia
 refine r X.prog X.w X.xe _ ⟨.bl (decide (Dv.tup ds=Dv.tup es)),H,I,rfl,q _ ?_⟩;constructor
 .intro z;exact Dv.tup.inj (e! z)
 .intro z;rw[z];exact d! rfl
end L2
namespace BB
open PySem L2
end BB
namespace PySem
theorem bb_extendT(l:WS)(items:Array WV)(n:Nat)(b:WS)(BV:Array WV)(n2:Nat)(dd:Option WS)(sl:Array (Option WV))(g0:¬(!items.isEmpty && Y6 (items.size+BV.size))=C?)(g1:items.size<=Xj)(g2:items.size+BV.size<=Xj+1) :
 Meets (Y7.«list.extend» ⟨[.ref l,.ref b],[]⟩) (λ_ R s=>s.1.get? l=A? {cls:=.type "list",dict:=B?,data:=.seq items n,slots:=#[]}/\s.1.get? b=A? {cls:=.type "tuple",dict:=dd,data:=.seq BV n2,slots:=sl}/\R (.ok (.ret Yj)) {s with heap:=s.1.update l (Zf λx=>x++BV),toks:=s.toks}) :=
 .of_wp λprog w A R s h=>by
  obtain⟨hp,g,d,tk,os⟩:=s;obtain⟨hl,hb,h⟩:=h;have f1:=AutoSeq1.idx_int;have f2:=AutoSeq1.sub_tuple_tuple;have f3:=AutoSeq1.sub_list_list;have f4:=AutoSeq1.sub_tuple_list;have f5:=AutoSeq1.sub_list_tuple;have z2:(items++BV).size<=Xj+1:=by rw[Array.size_append];exact g2
  wp_walk using(wpAny_updateSeq hl rfl (hz:=g1) (_hz':=z2)),Y8 hl,Y8 hb
  exact⟨_,D?,h⟩
end PySem
namespace L2
open PySem PySem.Spec PyProof.Rows
section
variable{X:Cx}
def uO(K:WY):V->List V->Hp->VK->Prop:=λx vs H Q=>∃l b xs zs,x=.ref l/\vs=[.ref b]/\H l=A? (.lst xs)/\SqT K H b zs/\xs.length+zs.length<=Xj/\Q .non (upd H l (.lst (xs++zs)))
theorem lQ:MtM X "list.extend" (uO X.K):=by
 intro Z s Y H x vs v us Q I rx rv h;obtain⟨l,b,xs,zs,rfl,rfl,hH,hB,hz,q⟩:=h;cases rx;obtain⟨u,rfl,ru⟩:=rv.one;cases ru;obtain⟨z,its,n,r,hl,e⟩:=I.lstM hH;obtain⟨An,r2,p2,_⟩:=I.tuple hB;have Bb:=r2.length;obtain⟨⟨JR,IY,data2,IZ⟩,e2,DC,n2,hd2⟩:=p2;simp only at DC hd2;subst DC hd2;have hsz:its.toArray.size+An.toArray.size<=Xj:=by rw[W9,W9];lia
 have CI:¬(!its.toArray.isEmpty && Y6 (its.toArray.size+An.toArray.size))=true:=by
  rw[kc hsz,Bool.and_false];exact Xm
 refine call_meets F.slot_list_extend ⟨_,e,rfl⟩ F.entry_list_extend (F.args_list_extend_2 _ _)
  (bb_extendT l its.toArray n b An.toArray n2 IY IZ CI (by rw[W9];lia) (by lia)) ⟨e,e2,?_⟩
 refine⟨.non,_,I.lset (its':=its++An) hH e (by simp) (r.append r2) ?_,D?,q⟩;rw[W7];lia
end
end L2
namespace BB
open PySem L2
theorem fJ:∀a b:List Th,ax (a++b)=max (ax a) (ax b)
 | [],b=>by rw[List.nil_append,ax];lia
 |t::a,b=>by rw[YU,ax,ax,fJ a b];lia
def bp(ts:List Th):List Th:=(ts.map Th.kids).flatten
theorem cX(t:Th)(ts:List Th):bp (t::ts)=t.kids++bp ts:=by unfold bp;rw[XC,List.flatten_cons]
theorem fY(a b:List Th):bp (a++b)=bp a++bp b:=by unfold bp;rw[W8,List.flatten_append]
theorem fk:∀ts:List Th,ar (bp ts)+ts.length=ar ts
 | []=>by rfl
 | t::ts=>by
   have:=fk ts;have:=t.size_eq;rw[cX,aR,Xf,ar];lia
theorem iK:∀{ts:List Th},ts≠[]->ax ts=ax (bp ts)+1
 | [],h=>g! rfl h
 | [t],_=>by
   have:=t.tall_eq;rw[cX,fJ,ax,ax];have:ax (bp [])=0:=by unfold bp;rw[YM,List.flatten_nil,ax]
   lia
 | t::u::ts,_=>by
   have h:=iK (ts:=u::ts) (by simp);have:=t.tall_eq;rw[cX,fJ,ax];lia
def kDv(k:Xk×Int):Dv:=.tup [.str k.1,.int k.2]
theorem vd:∀{ks:List (Xk×Int)}{as:List WS},XH (KAt H) ks as->DAts H (ks.map kDv) (as.map i!)
 |_,_,.nil=>.nil
 | _,_,.cons r h=>by
   rw[XC,XC];refine .cons ?_ (vd h);rw[kDv,DAt];exact⟨_,_,D?,r,.cons (by rw[DAt]) (.cons (by rw[DAt]) .nil)⟩
theorem p7:∀ks:List (Xk×Int),cu (ks.map kDv)<=1
 | []=>by rw[YM,cu];exact Xr _
 | k::ks=>by
   have:=p7 ks;rw[XC,cu,kDv];simp only[Dv.deep,cu];lia
def star:Xk:=W5 "*"
theorem ud(h:Low x):x≠star:=by
 intro e;subst e;have:=h 42 (by decide +kernel);lia
open Classical in
def Th.isHole:Th->Bool
 |.knot n ks=>decide (n=star/\ks=[])
 |.call _ _=>CG
def Th.isKnot(t:Th):Bool:=!t.isCall && !t.isHole
theorem gX:∀(n:Nat)(ts:List Th),ar ts<=n->∀x∈walks ts,x.tall<=ax ts
 |_,[],_,x,h=>by simp[walks]at h
 | 0,t::ts,hn,x,h=>by
   have:=t.size_pos;rw[ar]at hn;lia
 | n+1,t::ts,hn,x,h=>by
   have hs:=t.size_eq;have ht:=t.tall_eq;rw[ar]at hn;rw[ax];rw[walks,t.walk_eq,YU,W6,Xd]at h;rcases h with rfl|h|h
   .lia
   .have:=gX n t.kids (by lia) x h;lia
   .have:=gX n ts (by lia) x h;lia
theorem tQ(t x:Th)(h:x∈t.walk):x.tall<=t.tall:=by
 have:=gX _ [t] (WX _) x (by simpa[walks]using h);simpa[ax]using this
end BB
open BB.Th renaming isKnot->C!
namespace PySem
open Sem (wp)
namespace F
theorem bb_entry_upd:entryFor table "dict.update.loop"=A? Y7.«dict.update.loop»:=entryFor_of_tree (by kernel_rfl)
theorem bb_plain_upd:plainId "dict.update.loop"=true:=by decide +kernel
end F
section
variable{xs:Array WV}{k:Nat}
end
end PySem
open PySem.F renaming bb_plain_upd->E!
namespace L2
open PySem PySem.Spec PyProof.Rows BB
section
variable{X:Cx}
end
end L2
namespace BB
open PySem L2
end BB
namespace HT
open PySem PySem.Spec PyProof.Rows
theorem getItem_tuple_whole{t:WS}(ht:IsTup s.1 t items)(hs:s.1.IsSliceOf sl vl vu .none)(pl:IsPart vl lo)(pu:IsPart vu hi)
 (hw:sIx items.size 0 lo=0/\sIx items.size items.size hi=items.size) (h:Q (.ref t) s):Xc (Xy prog w) A (getItem (.ref t) (.ref sl)) Q E s:=by
 obtain⟨os,Bz,BZ,BQ⟩:=id hs;have JS:s.TypeIs (.ref sl) "slice":=⟨os,Bz,BZ⟩;have hT:s.TypeIs (.ref t) "tuple":=ht.typeIs;unfold getItem
 try with_reducible refine Yv ?_
 first|refine WN (WW ?_)|skip
 refine WN (wpAny_sequenceKey ht.typeIs (by decide) ?_)
 refine WN (XR (name:=W5 "__getitem__") ht.typeIs XM
  (XT XM ht.typeIs entry_tuple_getitem ?_ (args_tuple_getitem _ _)))
 show Xc _ _ (Builtin.Tuple.tupleItemsOf (.ref t) >>= _) _ _ s;refine WN (tupleItemsOf_ ht ?_);refine WN (ZY JS ?_);rw[b! (by decide)];refine WN (sliceApplied_gen hs pl pu ?_)
 have NT:(((sIx items.size 0 lo:Nat):Int) == 0 && (1:Int) == 1 && (sIx items.size items.size hi - sIx items.size 0 lo) == items.size)=true:=by
  rw[hw.1,hw.2];simp
 show Xc _ _ (if(((sIx items.size 0 lo:Nat):Int) == 0 && (1:Int) == 1 && (sIx items.size items.size hi - sIx items.size 0 lo) == items.size)=C? then _ else _) _ _ s;rw[b! NT];refine WN (m:=Builtin.Tuple.tupleIsExact _) ?_;unfold Builtin.Tuple.tupleIsExact;refine WN (ZY hT (WW ?_));rw[b! (by decide)];exact WN (wpAny_rule (WW ⟨_,rfl,WW h⟩))
end HT
namespace L2
open PySem PySem.Spec PyProof.Rows
inductive xc(x:V)(lo:Option Int)(hi:Option Int)(H:Hp)(Q:VK):Prop
 |mk (a:_) (xs:_) (Ci:x=.ref a) (Cj:H a=A? (.tup xs)) (DA:∀p H',Same H H'->H' p=A? (.tup (cJ xs lo hi))->Q (.ref p) H'):xc  x lo hi H Q
def zN:V->Option Int->Option Int->Hp->VK->Prop:=xc
theorem wY{X:Cx}:SlR X zN:=by
 intro Z s Y H x v vl vu lo hi sl Q I rx hs pl pu h;obtain⟨a,xs,rfl,ha,q⟩:=h;by_cases hw:u! xs.length 0 lo=0/\u! xs.length xs.length hi=xs.length
 .obtain⟨its,r,p1,hz⟩:=I.tuple (l! (K:=X.K) ha);have hl:=r.length;cases rx
  have e:cJ xs lo hi=xs:=by
   unfold cJ;rw[hw.1,hw.2,Y1,Nat.sub_zero,YA]
  refine⟨"tuple",_,XM.lookup,p1.typeIs,HT.getItem_tuple_whole p1 hs pl pu (by rw[W9,<-hl];exact hw) ⟨.ref a,H,I,D?,q a H (.refl _) (by rw[e];exact ha)⟩⟩
 .exact kF Z s Y H _ v vl vu lo hi sl Q I rx hs pl pu ⟨a,xs,rfl,l! ha,hw,λp hp=>q p _ (aj hp _) ad⟩
end L2
namespace PySem
open Sem (wp)
section
variable{i:Nat}{od:YF}{es:Array DictEntry}
theorem bb_keyNext{en:DictEntry}{Q:Option WV->WZ->Prop}(g:s.1.IsKeyIter it d i es.size ep)(g1:s.1.get? d=A? od)(g2:od.data=.dict es ep)(hx:es[i]?=A? en)
 (fin:∀h',h'.IsKeyIter it d (i+1) es.size ep->XW it s.1 h'->Q (A? en.key) {s with heap:=h'}):Xc (Xy prog w) A (ZJ (.ref it)) Q E s:=by
 obtain⟨o,q1,q2,q3⟩:=id g;unfold ZJ;refine WN (ZI (XR (name:=W5 "__next__") g.typeIs Zi (XT Zi g.typeIs F.entry_dict_keyiterator_next ?_ (F.args_dict_keyiterator_next_1 _))));refine WN (WW ?_);refine WN ?_;refine WN ?_
 first|refine WN (ZV g.typeIs (WW ?_))|refine WN (wpAny_typeNameOf_keyiter g.typeIs (WW ?_))
 refine WN (wpAny_fieldsOf q1 q3 ?_);have own:Zj "dict_keyiterator"=false:=by decide
 simp only[own,X6,if_false];show Xc _ _ (if(XG d == Yj)=C? then _ else _) _ _ s;rw[a! (show¬((XG d == Yj)=C?)from Xm)];refine WN (WW ?_);refine WN (Zd g1 g2 ?_);rw[a! (by simp)];refine WN (WW ?_);refine WN (wpAny_dictEpoch g1 g2 ?_);rw[a! (by simp)];refine WW ?_;have lt:i<es.size:=(Zm.mp hx).1;have ee:es[i]=en:=(Zm.mp hx).2;simp only[show¬((i:Int)<0)from by lia,if_false,Yl,Array.getElem?_eq_getElem lt];refine WN ?_
 first|refine WN (ZV g.typeIs (WW ?_))|refine WN (wpAny_typeNameOf_keyiter g.typeIs (WW ?_))
 refine WN (wpAny_isOneOf_keyiter g.typeIs ?_);show Xc _ _ (setField (.ref it) 1 (YH ((i:Int)+1)) >>= _) _ _ s;refine WN (ZM q1 q3 (by simp) ?_);have g':(s.1.update it (Obj.mapFields (·.setIfInBounds 1 (YH ((i:Int)+1))))).IsKeyIter it d (i+1) es.size ep:=⟨_,Ym _ q1 (Obj.isFreed_of_fields (Y3 q3 _)),(Obj.cls_mapFields ..).trans q2,by rw[Y3 q3];simp[YH]⟩;refine WN (Yv ?_);refine WN (wpAny_isOneOf_keyiter (s:={s with heap:=s.1.update it (Obj.mapFields (·.setIfInBounds 1 (YH ((i:Int)+1))))}) g'.typeIs ?_);show Xc _ _ (pure es[i].key) _ _ _;rw[ee];exact WW (WW ⟨_,rfl,WW (fin _ g' (YG ..))⟩)
theorem bb_keyEnd{Q:Option WV->WZ->Prop}(calm:A.handled=B?)(g:s.1.IsKeyIter it d i es.size ep)(g1:s.1.get? d=A? od)(g2:od.data=.dict es ep)(hx:es.size<=i)
 (fin:∀h',Heap.ExtBut it s.1 h'->Q B? {s with heap:=h'}):Xc (Xy prog w) A (ZJ (.ref it)) Q E s:=by
 obtain⟨o,q1,q2,q3⟩:=id g;unfold ZJ;refine WN (ZI (XR (name:=W5 "__next__") g.typeIs Zi (XT Zi g.typeIs F.entry_dict_keyiterator_next ?_ (F.args_dict_keyiterator_next_1 _))));refine WN (WW ?_);refine WN ?_;refine WN ?_
 first|refine WN (ZV g.typeIs (WW ?_))|refine WN (wpAny_typeNameOf_keyiter g.typeIs (WW ?_))
 refine WN (wpAny_fieldsOf q1 q3 ?_);have own:Zj "dict_keyiterator"=false:=by decide
 simp only[own,X6,if_false];show Xc _ _ (if(XG d == Yj)=C? then _ else _) _ _ s;rw[a! (show¬((XG d == Yj)=C?)from Xm)];refine WN (WW ?_);refine WN (Zd g1 g2 ?_);rw[a! (by simp)];refine WN (WW ?_);refine WN (wpAny_dictEpoch g1 g2 ?_);rw[a! (by simp)];refine WW ?_;simp only[show¬((i:Int)<0)from by lia,if_false,Yl,Array.getElem?_eq_none hx];refine WN ?_
 first|refine WN (ZV g.typeIs (WW ?_))|refine WN (wpAny_typeNameOf_keyiter g.typeIs (WW ?_))
 show Xc _ _ (setField (.ref it) 0 .none >>= _) _ _ s;refine WN (ZM q1 q3 (by simp) ?_);show Xc _ _ (newExc (.type "StopIteration") [] >>= _) _ _ _;refine WN ?_;simp only[newExc,newTuple];refine WN (XQ ?_ (by size_fits));refine WN (m:=ZO _ _) (wpAny_of_eq (a:=Yj) (by first|rfl|(simp only[ZO];rfl)) ?_);refine XQ ?_ (by size_fits);simp only[raiseNew];refine WN (wpAny_handled ?_)
 first|rw[show A.in1.handled=B? from calm]|rw[calm]
 refine WN (WW (wpAny_throw ?_));refine WN (ZN (T:="StopIteration") (b:=C?) ⟨_,W2 _ rfl,rfl⟩ isSubtype_stop ?_);exact WW (fin _ (((YG ..).extBut.push _).push _))
theorem bb_keyIter(ns:(d == Yr)=CG)(g1:s.1.get? d=A? od)(gc:od.cls=.type "dict")(g2:od.data=.dict es ep)
 (fin:Q (.ref s.1.1.size) {s with heap:=s.1.push {cls:=.type "dict_keyiterator",data:=.fields #[.ref d,.int 0 0,.int es.size 0,.int ep 0]}}):Xc (Xy prog w) A (pyIter (.ref d)) Q E s:=by
 have gT:s.TypeIs (.ref d) "dict":=⟨_,g1,gc⟩;refine wpAny_pyIter_slot gT F.slot_dict_iter (XT F.slot_dict_iter gT F.entry_dict_iter ?_ (F.args_dict_iter_1 _));unfold Y7.«dict.__iter__»;refine WN ?_;unfold Builtin.Dict.dictSlotNone;refine WN (wpAny_notOrdered_dict gT ?_);show Xc _ _ (pure (XG d)) _ _ s;refine WW ?_;show Xc _ _ (Builtin.Dict.showsAll d >>= _) _ _ s;unfold Builtin.Dict.showsAll;rw[a! (by rw[ns];exact Xm)];refine WN (WW ?_);refine WN (Zd g1 g2 ?_);refine WN (wpAny_dictEpoch g1 g2 ?_);refine WN (XQ (WW ⟨_,rfl,"dict_keyiterator",_,⟨_,W2 _ rfl,rfl⟩,Zi.lookup,?_⟩));simpa[YH]using fin
end
end PySem
namespace L2
open PySem PySem.Spec PyProof.Rows
theorem Inv.freeze{X:Cx}{o:YF}(I:Inv X Z Y H s)(ha:H a=A? (.dT kvs))(ho:s.1.get? a=A? o):Inv X Z Y (upd H a (.frz o (.dT kvs))) s:=by
 have ne:∀b u,H b=A? u->u≠.dT kvs->b≠a:=λb u e d z=>by rw[z,ha]at e;exact d (Xl e).symm
 have ht:∀b xs,H b=A? (.tup xs)->upd H a (.frz o (.dT kvs)) b=A? (.tup xs):=λb xs e=>by rw[af (ne b _ e (by intro z;cases z))];exact e
 have hw:∀c b,H b=A? (.own c)->upd H a (.frz o (.dT kvs)) b=A? (.own c):=λc b e=>by rw[af (ne b _ e (by intro z;cases z))];exact e
 have st:∀b u,H b=A? u->ObjOk X.prog X.w (upd H a (.frz o (.dT kvs))) s.1 b u:=λb u e=>(I.hok b u e).stay (λ_ _ _ q=>q) (hw b) ht;refine I.step (g':=s.gens) (d':=s.drawn) (t':=s.toks) (ch:=[]) (λ_ z=>nomatch z) (λb ob _ _ _ e _=>e) (λb ob _ _ _ e _=>⟨ob.slots,e⟩) (λb ob _ e n=>?_) (λb ob _ e=>⟨ob,e⟩) ht (λb ob u e=>?_) (λb ps e=>⟨#[],?_⟩) (λm hm=>hm) (λb u e=>?_) I.bare
 .rw[af (λz=>by rw[z,ha]at n;cases n)];exact n
 .rw[af (ne b _ e (by intro z;cases z))];exact e
 .rw[af (ne b _ e (by intro z;cases z)),e];simp
 .by_cases hb:b=a
  .subst hb;rw[ad]at e;cases e;exact⟨ho,st _ _ ha⟩
  .rw[af hb]at e;exact st b u e
def ItD(a:WS)(o:YF):It:=⟨λi H=>∃kvs p,H a=A? (.frz o (.dT kvs))/\kvs[i]?=A? p,λi H x H'=>H'=H/\∀kvs,H a=A? (.frz o (.dT kvs))->∃p b,kvs[i]?=A? p/\x=.ref b/\H b=A? (.tup (p.1.map kV)),λi H=>∃kvs,H a=A? (.frz o (.dT kvs))/\kvs.length=i⟩
theorem tR(a it:WS)(o:YF)(es:Array DictEntry)(ep:Nat)(hd:o.data=.dict es ep):Turn P w K tg (ItD a o) [it] it (λi h=>h.IsKeyIter it a i es.size ep) where
 mem:=by simp
 obj:=λi h st b hb=>by
  have e:b=it:=by simpa using hb
  subst e;obtain⟨ob,e,c,d⟩:=st;exact⟨ob,e,λv z=>by rw[d]at z;cases z⟩
 keep:=λi h h' st k=>st.at λob e=>k it (by simp) ob e
 item:=by
  walk_at"a";obtain⟨kvs,p,hq,hx⟩:=hg;obtain⟨e0,z,y,xs,r,o',Gp,Gq,h1,h2,h3,h4,h5⟩:=(show ObjOk X.prog X.w H s.1 a (.frz o (.dT kvs))from I.hok a _ hq);rw[e0]at h1;cases h1;rw[hd]at h3;cases h3;obtain⟨q',Fz,hr⟩:=A! r hx;have NU:es[i]?=A? (entryOfKey (tupleKind (aC X.prog X.w)) q'):=by rw[<-ZU,h4,W3,Fz];rfl
  obtain⟨f0,f1,f2,f3,f4,f5⟩:=hf it (by simp);refine bb_keyNext st e0 hd NU λh' BH sb=>?_;have I1:Inv X Z Y H {s with heap:=h'}:=I.turned (t':=s.toks) (λb ob hb e=>(sb.2 b hb).trans e) f0 f1 f3 f4 f5;obtain⟨ob,e,c,d⟩:=id BH;refine⟨_,D?,kg (s:={s with heap:=h'}) e c d (by decide) ⟨.ref q'.2.1,H,I1,D?,⟨D?,λTR AG=>?_⟩,BH,λb hb=>(hf b hb).1⟩⟩;rw[hq]at AG;cases AG;exact⟨p,q'.2.1,hx,D?,hr.2.1⟩
 done:=by
  walk_at"a";obtain⟨kvs,hq,hx⟩:=hg;obtain⟨e0,z,y,xs,r,o',Gp,Gq,h1,h2,h3,h4,h5⟩:=(show ObjOk X.prog X.w H s.1 a (.frz o (.dT kvs))from I.hok a _ hq);rw[e0]at h1;cases h1;rw[hd]at h3;cases h3;have hl:=Xa r
  have Bb:es.size=xs.length:=by
   have:=h! Ze h4;rw[WO,Xo]at this;exact this
  obtain⟨f0,f1,f2,f3,f4,f5⟩:=hf it (by simp);exact bb_keyEnd (I.ok.hd hc) st e0 hd (by lia) λh' eb=>⟨rfl,I.turned (t':=s.toks) (λb ob hb e=>eb b ob hb e) f0 f1 f3 f4 f5⟩
 self:=λ_ _ _ _ _ st h=>wpAny_pyIter_keyiter st h
section
variable{X:Cx}
def zy(tl:TE):TI:=λY H R=>tl Y H λx H1=>∃a kvs,x=.ref a/\H1 a=A? (.dT kvs)/\∀o,R (ItD a o) (upd H1 a (.frz o (.dT kvs)))
theorem vW(he:PE X e te):PI X tg e (zy te):=by
 intro Z s Y H R I h;refine thn (he Z s Y H _ I h) λv s1⟨x,H1,I1,r1,a,kvs,ex,ha,q⟩=>?_;subst ex;cases r1;obtain⟨z,y,xs,r,o,es,ep,h1,h2,h3,h4,h5⟩:=(show ObjOk X.prog X.w H1 s1.1 a (.dT kvs)from I1.hok a _ ha);have I2:=I1.freeze ha h1;refine bb_keyIter y h1 h2.1 h3 ?_;refine⟨s1.1.1.size,[s1.1.1.size],_,_,upd H1 a (.frz o (.dT kvs)),D?,I2.kept (t':=s1.toks) λb ob e=>WU _ e,tR a _ o es ep h3,⟨_,W2 _ rfl,D?,D?⟩,λb hb=>?_,q o⟩;have e:b=s1.1.1.size:=by simpa using hb
 subst e;exact I2.fpOk (WX _) (I2.hok.fresh (WX _))
theorem uE{o:YF}{g:TG}(Pv:Nat->St->Hp->Prop)(h0:Pv 0 Y H)(hl:∀i Y H,i<=kvs.length->Pv i Y H->H a=A? (.frz o (.dT kvs)))
 (hs:∀i p b Y H,kvs[i]?=A? p->H b=A? (.tup (p.1.map kV))->Pv i Y H->g (.ref b) Y H λAq H2=>tb {D with nx:=Pv (i+1),ct:=Pv (i+1),bk:=D.nx} Aq H2) (hd:∀Y H,Pv kvs.length Y H->D.nx Y H) :
 ∃W:Nat->Nat->St->Hp->Prop,(∃m,W 0 m Y H)/\∀i m Y H,W i m Y H ->
   ((ItD a o).stop i H/\D.nx Y H)\/((ItD a o).go i H/\∃N:St->Hp->Prop,(∀Ae H',N Ae H'->∃m',m'<m/\W (i+1) m' Ae H')/\∀x H',(ItD a o).yld i H x H'->g x Y H' λAq H2=>tb {D with nx:=N,ct:=N,bk:=D.nx} Aq H2):=by
 refine⟨λi m Y H=>m=kvs.length - i/\i<=kvs.length/\Pv i Y H,⟨kvs.length,by simp,Xr _,h0⟩,?_⟩;rintro i m Y H ⟨rfl,hi,p⟩;have q:=hl i Y H hi p;by_cases Al:i<kvs.length
 .refine .inr ⟨⟨kvs,kvs[i],q,WQ Al⟩,Pv (i+1),λAe H' p'=>⟨kvs.length - (i+1),by lia,rfl,Al,p'⟩,λx H' y=>?_⟩;obtain⟨e,y⟩:=y;subst e;obtain⟨p1,b,e1,rfl,e2⟩:=y kvs q;exact hs i p1 b Y _ e1 e2 p
 .have e:i=kvs.length:=by lia
  subst e;exact .inl ⟨⟨kvs,q,rfl⟩,hd Y H p⟩
end
end L2
namespace BB
open PySem L2
inductive Top where
 |nm (n:Xk) (m:Nat)
 |th (t:Th)
def bl:List Top->List Th
 | []=>[]
 |.nm n m::S=>.knot n ((bl S).take m)::(bl S).drop m
 |.th t::S=>t::bl S
def TopsOk:List Top->Prop
 | []=>True
 |.nm _ m::S=>m<=(bl S).length/\TopsOk S
 |.th _::S=>TopsOk S
theorem TopsOk.drop:∀{l:List Top}(i:Nat),TopsOk l->TopsOk (l.drop i)
 |l,0,h=>by rw[Y1];exact h
 | [],i+1,h=>by rw[List.drop_nil];exact h
 | .nm n m::S,i+1,h=>by
   rw[TopsOk]at h;rw[List.drop_succ_cons];exact TopsOk.drop i h.2
 | .th t::S,i+1,h=>by
   rw[TopsOk]at h;rw[List.drop_succ_cons];exact TopsOk.drop i h
theorem qo:∀l:List Top,(bl l).length<=l.length
 | []=>WX _
 | .nm n m::S=>by
   have:=qo S;rw[bl,Xf,Xf,XX];lia
 | .th t::S=>by
   have:=qo S;rw[bl,Xf,Xf];lia
mutual
def Th.fill(f:Int->Int->Th):Th->Th
 |.knot n ks=>.knot n (fills f ks)
 |.call s k=>f s k
def fills(f:Int->Int->Th):List Th->List Th
 | []=>[]
 |t::ts=>t.fill f::fills f ts
end
theorem jb(f:Int->Int->Th):∀ts:List Th,(fills f ts).length=ts.length
 | []=>by rw[fills]
 |t::ts=>by rw[fills,Xf,Xf,jb f ts]
mutual
theorem gD(f g:Int->Int->Th):∀t:Th,(t.fill f).fill g=t.fill λs k=>(f s k).fill g
 |.knot n ks=>by rw[Th.fill,Th.fill,Th.fill,jB f g ks]
 |.call s k=>by rw[Th.fill,Th.fill]
theorem jB(f g:Int->Int->Th):∀ts:List Th,fills g (fills f ts)=fills (λs k=>(f s k).fill g) ts
 | []=>by rw[fills,fills,fills]
 |t::ts=>by rw[fills,fills,fills,gD f g t,jB f g ts]
end
mutual
theorem sd:∀t:Th,t.fill F!=t
 |.knot n ks=>by rw[Th.fill,oN ks]
 |.call s k=>by rw[Th.fill]
theorem oN:∀ts:List Th,fills F! ts=ts
 | []=>by rw[fills]
 |t::ts=>by rw[fills,sd t,oN ts]
end
def dj(f:Int->Int->Th):Th->Top
 |.knot n ks=>.nm n ks.length
 |.call s k=>.th (f s k)
theorem kR(f:Int->Int->Th):∀(n:Nat)(ts:List Th),ar ts<=n->∀S,bl ((walks ts).map (dj f)++S)=fills f ts++bl S/\(TopsOk S->TopsOk ((walks ts).map (dj f)++S))
 |_,[],_,S=>by rw[walks,fills];exact⟨D?,λh=>h⟩
 | 0,t::ts,hn,S=>by
   have:=t.size_pos;rw[ar]at hn;lia
 | n+1,t::ts,hn,S=>by
   have hs:=t.size_eq;rw[ar]at hn;have h2:=kR f n ts (by lia) S;have e:(walks (t::ts)).map (dj f)++S=dj f t::((walks t.kids).map (dj f)++((walks ts).map (dj f)++S)):=by rw[walks,t.walk_eq];simp
   have h1:=kR f n t.kids (by lia) ((walks ts).map (dj f)++S);rw[e];cases t with
   | knot nm ks =>
     simp only[Th.kids]at h1 |-;refine⟨?_,λhS=>?_⟩
     .show bl (.nm nm ks.length::_)=_;rw[bl,h1.1,h2.1,<-jb f ks,List.take_left,List.drop_left,fills,Th.fill];rfl
     .show TopsOk (.nm nm ks.length::_);rw[TopsOk];refine⟨?_,h1.2 (h2.2 hS)⟩;rw[h1.1,W7,jb];exact Yz _ _
   | call s k =>
     simp only[Th.kids,walks,YM,List.nil_append]at h1 |-;refine⟨?_,λhS=>?_⟩
     .show bl (.th (f s k)::_)=_;rw[bl,h2.1,fills,Th.fill];rfl
     .show TopsOk (.th (f s k)::_);rw[TopsOk];exact h2.2 hS
theorem rb(f:Int->Int->Th)(t:Th):bl (t.walk.map (dj f))=[t.fill f]/\TopsOk (t.walk.map (dj f)):=by
 have h:=kR f _ [t] (WX _) [];have e:walks [t]=t.walk:=by simp[walks]
 rw[e,Ye]at h;refine⟨?_,h.2 (by rw[TopsOk];trivial)⟩;rw[h.1,fills,fills,bl];rfl
theorem vM(x:V)(xs:List V):cJ (x::xs) B? (A? 1)=[x]:=by
 unfold cJ;rw[show(A? (1:Int))=A? ((1:Nat):Int)from rfl,B!,I!,Xf,Nat.min_eq_left (by lia)];rfl
end BB
open BB.Th renaming fill->x!
namespace PySem
open Sem (wp)
end PySem
namespace L2
open PySem PySem.Spec PyProof.Rows BB
end L2
namespace BB
open PySem L2
theorem im{k:Nat}(hr:L2.Room k A):A.units+150+2<YJ:=by
 have:=hr.un;lia
end BB
namespace L2
open PySem PySem.Spec PySem.SeqAt PyProof.Rows BB
open Classical in
theorem tU{X:Cx}(I:Inv X Z Y H s){es:List Dv}{vs ws:List V}{An:List WV}(r1:Vals vs its)(r2:Vals ws An)(Dk:DAts H ds vs)(AR:DAts H es ws)(hu:A.units+cu ds+2<YJ) :
 ∀j(h1:j<its.toArray.size)(h2:j<An.toArray.size),EqAt A.in1 s its.toArray[j] An.toArray[j] (decide (ds[j]?=es[j]?)):=by
 intro j h1 h2;have l1:its.length=ds.length:=by rw[<-r1.length,Dk.length]
 have l2:An.length=es.length:=by rw[<-r2.length,AR.length]
 have C4:j<ds.length:=by rw[<-l1];simpa using h1
 have Dj:j<es.length:=by rw[<-l2];simpa using h2
 have e1:ds[j]?=A? ds[j]:=WQ C4;have e2:es[j]?=A? es[j]:=WQ Dj;obtain⟨x',Bc,dx⟩:=Dk.at e1;obtain⟨y',De,dy⟩:=AR.at e2;obtain⟨u',B8,Hi⟩:=r1.get Bc;obtain⟨v',Cr,EF⟩:=r2.get De;have e3:decide (ds[j]?=es[j]?)=decide (ds[j]=es[j]):=by rw[e1,e2];simp
 have e4:its.toArray[j]=u':=by
  rw[WQ (by rw[l1];exact C4)]at B8;simpa using B8
 have e5:An.toArray[j]=v':=by
  rw[WQ (by rw[l2];exact Dj)]at Cr;simpa using Cr
 rw[e3,e4,e5];have q2:=eW e1;refine n8 I _ ds[j] es[j] (WX _) x' y' u' v' A.in1 dx dy Hi EF ?_;show A.units+1+_<YJ;lia
open Classical in
theorem qV{es:List Dv}(hl:ds.length=es.length):(YL ds.length).all (λj=>decide (ds[j]?=es[j]?))=decide (ds=es):=by
 by_cases h:ds=es
 .subst h;rw[d! rfl];simp
 .rw[c! h];refine Bool.eq_false_iff.mpr λz=>h (List.ext_getElem? λj=>?_);by_cases hj:j<ds.length
  .exact e! (List.all_eq_true.mp z j (List.mem_range.mpr hj))
  .rw[XU (by lia),XU (by lia)]
def zX(K:WY)(B:Nat):R2:=λx y H Q=>∃a b vs ws ds es,x=.ref a/\y=.ref b/\SqT K H a vs/\SqT K H b ws/\DAts H ds vs/\DAts H es ws/\cu ds<=B/\∀b:Bool,(b=C?↔ds≠es)->Q (.bl b) H
open Classical in
theorem yC{X:Cx}{B:Nat}(hu:X.A.units+B+2<YJ):OpR X (ZP .NotEq) (zX X.K B):=by
 intro Z s Y H x y v u Q I rx ry h;obtain⟨a,b,vs,ws,ds,es,rfl,rfl,ha,hb,Dk,AR,hB,q⟩:=h;cases rx;cases ry;obtain⟨its,r1,p1,_⟩:=I.tuple ha;obtain⟨An,r2,p2,_⟩:=I.tuple hb;have l1:its.length=ds.length:=by rw[<-r1.length,Dk.length]
 have l2:An.length=es.length:=by rw[<-r2.length,AR.length]
 refine RcNeAt.tuples (show s.1.IsTuple a its.toArray from p1) (show s.1.IsTuple b An.toArray from p2) (by lia) (tU I r1 r2 Dk AR (by lia)) X.prog X.w X.xe _ ?_
 have e:((YL (min its.toArray.size An.toArray.size)).all (λj=>decide (ds[j]?=es[j]?)) && its.toArray.size == An.toArray.size)=decide (ds=es):=by
  rw[W9,W9,l1,l2];by_cases hl:ds.length=es.length
  .rw[<-hl,Nat.min_self,qV hl];simp
  .rw[c! (λz=>hl (by rw[z]))];simp[hl]
 refine⟨.bl (!decide (ds=es)),H,I,by rw[e];rfl,q _ ?_⟩;simp
end L2
namespace BB
open PySem L2
inductive Rep where
 |i
 |p
def enc(s l:Int):Int:=1000 * s+l
def StV(r:Rep)(H:Hp)(s:Int)(v:V):Prop:=match r with
 |.i=>v=.int s
 |.p=>∃(a:WS)(x y:Int),v=.ref a/\H a=A? (.tup [.int x,.int y])/\s=enc x y/\0<=x/\0<=y/\y<1000
theorem StV.mono{r:Rep}(k:KT H H'){s:Int}(h:StV r H s v):StV r H' s v:=by
 cases r with
 |i=>exact h
 | p =>
   obtain⟨a,x,y,e,h1,h2⟩:=h;exact⟨a,x,y,e,k _ _ h1,h2⟩
theorem vZ{x y x' y':Int}(h:enc x y=enc x' y')(h1:0<=y)(h2:y<1000)(h3:0<=y')(h4:y'<1000):x=x'/\y=y':=by
 unfold enc at h;lia
end BB
variable{r:BB.Rep}
namespace L2
open PySem PySem.Spec PySem.SeqAt PyProof.Rows BB
end L2
namespace BB
open PySem L2
end BB
namespace L2
open PySem PySem.Spec PyProof.Rows BB
end L2
namespace BB
open PySem L2
theorem j2(h:n<=xs.length):cJ xs B? (A? (n:Int))=xs.take n:=by
 unfold cJ;rw[I!,B!,Nat.min_eq_left h,Y1,Nat.sub_zero]
end BB
namespace L2
open PySem PySem.Spec PySem.Calls PyProof.Rows PySem.W
section
variable{g:Array GenState}{d:Drawn}{t:Nat}{os:OsState}{C:WS}{o:YF}{K:Frag}
end
section
variable{cd:WV}{outer:List Env}{E:XK}
end
section
variable{X:Cx}
end
open PySem.SeqAt
theorem vA{k:Nat}(hr:Room k A):A.units+2<YJ:=by
 have:=hr.units;lia
end L2
namespace BB
open PySem
end BB
namespace L2
open PySem PySem.Spec PySem.Calls PyProof.Rows BB
section
variable{R:Result->WZ->Prop}
end
end L2
namespace PySem
end PySem
namespace L2
open PySem PySem.Spec PySem.Calls PyProof.Rows BB
section
variable{X:Cx}
def aaf(K:WY)(tl:TE):TI:=λY H R=>tl Y H λx H1=>∃a,x=.ref a/\(((∃xs,SqL K H1 a xs)/\R (Itl K a) H1)\/((∃xs,SqT K H1 a xs)/\R (Itt K a) H1))
theorem yp{l:X3}(hl:PE X l tl):PI X tg l (aaf X.K tl):=by
 intro Z s Y H R I h;refine thn (hl Z s Y H _ I h) λv s1⟨x,H1,I1,r1,q1⟩=>?_;obtain⟨a,e,q⟩:=q1;subst e;cases r1
 have fp:∀b∈[s1.1.1.size],ja X Z H1 b:=λb hb=>by
  have e:b=s1.1.1.size:=by simpa using hb
  subst e;exact I1.fpOk (WX _) (I1.hok.fresh (WX _))
 rcases q with⟨⟨xs,hq⟩,q⟩|⟨⟨xs,hq⟩,q⟩
 .obtain⟨its,rv,p,hz⟩:=I1.list hq;refine wpAny_pyIter_list p.isList ?_;exact⟨s1.1.1.size,[s1.1.1.size],_,_,H1,D?,I1.kept (t':=s1.toks) λb o e=>WU _ e,nD a _,⟨_,W2 _ rfl,D?,D?⟩,fp,q⟩
 .obtain⟨its,rv,p,hz⟩:=I1.tuple hq;refine Zr (show s1.1.IsTuple a its.toArray from p) ?_;exact⟨s1.1.1.size,[s1.1.1.size],_,_,H1,D?,I1.kept (t':=s1.toks) λb o e=>WU _ e,ly a _,⟨_,W2 _ rfl,D?,D?⟩,fp,q⟩
end
end L2
namespace BB
open PySem L2
theorem rj{g:TG}(zs:List α)(f:α->V)(hz:zs.length=xs.length)(hn:xs.length<=1000000)
 (He:∀i H2,j! H H2->i<xs.length->J.go i H2) (BS:∀H2,j! H H2->J.stop xs.length H2) (Di:∀(i:Nat)H2 x H3,j! H H2->i<xs.length->J.yld i H2 x H3->H3=H2/\xs[i]?=A? x)
 (hb:∀(i:Nat)x z H2(R:VK)(W':Hp->Prop),xs[i]?=A? x->zs[i]?=A? z->j! H H2->(∀H3,j! H2 H3->R (f z) H3)->g x (cσ js Y) H2 λAq H3=>tt Aq H3 λb H4=>if b=C? then te Aq H4 R else W' H4)
 (BI:∀D H',H D=B?->j! H H'->H' D=A? (.lst (zs.map f))->fin D H') :
 ∀D,H D=B?->∃(n:Nat)(W:Nat->Hp->Prop),W 0 (upd H D (.lst []))/\fN js g tt te Y J D n W λH'=>fin D H':=by
 intro D hD;refine⟨xs.length,λi H'=>i<=xs.length/\j! H H'/\H' D=A? (.lst ((zs.take i).map f)),⟨Xr _,aj hD _,by rw[ad];rfl⟩,?_⟩;rintro i H' ⟨hi,s1,e1⟩;by_cases Al:i<xs.length
 .refine .inr ⟨Al,He i H' s1 Al,λv H1 hy=>?_⟩;obtain⟨e,hx⟩:=Di i H' v H1 s1 Al hy;subst e;obtain⟨z,CO⟩:∃z,zs[i]?=A? z:=⟨_,WQ (by lia)⟩;refine hb i v z _ _ _ hx CO s1 λH3 s3=>⟨_,s3 _ _ e1,?_,Al,aE (s1.trans s3) hD,?_⟩
  .rw[WO,XB];have:Xj=16777216:=ZA;lia
  .rw[ad,take_snoc CO,W8];rfl
 .have B0:i=xs.length:=by lia
  subst B0;refine .inl ⟨BS _ s1,BI D H' hD s1 ?_⟩;rw[e1,X1 (by lia)]
theorem f7{g:TG}(zs:List α)(f:α->V)(hS:SqT K H a xs)(hz:zs.length=xs.length)(hn:xs.length<=1000000)
 (hb:∀(i:Nat)x z H2(R:VK)(W':Hp->Prop),xs[i]?=A? x->zs[i]?=A? z->j! H H2->(∀H3,j! H2 H3->R (f z) H3)->g x (cσ js Y) H2 λAq H3=>tt Aq H3 λb H4=>if b=C? then te Aq H4 R else W' H4)
 (BI:∀D H',H D=B?->j! H H'->H' D=A? (.lst (zs.map f))->fin D H') :
 ∀D,H D=B?->∃(n:Nat)(W:Nat->Hp->Prop),W 0 (upd H D (.lst []))/\fN js g tt te Y (Itt K a) D n W λH'=>fin D H' :=
 rj zs f hz hn (λi H2 s hi=>⟨xs,xs[i],s.seqT hS,WQ hi⟩) (λH2 s=>⟨xs,s.seqT hS,WX _⟩) (λi H2 x H3 s hi hy=>⟨hy.1,hy.2 xs (s.seqT hS)⟩) hb BI
theorem dJ{g:TG}(zs:List α)(f:α->V)(hS:SqL K H a xs)(hz:zs.length=xs.length)(hn:xs.length<=1000000)
 (hb:∀(i:Nat)x z H2(R:VK)(W':Hp->Prop),xs[i]?=A? x->zs[i]?=A? z->j! H H2->(∀H3,j! H2 H3->R (f z) H3)->g x (cσ js Y) H2 λAq H3=>tt Aq H3 λb H4=>if b=C? then te Aq H4 R else W' H4)
 (BI:∀D H',H D=B?->j! H H'->H' D=A? (.lst (zs.map f))->fin D H') :
 ∀D,H D=B?->∃(n:Nat)(W:Nat->Hp->Prop),W 0 (upd H D (.lst []))/\fN js g tt te Y (Itl K a) D n W λH'=>fin D H' :=
 rj zs f hz hn (λi H2 s hi=>⟨xs,xs[i],s.seq hS,WQ hi⟩) (λH2 s=>⟨xs,s.seq hS,WX _⟩) (λi H2 x H3 s hi hy=>⟨hy.1,hy.2 xs (s.seq hS)⟩) hb BI
end BB
namespace HT
open PySem PySem.Spec PyProof.Rows
theorem adjust_back(n:Nat):Zw B? B? (-1) (n:Int)=((n:Int) - 1,-1):=rfl
theorem places_back(n:Nat):Yp ((n:Int) - 1) (-1) (-1)=n:=by
 unfold Yp;have h1:¬((-1:Int) > 0):=by lia
 simp only[h1,if_false];by_cases h:n=0
 .subst h;decide
 .have h2:((n:Int) - 1) > -1:=by lia
  simp only[h2,if_true];rw[show(- -1:Int)=1 by decide,Int.ediv_one];lia
theorem pick_back(xs:Array WV):((YL xs.size).filterMap λ(m:Nat)=>xs[(((xs.size:Nat):Int) - 1+(m:Int) * (-1)).toNat]?).toArray=xs.toList.reverse.toArray:=by
 congr 1
 have e:∀m∈YL xs.size,xs[(((xs.size:Nat):Int) - 1+(m:Int) * (-1)).toNat]?=xs.toList.reverse[m]?:=by
  intro m hm;have Cz:=List.mem_range.mp hm;rw[List.getElem?_reverse (by rw[Xo];exact Cz),ZU,Xo];congr 1;lia
 have f:∀(l:List Nat)(f g:Nat->Option WV),(∀m∈l,f m=g m)->l.filterMap f=l.filterMap g:=by
  intro l f g;induction l with
  |nil=>intro _;rfl
  | cons y ys ih =>
    intro h;rw[Zy,Zy,h y (by simp),ih (λm hm=>h m (by simp[hm]))]
 rw[f _ _ _ e]
 have gl:∀(ys:List WV),(YL ys.length).filterMap (λm=>ys[m]?)=ys:=by
  intro ys;have:=pick_run ys.toArray 0 ys.length;simp only[List.filterMap_map]at this
  have e3:((λx=>ys.toArray[x]?) ∘ λx=>0+x)=λm=>ys[m]?:=by
   funext m;simp
  rw[e3]at this;rw[this];simp
 have:=gl xs.toList.reverse;rw[X0,Xo]at this;exact this
theorem sliceApplied_back{t:Tok}{Q:Int×Int×Nat->WZ->Prop}(hs:s.1.IsSliceOf sl .none .none (.int (-1) t))
 (h:Q ((n:Int) - 1,-1,n) s):Xc (Xy prog w) A (Builtin.Slice.sliceApplied (.ref sl) (pure (n:Int))) Q E s:=by
 obtain⟨os,Bz,BZ,BQ⟩:=id hs;unfold Builtin.Slice.sliceApplied Builtin.Slice.sliceFields;refine WN (WN (XS Bz BQ (x:=.none) rfl (WN (XS Bz BQ (x:=.none) rfl (WN (XS Bz BQ (x:=.int (-1) t) rfl (WW ?_)))))));refine WN (slicePart_int ?_);show Xc _ _ (if((-1:Int) == 0)=C? then _ else _) _ _ s;rw[a! (by decide)];refine WN (slicePart_none (WN (slicePart_none (WN (WW ?_)))));show Xc _ _ (match Zw B? B? (-1) (n:Int)with|(lo,hi)=>pure (lo,(-1:Int),Yp lo hi (-1))) _ _ s;rw[adjust_back n];show Xc _ _ (pure ((n:Int) - 1,(-1:Int),Yp ((n:Int) - 1) (-1) (-1))) _ _ s;rw[places_back];exact WW h
theorem getItem_tuple_back{t:WS}{tk:Tok}(ht:IsTup s.1 t items)(hs:s.1.IsSliceOf sl .none .none (.int (-1) tk))
 (h:Q (.ref s.1.1.size) {s with heap:=s.1.push {cls:=.type "tuple",data:=.seq items.toList.reverse.toArray}})
 (hsz:items.size<=Xj):Xc (Xy prog w) A (getItem (.ref t) (.ref sl)) Q E s:=by
 have Bn:sizeOk (.seq items.toList.reverse.toArray):=by
  show items.toList.reverse.toArray.size<=Xj;rw[W9,X0,Xo];exact hsz
 obtain⟨os,Bz,BZ,BQ⟩:=id hs;have JS:s.TypeIs (.ref sl) "slice":=⟨os,Bz,BZ⟩;unfold getItem
 try with_reducible refine Yv ?_
 first|refine WN (WW ?_)|skip
 refine WN (wpAny_sequenceKey ht.typeIs (by decide) ?_)
 refine WN (XR (name:=W5 "__getitem__") ht.typeIs XM
  (XT XM ht.typeIs entry_tuple_getitem ?_ (args_tuple_getitem _ _)))
 show Xc _ _ (Builtin.Tuple.tupleItemsOf (.ref t) >>= _) _ _ s;refine WN (tupleItemsOf_ ht ?_);refine WN (ZY JS ?_);rw[b! (by decide)];refine WN (sliceApplied_back hs ?_)
 have Cs:¬((((items.size:Nat):Int) - 1 == 0 && (-1:Int) == 1 && items.size == items.size)=C?):=by
  simp
 show Xc _ _ (if(((items.size:Nat):Int) - 1 == 0 && (-1:Int) == 1 && items.size == items.size)=C? then _ else _) _ _ s;rw[a! Cs,pick_back]
 first
  |exact WN (m:=Yw _) (XQ (WW ⟨_,rfl,WW h⟩) Bn)
  |exact WN (m:=Yw _) (XQ (WN (WW (WW ⟨_,rfl,WW h⟩))) Bn)
  |exact WN (WN (m:=Yw _) (XQ (WW (WW ⟨_,rfl,WW h⟩)) Bn))
  |exact WN (WN (m:=Yw _) (XQ (WW ⟨_,rfl,WW h⟩) Bn))
end HT
namespace L2
open PySem PySem.Spec PyProof.Rows
section
variable{X:Cx}{p2 p3 p4:Pos}
def BkR(X:Cx)(r:V->Hp->VK->Prop):Prop :=
 ∀(Z:List (WS×YF))(s:WZ)(Y:St)(H:Hp)(x:V)(v:WV)(t:Tok)(sl:WS)(Q:VK),Inv X Z Y H s->RelV x v->s.1.IsSliceOf sl .none .none (.int (-1) t)->r x H Q ->
   ∃T id,typeLookup (.type T) "__getitem__"=pure (A? (.builtin id))/\s.TypeIs v T/\Xc (Xy X.prog X.w) X.A (getItem v (.ref sl)) (EP X Z Y Q) X.xe s
def tBk(r:V->Hp->VK->Prop)(te:TE):TE:=λY H Q=>te Y H λx H1=>r x H1 Q
theorem rc{r:V->Hp->VK->Prop}(hr:BkR X r)(he:PE X e te):PE X (.Subscript e (.Slice B? B? (A? (.UnaryOp .USub (.Constant (.int 1) 0 p3) p4)) p2) pos) (tBk r te):=by
 intro Z s Y H Q I h;refine Subscript_ (thn (he Z s Y H _ I h) λv s1⟨x,H1,I1,r1,q1⟩=>?_);refine wpAny_Slice ?_;rw[evalPart_none];refine WW ?_;refine WW ?_;have Hj:PO X (A? (.UnaryOp .USub (.Constant (.int 1) 0 p3) p4)) (w6 (tUn (rU λi=>.int (-i)) (tC (.int 1)))):=bO (zo yb ai);refine thn (Hj Z s1 Y H1 (λo H'=>o=A? (-1)/\r x H' Q) I1 ⟨1,rfl,_,rfl,rfl,q1⟩) λvs s2⟨o,H2,I2,ps,ho,q2⟩=>?_;subst ho;cases ps with
 | int i t =>
   have I4:Inv X Z Y H2 {s2 with heap:=s2.1.push {cls:=.type "slice",data:=.fields #[.none,.none,.int (-1) t]}}:=I2.kept (t':=s2.toks) λb ob q=>WU _ q;obtain⟨T,id,hT,ht,hg⟩:=hr Z {s2 with heap:=s2.1.push {cls:=.type "slice",data:=.fields #[.none,.none,.int (-1) t]}} Y H2 x v t s2.1.1.size Q I4 r1 (Heap.IsSliceOf.new ..) q2;show Xc (Xy X.prog X.w) X.A (subscriptTail e (.Slice B? B? (A? (.UnaryOp .USub (.Constant (.int 1) 0 p3) p4)) p2) v (.ref s2.1.1.size)) (EP X Z Y Q) X.xe {s2 with heap:=s2.1.push {cls:=.type "slice",data:=.fields #[.none,.none,.int (-1) t]}};exact tail_any (ops:=[v,.ref s2.1.1.size]) ht hT hg (by with_unfolding_all rfl)
def aan(K:WY):V->Hp->VK->Prop:=λx H Q=>∃a xs,x=.ref a/\SqT K H a xs/\∀p,H p=B?->Q (.ref p) (upd H p (.tup xs.reverse))
def zV(K:WY):V->Hp->VK->Prop:=λx H Q=>∃a xs,x=.ref a/\SqL K H a xs/\∀p,H p=B?->Q (.ref p) (upd H p (.lst xs.reverse))
theorem Vals.rev(r:Vals xs us):Vals xs.reverse us.reverse:=by
 induction r with
 |nil=>exact .nil
 |cons r1 r2 ih=>rw[XZ,XZ];exact ih.append (.cons r1 .nil)
theorem yv:BkR X (aan X.K):=by
 intro Z s Y H x v t sl Q I rx hs h;obtain⟨a,xs,rfl,hx,q⟩:=h;cases rx;obtain⟨its,r,ht,hz⟩:=I.tuple hx;have hlen:its.toArray.size=xs.length:=by rw[W9];exact r.length.symm
 refine⟨"tuple",_,XM.lookup,ht.typeIs,?_⟩;refine HT.getItem_tuple_back ht hs ?_ (by rw[hlen];exact hz);refine⟨.ref s.1.1.size,_,I.laid (t':=s.toks) (o:=.tup xs.reverse) (λb ob q=>WU _ q) (WX _) ?_,D?,q _ (I.hok.fresh (WX _))⟩;exact⟨by rw[X0];exact hz,_,0,r.rev,W2 _ rfl⟩
theorem lj(its:List WV):slicePick its.toArray B? B? (A? (-1))=its.reverse.toArray:=by
 unfold slicePick;have e:sliceBounds B? B? (A? (-1)) its.toArray.size=((its.toArray.size:Int) - 1,-1,-1):=rfl;rw[e];unfold sliceRange;have h1:¬((-1:Int) > 0):=by lia
 simp only[h1,if_false]
 have hc:(if((its.toArray.size:Nat):Int) - 1 > -1 then(((its.toArray.size:Nat):Int) - 1 - -1 - -1 - 1) / (- -1)else 0).toNat=its.toArray.size:=by
  by_cases h:its.toArray.size=0
  .rw[h];decide
  .rw[b! (by lia),show(- -1:Int)=1 by decide,Int.ediv_one];lia
 rw[hc,List.filterMap_map];have:=HT.pick_back its.toArray;rw[<-this];congr 1;congr 1;funext m;show its.toArray[(((its.toArray.size:Nat):Int) - 1+-1 * (m:Int)).toNat]?=_;rw[Int.mul_comm]
theorem wK:BkR X (zV X.K):=by
 intro Z s Y H x v t sl Q I rx hs h;obtain⟨a,xs,rfl,hx,q⟩:=h;cases rx;obtain⟨its,r,ht,hz⟩:=I.list hx;have hlen:=r.length;refine⟨"list",_,slot_list_getitem.lookup,ht.isList.typeIs,?_⟩;refine wpAny_getItem_list_slice ht.isList hs .none .none (.int _ _) (by simp) ?_ (by rw[W9] <;> lia);rw[lj];refine⟨.ref s.1.1.size,_,I.laid (t':=s.toks) (o:=.lst xs.reverse) (λb ob q=>WU _ q) (WX _) ?_,D?,q _ (I.hok.fresh (WX _))⟩;exact⟨by rw[X0];exact hz,_,0,r.rev,W2 _ rfl⟩
end
open PySem.Calls
section
variable{X:Cx}
end
def p6(z:Xk)(n:Nat):Xk:=⟨(XY n z.cps).foldl (·++·) #[]⟩
theorem pW(c:Nat):∀(n:Nat)(a:Array Nat),(XY n #[c]).foldl (·++·) a=a++(XY n c).toArray
 |0,a=>by simp
 | n+1,a=>by
   rw[Y9,List.foldl_cons,pW c n,Y9,Array.append_assoc];congr 1;simp
theorem lJ(c n:Nat):p6 ⟨#[c]⟩ n=⟨(XY n c).toArray⟩:=by
 unfold p6;rw[pW];simp
theorem iW(c n:Nat):(p6 ⟨#[c]⟩ n).length=n:=by
 rw[lJ];show(XY n c).toArray.size=n;simp
section
variable{X:Cx}
def zg:R2:=λx y H Q=>∃(c:Nat)(n:Int),x=.str ⟨#[c]⟩/\y=.int n/\1<=n/\n<=1000/\Q (.str (p6 ⟨#[c]⟩ n.toNat)) H
theorem vO:OpR X (ZC .Mult) zg:=by
 intro Z s Y H x y v u Q I rx ry h;obtain⟨c,n,rfl,rfl,h1,h2,q⟩:=h;obtain⟨t,rfl⟩:=rx;obtain⟨t',rfl⟩:=ry;have hlen:(⟨#[c]⟩:Xk).length=1:=rfl;refine PySem.P.mul_str ?_ ?_ ?_ ?_
 .rw[c! (by lia),c! (by lia)];rfl
 .intro _ _;rw[hlen]
  have:(1:Int)<=(2 ^ 63 - 1) / n:=by
   rw[Int.le_ediv_iff_mul_le (by lia)];lia
  show¬((1:Nat):Int) > (2 ^ 63 - 1) / n;lia
 .intro _ _;rw[hlen,Nat.one_mul];have:Xj=16777216:=ZA;exact c! (by lia)
 .rw[a! (by lia)];by_cases hn:n=1
  .subst hn;rw[b! (by rfl)];exact⟨.str ⟨#[c]⟩,H,I,⟨_,D?⟩,by rw[show p6 ⟨#[c]⟩ (1:Int).toNat=⟨#[c]⟩from lJ c 1]at q;exact q⟩
  .rw[a! (by rw[hlen];simp;lia)];refine⟨?_,⟨.str (p6 ⟨#[c]⟩ n.toNat),H,I.tok _,⟨_,D?⟩,q⟩⟩;show(p6 ⟨#[c]⟩ n.toNat).length<=Xj;have:Xj=16777216:=ZA;rw[iW];lia
def zj(i j:Int):Prop:=0<j/\j<2 ^ 62
theorem um:OpR X (ZC .FloorDiv) (rI zj λi j=>.int (i / j)):=opI λi j _ _ _ _ _ hc q=>by
 have h1:(0:Int)<j:=hc.1;have h2:j<2 ^ 62:=hc.2;refine floordiv_int (by lia) (by rw[Int.fdiv_eq_ediv_of_nonneg i (by lia)];exact q) (.inl (PyProof.noPylong_of_log2 ?_));have:j.natAbs.log2<62:=(Nat.log2_lt (by lia)).mpr (by lia);lia
def isStr(z:Xk):WV->Bool
 |.str y _=>y == z
 |_=>CG
def oJ(K:WY):V->List V->Hp->VK->Prop:=λx vs H Q=>∃(l:WS)(zs:List Xk)(z:Xk)(j:Nat),x=.ref l/\vs=[.str z]/\SqL K H l (zs.map G!)/\zs[j]?=A? z/\(∀i,i<j->zs[i]?≠A? z)/\zs.length<=100000/\Q (.int (j:Nat)) H
theorem i8:MtM X "list.index" (oJ X.K):=by
 intro Z s Y H x vs v us Q I rx rv h;obtain⟨l,zs,z,j,rfl,rfl,hS,hj,Cs,hz,q⟩:=h;cases rx;obtain⟨u,rfl,t,rfl⟩:=rv.one;obtain⟨its,r,pl,_⟩:=I.list hS;have hlen:=r.length;rw[WO]at hlen;obtain⟨⟨cls,dd,data,sl⟩,ho,hc,n,hd⟩:=pl.isList;simp only at hc hd;subst hc hd;have Bs:j<zs.length:=(glE hj)
 have get:∀m,m<zs.length->∃y t',its[m]?=A? (.str y t')/\zs[m]?=A? y:=λm hm=>by
  obtain⟨v,hv,rv⟩:=r.get (i:=m) (x:=.str zs[m]) (by rw[W3,WQ hm];rfl);obtain⟨t',rfl⟩:=rv;exact⟨_,t',hv,WQ hm⟩
 refine call_meets Y4 ⟨_,ho,rfl⟩ PySem.F.entry_list_index (PySem.F.args_list_index_2 _ _)
  (SeqAt.list_indexAt l its.toArray n dd sl (.str z t) (isStr z) j (by rw[W9];lia) (by lia) ?_ ?_) ⟨ho,λy hy=>?_,⟨.int (j:Nat),H,I.tok _,⟨_,rfl⟩,q⟩⟩
 .obtain⟨y,t',h1,h2⟩:=get j Bs;rw[hj]at h2;cases h2
  have h3:its.toArray[j]'(by rw[W9];lia)=.str z t':=by
   rw[WQ (by lia)]at h1;simpa using h1
  rw[h3];show(z == z)=C?;simp
 .intro m hm Al;obtain⟨y,t',h1,h2⟩:=get m (by lia)
  have h3:its.toArray[m]'hm=.str y t':=by
   rw[WQ (by lia)]at h1;simpa using h1
  rw[h3];show(y == z)=CG;refine Bool.eq_false_iff.mpr λe=>Cs m Al ?_;rw[h2,beq_iff_eq.mp e]
 .have De:y∈its:=by simpa using hy
  obtain⟨m,hm,rfl⟩:=List.getElem_of_mem De;obtain⟨y,t',h1,h2⟩:=get m (by lia);rw[WQ hm]at h1;have h3:=Xl h1;rw[h3];exact SeqAt.EqAt.str_str _ _ _ _
end
end L2
namespace BB
open PySem L2
structure aH(ks:List (Xk×Int)):Prop where
 ne:1<=ks.length
 le:ks.length<=8
 low:∀k∈ks,Low k.1/\k.1.length<=8
 num:∀k∈ks,0<=k.2/\k.2<=3
 zero:∃k∈ks,k.2=0
 nd:∀(i j:Nat)(k l:Xk×Int),ks[i]?=A? k->ks[j]?=A? l->k.1=l.1->i=j
mutual
def Th.FitS(ks:List (Xk×Int))(S C:Int):Th->Prop
 |.knot n ts=>(n,(ts.length:Int))∈ks/\FitSs ks S C ts
 |.call s k=>0<=s/\s<S/\0<=k/\k<C
def FitSs(ks:List (Xk×Int))(S C:Int):List Th->Prop
 | []=>True
 |t::ts=>t.FitS ks S C/\FitSs ks S C ts
end
theorem FitSs.of{ks:List (Xk×Int)}:∀{ts:List Th},(∀t∈ts,t.FitS ks S C)->FitSs ks S C ts
 | [],_=>by rw[FitSs];trivial
 | t::ts,h=>by
   rw[FitSs];exact⟨h t (W4 ..),FitSs.of λu hu=>h u (WT _ hu)⟩
theorem jm(h:∀t∈ts,t.tall<=n):ax ts<=n:=by
 induction ts with
 |nil=>rw[ax];exact Xr _
 | cons t ts ih =>
   rw[ax];have h1:=h t (W4 ..);have h2:=ih λu hu=>h u (WT _ hu);lia
def SameB(l:WS)(H H':Hp):Prop:=∀b o,b≠l->H b=A? o->H' b=A? o
theorem SameB.refl:SameB l H H:=λ_ _ _ e=>e
theorem SameB.trans{A B C:Hp}(h:SameB l A B)(k:SameB l B C):SameB l A C:=λb o hb e=>k b o hb (h b o hb e)
theorem SameB.of(h:j! H H'):SameB l H H':=λb o _ e=>h b o e
theorem SameB.set:SameB l H (upd H l o):=λb o hb e=>by rw[af hb];exact e
theorem SameB.kt(h:SameB l H H')(e:H l=A? (.lst xs)):KT H H':=λb ys eb=>h b _ (aF eb e (by intro z;cases z)) eb
theorem SameB.free{p:WS}(h:SameB l H H')(e:H' l=A? o)(hp:H' p=B?):H p=none:=by
 cases hh:H p with
 |none=>rfl
 | some o' =>
   by_cases z:p=l
   .rw[z,e]at hp;cases hp
   .rw[h p o' z hh]at hp;cases hp
def RowAt(H:Hp)(row:List Th)(a:WS):Prop:=∃as:List WS,H a=A? (.tup (as.map i!))/\Ats H row as
theorem RowAt.mono(k:KT H H'){row:List Th}(h:RowAt H row a):RowAt H' row a:=by
 obtain⟨as,h1,h2⟩:=h;exact⟨as,k _ _ h1,h2.mono k⟩
structure uk(ins outs:List (Xk×Int))(S:Int)(deep:Nat)(row:List Th):Prop where
 len:row.length=ins.length
 fit:∀(j:Nat)(t:Th)(k:Xk×Int),row[j]?=A? t->ins[j]?=A? k->t.FitS outs S k.2/\t.tall<=deep+1
structure BookAt(H:Hp)(ins outs:List (Xk×Int))(head:Th)(rows:List (List Th))(r ia oa ha ra:WS)(Av AA Aw:List WS):Prop where
 bk:H r=A? (.tup [.ref ia,.ref oa,.ref ha,.ref ra])
 inE:H ia=A? (.tup (Av.map i!))
 inK:KsAt H ins Av
 outE:H oa=A? (.tup (AA.map i!))
 outK:KsAt H outs AA
 hd:At H head ha
 rl:H ra=A? (.tup (Aw.map i!))
 rw:XH (RowAt H) rows Aw
theorem BookAt.mono(k:KT H H'){head:Th}{rows:List (List Th)}{r ia oa ha ra:WS}{Av AA Aw:List WS}(b:BookAt H ins outs head rows r ia oa ha ra Av AA Aw):BookAt H' ins outs head rows r ia oa ha ra Av AA Aw :=
 ⟨k _ _ b.bk,k _ _ b.inE,b.inK.mono k,k _ _ b.outE,b.outK.mono k,b.hd.mono k,k _ _ b.rl,v! (λ_ _ e=>e.mono k) b.rw⟩
structure BookOk(ins outs:List (Xk×Int))(S:Int)(deep:Nat)(head:Th)(rows:List (List Th)):Prop where
 len:(rows.length:Int)=S
 row:∀row∈rows,uk ins outs S deep row
 hdf:head.FitS outs S 1
 hdt:head.tall<=2
def dG:Xk:=W5 "aeio"
def gum:Xk:=W5 "gumleafs"
theorem vU:Low gum:=by unfold Low;decide +kernel
theorem jv{z:Xk}(h:n<=z.length):(cI z B? (A? (n:Int))).cps.toList=z.cps.toList.take n/\(cI z B? (A? (n:Int))).length=n:=by
 have hz:z.cps.toList.length=z.length:=Xo
 have e:(cI z B? (A? (n:Int))).cps.toList=z.cps.toList.take n:=by
  show(jV z.cps.toList B? (A? (n:Int))).toArray.toList=_;rw[List.toList_toArray];unfold jV;rw[B!,I!,hz,Nat.min_eq_left h];simp
 refine⟨e,?_⟩;show(cI z B? (A? (n:Int))).cps.size=n;rw[<-Xo,e,XB,hz];lia
def lb(begun:Bool)(c0:Nat)(stem:Xk)(at':Int)(L:List Nat)(p:Nat):Xk :=
 if begun then p6 ⟨#[c0]⟩ (1+p)else cI stem B? (A? at')++⟨#[L.getD p 0]⟩++cI stem (A? at') B?
theorem yg{at':Int}{L:List Nat}(hL:∀(p r:Nat)(c:Nat),L[p]?=A? c->L[r]?=A? c->p=r){p r:Nat}(hp:p<L.length)(hr:r<L.length)(h:lb begun c0 stem at' L p=lb begun c0 stem at' L r):p=r:=by
 unfold lb at h;cases begun with
 | true =>
   simp only[if_true]at h;have:=h! Str.length h;rw[iW,iW]at this;lia
 | false =>
   simp only[X6,if_false]at h;have h2:=h! (λz:Xk=>z.cps.toList) h;have h3:((cI stem B? (A? at')).cps++#[L.getD p 0]++(cI stem (A? at') B?).cps).toList=((cI stem B? (A? at')).cps++#[L.getD r 0]++(cI stem (A? at') B?).cps).toList:=h2;rw[Zz,Zz,Zz,Zz]at h3;have h4:=List.append_cancel_right h3;have h5:=List.append_cancel_left h4;have h6:L.getD p 0=L.getD r 0:=by simpa using h5
   refine hL p r (L.getD r 0) ?_ ?_
   .rw[<-h6,ZS,WQ hp];rfl
   .rw[ZS,WQ hr];rfl
theorem xS{at':Int}{L:List Nat}(hc:97<=c0/\c0<=122)(hs:Low stem)(hL:∀c∈L,97<=c/\c<=122){p:Nat}(hp:p<L.length):Low (lb begun c0 stem at' L p):=by
 unfold lb;cases begun with
 | true =>
   simp only[if_true];rw[lJ];intro c Bd;have NV:c∈XY (1+p) c0:=by simpa using Bd
   rw[List.eq_of_mem_replicate NV];exact hc
 | false =>
   simp only[X6,if_false];have h1:L.getD p 0∈L:=by rw[ZS,WQ hp];exact Zh hp
   have h2:=hL _ h1;exact rX (rX (nK hs _ _) (wE h2.1 h2.2)) (nK hs _ _)
structure mx(letters:Xk):Prop where
 len:letters.length=4
 low:Low (letters++dG)
 inj:∀(p r c:Nat),(letters++dG).cps.toList[p]?=A? c->(letters++dG).cps.toList[r]?=A? c->p=r
theorem kY{letters:Xk}(h1:letters.length=4)(h2:((letters++dG).cps.toList.all λc=>decide (97<=c/\c<=122))=C?)(h3:(letters++dG).cps.toList.Nodup):mx letters:=by
 refine⟨h1,λc hc=>e! (List.all_eq_true.mp h2 c hc),λp r c hp hr=>?_⟩;obtain⟨p1,p2⟩:=Xx.mp hp;obtain⟨r1,r2⟩:=Xx.mp hr;exact(List.getElem_inj h3).mp (p2.trans r2.symm)
theorem vI:mx (W5 "bdhk"):=kY (by decide +kernel) (by decide +kernel) (by decide +kernel)
theorem ww:mx (W5 "npwz"):=kY (by decide +kernel) (by decide +kernel) (by decide +kernel)
def Step(ins:List (Xk×Int))(rows:List (List Th))(s k:Int)(ks:List Th)(p h:Th):Prop :=
 0<=s/\0<=k/\ks[k.toNat]?=A? h/\∃(m:Xk)(hs:List Th)(c:Int)(j:Nat)(row:List Th),h=.knot m hs/\ins[j]?=A? (m,c)/\rows[s.toNat]?=A? row/\row[j]?=A? p
inductive Res(ins:List (Xk×Int))(rows:List (List Th)):Th->Th->Th->Th->Prop
 |stop (n:Xk) (ts:List Th) (k:Th):Res ins rows (.knot n ts) k (.knot n ts) k
 |step {s c:Int} {n:Xk} {ks:List Th} {p h p' k':Th}:Step ins rows s c ks p h->Res ins rows p h p' k'->Res ins rows (.call s c) (.knot n ks) p' k'
theorem cD{ks:List (Xk×Int)}:∀{ts:List Th},Fits ks ts->∀t∈ts,t.Fit ks
 | [],_,t,ht=>by cases ht
 | a::ts,h,t,ht=>by
   rw[Fits]at h;rcases W6.mp ht with rfl|ht
   .exact h.1
   .exact cD h.2 t ht
theorem i6{ks:List (Xk×Int)}:∀{ts:List Th},FitSs ks S C ts->∀t∈ts,t.FitS ks S C
 | [],_,t,ht=>by cases ht
 | a::ts,h,t,ht=>by
   rw[FitSs]at h;rcases W6.mp ht with rfl|ht
   .exact h.1
   .exact i6 h.2 t ht
theorem vR{d:Nat}{head:Th}{rows:List (List Th)}(ok:BookOk ins outs S d head rows){s:Int}{ks:List Th}(hf:(F! s c).FitS outs S (ks.length:Int))(hk:∀h∈ks,h.Fit ins) :
 ∃p m hs,Step ins rows s c ks p (.knot m hs)/\p.FitS outs S (hs.length:Int)/\(∀h∈hs,h.Fit ins)/\(w! m hs)∈ks:=by
 rw[Th.FitS]at hf;obtain⟨s0,s1,c0,c1⟩:=hf;have hlen:=ok.len;obtain⟨h,hh⟩:∃h,ks[c.toNat]?=A? h:=⟨_,WQ (by lia)⟩;have hm:=WR hh;have Ah:=hk h hm;cases h with
 |call a b=>rw[y!]at Ah;exact Ah.elim
 | knot m hs =>
   rw[y!]at Ah;obtain⟨j,hj⟩:=Xg.mp Ah.1;obtain⟨row,Aj⟩:∃row,rows[s.toNat]?=A? row:=⟨_,WQ (by lia)⟩;have GA:=ok.row row (WR Aj);have Bs:=(glE hj);obtain⟨p,hp⟩:∃p,row[j]?=A? p:=⟨_,WQ (by rw[GA.len];exact Bs)⟩;exact⟨p,m,hs,⟨s0,c0,hh,m,hs,_,j,row,D?,hj,Aj,hp⟩,(GA.fit j p _ hp hj).1,cD Ah.2,hm⟩
def Bk(H:Hp)(ins outs:List (Xk×Int))(head:Th)(rows:List (List Th))(r:WS):Prop:=∃ia oa ha ra Av AA Aw,BookAt H ins outs head rows r ia oa ha ra Av AA Aw
theorem Bk.mono(k:KT H H'){head:Th}{rows:List (List Th)}{r:WS}(b:Bk H ins outs head rows r):Bk H' ins outs head rows r:=by
 obtain⟨ia,oa,ha,ra,Av,AA,Aw,b⟩:=b;exact⟨ia,oa,ha,ra,Av,AA,Aw,b.mono k⟩
end BB
open BB.Th renaming FitS->p!
open BB.RowAt renaming mono->H!
namespace L2
open PySem PySem.Spec PySem.Calls PyProof.Rows PySem.SeqAt
end L2
namespace BB
open PySem L2
mutual
inductive Out(ins:List (Xk×Int))(rows:List (List Th)):Th->Th->Th->Prop
 |mk {p k:Th} {n:Xk} {ts:List Th} {k':Th} {os:List Th}:Res ins rows p k (.knot n ts) k'->Outs ins rows ts k' os->Out ins rows p k (.knot n os)
inductive Outs(ins:List (Xk×Int))(rows:List (List Th)):List Th->Th->List Th->Prop
 |nil (k:Th):Outs ins rows [] k []
 |cons {t k o:Th} {ts os:List Th}:Out ins rows t k o->Outs ins rows ts k os->Outs ins rows (t::ts) k (o::os)
end
theorem Out.step{rows:List (List Th)}{s:Int}{n:Xk}{ks:List Th}{h o:Th}(st:Step ins rows s c ks p h)(g:Out ins rows p h o):Out ins rows (.call s c) (.knot n ks) o:=by
 cases g with
 |mk r os=>exact .mk (.step st r) os
theorem Out.unstep{rows:List (List Th)}{s:Int}{n:Xk}{ks:List Th}{o:Th}(g:Out ins rows (.call s c) (.knot n ks) o):∃p h,Step ins rows s c ks p h/\Out ins rows p h o:=by
 cases g with
 | mk r os =>
   cases r with
   |step st r=>exact⟨_,_,st,.mk r os⟩
theorem Out.unknot{rows:List (List Th)}{n:Xk}{k o:Th}(g:Out ins rows (.knot n ts) k o):∃os,o=.knot n os/\Outs ins rows ts k os:=by
 cases g with
 | mk r os =>
   cases r with
   |stop=>exact⟨_,D?,os⟩
theorem Outs.length{rows:List (List Th)}:∀{ts:List Th}{k:Th}{os:List Th},Outs ins rows ts k os->os.length=ts.length
 |_,_,_,.nil _=>rfl
 |_,_,_,.cons _ h=>by rw[Xf,Xf,Outs.length h]
theorem Outs.get{rows:List (List Th)}:∀{ts:List Th}{k:Th}{os:List Th}(i:Nat){t o:Th},Outs ins rows ts k os->ts[i]?=A? t->os[i]?=A? o->Out ins rows t k o
 |_,_,_,i,t,o,.nil _,h1,h2=>by simp at h1
 | _,_,_,0,t,o,.cons g _,h1,h2=>by
   simp at h1 h2;subst h1;subst h2;exact g
 |_,_,_,i+1,t,o,.cons _ g,h1,h2=>Outs.get i g (by simpa using h1) (by simpa using h2)
theorem uc(g:aH ins){rows:List (List Th)}{s:Int}{ks:List Th}{h h':Th}(a:Step ins rows s c ks p h)(b:Step ins rows s c ks p' h'):p=p'/\h=h':=by
 obtain⟨_,_,a1,m,hs,c1,j,row,a2,a3,a4,a5⟩:=a;obtain⟨_,_,b1,m',Fn,NW,j',EG,b2,b3,b4,b5⟩:=b;rw[a1]at b1;cases b1;rw[a2]at b2;cases b2;rw[a4]at b4;cases b4;have:=g.nd j j' _ _ a3 b3 rfl;subst this;rw[a5]at b5;cases b5;exact⟨D?,D?⟩
theorem wQ(g:aH ins){rows:List (List Th)}{k p1 k1:Th}(a:Res ins rows p k p1 k1):∀{p2 k2:Th},Res ins rows p k p2 k2->p1=p2/\k1=k2:=by
 induction a with
 |stop n ts k=>intro p2 k2 b;cases b;exact⟨D?,D?⟩
 | step st r ih =>
   intro p2 k2 b;cases b with
   | step BH r' =>
     obtain⟨rfl,rfl⟩:=uc g st BH;exact ih r'
theorem sZ(g:aH ins){rows:List (List Th)}:∀(N:Nat),(∀(p k o o':Th),o.size<=N->Out ins rows p k o->Out ins rows p k o'->o=o')/\(∀(ts:List Th)(k:Th)(os DL:List Th),ar os<=N->Outs ins rows ts k os->Outs ins rows ts k DL->os=DL):=by
 intro N;induction N with
 | zero =>
   refine⟨λp k o o' h=>?_,λts k os DL h a b=>?_⟩
   .have:=o.size_pos;lia
   .cases a with
    |nil=>cases b;rfl
    | cons x y =>
      rename_i o _ _
      have:=o.size_pos;rw[ar]at h;lia
 | succ N ih =>
   have h1:∀(p k o o':Th),o.size<=N+1->Out ins rows p k o->Out ins rows p k o'->o=o':=by
    intro p k o o' h a b;cases a with
    | mk r os =>
      cases b with
      | mk r' DL =>
        obtain⟨e1,e2⟩:=wQ g r r';cases e1;subst e2;rw[t!]at h;rw[ih.2 _ _ _ _ (by lia) os DL]
   refine⟨h1,λts=>?_⟩;induction ts with
   |nil=>intro k os DL h a b;cases a;cases b;rfl
   | cons t ts TU =>
     intro k os DL h a b;cases a with
     | cons x y =>
       cases b with
       | cons x' y' =>
         rw[ar]at h;rw[h1 _ _ _ _ (by lia) x x',TU _ _ _ (by lia) y y']
theorem j4(g:aH ins){rows:List (List Th)}{k o o':Th}(a:Out ins rows p k o)(b:Out ins rows p k o'):o=o':=(sZ g o.size).1 p k o o' (WX _) a b
theorem nZ{d:Nat}{head:Th}{rows:List (List Th)}(ok:BookOk ins outs S d head rows):∀(N:Nat)(n:Xk)(ks:List Th),(w! n ks).tall<=N->(∀h∈ks,h.Fit ins) ->
 ∀(M:Nat)(p:Th),p.size<=M->p.FitS outs S (ks.length:Int)->∃o,Out ins rows p (.knot n ks) o/\o.Fit outs:=by
 intro N;induction N with
 |zero=>intro n ks h;rw[q!]at h;lia
 | succ N ih =>
   intro n ks hN hk M;induction M with
   |zero=>intro p h;have:=p.size_pos;lia
   | succ M J7 =>
     intro p hM hf;cases p with
     | call s c =>
       obtain⟨p',m,hs,st,Dm,hh,hm⟩:=vR ok hf hk;have:=b8 hm;rw[q!]at hN;obtain⟨o,h1,h2⟩:=ih m hs (by lia) hh _ p' (WX _) Dm;exact⟨o,.step st h1,h2⟩
     | knot m ts =>
       rw[p!]at hf;rw[t!]at hM
       have all:∀us:List Th,ar us<=M->FitSs outs S (ks.length:Int) us->∃os,Outs ins rows us (.knot n ks) os/\Fits outs os:=by
        intro us;induction us with
        |nil=>intro _ _;exact⟨[],.nil _,by rw[Fits];trivial⟩
        | cons u us TV =>
          intro h1 h2;rw[ar]at h1;rw[FitSs]at h2;obtain⟨o,g1,g2⟩:=J7 u (by lia) h2.1;obtain⟨os,g3,g4⟩:=TV (by lia) h2.2;exact⟨o::os,.cons g1 g3,by rw[Fits];exact⟨g2,g4⟩⟩
       obtain⟨os,g1,g2⟩:=all ts (by lia) hf.2;refine⟨.knot m os,.mk (.stop m ts _) g1,?_⟩;rw[y!,g1.length];exact⟨hf.1,g2⟩
structure Job where
 p:Th
 k:Th
 r:Nat
 o:Th
def jos(js:List Job):List Th:=js.map (·.o)
theorem lH(l:List Th):ar l.reverse=ar l:=by
 induction l with
 |nil=>rfl
 |cons t l ih=>rw[XZ,aR,ih,ar,ar,ar];lia
def SzAt(H:Hp)(ins:List (Xk×Int))(rows:List (List Th))(h:Th)(a:WS):Prop:=∃es:List WS,H a=A? (.lst (es.map i!))/\es.length=rows.length/\∀(s:Int)(o:Th),Out ins rows (.call s 0) (.knot Yy [h]) o->∃e,es[s.toNat]?=A? e/\H e=A? (.tup [.int (o.size:Nat),.int (o.tall:Nat)])
theorem SzAt.same(s:j! H H'){rows:List (List Th)}{h:Th}(g:SzAt H ins rows h a):SzAt H' ins rows h a:=by
 obtain⟨es,h1,h2,h3⟩:=g;refine⟨es,s _ _ h1,h2,λst o ho=>?_⟩;obtain⟨e,g1,g2⟩:=h3 st o ho;exact⟨e,g1,s _ _ g2⟩
theorem pQ{rows:List (List Th)}{s:Int}{ks:List Th}{h:Th}(st:Step ins rows s c ks p h):Step ins rows s 0 [h] p h:=by
 obtain⟨a1,a2,a3,r⟩:=st;exact⟨a1,Int.le_refl _,D?,r⟩
theorem SzAt.keep(k:KT H H'){rows:List (List Th)}{h:Th}(ha:∀o,H a=A? o->H' a=A? o)(g:SzAt H ins rows h a):SzAt H' ins rows h a:=by
 obtain⟨es,h1,h2,h3⟩:=g;refine⟨es,ha _ h1,h2,λst o ho=>?_⟩;obtain⟨e,g1,g2⟩:=h3 st o ho;exact⟨e,g1,k _ _ g2⟩
theorem nJ{R:α->β->Prop}:∀(xs:List α),(∀x∈xs,∃y,R x y)->∃ys:List β,ys.length=xs.length/\∀(i:Nat)(x:α)(y:β),xs[i]?=A? x->ys[i]?=A? y->R x y
 | [],_=>⟨[],rfl,λi x y h=>by simp at h⟩
 | x::xs,h=>by
   obtain⟨y,hy⟩:=h x (W4 ..);obtain⟨ys,h1,h2⟩:=nJ xs λz hz=>h z (WT _ hz);refine⟨y::ys,by rw[Xf,Xf,h1],λi a b ha hb=>?_⟩;cases i with
   | zero =>
     simp at ha hb;subst ha;subst hb;exact hy
   |succ i=>exact h2 i a b (by simpa using ha) (by simpa using hb)
end BB
namespace L2
open PySem PySem.Spec PyProof.Rows
section
variable{X:Cx}{p p2 Bl:Pos}
def zp(K:WY)(a:WS)(n:Nat):It:=⟨λi H=>i<n/\∃xs,SqT K H a xs/\xs.length=n,λi H x H'=>H'=H/\∀xs,SqT K H a xs->xs[n - 1 - i]?=A? x,λi _=>i=n⟩
theorem tE(a it:WS)(n:Nat):Turn P w K tg (zp K a n) [it] it (λi h=>IsRevT h it a ((n:Int) - 1 - (i:Nat))) where
 mem:=by simp
 obj:=λi h st b hb=>by
  have e:b=it:=by simpa using hb
  subst e;obtain⟨o,e,c,d⟩:=st;exact⟨o,e,λv z=>by rw[d]at z;cases z⟩
 keep:=λi h h' st k=>st.at λo e=>k it (by simp) o e
 item:=by
  walk_at"a";obtain⟨hi,xs,hq,hx⟩:=hg;obtain⟨its,rv,p,hz⟩:=I.tuple hq;have hl:=rv.length;have hn:=eL;obtain⟨x,Bc⟩:∃x,xs[n - 1 - i]?=A? x:=⟨_,WQ (by lia)⟩;obtain⟨u,hu,ru⟩:=rv.get Bc;obtain⟨f0,f1,f2,f3,f4,f5⟩:=hf it (by simp);have e1:(n:Int) - 1 - (i:Nat)=((n - 1 - i:Nat):Int):=by lia
  rw[e1]at st;refine bb_rev_next st p (x:=u) (by simpa using hu) (by rw[W9];lia) λh' tk BH sb=>?_;have I1:Inv X Z Y H {s with heap:=h',toks:=tk}:=I.turned (t':=tk) (λb o hb e=>(sb.2 b hb).trans e) f0 f1 f3 f4 f5;have e2:((n - 1 - i:Nat):Int) - 1=(n:Int) - 1 - ((i+1:Nat):Int):=by lia
  rw[e2]at BH;obtain⟨o,e,c,d⟩:=id BH;exact⟨u,D?,kg (s:={s with heap:=h',toks:=tk}) e c d (by decide) ⟨x,H,I1,ru,⟨D?,λys hy=>by rw[I.tuple_inj hy hq];exact Bc⟩,BH,λb hb=>(hf b hb).1⟩⟩
 done:=by
  walk_at"a";have NK:i=n:=hg;subst NK;obtain⟨f0,f1,f2,f3,f4,f5⟩:=hf it (by simp);rw[show(i:Int) - 1 - (i:Nat)=-1 by lia]at st;exact bb_rev_end (I.ok.hd hc) st λh' tk eb=>⟨rfl,I.turned (t':=tk) (λb o hb e=>eb b o hb e) f0 f1 f3 f4 f5⟩
 self:=λ_ _ _ _ _ st h=>bb_rev_iter st h
def zx(K:WY)(tl:TE):TI:=λY H R=>tl Y H λx H1=>∃a xs,x=.ref a/\SqT K H1 a xs/\R (zp K a xs.length) H1
theorem vG(g2:Gl X "reversed")(m2:X.mg "reversed"=B?)(he:PE X e te)(h2:XO [e] X.env=[(CG,YS e X.env)]:=by rfl):PI X tg (.Call (.Name "reversed" p2) [e] [] Bl) (zx X.K te):=by
 intro Z s Y H R I h;refine Yq (gf I g2 m2 boot_reversed (Yu ?_ h2 rfl));rw[h2];show Xc _ _ (spliced ((CG,YS e X.env)::[])) _ _ s;refine Z1 (thn (he Z s Y H _ I h) λu s1⟨x,H1,I1,r1,a,ys,ex,hq,q⟩=>Calls.spliced_nil ?_);subst ex;cases r1;obtain⟨its,rv,p,hz⟩:=I1.tuple hq;have hl:=rv.length;have hn:=eL;refine bb_call_rev_tuple p (by rw[W9];lia) λtk=>?_
 have hit:IsRevT (s1.1.push (revTup a ((its.toArray.size:Int) - 1))) s1.1.1.size a ((ys.length:Int) - 1 - ((0:Nat):Int)):=by
  rw[hl,show(its.length:Int) - 1 - ((0:Nat):Int)=(its.toArray.size:Int) - 1 by rw[W9];lia];exact⟨_,W2 _ rfl,D?,D?⟩
 refine bb_rev_iter (s:={s1 with heap:=s1.1.push (revTup a ((its.toArray.size:Int) - 1)),toks:=tk}) hit ?_;refine⟨s1.1.1.size,[s1.1.1.size],_,_,H1,D?,I1.kept (t':=tk) λb o e=>WU _ e,tE a _ ys.length,hit,λb hb=>?_,q⟩;have e:b=s1.1.1.size:=by simpa using hb
 subst e;exact I1.fpOk (WX _) (I1.hok.fresh (WX _))
end
end L2
namespace BB
open PySem L2
theorem j3{F:Hp->α->WS->Prop}{g:TG}(zs:List α)(hF:∀H1 H2 z p,KT H1 H2->F H1 z p->F H2 z p)(hz:zs.length=xs.length)(hn:xs.length<=1000000)
 (He:∀i H2,j! H H2->i<xs.length->J.go i H2) (BS:∀H2,j! H H2->J.stop xs.length H2) (Di:∀(i:Nat)H2 x H3,j! H H2->i<xs.length->J.yld i H2 x H3->H3=H2/\xs[i]?=A? x)
 (hb:∀(i:Nat)x z H2(R:VK)(W':Hp->Prop),xs[i]?=A? x->zs[i]?=A? z->j! H H2->(∀H3 p,j! H2 H3->F H3 z p->R (.ref p) H3)->g x (cσ js Y) H2 λAq H3=>tt Aq H3 λb H4=>if b=C? then te Aq H4 R else W' H4)
 (BI:∀D H' as,H D=B?->j! H H'->H' D=A? (.lst (as.map i!))->XH (F H') zs as->fin D H') :
 ∀D,H D=B?->∃(n:Nat)(W:Nat->Hp->Prop),W 0 (upd H D (.lst []))/\fN js g tt te Y J D n W λH'=>fin D H':=by
 intro D hD;refine⟨xs.length,λi H'=>i<=xs.length/\j! H H'/\∃as:List WS,H' D=A? (.lst (as.map i!))/\XH (F H') (zs.take i) as,⟨Xr _,aj hD _,[],by rw[ad];rfl,.nil⟩,?_⟩;rintro i H' ⟨hi,s1,as,e1,hp⟩;by_cases Al:i<xs.length
 .refine .inr ⟨Al,He i H' s1 Al,λv H1 hy=>?_⟩;obtain⟨e,hx⟩:=Di i H' v H1 s1 Al hy;subst e;obtain⟨z,CO⟩:∃z,zs[i]?=A? z:=⟨_,WQ (by lia)⟩;have hl:(zs.take i).length=as.length:=Xa hp;rw[XB]at hl;refine hb i v z _ _ _ hx CO s1 λH3 p s3 NX=>⟨_,s3 _ _ e1,?_,Al,aE (s1.trans s3) hD,as++[p],?_,?_⟩
  .rw[WO];have:Xj=16777216:=ZA;lia
  .rw[ad,W8];rfl
  .have kt:KT H3 (upd H3 D (.lst (as.map i!++[.ref p]))):=aU (s3 _ _ e1);rw[take_snoc CO];exact r! (v! (λx y e=>hF _ _ _ _ ((k! s3).trans kt) e) hp) (.cons (hF _ _ _ _ kt NX) .nil)
 .have B0:i=xs.length:=by lia
  subst B0;refine .inl ⟨BS _ s1,BI D H' as hD s1 e1 ?_⟩;rw[X1 (by lia)]at hp;exact hp
end BB
namespace L2
open PySem PySem.Spec PyProof.Rows
theorem us1:∀{us:List α},us.length=1->∃a,us=[a]
 | [a],_=>⟨a,rfl⟩
theorem us2:∀{us:List α},us.length=2->∃a b,us=[a,b]
 | [a,b],_=>⟨a,b,rfl⟩
theorem us3:∀{us:List α},us.length=3->∃a b c,us=[a,b,c]
 | [a,b,c],_=>⟨a,b,c,rfl⟩
theorem us4:∀{us:List α},us.length=4->∃a b c d,us=[a,b,c,d]
 | [a,b,c,d],_=>⟨a,b,c,d,rfl⟩
theorem us5:∀{us:List α},us.length=5->∃a b c d e,us=[a,b,c,d,e]
 | [a,b,c,d,e],_=>⟨a,b,c,d,e,rfl⟩
end L2
namespace PySem
open Sem (wp)
section
variable{K:Type}[DecidableEq K]{knd:HeapKind prog w K}
end
end PySem
namespace L2
open PySem PySem.Spec PyProof.Rows BB
end L2
namespace BB
open PySem L2
end BB
namespace PySem
open Sem (wp)
section
variable{I:WS}{wr:List WS}{G:Array GenState->Array GenState->Prop}{P:Nat->WV->Prop}{St:Nat->WZ->Prop}
end
end PySem
namespace L2
open PySem PySem.Spec PyProof.Rows
section
variable{X:Cx}{o:X3}{to:TE}{p2 Bl apos Az:Pos}
end
end L2
namespace PySem
open Sem (wp)
namespace F
theorem bb_list_nokeys:typeLookup (.type "list") "keys"=pure none:=by rw[typeLookup_type,Z7];kernel_rfl
end F
section
variable{xs:Array WV}{k:Nat}
theorem bb_nokeysL{Q:Option WV->WZ->Prop}(hA:A.handled=B?)(hx:s.1.get? a=A? {cls:=.type "list",data:=.seq xs k})
 (q:∀h' tk,(∀b o,s.1.get? b=A? o->h'.get? b=A? o)->Q B? {s with heap:=h',toks:=tk}):Xc (Xy prog w) A (getAttr? (.ref a) "keys") Q E s:=by
 obtain⟨hp,g,d,tk,os⟩:=s;have gT:∀z,(⟨hp,g,d,z,os⟩:WZ).TypeIs (.ref a) "list":=λ_=>⟨_,hx,rfl⟩;have g1:=sub_AttributeError;have g3:=F.slot_list_getattribute.lookup;have g4:=F.slot_list_getattribute.bind (.ref a);have g5:=am_list_getattr_none;unfold getAttr? getAttrBy? getAttrBy
 repeat (any_goals (first|assumption|exact gT _|((with_reducible show Xc _ _ (call (Value.builtin "list.__getattribute__") _ _) _ _ _);refine call_meets F.slot_list_getattribute (gT _) am_entry_list_getattribute (F.args_list_getattribute_2 _ _) (meets_getattribute_miss_list a xs k #[] "keys" _ F.bb_list_nokeys (by decide +kernel) (by decide)) ⟨hx,hA,λh' TY e Bc=>?_⟩)|wp_step))
 obtain⟨t',u',he⟩:=Bc.there;show Xc _ _ (getattributeRaised _ _ _ _ _ _ _) _ _ _;unfold getattributeRaised
 repeat (any_goals (first|assumption|wp_step))
 exact q h' TY Bc.keeps
end
end PySem
namespace L2
open PySem PySem.Spec PyProof.Rows
section
variable{X:Cx}
end
end L2
namespace BB
open PySem L2
theorem wn{k:Nat}(hr:L2.Room k A):A.units+12<YJ:=by
 have:=hr.units;lia
end BB
namespace PySem
theorem bb_zip_next0{TI TO:WS}{k:Nat}{xs:Array WV}{x y a b:WV}{Q:Option WV->WZ->Prop}(D:ZipApart z TI TO i1 i2 l1 l2)
 (hz:IsZip s.1 z TI TO .none) (hTI:Zv s.1 TI (.ref i1) (.ref i2)) (hTO:Zv s.1 TO a b)
 (h1:s.1.IsTupleIter i1 l1 k) (h2:s.1.IsTupleIter i2 l2 k) (Ck:s.1.IsTuple l1 xs) (Bb:s.1.IsTuple l2 ys) (hx:xs[k]?=A? x) (hy:ys[k]?=A? y)
 (hQ:∀h',IsZip h' z TI TO (YH s.1.1.size)->Zv h' TO x y->h'.IsTupleIter i1 l1 (k+1)->h'.IsTupleIter i2 l2 (k+1)->Zv h' s.1.1.size x y->h'.objs.size=s.1.1.size+1 ->
  (∀c o,c≠z->c≠TO->c≠i1->c≠i2->s.1.get? c=A? o->h'.get? c=A? o)->Q (A? (.ref s.1.1.size)) {s with heap:=h'}) :
 Xc (Xy prog w) A (ZJ (.ref z)) Q E s:=by
 have hT:s.TypeIs (.ref z) "zip":=⟨_,hz,rfl⟩;unfold ZJ;refine WN (ZI (XR (name:=W5 "__next__") hT F.slot_zip_next (XT F.slot_zip_next hT F.entry_zip_next ?_ (F.args_zip_next_1 _))));exact bb_zip_itemA D hz hTI hTO h1 h2 Ck Bb hx hy λh' a1 a2 a3 a4 a5 a6 a7=>WW (hQ h' a1 a2 a3 a4 a5 a6 a7)
end PySem
namespace L2
open PySem PySem.Spec PyProof.Rows
def Itz(K:WY)(a b:WS):It:=⟨λi H=>∃xs ys x y,SqT K H a xs/\SqT K H b ys/\xs[i]?=A? x/\ys[i]?=A? y,λi H v H'=>∃p x y,H p=B?/\v=.ref p/\H'=upd H p (.tup [x,y])/\(∀xs,SqT K H a xs->xs[i]?=A? x)/\(∀ys,SqT K H b ys->ys[i]?=A? y),λi H=>∃xs ys,SqT K H a xs/\SqT K H b ys/\(xs.length<=i\/ys.length<=i)⟩
structure ZTn(z TI TO i1 i2 a b:WS)(i:Nat)(h:X5):Prop where
 ap:ZipApart z TI TO i1 i2 a b
 zip:IsZip h z TI TO .none
 hTI:Zv h TI (.ref i1) (.ref i2)
 hTO:∃u v,Zv h TO u v
 h1:h.IsTupleIter i1 a i
 h2:h.IsTupleIter i2 b i
theorem uK{k1}(a b z TI TO i1 i2:WS):Turn P w K (.Tuple elts k1 pos) (Itz K a b) [z,TI,TO,i1,i2] z (ZTn z TI TO i1 i2 a b) where
 mem:=by simp
 obj:=λi h st c hc=>by
  obtain⟨D,hz,hTI,⟨u,v,hTO⟩,⟨o1,a1,a2,a3⟩,⟨o2,b1,b2,b3⟩⟩:=st;simp only[W6,ZG,or_false]at hc;rcases hc with rfl|rfl|rfl|rfl|rfl
  .exact⟨_,hz,λv z=>by cases z⟩
  .exact⟨_,hTI,λv z=>by cases z⟩
  .exact⟨_,hTO,λv z=>by cases z⟩
  .exact⟨o1,a1,λv z=>by rw[a3]at z;cases z⟩
  .exact⟨o2,b1,λv z=>by rw[b3]at z;cases z⟩
 keep:=λi h h' st k=>by
  obtain⟨D,hz,hTI,⟨u,v,hTO⟩,⟨o1,a1,a2⟩,⟨o2,b1,b2⟩⟩:=st;exact⟨D,k _ (by simp) _ hz,k _ (by simp) _ hTI,⟨u,v,k _ (by simp) _ hTO⟩,⟨o1,k _ (by simp) _ a1,a2⟩,⟨o2,k _ (by simp) _ b1,b2⟩⟩
 item:=by
  walk_at"a";obtain⟨xs,ys,x,y,DT,DU,hx,hy⟩:=hg;obtain⟨ia,FF,pa,EI⟩:=I.tuple DT;obtain⟨ib,FG,pb,J8⟩:=I.tuple DU;obtain⟨u,hu,ru⟩:=FF.get hx;obtain⟨v,hv,rv⟩:=FG.get hy;obtain⟨D,hz,hTI,⟨ta,tb,hTO⟩,h1,h2⟩:=st
  have lt:∀c∈[z,TI,TO,i1,i2],c<s.1.1.size:=λc hc=>by
   simp only[W6,ZG,or_false]at hc;rcases hc with rfl|rfl|rfl|rfl|rfl
   .exact Xi hz
   .exact Xi hTI
   .exact Xi hTO
   .obtain⟨o,e,_⟩:=h1;exact Xi e
   .obtain⟨o,e,_⟩:=h2;exact Xi e
  refine bb_zip_next0 D hz hTI hTO h1 h2 (show s.1.IsTuple a ia.toArray from pa) (show s.1.IsTuple b ib.toArray from pb) (by simpa using hu) (by simpa using hv) λC4 a1 a2 a3 a4 a5 a6 a7=>?_;refine⟨_,D?,wpAny_letOwnedTupleGo_zip a1 λDj g1 sb=>?_⟩;replace sb:XW z C4 Dj:=sb;have FE:H s.1.1.size=none:=I.hok.fresh (WX _)
  have IA:Inv X Z Y (upd H s.1.1.size (.tup [x,y])) {s with heap:=s.1.push {cls:=.type "tuple",data:=.seq #[u,v]},toks:=s.toks} :=
   I.laid (o:=.tup [x,y]) (λb ob q=>WU _ q) (WX _) ⟨by show 2<=Xj;decide,[u,v],0,.cons ru (.cons rv .nil),W2 _ rfl⟩
  have TZ:s.1.1.size≠z:=ZK (lt z (by simp));refine⟨.ref s.1.1.size,upd H s.1.1.size (.tup [x,y]),?_,D?,⟨_,x,y,FE,D?,D?,λzs Hk=>by rw[I.tuple_inj Hk DT];exact hx,λzs Hk=>by rw[I.tuple_inj Hk DU];exact hy⟩,?_,λc hc=>?_⟩
  .have IB:Inv X Z Y (upd H s.1.1.size (.tup [x,y])) {s with heap:=Dj,toks:=s.toks}:=by
    refine Inv.turnedL (s:={s with heap:=s.1.push {cls:=.type "tuple",data:=.seq #[u,v]},toks:=s.toks}) (h':=Dj) (fp:=[z,TI,TO,i1,i2]) (t':=s.toks) IA (λc o hc q=>?_) λc hc=>?_
    .have n1:c≠z:=λe=>hc (by simp[e]);have n2:c≠TO:=λe=>hc (by simp[e]);have n3:c≠i1:=λe=>hc (by simp[e]);have n4:c≠i2:=λe=>hc (by simp[e]);rw[sb.2 c n1];by_cases hb2:c=s.1.1.size
     .subst hb2;have q':(s.1.push {cls:=.type "tuple",data:=.seq #[u,v]}).get? s.1.1.size=A? o:=q;rw[W2 _ rfl]at q';rw[<-q'];exact a5
     .have q':(s.1.push {cls:=.type "tuple",data:=.seq #[u,v]}).get? c=A? o:=q;rw[Heap.get?_push_ne _ _ _ hb2]at q';exact a7 c o n1 n2 n3 n4 q'
    .obtain⟨f0,f1⟩:=hf c hc;exact⟨by rw[af (XD (lt c hc))];exact f0,f1⟩
   exact IB
  .have sT:∀c o,c≠z->C4.get? c=A? o->Dj.get? c=A? o:=λc o hc e=>(sb.2 c hc).trans e;refine⟨D,g1,sT _ _ D.TIz (a7 _ _ D.TIz D.TITO D.TIi1 D.TIi2 hTI),⟨_,_,sT _ _ D.TOz a2⟩,?_,?_⟩
   .obtain⟨o,e,r⟩:=a3;exact⟨o,sT _ _ D.i1z e,r⟩
   .obtain⟨o,e,r⟩:=a4;exact⟨o,sT _ _ D.i2z e,r⟩
  .rw[af (XD (lt c hc))];exact(hf c hc).1
 done:=by
  walk_at"a";obtain⟨xs,ys,DT,DU,CM⟩:=hg;obtain⟨ia,FF,pa,EI⟩:=I.tuple DT;obtain⟨ib,FG,pb,J8⟩:=I.tuple DU;have NY:=FF.length;have T1:=FG.length;obtain⟨D,hz,hTI,hTO,h1,h2⟩:=st;refine bb_zip_done (show X.A.handled=B? from I.ok.hd hc) ⟨D,.inl hz,hTI,hTO,h1,h2,pa,pb⟩ ?_ λh' kp=>⟨rfl,?_⟩
  .rcases CM with h|h
   .exact .inl (by simp;lia)
   .exact .inr (by simp;lia)
  exact I.turnedL (fp:=[z,TI,TO,i1,i2]) (t':=s.toks) (λc o hc q=>kp c o (λhm=>hc (by simp only[W6,ZG,or_false]at hm |-;rcases hm with h|h|h|h <;> simp[h])) q) hf
 self:=λ_ _ _ _ _ st h=>wpAny_pyIter_zip st.zip h
section
variable{X:Cx}{e1 e2:X3}{t:TA}{p2 Bl:Pos}
def zW(K:WY)(t:TA):TI:=λY H R=>t Y H λvs H1=>∃a b,vs=[.ref a,.ref b]/\(∃xs,SqT K H1 a xs)/\(∃ys,SqT K H1 b ys)/\R (Itz K a b) H1
theorem yf{k1}(g2:Gl X "zip")(m2:X.mg "zip"=B?)(ha:PA X [e1,e2] t)
 (h2:XO [e1,e2] X.env=(CG,YS e1 X.env)::XO [e2] X.env:=by rfl) (h3:(Z0 Bl (XO [e2] X.env)).any (·.1)=false:=by rfl):PI X (.Tuple elts k1 pos) (.Call (.Name "zip" p2) [e1,e2] [] Bl) (zW X.K t):=by
 intro Z s Y H R I h;refine Yq (gf I g2 m2 boot_zip ?_);refine Yu (thn (ha Bl Z s Y H _ I h) λus s2⟨vs,H2,I2,r,a,b,ev,⟨xs,DT⟩,⟨ys,DU⟩,q⟩=>?_) h2 h3;subst ev;obtain⟨u1,u2,rfl,r1,r2⟩:=vals2 r;cases r1;cases r2;obtain⟨ia,FF,pa,EI⟩:=I2.tuple DT;obtain⟨ib,FG,pb,J8⟩:=I2.tuple DU;have AO:a<s2.1.1.size:=by obtain⟨o,e,_⟩:=pa;exact Xi e
 have BL:b<s2.1.1.size:=by obtain⟨o,e,_⟩:=pb;exact Xi e
 refine bb_call_zip (show s2.1.IsTuple a ia.toArray from pa) (show s2.1.IsTuple b ib.toArray from pb) λh' z1 z2 z3 z4 z5 z6 z7=>?_;have D:ZipApart (s2.1.1.size+4) (s2.1.1.size+2) (s2.1.1.size+3) s2.1.1.size (s2.1.1.size+1) a b:=zipApart_new AO BL;refine wpAny_pyIter_zip (s:={s2 with heap:=h'}) z1 ?_;refine⟨s2.1.1.size+4,[s2.1.1.size+4,s2.1.1.size+2,s2.1.1.size+3,s2.1.1.size,s2.1.1.size+1],_,_,H2,D?,I2.kept (t':=s2.toks) z7,uK a b _ _ _ _ _,⟨D,z1,z2,⟨_,_,z3⟩,z4,z5⟩,λc hc=>?_,q⟩
 have Bd:s2.1.1.size<=c:=by
  simp only[W6,ZG,or_false]at hc;rcases hc with h|h|h|h|h <;> rw[h]
  .exact Yz _ _
  .exact Yz _ _
  .exact Yz _ _
  .exact WX _
  .exact Yz _ _
 exact I2.fpOk Bd (I2.hok.fresh Bd)
end
end L2
namespace BB
open PySem L2
noncomputable section
local instance:DecidableEq Th:=λ_ _=>Classical.propDecidable _
end
end BB
namespace PySem
open Sem (wp)
section
variable{K:Type}[DecidableEq K]{knd:HeapKind prog w K}
theorem bb_setDefault_heap{xs:List (K×WS×WV)}{k:K}{v:WV}(hu:knd.room A)(Cq:knd.is s.1 k a)(hm:s.1.DictOfH knd d xs)
 (Hm:∀p,atKey xs k=A? p->Q p.2 {s with toks:=s.toks+knd.draws k})
 (Hb:atKey xs k=B?->∀h',h'.DictOfH knd d (storedH xs k a v)->XW d s.1 h'->Q v {s with heap:=h',toks:=s.toks+knd.draws k})
 (hsz:xs.length<=Xj):Xc (Xy prog w) A (dictSetDefault d (.ref a) v) Q E s:=by
 obtain⟨o,es,ep,ho,hc,hd,he,Mp,hn⟩:=hm;unfold dictSetDefault
 try with_reducible refine Yv ?_
 refine WN (knd.pyHash hu Cq ?_);refine WN (wpAny_dictFind_heap (s:={s with toks:=s.toks+knd.draws k}) hu Cq ho hd he Mp hn ?_ ?_)
 .intro Cs;have NZ:k∉xs.map (·.1):=not_mem_keys_of_get Cs
  refine WN (wpAny_rule (WN (wpAny_updateDictKeys (hz:=by have e:=size_of_entries he;lia) (s:={s with toks:=s.toks+knd.draws k}) ho hd (WW (Hb (atKey_none_of_get Cs) _ ⟨_,_,ep+1,Ym _ ho (Obj.isFreed_of_dict (Obj.data_mapDictKeys hd _)),
   hc.mapDictKeys _,Obj.data_mapDictKeys hd _,?_,?_,?_⟩ (YG ..))))))
  .rw[storedH_new (atKey_none_of_get Cs)];simp[he,entryOfKey]
  .rw[storedH_new (atKey_none_of_get Cs)];intro x hx;rcases Xd.mp hx with hx|hx
   .exact knd.keeps (Mp x hx) ho hd (YG ..)
   .simp only[W0]at hx;subst hx;exact knd.keeps Cq ho hd (YG ..)
  .rw[storedH_new (atKey_none_of_get Cs)];rw[W8,Y5];refine⟨hn,by simp,?_⟩;intro x hx y hy;simp only[XC,YM,W0]at hy;subst hy;exactλe=>NZ (e ▸ hx)
 .intro j p hj;have h1:=Hm _ (atKey_of_get hn hj);refine WN (Zd (s:={s with toks:=s.toks+knd.draws k}) ho hd ?_);rw[entry_at he j,hj];exact WN (wpAny_rule (WW h1))
theorem bb_meets_setdefault(knd:HeapKind prog w K)(d a:WS)(dflt:WV)(hd:(d == Yr)=CG) :
 MeetsIn prog w (Y7.«dict.setdefault» ⟨[.ref d,.ref a,dflt],[]⟩) (λA R s=>knd.room A.in1/\∃k xs,knd.is s.1 k a/\s.1.DictOfH knd d xs/\xs.length<=Xj /\
  (∀p,atKey xs k=A? p->R (.ok (.ret p.2)) {s with toks:=s.toks+knd.draws k}) /\
  (atKey xs k=B?->∀h',h'.DictOfH knd d (storedH xs k a dflt)->XW d s.1 h'->R (.ok (.ret dflt)) {s with heap:=h',toks:=s.toks+knd.draws k})) :=
 .of_wp λA R s⟨hu,k,xs,Cq,hm,hz,h1,h2⟩=>by
  unfold Y7.«dict.setdefault»;refine WN ?_;unfold Builtin.Dict.keyAndDefault;have hT:s.TypeIs (.ref d) "dict":=hm.typeIs;refine WN (wpAny_notOrdered_dict hT ?_);show Xc _ _ (pure (d,XG a,A? dflt)) _ _ s;refine WW ?_;show Xc _ _ (if(d == Yr)=C? then _ else(dictSetDefault d (.ref a) dflt >>= _)) _ _ s;rw[a! (by rw[hd];exact Xm)];exact WN (bb_setDefault_heap hu Cq hm (λp hp=>WW ⟨_,rfl,h1 p hp⟩) (λhn h' Cz Fn=>WW ⟨_,rfl,h2 hn h' Cz Fn⟩) hz)
end
end PySem
namespace L2
open PySem PySem.Spec PyProof.Rows
def v6:V->List V->Hp->VK->Prop:=λx vs H Q=>∃(a b:WS)(v:V)(k:List Key)(kvs:List (List Key×V)),x=.ref a/\vs=[.ref b,v]/\H a=A? (.dT kvs)/\H b=A? (.tup (k.map kV))/\kvs.length<Xj /\
 (∀u,aM kvs k=A? u->Q u H)/\(aM kvs k=B?->Q v (upd H a (.dT (putK kvs k v))))
theorem l5{X:Cx}(hu:X.A.units+1<YJ):MtM X "dict.setdefault" v6:=by
 intro Z s Y H x vs v us Q I rx rv h;obtain⟨a,b,y,k,kvs,rfl,rfl,e,eb,l,q1,q2⟩:=h;cases rx;cases rv with
 |cons r1 rv =>
 cases rv with
 |cons r2 rv =>
 cases rv;cases r1;obtain⟨z,hd,xs,rel,dd⟩:=rV I.hok e;have hz:xs.length<=Xj:=by rw[<-Xa rel];exact z
 have hl:(putK kvs k y).length<=Xj:=by have:=bG kvs k y;lia
 have hT:s.TypeIs (.ref a) "dict":=dd.typeIs;refine call_meetsIn PySem.F.slot_dict_setdefault hT PySem.F.entry_dict_setdefault (PySem.F.args_dict_setdefault_3 _ _ _) (bb_meets_setdefault (tupleKind (aC X.prog X.w)) a b _ hd) ⟨tupleKind_room_in1 hu,k,xs,ig I.hok eb,dd,hz,λp hp=>?_,λhn h' EE hs=>?_⟩
 .have hr:=rel.val k;rw[hp]at hr;cases hv:aM kvs k with
  |none=>rw[hv]at hr;exact hr.elim
  | some u =>
    rw[hv]at hr;exact⟨u,H,I.tok _,hr,q1 u hv⟩
 .have hr:=rel.val k;rw[hn]at hr;cases hv:aM kvs k with
  |some u=>rw[hv]at hr;exact hr.elim
  | none =>
    refine⟨y,_,?_,r2,q2 hv⟩;obtain⟨q,es,ep,hq,h2,h3,h4,_,h5⟩:=EE;refine iE I (by rw[e];exact Z3) hs ⟨q,hq⟩ ⟨hl,hd,_,(rel.put k eb r2).keeps λc ys ec=>?_,q,es,ep,hq,h2,h3,h4,h5⟩;rw[af (aF ec e (λz=>nomatch z))];exact ec
end L2
namespace PySem
open Sem (wp)
section
variable{R:Result->WZ->Prop}
theorem bb_key_loop{S:WS}{es:Array DictEntry}{od:YF}(hh:A.in1.handled=B?)(hz:es.size<=Xj)(Hn:S≠it)(J9:S≠d)(Mq:d≠it)(g2:od.data=.dict es ep)(res:WV) :
 ∀(k i:Nat)(s:WZ)(acc:Array WV)(c:Nat),es.size - i=k->i<=es.size->s.1.IsKeyIter it d i es.size ep->s.1.get? d=A? od->s.1.get? S=A? {cls:=.type "list",dict:=B?,data:=.seq acc c,slots:=#[]}->acc.toList=(es.toList.take i).map (·.key) ->
 (∀h' DV c',(∀b o,b≠S->b≠it->s.1.get? b=A? o->h'.get? b=A? o)->h'.get? S=A? {cls:=.type "list",dict:=B?,data:=.seq DV c',slots:=#[]}->DV.toList=es.toList.map (·.key)->R (.ok (.ret res)) {s with heap:=h'}) ->
 codeAny (Xy prog w) A (.builtin "list.extend.loop" ⟨[.ref S,.ref it,res],[]⟩) R s:=by
 intro k;induction k with
 | zero =>
   intro i s acc c hk hi hit hd hS Cv hR;have CL:i=es.size:=by lia
   subst CL;refine codeAny_builtin F.entry_extend_loop ?_;rw[Around.under_plainId F.plain_extend_loop _];show Xc _ A.in1 (ZJ (.ref it) >>= _) _ _ s;refine WN (bb_keyEnd hh hit hd g2 (WX _) λh' AG=>WW ?_);refine hR h' acc c (λb o _ hb e=>AG b o hb e) (AG _ _ Hn hS) ?_;rw[Cv,X1 (by rw[Xo];lia)]
 | succ k ih =>
   intro i s acc c hk hi hit hd hS Cv hR;have Al:i<es.size:=by lia
   refine codeAny_builtin F.entry_extend_loop ?_;rw[Around.under_plainId F.plain_extend_loop _];show Xc _ A.in1 (ZJ (.ref it) >>= _) _ _ s;have hx:es[i]?=A? es[i]:=Array.getElem?_eq_getElem Al
   have AO:acc.size=i:=by
    have:=h! Ze Cv;rw[Xo,WO,XB,Xo]at this;lia
   refine WN (bb_keyNext hit hd g2 hx λh' N0 AG=>?_);have Mr:=(AG.2 S Hn).trans hS;have Cy:=(AG.2 d Mq).trans hd;show Xc _ A.in1 (updateSeq S (·.push es[i].key) >>= _) _ _ _;refine WN ?_;have Je:∀b o,b≠S->h'.get? b=A? o->(h'.update S (Zf (·.push es[i].key))).get? b=A? o:=λb o hb e=>(YD _ _ (Zb hb)).trans e
   refine wpAny_updateSeq Mr rfl (WW ⟨plainId_quiet F.plain_extend_loop _,ih (i+1) _ (acc.push es[i].key) _ (by lia) Al (N0.at λo e=>Je _ _ (Zb Hn) e) (Je _ _ (Zb J9) Cy) (Ym _ Mr rfl) ?_ λN1 DV c' N2 N3 J'=>?_⟩)
    (by rw[AO];lia) (by show(acc.push _).size<=Xj+1;rw[Array.size_push,AO];lia)
   .rw[Array.toList_push,Cv,Yc,WQ (by rw[Xo];exact Al),W8];simp
   .exact hR N1 DV c' (λb o hb hb2 e=>N2 b o hb hb2 (Je b o hb ((AG.2 b hb2).trans e))) N3 J'
end
theorem bb_list_keys{es:Array DictEntry}{od:YF}(hh:A.in1.in1.handled=B?)(ns:(d == Yr)=CG)(hd:s.1.get? d=A? od)(gc:od.cls=.type "dict")(g2:od.data=.dict es ep)(hz:es.size<=Xj)
 (hQ:∀h' acc c,(∀b o,s.1.get? b=A? o->h'.get? b=A? o)->h'.get? s.1.1.size=A? {cls:=.type "list",dict:=B?,data:=.seq acc c,slots:=#[]}->acc.toList=es.toList.map (·.key)->Q (.ref s.1.1.size) {s with heap:=h'}) :
 Xc (Xy prog w) A (call (.type "list") [.ref d]) Q E s:=by
 have hdl:=Xi hd;have J9:s.1.1.size≠d:=ZK hdl
 refine callType_codes (Q₁:=λobj Af=>obj=.ref s.1.1.size/\Af={s with heap:=s.1.push {cls:=.type "list",data:=.seq #[]}}) F.called_list (F.typeCall_list_1 _) F.entry_list_init
  (code_list_new _ ⟨rfl,rfl⟩) λobj Af Au=>?_
 obtain⟨rfl,rfl⟩:=Au;have hS:(s.1.push {cls:=.type "list",data:=.seq #[]}).get? s.1.1.size=A? {cls:=.type "list",data:=.seq #[]}:=W2 _ rfl;refine⟨⟨_,hS,D?⟩,F.args_list_init_2 _ _,?_⟩;show Xc _ A.in1.in1 (do let old <-Builtin.List.listItems (.ref s.1.1.size);Builtin.List.listUpdate (.ref s.1.1.size) (λ_=>#[]);letGo old.toList.reverse;Builtin.List.listExtendWith (.ref s.1.1.size) (.ref d) .none) _ _ _;refine WN ?_;unfold Builtin.List.listItems;refine WN (YB hS rfl (WW ?_));refine WN (wpAny_updateSeq hS rfl ?_);have GB:=Ym (Zf (λ_=>(#[]:Array WV))) hS rfl;refine WN (wpAny_letGo ?_);have CQ:((s.1.push {cls:=.type "list",data:=.seq #[]}).update s.1.1.size (Zf (λ_=>(#[]:Array WV)))).objs.size=s.1.1.size+1:=by rw[Heap.size_update,Yb]
 generalize hH:(s.1.push {cls:=.type "list",data:=.seq #[]}).update s.1.1.size (Zf (λ_=>(#[]:Array WV)))=H2 at GB CQ |-
 have old:∀b o,s.1.get? b=A? o->H2.get? b=A? o:=λb o e=>by
  rw[<-hH,YD _ _ (Zb (XD (Xi e)))];exact WU _ e
 obtain⟨c2,T2⟩:∃c,H2.get? s.1.1.size=A? {cls:=.type "list",data:=.seq #[] c}:=⟨_,GB⟩;have hd2:=old _ _ hd;have T3:({s with heap:=H2}:WZ).TypeIs (.ref d) "dict":=⟨_,hd2,gc⟩;unfold Builtin.List.listExtendWith;refine WN (ZY T3 ?_);have h1:Builtin.List.listSameRef (.ref s.1.1.size) (.ref d)=false:=by simp[Builtin.List.listSameRef,J9]
 have h2:(Value.type "dict" == Value.type "list")=false:=by decide
 have h3:(Value.type "dict" == Value.type "tuple")=false:=by decide
 simp only[h1,h2,h3,Bool.or_false,X6,if_false];refine WN (bb_keyIter (s:={s with heap:=H2}) ns hd2 gc g2 ?_);refine WN (Yv ?_);have Ho:(H2.push {cls:=.type "dict_keyiterator",data:=.fields #[.ref d,.int 0 0,.int es.size 0,.int ep 0]}).IsKeyIter H2.objs.size d 0 es.size ep:=⟨_,W2 _ rfl,rfl,rfl⟩;have EJ:∀b o,H2.get? b=A? o->(H2.push {cls:=.type "dict_keyiterator",data:=.fields #[.ref d,.int 0 0,.int es.size 0,.int ep 0]}).get? b=A? o:=λb o e=>WU _ e;have FH:s.1.1.size≠H2.objs.size:=by rw[CQ];lia
 have N4:d≠H2.objs.size:=by rw[CQ];exact XD (Nat.lt_succ_of_lt hdl)
 show Xc _ _ _ _ _ ({s with heap:=H2.push {cls:=.type "dict_keyiterator",data:=.fields #[.ref d,.int 0 0,.int es.size 0,.int ep 0]}}:WZ);generalize H2.push {cls:=.type "dict_keyiterator",data:=.fields #[.ref d,.int 0 0,.int es.size 0,.int ep 0]}=H3 at Ho EJ |-;have Rn:=EJ _ _ hd2;have N5:=EJ _ _ T2;have N6:({s with heap:=H3}:WZ).TypeIs (.ref d) "dict":=⟨_,Rn,gc⟩
 have key:∀(h:X5)(c₁:Nat),h.IsKeyIter H2.objs.size d 0 es.size ep->(∀b o,b≠s.1.1.size->H3.get? b=A? o->h.get? b=A? o)->h.get? s.1.1.size=A? {cls:=.type "list",data:=.seq #[] c₁} ->
  codeAny (Xy prog w) A.in1 (.builtin "list.extend.loop" ⟨[.ref s.1.1.size,.ref H2.objs.size,.none],[]⟩) (wants (λr Bj=>r=.none/\Q (.ref s.1.1.size) Bj) E) {s with heap:=h}:=by
  intro h c₁ hit hk Ka;refine bb_key_loop hh hz FH J9 N4 g2 .none es.size 0 _ #[] c₁ rfl (Xr _) hit (hk _ _ (Zb J9) Rn) Ka rfl λh' DV c' hm Mr Cv=>?_;refine⟨D?,hQ h' DV c' (λb o e=>?_) Mr Cv⟩;have hb:=XD (Xi e);exact hm b o hb (by rw[CQ];exact XD (Nat.lt_succ_of_lt (Xi e))) (hk b o hb (EJ b o (old b o e)))
 unfold Builtin.List.listLengthHint;refine WN (Zx N6 F.slot_dict_len.lookup ?_);generalize hid:("dict.__len__":String)=T4
 wp_delta
 rw[show splitId T4=A? ("dict","__len__")from by subst hid;decide +kernel];subst hid;refine WN (ZN (T:="dict") (b:=C?) N6 (by rw[isSubtype_type];kernel_rfl) ?_);refine wpAny_ite_split (λDl=>g! Dl (by decide)) (λ_=>?_);refine wpAny_ite_split (λ_=>?_) (λDl=>g! (by decide +kernel) Dl);refine WN (ZY N6 ?_);refine WW ?_;refine wpAny_ite_split (λ_=>?_) (λ_=>WW ⟨plainId_quiet F.plain_extend_loop _,key _ c2 Ho (λb o _ e=>e) N5⟩);refine WN (wpAny_rule ?_);refine WN ?_;show Xc _ _ (updateSeq s.1.1.size (·.push .none) >>= λ_=>updateSeq s.1.1.size (·.pop)) _ _ _;refine WN (wpAny_updateSeq N5 rfl ?_);have GC:=Ym (Zf (·.push Yj)) N5 rfl;refine wpAny_updateSeq (hz:=by seq_fits) GC rfl ?_;have Kb:=Ym (Zf (·.pop)) GC rfl
 have Je:∀b o,b≠s.1.1.size->H3.get? b=A? o->((H3.update s.1.1.size (Zf (·.push Yj))).update s.1.1.size (Zf (·.pop))).get? b=A? o :=
  λb o hb e=>(YD _ _ (Zb hb)).trans ((YD _ _ (Zb hb)).trans e)
 exact WW ⟨plainId_quiet F.plain_extend_loop _,key _ _ (Ho.at λo e=>Je _ _ (Zb FH) e) Je Kb⟩
end PySem
namespace L2
open PySem PySem.Spec PyProof.Rows
def xE:List V->Hp->VK->Prop:=λxs H Q=>∃(a:WS)(kvs:List (List Key×V)),xs=[.ref a]/\H a=A? (.dT kvs)/\∀(l:WS)(bs:List WS),H l=B?->XH (λkv b=>H b=A? (.tup (kv.1.map kV))) kvs bs->Q (.ref l) (upd H l (.lst (bs.map i!)))
theorem vB{ys:List (List Key×WS×WV)}(rel:KTd H kvs ys):XH (λkv b=>H b=A? (.tup (kv.1.map kV))) kvs (ys.map λy=>y.2.1):=by
 induction rel with
 |nil=>exact .nil
 |cons h t ih=>exact .cons h.2.1 ih
theorem lP{X:Cx}(hc:X.calm=C?):fQ X (.type "list") xE:=by
 intro Z s Y H xs us Q I r h;obtain⟨a,kvs,rfl,e,q⟩:=h;obtain⟨u,rfl,rx⟩:=vals1 r;cases rx;obtain⟨z,hd,ys,rel,dd⟩:=rV I.hok e;have hT:=dd.typeIs;obtain⟨o,es,ep,ho,hcx,hdt,he,Mp,hn⟩:=dd;obtain⟨o',BG,AF⟩:=hT;have eo:o'=o:=Xl (BG.symm.trans ho);subst eo;have hl:kvs.length=ys.length:=Xa rel
 have AS:es.toList.map (·.key)=ys.map λy=>XG y.2.1:=by
  rw[he,Zc];rfl
 have hsz:es.size<=Xj:=by
  have:=h! Ze AS;rw[WO,WO,Xo]at this;lia
 have hh:X.A.in1.in1.handled=none:=I.ok.hd hc;refine bb_list_keys hh hd BG AF hdt hsz λh' acc c hk hS Cv=>?_;have hp:XH (λkv b=>H b=A? (.tup (kv.1.map kV))) kvs (ys.map λy=>y.2.1):=vB rel;refine⟨.ref s.1.1.size,upd H s.1.1.size (.lst ((ys.map λy=>y.2.1).map i!)),?_,D?,q _ _ I.fresh hp⟩;refine I.laid (t':=s.toks) hk (WX _) ⟨by rw[WO,WO];lia,acc.toList,c,?_,hS⟩;rw[Cv,AS];clear hn Mp he AS Cv hS hl z rel hp q;induction ys with
 |nil=>exact .nil
 |cons y ys ih=>exact .cons rfl ih
open BB
theorem yu{es:List Dv}{ws:List V}(r1:Vals ws its)(AR:DAts H es ws)(j:Nat)(z:WV)(hz:its[j]?=A? z):∃e y',es[j]?=A? e/\DAt H e y'/\RelV y' z:=by
 have hj:j<its.length:=(glE hz);have l1:=r1.length;have l2:=AR.length;have Mt:j<es.length:=by lia
 obtain⟨y',De,dy⟩:=AR.at (WQ Mt);obtain⟨v',Cr,EF⟩:=r1.get De;rw[hz]at Cr;cases Cr;exact⟨_,y',WQ Mt,dy,EF⟩
theorem t6{z:WV}{e e':Dv}{y' Kc:V}(h1:DAt H e y')(h2:RelV y' z)(h3:DAt H e' Kc)(h4:RelV Kc z):e=e':=by
 have:=h2.inj h4;subst this;exact h1.inj h3
def v8(K:WY)(B:Nat):R2:=λx y H Q=>∃b ws d es,y=.ref b/\SqL K H b ws/\DAt H d x/\DAts H es ws/\cu es<=B/\∀r:Bool,(r=C?↔d∉es)->Q (.bl r) H
open Classical in
theorem tL{X:Cx}{B:Nat}(hu:X.A.units+B+2<YJ):OpR X (ZP .NotIn) (v8 X.K B):=by
 intro Z s Y H x y v u Q I rx ry h;obtain⟨b,ws,d,es,rfl,hb,hd,AR,hB,q⟩:=h;cases ry;obtain⟨its,r1,p1,_⟩:=I.list hb;have l1:=r1.length;have l2:=AR.length;refine SeqAt.notIn_listAt (λz=>decide (∃y',DAt H d y'/\RelV y' z)) p1.isList (λz hz=>?_) ⟨.bl _,H,I,rfl,q _ ?_⟩
 .obtain⟨j,hj⟩:=Xg.mp (show z∈its by simpa using hz);obtain⟨e,y',he,dy,ry⟩:=yu r1 AR j z hj;have hq:=eW he
  have e3:decide (∃y',DAt H d y'/\RelV y' z)=decide (e=d):=by
   by_cases h:e=d
   .rw[d! h,d! ⟨y',h ▸ dy,ry⟩]
   .rw[c! h,c!];rintro⟨Kc,h1,h2⟩;exact h (t6 dy ry h1 h2)
  rw[e3];refine n8 I _ e d (WX _) y' x z v X.A.in1 dy hd ry rx ?_;show X.A.units+1+_<YJ;lia
 .rw[Bool.not_eq_true',<-Bool.not_eq_true];refine not_congr ?_;constructor
  .intro z;obtain⟨v',h1,h2⟩:=Array.any_eq_true'.mp z;obtain⟨j,hj⟩:=Xg.mp (show v'∈its by simpa using h1);obtain⟨e,y',he,dy,ry⟩:=yu r1 AR j v' hj;obtain⟨Kc,h3,h4⟩:=e! h2;rw[<-t6 dy ry h3 h4];exact WR he
  .intro z;obtain⟨j,hj⟩:=Xg.mp z;obtain⟨y',De,dy⟩:=AR.at hj;obtain⟨v',Cr,EF⟩:=r1.get De;refine Array.any_eq_true'.mpr ⟨v',?_,d! ⟨y',dy,EF⟩⟩;have:=WR Cr;simpa using this
def wI(K:WY)(B:Nat):V->List V->Hp->VK->Prop:=λx vs H Q=>∃(l:WS)(y:V)(ws:List V)(d:Dv)(es:List Dv)(j:Nat),x=.ref l/\vs=[y]/\SqL K H l ws/\DAt H d y/\DAts H es ws/\cu es<=B/\es[j]?=A? d/\(∀i,i<j->es[i]?≠A? d)/\es.length<=100000/\Q (.int (j:Nat)) H
open Classical in
theorem sy{X:Cx}{B:Nat}(hu:X.A.units+B+4<YJ):MtM X "list.index" (wI X.K B):=by
 intro Z s Y H x vs v us Q I rx rv h;obtain⟨l,y,ws,d,es,j,rfl,rfl,hS,hd,AR,hB,hj,Cs,hz,q⟩:=h;cases rx;obtain⟨u,rfl,ru⟩:=rv.one;obtain⟨its,r,pl,_⟩:=I.list hS;have hlen:=r.length;have Bb:=AR.length;obtain⟨⟨cls,dd,data,sl⟩,ho,hc,n,hdt⟩:=pl.isList;simp only at hc hdt;subst hc hdt;have Bs:j<es.length:=(glE hj)
 have N7:∀(m:Nat)(z:WV),its[m]?=A? z->∃e y',es[m]?=A? e/\DAt H e y'/\RelV y' z/\decide (∃y',DAt H d y'/\RelV y' z)=decide (e=d):=λm z hz=>by
  obtain⟨e,y',he,dy,ry⟩:=yu r AR m z hz;refine⟨e,y',he,dy,ry,?_⟩;by_cases h:e=d
  .rw[d! h,d! ⟨y',h ▸ dy,ry⟩]
  .rw[c! h,c!];rintro⟨Kc,h1,h2⟩;exact h (t6 dy ry h1 h2)
 refine call_meets Y4 ⟨_,ho,rfl⟩ PySem.F.entry_list_index (PySem.F.args_list_index_2 _ _)
  (SeqAt.list_indexAt l its.toArray n dd sl u (λz=>decide (∃y',DAt H d y'/\RelV y' z)) j (by rw[W9];lia) (by lia) ?_ ?_) ⟨ho,λy hy=>?_,⟨.int (j:Nat),H,I.tok _,⟨_,rfl⟩,q⟩⟩
 .obtain⟨e,y',he,dy,ry,e3⟩:=N7 j (its.toArray[j]'(by rw[W9];lia)) (by simp);rw[hj]at he;cases he;rw[e3];exact d! rfl
 .intro m hm Al;obtain⟨e,y',he,dy,ry,e3⟩:=N7 m (its.toArray[m]'hm) (by simp);rw[e3];exact c! λz=>Cs m Al (by rw[he,z])
 .have De:y∈its:=by simpa using hy
  obtain⟨m,hm⟩:=Xg.mp De;obtain⟨e,y',he,dy,ry,e3⟩:=N7 m y hm;rw[e3];have hq:=eW he;refine n8 I _ e d (WX _) y' _ y u _ dy hd ry ru ?_;show X.A.units+1+_<YJ;lia
end L2
namespace PySem
open Sem (wp)
section
variable{K:Type}[DecidableEq K](knd:HeapKind prog w K)(d:WS)
theorem bb_meets_len(hd:(d == Yr)=CG) :
 MeetsIn prog w (Y7.«dict.__len__» ⟨[.ref d],[]⟩) (λ_ R s=>∃xs,s.1.DictOfH knd d xs/\R (.ok (.ret (.int xs.length s.toks))) {s with toks:=s.toks+1}) :=
 .of_wp λA R s⟨xs,hm,h⟩=>by
  obtain⟨o,es,ep,ho,hc,N8,he,hp,hn⟩:=hm;show Xc _ _ (dictSize d >>= _) _ _ s;unfold dictSize;refine WN (WN (Zd ho N8 (WW ?_)));show Xc _ _ (Builtin.Dict.pendingCount d >>= _) _ _ s;refine WN (wpAny_pendingCount_other hd ?_);refine wpAny_ret_mkInt ?_
  have:es.size=xs.length:=by
   have:=h! Ze he;rw[WO,Xo]at this;exact this
  rw[Nat.add_zero,this];exact h
end
section
variable{K:Type}[DecidableEq K]{knd:HeapKind prog w K}
theorem bb_call_len{xs:List (K×WS×WV)}(hd:(d == Yr)=CG)(hm:s.1.DictOfH knd d xs)(Ah:(xs.length:Int)<2 ^ 63)
 (h:Q (.int xs.length (s.toks+1)) {s with toks:=s.toks+1+1}):Xc (Xy prog w) A (call (.builtin "len") [.ref d]) Q E s:=by
 refine Calls.call_function_entry kind_len plain_len entry_len (args_len1 _) ?_;unfold Y7.«len»;refine WN (m:=oneArg "len" _) (WW ?_)
 refine WN (m:=callSpecial? (.ref d) (W5 "__len__")) (XR (name:=W5 "__len__") hm.typeIs F.slot_dict_len
  (call_meetsIn F.slot_dict_len hm.typeIs F.entry_dict_len (F.args_dict_len_1 _) (bb_meets_len knd d hd) ⟨xs,hm,?_⟩))
 show Xc _ _ _ _ _ {s with toks:=s.toks+1};refine WN (Yv (WW ?_));refine WN (wpAny_letGo ?_);show Xc _ _ (if((xs.length:Nat):Int)<0 then _ else _) _ _ _;rw[a! (by lia)];show Xc _ _ (if((xs.length:Nat):Int) >= 2 ^ 63 then _ else _) _ _ _;rw[a! (by lia)];exact WN (wpAny_mkInt (WW ⟨_,rfl,h⟩))
end
end PySem
namespace L2
open PySem PySem.Spec PyProof.Rows
def zb:List V->Hp->VK->Prop:=λxs H Q=>∃(a:WS)(kvs:List (List Key×V)),xs=[.ref a]/\H a=A? (.dT kvs)/\Q (.int kvs.length) H
theorem i7{X:Cx}:fQ X (.builtin "len") zb:=by
 intro Z s Y H xs us Q I r h;obtain⟨a,kvs,rfl,e,q⟩:=h;obtain⟨u,rfl,rx⟩:=vals1 r;cases rx;obtain⟨z,hd,ys,rel,dd⟩:=rV I.hok e;have hl:kvs.length=ys.length:=Xa rel;refine bb_call_len hd dd (by rw[ZA]at z;lia) ?_;rw[<-hl];exact⟨.int kvs.length,H,I.tok _,⟨_,D?⟩,q⟩
end L2
namespace BB
open PySem L2
theorem size_pos(t:Th):0<t.size:=by cases t <;> (rw[t!];lia)
open PySem.Builtin PySem.Builtin.Str
end BB
namespace L2
open PySem PySem.Spec PySem.Calls PyProof.Rows BB
section
variable{X:Cx}{Y:List (Option V)}
end
open PySem.Builtin PySem.Builtin.Str
variable{X:Cx}
end L2
namespace BB
open PySem L2
section
variable{t:Th}{es:List WS}
end
end BB
namespace L2
open PySem PySem.Spec PyProof.Rows BB
variable{X:Cx}
end L2
namespace L2
open PySem PySem.Spec PyProof.Rows PySem.W
open BB
variable{X:Cx}
end L2
namespace L2
open PySem PySem.Spec PySem.Calls PyProof.Rows PySem.W
end L2
namespace BB
open PySem L2 PySem.Builtin PySem.Builtin.Str
end BB
namespace L2
open PySem PySem.Spec PySem.Calls PyProof.Rows PySem.Builtin PySem.Builtin.Str BB
variable{X:Cx}
end L2
namespace L2
open PySem PySem.Spec PyProof.Rows
end L2
namespace BB
open PySem L2
theorem o9{ks:List (Xk×Int)}(g:aH ks):(ks.map (·.1)).Nodup:=by
 refine List.pairwise_iff_getElem.mpr λi j hi hj hij e=>?_;rw[WO]at hi hj;rw[List.getElem_map,List.getElem_map]at e;have:=g.nd i j _ _ (WQ hi) (WQ hj) e;lia
end BB
namespace L2
open PySem PySem.Spec PyProof.Rows
open PySem.Calls
structure FvOk(P:Xe)(w:Xv)(K:WY)(mg:Xk->Option WV)(base:X5)(CX:CXT)(k:Nat)(f:WS)(sp:Sp):Prop where
 fn:∀(A:XF)(outer:List Env)(s:WZ)(H:Hp)(vs:List V)(Q:VK)(E:XK),Env0 P w K mg base A outer s H->sp vs H Q E->PySem.W.FnAt f s.1
 run:∀(A:XF)(outer:List Env)(s:WZ)(H:Hp)(us:List WV)(vs:List V)(Q:VK)(E:XK),Room k A->Env0 P w K mg base A outer s H->Vals vs us->sp vs H Q E ->
  codeAny (Xy P w) A (.call (.ref f) ⟨us,[]⟩) (CR CX outer P w H s Q E) s
theorem FvOk.of{k:Nat}(F:FnOk P w K mg base CX k f fd ps sp)(G:Fun K x qual st f fd)(hb:Binds K fd ps []):FvOk P w K mg base CX k f sp where
 fn:=λA outer s H vs Q E e0 h=>by
  obtain⟨oc,od,kV,doc,pm,an,Ak,ct,Es,rfl,lk,_⟩:=G.ex;exact⟨_,_,_,_,(e0.bs _ _ (e0.mod.kin _ _ lk)).1⟩
 run:=λA outer s H us vs Q E hr e0 r h=>by
  have KX:K.In s.1:=e0.mod.kin.keeps λb o e=>(e0.bs b o e).1;have hl:us.length=ps.length:=by rw[<-r.length];exact F.len _ _ _ _ h
  have:=hb s us KX (by rw[Ye];exact hl);rw[Ye]at this;exact F.run A outer s H ⟨us,[]⟩ us vs Q E hr e0 this r h
section
variable{X:Cx}{k i:Nat}{E:XK}{p:Pos}{es:List X3}{t:TA}
def uZ(P:Xe)(w:Xv)(K:WY)(mg:Xk->Option WV)(base:X5)(CX:CXT)(k i:Nat)(E:XK)(t:TA):TE:=λY H Q=>∃f sp,Y[i]?=A? (A? (.ref f))/\FvOk P w K mg base CX k f sp/\t Y H λvs H1=>sp vs H1 Q E
theorem qu{E:WV->WZ->Prop}{q:WS}{rest:List X3}(h:Xc M A (spliced (Z0 pos (XO (e::rest) env))) (λvs Af=>PySem.W.FnAt q Af.heap/\Xc M A (call (.ref q) ([]++vs)) Q E Af) E s)
 (he:XO (e::rest) env=(CG,YS e env)::XO rest env) (Dd:(Z0 pos (XO rest env)).any (·.1)=CG) :
 Xc M A (callWith pos (.ref q) [] (Z0 pos (XO (e::rest) env)) []) Q E s:=by
 rw[he]at h |-;exact PySem.W.callWith_of (by show((CG ||(Z0 pos (XO rest env)).any (·.1)) ||false)=CG;rw[Dd];rfl) PySem.W.keeps_F (evalArgs_plain h)
theorem iA(hN:X.N[i]?=A? x)(hv:Vis X.env.scope x)(hr:Room k X.A)(hx:Passes CX X E)(ha:PA X (e::es) t)(DM:(x == ("__debug__":Xk))=false:=by decide)(Co:(x == ("__classdict__":Xk))=false:=by decide)
 (he:XO (e::es) X.env=(CG,YS e X.env)::XO es X.env:=by rfl) (AZ:(Z0 pos (XO es X.env)).any (·.1)=false:=by rfl) :
 PE X (.Call (.Name x p) (e::es) [] pos) (uZ X.prog X.w X.K X.mg X.base CX k i E t):=by
 intro Z s Y H Q I h;obtain⟨f,sp,N9,F,q⟩:=h;refine Yq (thn (uY (X:=X) hN hv DM Co Z s Y H (λv H1=>v=.ref f/\t Y H1 λvs H2=>sp vs H2 Q E) I ⟨_,N9,rfl,q⟩) λu s1⟨v,H1,I1,r,e1,q1⟩=>?_);subst e1;obtain rfl:u=XG f:=r;refine qu (thn (ha pos Z s1 Y H1 _ I1 q1) λus s2⟨vs,H2,I2,r2,q2⟩=>⟨F.fn X.A X.stack s2 H2 vs Q E I2.env0 q2,?_⟩) he AZ;refine wpAny_call (codeAny_mono (F.run X.A X.stack s2 H2 ([]++us) vs Q E hr I2.env0 r2 q2) λr s' hq=>?_);cases r with
 |error e=>exact hx Z Y H2 s2 e s' I2 hq
 | ok fl =>
   cases fl with
   |ret u=>exact I2.after hq
   |next=>exact Yk hq
   |brk=>exact Yk hq
   |cont=>exact Yk hq
end
def fgt(S:List WS)(H:Hp):Hp:=λb=>if b∈S then B? else H b
def rst(S:List WS)(H H':Hp):Hp:=λb=>if b∈S then H b else H' b
theorem jf{S:List WS}(h:b∈S):fgt S H b=none:=b! h
theorem bZ{S:List WS}(h:b∉S):fgt S H b=H b:=a! h
theorem uQ{S:List WS}(h:b∈S):rst S H H' b=H b:=b! h
theorem dH{S:List WS}(h:b∉S):rst S H H' b=H' b:=a! h
theorem uS{S:List WS}(h:fgt S H b=A? o):b∉S/\H b=A? o:=by
 by_cases hb:b∈S
 .rw[jf hb]at h;cases h
 .exact⟨hb,by rw[bZ hb]at h;exact h⟩
def Exts(S:List WS)(H:Hp):Prop:=∀b∈S,∃φ,H b=A? (.ext φ)
theorem Exts.out{S:List WS}(x:Exts S H)(e:H b=A? o)(n:∀φ,o≠.ext φ):b∉S:=λz=>by
 obtain⟨φ,h⟩:=x b z;rw[e]at h;exact n φ (Xl h)
theorem HOk.fgt{S:List WS}(x:HOk P w H h)(hS:Exts S H):HOk P w (fgt S H) h:=λa o e=>by
 obtain⟨ha,e'⟩:=uS e;exact(x a o e').stay (λ_ _ _ q=>q) (λb q=>by rw[bZ (hS.out q (by intro φ z;cases z))];exact q) λb xs q=>by rw[bZ (hS.out q (by intro φ z;cases z))];exact q
theorem HOk.rst{S:List WS}(x:HOk P w H h)(x':HOk P w H' h')(hS:Exts S H)(hk:∀b∈S,∀o,h.get? b=A? o->h'.get? b=A? o)(hn:∀b∈S,H' b=B?):HOk P w (rst S H H') h':=λa o e=>by
 by_cases ha:a∈S
 .rw[uQ ha]at e;obtain⟨φ,T5⟩:=hS a ha;have e2:=T5;rw[e]at e2;cases e2;obtain⟨p,⟨ob,q⟩,st⟩:=x a _ e;exact⟨st _ _ p (λo z=>hk a ha o z),⟨ob,hk a ha ob q⟩,st⟩
 .rw[dH ha]at e;have out:∀b u,H' b=A? u->b∉S:=λb u q z=>by rw[hn b z]at q;cases q
  exact(x' a o e).stay (λ_ _ _ q=>q) (λb q=>by rw[dH (out b _ q)];exact q) λb xs q=>by rw[dH (out b _ q)];exact q
def CellAt(H:Hp)(c:WS)(v:V):Prop:=∃φ,H c=A? (.ext φ)/\∀h:X5,φ h->∃u,RelV v u/\h.IsCell c (A? u)
def CodeAt(H:Hp)(c:WS)(qual:Xk):Prop:=∃φ,H c=A? (.ext φ)/\∀h:X5,φ h->h.CodeRec (.ref c) qual
def wJ(H:Hp)(cl:List (Xk×WS))(ns:List Xk)(ws:List V):Prop:=XH (λ(x:Xk)(v:V)=>∃c,cl.lookup x=A? c/\CellAt H c v) ns ws
theorem CellAt.mono(s:Same H H'){c:WS}(h:CellAt H c v):CellAt H' c v:=by
 obtain⟨φ,h1,h2⟩:=h;exact⟨φ,s _ _ h1,h2⟩
theorem CodeAt.mono(s:Same H H'){c:WS}{q:Xk}(h:CodeAt H c q):CodeAt H' c q:=by
 obtain⟨φ,h1,h2⟩:=h;exact⟨φ,s _ _ h1,h2⟩
theorem CellAt.now{c:WS}(x:HOk P w H h)(z:CellAt H c v):∃u,RelV v u/\h.IsCell c (A? u):=by
 obtain⟨φ,h1,h2⟩:=z;exact h2 h (x c _ h1).1
theorem jR{c:WS}(h:cl.lookup x=A? c):c∈cl.map (·.2):=Xn.mpr ⟨(x,c),X7 h,rfl⟩
theorem mP:∀{l:List (Xk×WV)}{x:Xk}{u:WV},(l.map (·.1)).Nodup->(x,u)∈l->l.lookup x=A? u
 | [],_,_,_,h=>by cases h
 | (y,v)::l,x,u,nd,h=>by
   rw[XC,Yd]at nd;rw[Yt];rcases W6.mp h with e|e
   .cases e;rw[beq_self_eq_true]
   .have Ay:(x == y)=false:=by
     rw[beq_eq_false_iff_ne];intro z;subst z;exact nd.1 (Xn.mpr ⟨_,e,rfl⟩)
    rw[Ay];exact mP nd.2 e
theorem pK{i:Nat}(nd:ps.Nodup)(hl:us.length=ps.length)(h1:ps[i]?=A? x)(h2:us[i]?=A? u):(ps.zip us).reverse.lookup x=A? u:=by
 refine mP ?_ ?_
 .rw[List.map_reverse,List.map_fst_zip (by lia)];exact(List.pairwise_reverse.mpr (nd.imp λh z=>h z.symm))
 .rw[List.mem_reverse];exact WR (YQ.mpr ⟨h1,h2⟩)
structure Lam(mg:Xk->Option WV)(base:X5)(c P:WS):Prop where
 hd:PySem.W.CodeHd base c P
 bl:base.BuiltinsAt mg P
def SameT(P:WS)(H H':Hp):Prop:=∀b o,b≠P->H b=A? o->H' b=A? o
def tabOf(pos:Pos)(c':WS):Array WV:=#[YH pos.line,YH pos.col,.ref c']
def TabSt(H:Hp)(P:WS)(pos:Pos)(qual:Xk):Prop:=H P=A? (.tbl #[])\/∃c',H P=A? (.tbl (tabOf pos c'))/\CodeAt H c' qual
theorem TabSt.mono(s:Same H H'){P:WS}(h:TabSt H P pos qual):TabSt H' P pos qual:=by
 rcases h with h|⟨c',h1,h2⟩
 .exact .inl (s _ _ h)
 .exact .inr ⟨c',s _ _ h1,h2.mono s⟩
theorem SameT.trans{P:WS}(a:SameT P H H1)(b:SameT P H1 H2):SameT P H H2:=λc o n e=>b c o n (a c o n e)
theorem Same.t(s:Same H H')(P:WS):SameT P H H':=λb o _ e=>s b o e
theorem SameT.kt{P:WS}(s:SameT P H H'){pp:Array WV}(hP:H P=A? (.tbl pp)):BB.KT H H':=λb xs e=>s b _ (λz=>by rw[z,hP]at e;cases e) e
theorem TabSt.kt{P:WS}(t:TabSt H P pos qual)(s:SameT P H H'):BB.KT H H':=by
 rcases t with h|⟨_,h,_⟩
 .exact s.kt h
 .exact s.kt h
theorem uq(pos:Pos)(c':WS):TriplesOk (tabOf pos c').toList:=trivial
theorem tG(pos:Pos)(c':WS):codeAmong pos (tabOf pos c').toList=A? (.ref c'):=by
 show codeAmong pos [YH pos.line,YH pos.col,.ref c']=_;simp[codeAmong,YH]
section
variable{X:Cx}{k:Nat}{p:Pos}{es:List X3}{t:TA}
def Trk(X:Cx)(Y:St)(cl:List (Xk×WS))(H H':Hp):Prop:=(∀b∈cl.map (·.2),H b=B?)/\(∀b,b∉cl.map (·.2)->H' b=H b)/\Exts (cl.map (·.2)) H'/\∀(i:Nat)(y:Xk)(v:V)(c:WS),X.N[i]?=A? y->Y[i]?=A? (A? v)->cl.lookup y=A? c->CellAt H' c v
def yr(X:Cx)(cl:List (Xk×WS))(sp:Sp)(t:TA):TE:=λY H Q=>t Y H λvs H1=>∀H2,Trk X Y cl H1 H2->sp vs H2 (λv H3=>(∀b∈cl.map (·.2),H3 b=H2 b)/\Q v (fgt (cl.map (·.2)) H3)) E0
theorem Trk.same{X:Cx}(t:Trk X Y cl H H'):Same H H':=λb o e=>by
 rw[t.2.1 b (λz=>by rw[t.1 b z]at e;cases e)];exact e
theorem Trk.back{X:Cx}{H3:Hp}(t:Trk X Y cl H H')(s:Same H' H3):Same H (fgt (cl.map (·.2)) H3):=λb o e=>by
 rw[bZ (λz=>by rw[t.1 b z]at e;cases e)];exact s _ _ (t.same _ _ e)
theorem Trk.kt{X:Cx}{H3:Hp}(t:Trk X Y cl H H')(s:Same H' H3):BB.KT H3 (fgt (cl.map (·.2)) H3):=λb xs e=>by
 rw[bZ λz=>?_]
 .exact e
 obtain⟨φ,h⟩:=t.2.2.1 b z;rw[s _ _ h]at e;cases e
structure p8(X:Cx)(cl:List (Xk×WS)):Prop where
 look:∀y c,(y,c)∈cl->X.env.cells.lookup y=A? c
 fn:∀y c,(y,c)∈cl->X.fn y=C?
 kind:∀y c,(y,c)∈cl->X.env.kindOf y=A? .cell
theorem vt(F:FnOk X.prog X.w X.K X.mg X.base CX0 k f fd ps sp)(hr:Room k X.A)(hg:Gl X x)(hm:X.mg x=A? (.ref f))(hk:ZE X.K (.ref f)=C?)(hb:Binds X.K fd ps [])(oc:p8 X cl)
 (ha:PA X (e::es) t) (DM:(x == ("__debug__":Xk))=false:=by decide) (he:XO (e::es) X.env=(CG,YS e X.env)::XO es X.env:=by rfl) (AZ:(Z0 pos (XO es X.env)).any (·.1)=false:=by rfl) :
 PE X (.Call (.Name x p) (e::es) [] pos) (yr X cl sp t):=by
 intro Z s Y H Q I h;refine Yq (j6 I hg hm ?_ DM);refine PySem.W.callWith_K (h₀:=X.base) I.ok.mod.kin hk (thn (ha pos Z s Y H _ I h) λus s1⟨vs,H1,I1,r,q⟩=>⟨I1.kIn,?_⟩) he AZ
 have Bu:∀b∈cl.map (·.2),∃y,(y,b)∈cl:=λb hb=>by
  obtain⟨⟨y,c⟩,h1,h2⟩:=Xn.mp hb;cases h2;exact⟨y,h1⟩
 have By:∀b∈cl.map (·.2),∃v o,s1.1.get? b=A? o/\o.data=.cell v:=λb hb=>by
  obtain⟨y,hy⟩:=Bu b hb;obtain⟨v,o,h1,h2⟩:=I1.cell y b (oc.look y b hy);exact⟨v,o,h1,h2⟩
 have CH:∀b∈cl.map (·.2),H1 b=none:=λb hb=>by
  obtain⟨y,hy⟩:=Bu b hb;exact I1.freeC y b (oc.look y b hy)
 obtain⟨H2,Ro⟩:∃H2:Hp,H2=λb=>if b∈cl.map (·.2)then A? (.ext λh=>h.get? b=s1.1.get? b/\(h.get? b).isSome=C?)else H1 b:=⟨_,rfl⟩
 have Kd:∀b∈cl.map (·.2),H2 b=A? (.ext λh=>h.get? b=s1.1.get? b/\(h.get? b).isSome=C?):=λb hb=>by rw[Ro];exact b! hb
 have BJ:∀b,b∉cl.map (·.2)->H2 b=H1 b:=λb hb=>by rw[Ro];exact a! hb
 have T6:Exts (cl.map (·.2)) H2:=λb hb=>⟨_,Kd b hb⟩;have Ke:∀b u,H1 b=A? u->b∉cl.map (·.2):=λb u z hb=>by rw[CH b hb]at z;cases z
 have N':HOk X.prog X.w H2 s1.1:=λa o ea=>by
  by_cases hb:a∈cl.map (·.2)
  .rw[Kd a hb]at ea;cases ea;obtain⟨v,o,h1,h2⟩:=By a hb
   exact⟨⟨D?,by rw[h1];rfl⟩,⟨o,h1⟩,λg1 g2 z y=>by
    obtain⟨ob,Jf⟩:=Option.isSome_iff_exists.mp z.2;have:=y ob Jf;exact⟨by rw[this,<-Jf];exact z.1,by rw[this];rfl⟩⟩
  .rw[BJ a hb]at ea;exact(I1.hok a o ea).stay (λ_ _ _ z=>z) (λb z=>by rw[BJ b (Ke b _ z)];exact z) λb xs z=>by rw[BJ b (Ke b _ z)];exact z
 have A9:∀b o,X.base.get? b=A? o->b∉cl.map (·.2):=λb o z hb=>by
  obtain⟨y,hy⟩:=Bu b hb;have h1:=I1.ok.cab y b (oc.fn y b hy) (oc.look y b hy);exact g! (Xz (Xi z) (Xh I1.ok.bsz h1)) (Ys _)
 have Kf:∀b∈frs X.stack,b∉cl.map (·.2):=λb hb hc=>by
  obtain⟨y,hy⟩:=Bu b hc;rcases W6.mp (I1.stkSub b hb)with z|z
  .exact I1.cne y b (oc.look y b hy) z
  .obtain⟨_,o,ho,_⟩:=I1.ok.funs.mem z;have h1:=I1.ok.cab y b (oc.fn y b hy) (oc.look y b hy);exact g! (Xz (Xi ho) h1) (Ys _)
 have e0:=I1.env0;have e2:Env0 X.prog X.w X.K X.mg X.base X.A X.stack s1 H2:=⟨e0.frames,e0.mod,λb o z=>⟨(e0.bs b o z).1,by rw[BJ b (A9 b o z)];exact(e0.bs b o z).2⟩,e0.bsz,e0.funs,λb hb=>by rw[BJ b (Kf b hb)];exact e0.frf b hb,N',e0.bare⟩
 have Oa:Trk X Y cl H1 H2:=by
  refine⟨CH,BJ,T6,λi y v c hN N9 hc=>?_⟩;have Rp:(y,c)∈cl:=X7 hc;have T7:=oc.look y c Rp;have DW:=oc.kind y c Rp;obtain⟨m,hn,hl⟩:=I1.loc;obtain⟨u,ru,l⟩:=hl i y v hN N9 (.inr (.inl DW));rcases l with⟨z,_⟩|⟨_,c2,DC,z⟩
  .rw[DW]at z;cases z
  .rw[T7]at DC;cases DC;refine⟨_,Kd c (jR hc),λh z'=>⟨u,ru,?_⟩⟩;obtain⟨o,ho,hd⟩:=z;exact⟨o,by rw[z'.1];exact ho,hd⟩
 have B7:=q H2 Oa;have hl:us.length=ps.length:=by rw[<-r.length];exact F.len _ _ _ _ B7
 have AV:=hb s1 us I1.kIn (by rw[Ye];exact hl);rw[Ye]at AV;refine wpAny_call (codeAny_mono (F.run X.A X.stack s1 H2 ⟨us,[]⟩ us vs _ _ hr e2 AV r B7) λrr s' hq=>?_);cases rr with
 |error e=>exact Yk hq
 | ok fl =>
   cases fl with
   |next=>exact Yk hq
   |brk=>exact Yk hq
   |cont=>exact Yk hq
   | ret u =>
     obtain⟨v,H3,os,bare,un,Kg,rv,hS,q3⟩:=hq;have T8:Exts (cl.map (·.2)) H3:=λb hb=>⟨_,(hS b hb).trans (Kd b hb)⟩;have kS:∀b∈cl.map (·.2),s'.1.get? b=s1.1.get? b:=λb hb=>((Kg b _ ((hS b hb).trans (Kd b hb))).1).1;refine⟨v,fgt (cl.map (·.2)) H3,I1.call' (ch:=[]) os ⟨λb o z n hb Bc=>?_,λb o z n hb Bc=>?_,λb o z n Bc=>?_,λb o z Bc=>un.there b o z Bc,λb xs z=>?_,λb o u' z=>?_,λb pp z=>?_⟩ (Kg.fgt T8) bare (λb z=>by cases z),rv,q3⟩
     .by_cases hc:b∈cl.map (·.2)
      .rw[kS b hc];exact z
      .exact un.keep b o z (by rw[BJ b hc];exact n) hb Bc
     .exact un.slot b o z (by rw[BJ b (Kf b hb)];exact n) hb Bc
     .by_cases hc:b∈cl.map (·.2)
      .exact jf hc
      .rw[bZ hc];exact un.free b o z (by rw[BJ b hc];exact n) Bc
     .have hc:=Ke b _ z;rw[bZ hc];exact un.tups b xs (by rw[BJ b hc];exact z)
     .have hc:=Ke b _ z;rw[bZ hc];exact un.frzs b o u' (by rw[BJ b hc];exact z)
     .have hc:=Ke b _ z;rw[bZ hc];exact un.tbls b pp (by rw[BJ b hc];exact z)
end
theorem Fun.okT{c:WS}{k:Nat}(F:Fun K x qual st f fd)(hc:fd.code=.ref c)(S:cQ N ps (aI st))(len:∀vs H Q E,sp vs H Q E->vs.length=ps.length)
 (Bm:∀(A:XF)(outer:List Env)(s:WZ)(H:Hp)(vs:List V)(Q:VK)(E:XK),Room k (A.deeper (envOfC qual (aI st) s.1.1.size f (.ref c)))->sp vs H Q E ->
  ∃t,PSs (pf CX0 P w K mg base N qual (aI st) f (.ref c) A outer s H E).nox (bI st) t/\t {nx:=λ_ H'=>Q .non H',rt:=Q} (start N vs) H):FnOk P w K mg base CX0 (k+1) f fd ps sp:=by
 obtain⟨oc,od,kV,doc,pm,an,Ak,ct,Es,rfl,lk,Co⟩:=F.ex;have Bd:Ak=.ref c:=hc;subst Bd;refine xb lk Co S len λA outer s H vs Q E hr B7=>?_;obtain⟨t,h,q⟩:=Bm A outer s H vs Q E hr B7;exact⟨t,h.nox,q⟩
theorem vX{c P:WS}(F:Fun K x qual st f fd)(hn:PySem.W.nsIn K X8 x=A? (A? (.ref f)))(ht:PySem.W.tabIn K x=A? (c,P)):fd.code=.ref c:=by
 obtain⟨oc,od,kV,doc,pm,an,Ak,ct,Es,rfl,lk,Co⟩:=F.ex;unfold PySem.W.tabIn at ht;rw[hn]at ht;simp only[lk]at ht;show Ak=.ref c;cases Ak with
 | ref c2 =>
   simp only[Z8]at ht;split at ht
   .split at ht
    .cases ht;rfl
    .cases ht
   .cases ht
 |_=>simp[Z8]at ht
theorem sM{mb:Xk->Option WV}{k:Nat}{fa c T:WS}{Af:WZ}{vs:List WV}{ns:List Int}
 (KX:K.In Af.heap) (CJ:Af.heap.Ns X8 mg) (hb:Af.heap.Ns builtinsNs mb) (Ob:∀x:Xk,x≠"__name__"->mb x=bootBuiltins x) (Oc:Af.heap.NoLimit) (hg:Af.gens=#[])
 (ha:Af.heap.get? a=A? {cls:=.type "list",data:=.seq vs.toArray}) (hi:IntsAre vs ns) (hl:ns.length<=Xj) (hr:Room k callerA)
 (hC:PySem.W.CodeHd Af.heap c T) (hT:Af.heap.get? T=A? (PySem.W.tabObj #[])) (BL:Af.heap.BuiltinsAt mg T) (Od:K.lookup T=B?)
 (F:∀base:X5,K.In base->base.Ns X8 mg->Lam mg base c T->FnOk P w K mg base CX k fa fd [x] sp) (Kh:∀(s:WZ)(u:WV),BindsTo s fd ⟨[u],[]⟩ [(x,u)])
 (B7:∀H:Hp,SqL K H a (ns.map o!)->H T=A? (.tbl #[])->sp [.ref a] H (λv _=>v=.bl C?) λ_ _ _=>False)
 (Oe:∀H e s',CX [] H Af (λ_ _ _=>False) e s'->False) :
 codeAny (Xy P w) callerA (.call (.ref fa) ⟨[.ref a],[]⟩) (λr s'=>r=.ok (.ret (.bool C?))/\OldK Af.heap s'.1/\s'.os=Af.os/\AllBare s'.gens) Af:=by
 have rv:=nH hi;have Of:=hi.length;have Rq:a≠T:=λz=>by rw[z,hT]at ha;cases ha
 have core:∀H:Hp,(∀b,H b=B?\/(∃o xs,H b=A? (.frz o (.lst xs)))\/(b=T/\H b=A? (.tbl #[])))->H T=A? (.tbl #[])->SqL K H a (ns.map o!)->HOk P w H Af.heap->(∀b,H b≠B?->b=a\/b=T)->(H a≠B?->K.lookup a=B?) ->
  codeAny (Xy P w) callerA (.call (.ref fa) ⟨[.ref a],[]⟩) (λr s'=>r=.ok (.ret (.bool C?))/\OldK Af.heap s'.1/\s'.os=Af.os/\AllBare s'.gens) Af:=by
  intro H hO Og hS hok hA hK;have BM:∀{b:WS}{o:YF},Af.heap.get? b=A? o->H b=B?->(l7 Af.heap H).get? b=A? o:=λe n=>uB e n
  have Oh:∀{b:WS}{o:YF},Af.heap.get? b=A? o->(∀xs n,o.data≠.seq xs n)->(∀xs,o.data≠.fields xs\/o.cls≠.none)->H b=none:=λ{b o}e d1 d2=>by
   cases q:H b with
   |none=>rfl
   | some u =>
     rcases hA b (by rw[q];simp)with e'|e'
     .subst e';rw[ha]at e;cases e;exact g! rfl (d1 _ _)
     .subst e';rw[hT]at e;cases e;rcases d2 #[]with z|z
      .exact g! rfl z
      .exact g! rfl z
  have Mu:∀{b:WS}{m:Xk->Option WV},Af.heap.Ns b m->(l7 Af.heap H).Ns b m:=λ{b m}⟨o,es,ep,e,d,r⟩=>⟨o,es,ep,BM e (Oh e (λxs n=>by rw[d];exactλz=>nomatch z) (λxs=>.inl (by rw[d];exactλz=>nomatch z))),d,r⟩
  have Rr:K.In (l7 Af.heap H):=λb o e=>BM (KX b o e) (by
   cases q:H b with
   |none=>rfl
   | some u =>
     rcases hA b (by rw[q];simp)with e'|e'
     .subst e';rw[hK (by rw[q];simp)]at e;cases e
     .subst e';rw[Od]at e;cases e)
  have hM:Mod K mg (l7 Af.heap H):=⟨Rr,Mu CJ,⟨mb,Mu hb,Ob⟩,let⟨mc,h1,h2⟩:=Oc;⟨mc,Mu h1,h2⟩⟩
  have hL:Lam mg (l7 Af.heap H) c T:=by
   refine⟨?_,?_⟩
   .obtain⟨o,T9,file,tf,flags,tg,T',text,tt,e1,r1,r2,r3⟩:=hC;exact⟨o,T9,file,tf,flags,tg,T',text,tt,BM e1 (Oh e1 (λxs n=>by rw[r2];exactλz=>nomatch z) (λxs=>.inr (by rw[r1];exactλz=>nomatch z))),r1,r2,r3⟩
   .obtain⟨bm,o,h1,h2,h3,h4,h5,h6,h7,h8⟩:=BL;exact⟨bm,o,h1,h2,h3,h4,BM h5 (Oh h5 (λxs n=>by rw[h8];exactλz=>nomatch z) (λxs=>.inl (by rw[h8];exactλz=>nomatch z))),h6,h7,h8⟩
  have e0:Env0 P w K mg (l7 Af.heap H) callerA [] Af H:=⟨rfl,hM,λb o e=>wO e,Nat.le_of_eq (sO _ _),trivial,λb hb=>g! (show b∈([]:List WS)from hb) (by simp),hok,.of_eq hg⟩;refine codeAny_mono ((F _ Rr (Mu CJ) hL).run callerA [] Af H ⟨[.ref a],[]⟩ [.ref a] [.ref a] _ _ hr e0 (Kh Af (.ref a)) (.cons rfl .nil) (B7 H hS Og)) λr s' h=>?_;cases r with
  |error e=>exact(Oe H e s' h).elim
  | ok fl =>
    cases fl with
    |next=>exact Yk h
    |brk=>exact Yk h
    |cont=>exact Yk h
    | ret u =>
      obtain⟨v,H',os,bare,un,Ki,r',q⟩:=h;have q':v=.bl true:=q;subst q';obtain rfl:u=Value.bool true:=r';refine⟨D?,⟨λb o e=>?_,λb o e=>un.there b o e (by simp)⟩,os,bare⟩;cases q:H b with
      |none=>exact .inl (un.keep b o e q (by intro z;exact g! (show b∈([]:List WS)from z) (by simp)) (by simp))
      | some u =>
        rcases hO b with z|⟨ob,xs,z⟩|⟨rfl,z⟩
        .rw[q]at z;cases z
        .have z2:=un.frzs b ob _ z;obtain⟨e1,_⟩:=hok b _ z;obtain⟨e2,_⟩:=Ki b _ z2;rw[e]at e1;cases e1;exact .inl e2
        .obtain⟨more,z2⟩:=un.tbls b _ z;have e2:s'.1.get? b=A? {cls:=.none,data:=.fields (#[]++more)}:=Ki b _ z2;rw[hT]at e;cases e;exact .inr (.inl ⟨(hC.tab hT).isCodeTable,rfl,#[],more,rfl,e2⟩)
 have okT:∀H:Hp,ObjOk P w H Af.heap T (.tbl #[]):=λ_=>hT;cases hk:K.lookup a with
 | some o =>
   have e:=KX a o hk;rw[ha]at e;cases e;refine core (λb=>if b=T then A? (.tbl #[])else B?) (λb=>?_) (b! rfl) (.inr ⟨_,vs.toArray,_,hk,rfl,rfl,rfl,by rw[W9,Of];exact hl,by simpa using rv⟩) (λb u z=>?_) (λb z=>?_) λz=>g! (a! Rq) z
   .by_cases hb:b=T
    .exact .inr (.inr ⟨hb,b! hb⟩)
    .exact .inl (a! hb)
   .by_cases hb:b=T
    .have z':=(b! hb).symm.trans z;cases z';rw[hb];exact okT _
    .have z':=(a! hb).symm.trans z;cases z'
   .by_cases hb:b=T
    .exact .inr hb
    .exact g! (a! hb) z
 | none =>
   refine core (λb=>if b=T then A? (.tbl #[])else if b=a then A? (.frz {cls:=.type "list",data:=.seq vs.toArray} (.lst (ns.map o!)))else B?) (λb=>?_) (b! rfl) (.inl (.inr ⟨{cls:=.type "list",data:=.seq vs.toArray},(a! Rq).trans (b! rfl)⟩)) (λb u z=>?_) (λb z=>?_) λ_=>hk
   .by_cases hb:b=T
    .exact .inr (.inr ⟨hb,b! hb⟩)
    .by_cases AV:b=a
     .exact .inr (.inl ⟨_,_,(a! hb).trans (b! AV)⟩)
     .exact .inl ((a! hb).trans (a! AV))
   .by_cases hb:b=T
    .have z':=(b! hb).symm.trans z;cases z';rw[hb];exact okT _
    .have z':=(a! hb).symm.trans z;by_cases AV:b=a
     .have z2:=(b! AV).symm.trans z';cases z2;subst AV;exact⟨ha,by rw[WO];exact hl,vs,_,rv,ha⟩
     .have z2:=(a! AV).symm.trans z';cases z2
   .by_cases hb:b=T
    .exact .inr hb
    .by_cases AV:b=a
     .exact .inl AV
     .exact g! ((a! hb).trans (a! AV)) z
def tabAt(o:YF):Option WS:=match o.data with
 | .fields vs=>(match(vs[11]?:Option WV)with
   |some (.ref P)=>A? P
   |_=>B?)
 |_=>B?
theorem xI{c T:WS}{sl:Array (Option WV)}{ot:YF}(hn:PySem.W.nsIn K X8 x=A? (A? (.ref f)))(hl:K.lookup f=A? ⟨oc,od,.func fd,sl⟩)(hc:fd.code=.ref c)(ho:K.lookup c=A? ot)(ht:tabAt ot=A? T):PySem.W.tabIn K x=A? (c,T):=by
 unfold PySem.W.tabIn;rw[hn];simp only[hl,hc,ho];obtain⟨o1,o2,o3,o4⟩:=ot;unfold tabAt at ht;cases o3 with
 | fields vs =>
   simp only at ht |-;split at ht
   .rename_i e
    cases ht;simp only[e]
   .cases ht
 |_=>cases ht
theorem uG{l:PySem.W.OpenLaw}{k:Nat}{q:Xe}{d dt:DefRec}{K:Params->WY}{CX:Xv->CXT}{sp:Xv->WS->Sp}{tn:Xk}
 (hn:l.most=A? n) (JO:n<=Xj) (hdf:d.params.defaults=[]) (hr:Room k callerA) (hq:(recsOf q).find? (λe=>e.name == tn)=A? dt)
 (hY:∀(w:Xv)(h:X5),YP w h->(K w.params).In h)
 (F:∀(w:Xv)(mg:Xk->Option WV)(fa:WS)(h:X5),(K w.params).In h->h.Ns X8 mg->mg d.name=A? (.ref fa) ->
  ∃(fd:Za)(c T:WS),(∀(s:WZ)(u:WV),BindsTo s fd ⟨[u],[]⟩ [(x,u)])/\PySem.W.tabIn (K w.params) tn=A? (c,T)/\(K w.params).lookup T=B? /\
    ∀base:X5,(K w.params).In base->base.Ns X8 mg->Lam mg base c T->FnOk l.prog w (K w.params) mg base (CX w) k fa fd [x] (sp w T))
 (B7:∀(w:Xv)(T:WS)(H:Hp)(a:WS)(ns:List Int),ns.length<=n->SqL (K w.params) H a (ns.map o!)->H T=A? (.tbl #[])->sp w T [.ref a] H (λv _=>v=.bl C?) λ_ _ _=>False)
 (Oe:∀(w:Xv)(H:Hp)(s:WZ)(e:WV)(s':WZ),CX w [] H s (λ_ _ _=>False) e s'->False) :
 PySem.W.WalkO q loose XP YP l.row.toRowW d [] (λf vs=>PySem.call f vs):=by
 refine Att.attach_call hn hdf λw s₀ Af mg mb fa o pm cd doc a vs ns G Y ho hd Co NC Hc hints hlen hg=>?_;have KX:=hY w _ Y;obtain⟨fd,c,T,hb,ht,Od,hF⟩:=F w mg fa _ KX G.T.g NC;obtain⟨hC,hT⟩:=PySem.W.tab_of G.T KX hq ht
 have BL:Af.heap.BuiltinsAt mg T:=by
  obtain⟨bm,ob,b1,b2,b3,b4,b5,b6⟩:=G.T.bmain;refine⟨bm,ob,b1,b2,λz=>?_,λz=>?_,b3,b4,b5,b6⟩
  .obtain⟨o',es,ep,e,d',_⟩:=G.T.g;rw[z,e]at b3;cases b3;rw[d']at b6;cases b6
  .rw[z,hT]at b3;cases b3;cases b4
 exact sM KX G.T.g G.T.b G.T.builtins G.T.nolimit hg Hc hints (Xh hlen JO) hr hC hT BL Od hF hb (λH hS Og=>B7 w T H a ns hlen hS Og) λH e s'=>Oe w H Af e s'
end L2
namespace BB
open PySem L2
def mS:Th->Option (Int×Int)
 |.knot _ _=>B?
 |.call s k=>A? (s,k)
def dC(t:Th):List (Int×Int):=t.walk.filterMap mS
def stT(t:Th):List Int:=(dC t).map (·.1)
def cm(ts:List Th):List Int:=ts.flatMap stT
theorem kX(s k:Int):stT (.call s k)=[s]:=rfl
theorem ir(n:Xk)(ks:List Th):stT (.knot n ks)=cm ks:=by
 unfold stT dC cm;rw[Th.walk,Zy];show((walks ks).filterMap mS).map (·.1)=_;induction ks with
 |nil=>rfl
 | cons t ts ih =>
   rw[walks,ZT,W8,ih];rfl
def iz(m:List Int)(s:Int):List Int:=if s∈m then m else m++[s]
def bE(m l:List Int):List Int:=l.foldl iz m
theorem eG(m a b:List Int):bE m (a++b)=bE (bE m a) b:=List.foldl_append
theorem p5(m:List Int)(s:Int):m <+: iz m s:=by
 unfold iz;split
 .exact List.prefix_refl _
 .exact List.prefix_append _ _
theorem gj(l:List Int):∀m:List Int,m <+: bE m l:=by
 induction l with
 |nil=>exactλm=>List.prefix_refl _
 |cons s l ih=>exactλm=>(p5 m s).trans (ih _)
theorem vo{m:List Int}{s x:Int}:x∈iz m s↔x∈m\/x=s:=by
 unfold iz;split
 .rename_i h
  exact⟨.inl,λz=>z.elim id λy=>y ▸ h⟩
 .rw[Xd,W0]
theorem dh{l:List Int}:∀{m:List Int}{x:Int},x∈bE m l↔x∈m\/x∈l:=by
 induction l with
 |nil=>intro m x;simp[bE]
 | cons s l ih =>
   intro m x;show x∈bE (iz m s) l↔_;rw[ih,vo,W6,or_assoc]
theorem vN{m:List Int}{s:Int}(h:m.Nodup):(iz m s).Nodup:=by
 unfold iz;split
 .exact h
 .rename_i hs
  refine Y5.mpr ⟨h,by simp,λa ha b hb e=>?_⟩;rw[W0.mp hb]at e;exact hs (e ▸ ha)
theorem qZ{l:List Int}:∀{m:List Int},m.Nodup->(bE m l).Nodup:=by
 induction l with
 |nil=>exactλh=>h
 |cons s l ih=>exactλh=>ih (vN h)
def bfs(R:Int->List Th):Nat->List Int->Nat->List Int
 |0,m,_=>m
 | n+1,m,i=>match m[i]? with
   |none=>m
   |some s=>bfs R n (bE m (cm (R s))) (i+1)
theorem gu(R:Int->List Th):∀(n:Nat)(m:List Int)(i:Nat),m <+: bfs R n m i
 |0,m,i=>List.prefix_refl _
 | n+1,m,i=>by
   rw[bfs];split
   .exact List.prefix_refl _
   .exact(gj _ _).trans (gu R n _ _)
theorem vp(R:Int->List Th):∀(n:Nat)(m:List Int)(i:Nat),m.Nodup->(bfs R n m i).Nodup
 |0,m,i,h=>h
 | n+1,m,i,h=>by
   rw[bfs];split
   .exact h
   .exact vp R n _ _ (qZ h)
theorem tT(R:Int->List Th)(p:Int->Prop)(hR:∀s,p s->∀x∈cm (R s),p x):∀(n:Nat)(m:List Int)(i:Nat),(∀x∈m,p x)->∀x∈bfs R n m i,p x
 |0,m,i,h=>h
 | n+1,m,i,h=>by
   rw[bfs];split
   .exact h
   .rename_i s hs
    refine tT R p hR n _ _ λx hx=>?_;rcases dh.mp hx with z|z
    .exact h x z
    .exact hR s (h s (WR hs)) x z
theorem wF(R:Int->List Th)(n:Nat)(m:List Int)(i:Nat)(h:m.length<=i):bfs R n m i=m:=by
 cases n with
 |zero=>rfl
 |succ n=>rw[bfs,XU h]
theorem lT:∀(n:Nat)(l:List Nat),l.Nodup->(∀x∈l,x<n)->l.length<=n
 | 0,l,_,h=>by
   cases l with
   |nil=>exact WX _
   |cons x l=>exact g! (h x (W4 ..)) (Nat.not_lt_zero _)
 | n+1,l,nd,h=>by
   by_cases hn:n∈l
   .have h1:=lT n (l.erase n) (nd.sublist (List.erase_sublist ..)) λx hx=>by
     have h2:=h x (List.mem_of_mem_erase hx)
     have h3:x≠n:=λz=>by
      rw[z]at hx;exact(List.Nodup.not_mem_erase nd) hx
     lia
    rw[List.length_erase_of_mem hn]at h1;lia
   .have h1:=lT n l nd λx hx=>by
     have h2:=h x hx;have h3:x≠n:=λz=>hn (z ▸ hx);lia
    lia
theorem sw{m:List Int}{S:Nat}(nd:m.Nodup)(h:∀x∈m,0<=x/\x<(S:Int)):m.length<=S:=by
 have h1:=lT S (m.map Int.toNat) (List.pairwise_map.mpr (nd.imp_of_mem λ{a b}ha hb Ay z=>Ay (by
  have:=h a ha;have:=h b hb
  lia))) λx hx=>by
   obtain⟨y,hy,rfl⟩:=Xn.mp hx;have:=h y hy;lia
 rw[WO]at h1;exact h1
def idx(M:List Int)(s:Int):Int:=(M.idxOf s:Nat)
theorem rJ{m M:List Int}(h:m <+: M){s:Int}(hs:s∈m):idx M s=idx m s:=by
 obtain⟨r,rfl⟩:=h;unfold idx;rw[List.idxOf_append,b! hs]
theorem yA{M:List Int}{s:Int}(hs:s∈M):0<=idx M s/\idx M s<(M.length:Int):=by
 have:=List.idxOf_lt_length_of_mem hs;unfold idx;lia
def ren(g:Int->Int)(t:Th):Th:=t.fill λs k=>.call (g s) k
theorem gh(g:Int->Int)(s k:Int):ren g (.call s k)=.call (g s) k:=by unfold ren;rw[x!]
theorem dP(f:Int->Int->Th):∀ts:List Th,fills f ts=ts.map (·.fill f)
 | []=>rfl
 |t::ts=>by rw[fills,dP f ts];rfl
theorem fU(g:Int->Int)(n:Xk)(ks:List Th):ren g (.knot n ks)=.knot n (ks.map (ren g)):=by
 unfold ren;rw[x!,dP]
theorem pT{t:Th}{x:Int}(ht:t∈ts)(hx:x∈stT t):x∈cm ts:=List.mem_flatMap.mpr ⟨t,ht,hx⟩
mutual
theorem qQ{g h:Int->Int}:∀t:Th,(∀s∈stT t,g s=h s)->ren g t=ren h t
 |.call s k,e=>by rw[gh,gh,e s (by rw[kX];exact W0.mpr rfl)]
 | .knot n ks,e=>by
   rw[fU,fU,rB ks λs hs=>e s (by rw[ir];exact hs)]
theorem rB{g h:Int->Int}:∀ts:List Th,(∀s∈cm ts,g s=h s)->ts.map (ren g)=ts.map (ren h)
 | [],_=>rfl
 | t::ts,e=>by
   rw[XC,XC,qQ t λs hs=>e s (XA _ hs),rB ts λs hs=>e s (Xu _ hs)]
end
mutual
theorem lR(g:Int->Int):∀t:Th,(ren g t).size=t.size/\(ren g t).tall=t.tall
 |.call s k=>by rw[gh,t!,t!,q!,q!];exact⟨D?,D?⟩
 | .knot n ks=>by
   have:=nz g ks;rw[fU,t!,t!,q!,q!,this.1,this.2];exact⟨D?,D?⟩
theorem nz(g:Int->Int):∀ts:List Th,ar (ts.map (ren g))=ar ts/\ax (ts.map (ren g))=ax ts
 | []=>⟨rfl,rfl⟩
 | t::ts=>by
   have h1:=lR g t;have h2:=nz g ts;rw[XC,ar,ar,ax,ax,h1.1,h1.2,h2.1,h2.2];exact⟨D?,D?⟩
end
def rowOf(rows:List (List Th))(s:Int):List Th:=rows.getD s.toNat []
section
variable{head:Th}{rows:List (List Th)}
theorem hG:∀(n:Nat)(m:List Int)(i:Nat),(bfs R n m i).length<i+n->(∀j s,j<i->m[j]?=A? s->∀x∈cm (R s),x∈bfs R n m i)->∀s∈bfs R n m i,∀x∈cm (R s),x∈bfs R n m i
 | 0,m,i,hl,h=>λs hs x hx=>by
   obtain⟨j,hj⟩:=Xg.mp hs;have Bs:=(glE hj);exact h j s (by rw[bfs]at hl Bs;lia) hj x hx
 | n+1,m,i,hl,h=>by
   rw[bfs]at hl h |-;cases hi:m[i]? with
   | none =>
     rw[hi]at h;intro s hs x hx;obtain⟨j,hj⟩:=Xg.mp (show s∈m from hs);have Bs:=(glE hj);have:=List.getElem?_eq_none_iff.mp hi;exact h j s (by lia) hj x hx
   | some s0 =>
     rw[hi]at hl h
     have Cn:(bfs R n (bE m (cm (R s0))) (i+1)).length<i+1+n:=by
      have:(bfs R n (bE m (cm (R s0))) (i+1)).length<i+(n+1):=hl;lia
     refine hG n (bE m (cm (R s0))) (i+1) Cn λj s hj Oi x hx=>?_;have hp:=gu R n (bE m (cm (R s0))) (i+1);have Br:=(glE hi)
     have hm:m[j]?=A? s:=by
      obtain⟨r,hr⟩:=gj (cm (R s0)) m;rw[<-hr,XJ (by lia)]at Oi;exact Oi
     by_cases Fo:j=i
     .rw[Fo,hi]at hm;cases hm;exact hp.subset (dh.mpr (.inr hx))
     .exact h j s (by lia) hm x hx
end
end BB
namespace L2
open PySem PySem.Spec PySem.SeqAt PyProof.Rows
theorem pL{k l:Key}{v:WV}(hu:gQ k u=C?)(hv:gQ l v=C?):EqAt A s u v (decide (k=l)):=by
 rcases bc hu with⟨i,t,rfl,rfl⟩|⟨x,t,rfl,rfl⟩
 .rcases bc hv with⟨j,t',rfl,rfl⟩|⟨y,t',rfl,rfl⟩
  .have:decide ((Xs i:Key)=Xs j)=(i == j):=by
    by_cases h:i=j
    .subst h;simp
    .rw[c! (λz=>h (Zt z)),beq_eq_false_iff_ne.mpr h]
   rw[this];exact EqAt.int_int i t j t'
  .rw[c! (λz=>nomatch z)];exact EqAt.int_str i t y t'
 .rcases bc hv with⟨j,t',rfl,rfl⟩|⟨y,t',rfl,rfl⟩
  .rw[c! (λz=>nomatch z)];exact EqAt.str_int x t j t'
  .have:decide ((ZW x:Key)=ZW y)=(x == y):=by
    by_cases h:x=y
    .subst h;simp
    .rw[c! (λz=>h (Sum.inr.inj z)),beq_eq_false_iff_ne.mpr h]
   rw[this];exact EqAt.str_str x t y t'
theorem jy:∀{ks:List Key}{vs:List WV}{j:Nat}{k:Key}{v:WV},ItemsAre (aC P w) ks vs->ks[j]?=A? k->vs[j]?=A? v->gQ k v=C?
 |_,_,0,k,v,.cons h _,e1,e2=>by cases e1;cases e2;exact h
 |_,_,j+1,k,v,.cons _ h,e1,e2=>jy (j:=j) h e1 e2
theorem se{x y:List Key}(hx:IsTupleKey (aC P w) s.1 x a)(hy:IsTupleKey (aC P w) s.1 y b)(hu:A.units<YJ):EqAt A s (.ref a) (.ref b) (decide (x=y)):=by
 by_cases Dl:a=b
 .subst Dl;obtain rfl:=hx.inj hy;rw[d! rfl];exact EqAt.same _
 .obtain⟨o,its,n,ho,hc,hd,hi⟩:=hx;obtain⟨o',its',n',BG,Bd,Cy,B0⟩:=hy;have p1:s.1.IsTuple a its.toList.toArray:=⟨o,ho,hc,n,by rw[hd]⟩;have p2:s.1.IsTuple b its'.toList.toArray:=⟨o',BG,Bd,n',by rw[Cy]⟩;have:=gZ (ds:=x) (es:=y) p1 p2 hi.length.symm B0.length.symm hu λj d e u v e1 e2 e3 e4=>pL (A:=A.in1) (s:=s) (jy hi e1 e3) (jy B0 e2 e4);exact EqAt.of_refs Dl this
abbrev cg:=List Key×Key
def IsNest(P:Xe)(w:Xv)(h:X5)(k:cg)(a:WS):Prop:=∃(o:YF)(n:Nat)(b:WS)(u:WV),h.get? a=A? o/\o.cls=.type "tuple"/\o.data=.seq #[.ref b,u] n/\IsTupleKey (aC P w) h k.1 b/\gQ k.2 u=C?
theorem IsNest.typeIs{k:cg}(x:IsNest P w s.1 k a):s.TypeIs (.ref a) "tuple":=let⟨o,_,_,_,ho,hc,_⟩:=x;⟨o,ho,hc⟩
theorem IsNest.inj{x y:cg}(hx:IsNest P w h x a)(hy:IsNest P w h y a):x=y:=by
 obtain⟨o,n,b,u,ho,_,hd,hb,hu⟩:=hx;obtain⟨o',n',b',u',BG,_,Cy,AV,B8⟩:=hy;obtain rfl:o=o':=Xl (ho.symm.trans BG);rw[hd]at Cy;injection Cy with h1 _;have h2:=h! Array.toList h1;cases h2;exact Prod.ext (hb.inj AV) ((aC P w).inj _ _ _ hu B8)
theorem IsNest.keeps{k:cg}{o:YF}{es ep}(x:IsNest P w h k a)(ho:h.get? d=A? o)(hd:o.data=.dict es ep)(hs:XW d h h'):IsNest P w h' k a:=by
 obtain⟨o',n,b,u,BG,hc,Cy,hb,hu⟩:=x
 have Ay:a≠d:=by
  rintro rfl;obtain rfl:o'=o:=Xl (BG.symm.trans ho);rw[hd]at Cy;exact nomatch Cy
 exact⟨o',n,b,u,(hs.2 a Ay).trans BG,hc,Cy,hb.keeps ho hd hs,hu⟩
theorem tN{x y:cg}(hx:IsNest P w s.1 x a)(hy:IsNest P w s.1 y b)(hu:A.units+1<YJ):EqAt A s (.ref a) (.ref b) (decide (x=y)):=by
 by_cases Dl:a=b
 .subst Dl;obtain rfl:=hx.inj hy;rw[d! rfl];exact EqAt.same _
 .obtain⟨o,n,c,u,ho,hc,hd,hb,hk⟩:=hx;obtain⟨o',n',c',u',BG,Bd,Cy,AV,AG⟩:=hy;have p1:s.1.IsTuple a [XG c,u].toArray:=⟨o,ho,hc,n,by rw[hd]⟩;have p2:s.1.IsTuple b [XG c',u'].toArray:=⟨o',BG,Bd,n',by rw[Cy]⟩
  have:=gZ (A:=A) (ds:=[Xs x.1,(ZW x.2:Sum (List Key) Key)]) (es:=[Xs y.1,ZW y.2]) p1 p2 rfl rfl (by lia) λj d e v v' e1 e2 e3 e4=>by
   match j with
   | 0 =>
     cases e1;cases e2;cases e3;cases e4;rw[show decide ((Xs x.1:Sum (List Key) Key)=Xs y.1)=decide (x.1=y.1)from decide_eq_decide.mpr ⟨λz=>Zt z,λz=>h! _ z⟩];exact se (A:=A.in1) hb AV (show A.units+1<YJ from hu)
   | 1 =>
     cases e1;cases e2;cases e3;cases e4;rw[show decide ((ZW x.2:Sum (List Key) Key)=ZW y.2)=decide (x.2=y.2)from decide_eq_decide.mpr ⟨λz=>Sum.inr.inj z,λz=>h! _ z⟩];exact pL (A:=A.in1) (s:=s) hk AG
   |j+2=>cases e1
  refine EqAt.of_refs Dl ?_
  rw[show decide (x=y)=decide ([Xs x.1,(ZW x.2:Sum (List Key) Key)]=[Xs y.1,ZW y.2])from decide_eq_decide.mpr ⟨λz=>by rw[z],λz=>by
   injection z with z1 z2;injection z2 with z2 _;exact Prod.ext (Zt z1) (Sum.inr.inj z2)⟩]
  exact this
def lp(P:Xe)(w:Xv)(k:cg):Int:=reduceHash (YW [tupleKeyHash (aC P w) k.1,(aC P w).hash k.2])
theorem pX{k:cg}{Q:Int->WZ->Prop}(hu:A.units+1<YJ)(hk:IsNest P w s.1 k a)(h:Q (lp P w k) {s with toks:=s.toks+(k.1.length+3)}) :
 Xc (Xy P w) A (pyHash (.ref a)) Q E s:=by
 have hT:=hk.typeIs;obtain⟨o,n,c,u,ho,hc,hd,hb,hk⟩:=hk;unfold pyHash
 first|unfold pyHashByItsType|skip
 first|refine WN (wpAny_cRoomFor_or (.inr (by lia)) ?_)|skip
 refine WN (Zx hT F.slot_tuple_hash.lookup ?_);show Xc _ _ (if(A? (Value.builtin "tuple.__hash__") == A? Yj)=C? then _ else _) Q E s;rw[a! (by rw[beq_builtin_none];exact Xm)];refine WN (Zx hT F.slot_tuple_hash.lookup ?_);show Xc _ _ (callSpecialIfBoundUnlessNone? (.ref a) "__hash__" _ >>= _) Q E s;refine WN (wpAny_callSpecialIfBoundUnlessNone?_slot hT F.slot_tuple_hash (XT F.slot_tuple_hash hT F.entry_tuple_hash ?_ (F.args_tuple_hash_1 _)));show Xc _ _ (Builtin.Tuple.tupleItemsOf (.ref a) >>= _) _ _ s;refine WN (wpAny_tupleItemsOf ho hd ?_);refine WN ?_;rw[<-Array.forIn_toList]
 refine wpAny_forIn_list _
  (λrest(b:Array Int)s'=>(rest=[.ref c,u]/\b=#[]/\s'=s)\/(rest=[u]/\b=#[tupleKeyHash (aC P w) k.1]/\s'={s with toks:=s.toks+(k.1.length+1)})\/(rest=[]/\b=#[tupleKeyHash (aC P w) k.1,(aC P w).hash k.2]/\s'={s with toks:=s.toks+(k.1.length+1)+1}))
  _ ?_ ?_ _ _ (.inl ⟨rfl,rfl,rfl⟩)
 .rintro x rest b s' (⟨e1,rfl,rfl⟩|⟨e1,rfl,rfl⟩|⟨e1,_⟩)
  .cases e1;refine WN (wpAny_pyHash_tuple (by show _<YJ;first|exact hu|lia) hb ?_)
   first
    |exact WW (.inr (.inl ⟨rfl,rfl,rfl⟩))
    |exact WN (WW (WW (.inr (.inl ⟨rfl,rfl,rfl⟩))))
  .cases e1;refine WN ((aC P w).pyHash hk ?_)
   first
    |exact WW (.inr (.inr ⟨rfl,rfl,rfl⟩))
    |exact WN (WW (WW (.inr (.inr ⟨rfl,rfl,rfl⟩))))
  .cases e1
 .rintro b s' (⟨e1,_⟩|⟨e1,_⟩|⟨_,rfl,rfl⟩)
  .cases e1
  .cases e1
  show Xc _ _ (retInt (YW [tupleKeyHash (aC P w) k.1,(aC P w).hash k.2])) _ _ _;refine wpAny_ret_mkInt ?_;show Xc _ _ (if(decide (-(2:Int) ^ 63<=YW [tupleKeyHash (aC P w) k.1,(aC P w).hash k.2]) && decide (YW [tupleKeyHash (aC P w) k.1,(aC P w).hash k.2]<2 ^ 63))=C? then _ else _) Q E _;unfold lp reduceHash at h;by_cases hr:(decide (-(2:Int) ^ 63<=YW [tupleKeyHash (aC P w) k.1,(aC P w).hash k.2]) && decide (YW [tupleKeyHash (aC P w) k.1,(aC P w).hash k.2]<2 ^ 63))=C?
  .rw[b! hr];rw[b! hr]at h;exact WW (by simpa[Nat.add_assoc]using h)
  .rw[a! hr];rw[a! hr]at h;exact WN (wpAny_rule (WW (by simpa[Nat.add_assoc]using h)))
theorem qT{ks:List Key}{Q:Bool->WZ->Prop}(hk:IsTupleKey (aC P w) s.1 ks a)(h:Q C? s):Xc (Xy P w) A (eqIsQuiet (m+1) (.ref a)) Q E s:=by
 have hT:=hk.typeIs;obtain⟨o,items,n,ho,_,hd,hi⟩:=hk;unfold eqIsQuiet;refine WN (Zx hT F.slot_tuple_eq.lookup ?_);show Xc _ _ (isInstance (.ref a) (.type "tuple") >>= _) _ _ s;refine WN (ZN hT isSubtype_tuple_tuple ?_);simp only[Bool.not_true,X6,if_false];refine WN (YB ho hd ?_);refine WN ?_;show Xc _ _ (forIn items _ _) _ _ s;rw[<-Array.forIn_toList];refine wpAny_forIn_list _ (λrest r s'=>r.1=B?/\s'=s/\∀v∈rest,carriedByValue v=C?) _ ?_ ?_ _ _ ⟨rfl,rfl,hi.byValue⟩
 .rintro v rest r s' ⟨hr,rfl,Ag⟩;rw[eqIsQuiet_byValue _ (Ag v W4)];refine WN (WW ?_);simp only[Bool.not_true,X6,if_false];exact WW ⟨rfl,rfl,λu B8=>Ag u (WT _ B8)⟩
 .rintro⟨r1,r2⟩ s' ⟨hr,rfl,_⟩;simp only at hr;subst hr;exact WW h
theorem qU{k:cg}{Q:Bool->WZ->Prop}(hk:IsNest P w s.1 k a)(h:Q C? s):Xc (Xy P w) A (eqIsQuiet 8 (.ref a)) Q E s:=by
 have hT:=hk.typeIs;obtain⟨o,n,c,u,ho,hc,hd,hb,hk⟩:=hk;unfold eqIsQuiet;refine WN (Zx hT F.slot_tuple_eq.lookup ?_);show Xc _ _ (isInstance (.ref a) (.type "tuple") >>= _) _ _ s;refine WN (ZN hT isSubtype_tuple_tuple ?_);simp only[Bool.not_true,X6,if_false];refine WN (YB ho hd ?_);refine WN ?_;show Xc _ _ (forIn #[XG c,u] _ _) _ _ s;rw[<-Array.forIn_toList];refine wpAny_forIn_list _ (λrest r s'=>r.1=B?/\s'=s/\∀v∈rest,v=.ref c\/v=u) _ ?_ ?_ _ _ ⟨rfl,rfl,λv hv=>by simpa using hv⟩
 .rintro v rest r s' ⟨hr,rfl,Ag⟩;have GD:∀z∈rest,z=.ref c\/z=u:=λz hz=>Ag z (WT _ hz);rcases Ag v W4 with rfl|rfl
  .refine WN (qT hb ?_);simp only[Bool.not_true,X6,if_false];exact WW ⟨rfl,rfl,GD⟩
  .rw[eqIsQuiet_byValue _ ((aC P w).byValue _ _ hk)];refine WN (WW ?_);simp only[Bool.not_true,X6,if_false];exact WW ⟨rfl,rfl,GD⟩
 .rintro⟨r1,r2⟩ s' ⟨hr,rfl,_⟩;simp only at hr;subst hr;exact WW h
def eX(P:Xe)(w:Xv):HeapKind P w cg where
 is:=IsNest P w
 hash:=lp P w
 draws:=λk=>k.1.length+3
 room:=λA=>A.units+1<YJ
 inj:=λhx hy=>hx.inj hy
 keeps:=λx ho hd hs=>x.keeps ho hd hs
 pyHash:=λhu hk h=>pX hu hk h
 eqBool:=λhu hx hy h=>tN hx hy hu _ _ _ _ h
 quiet:=λhk h=>qU hk h
def tJ(P:Xe)(w:Xv)(xs:List (cg×WS×WV))(a:WS)(h:X5):Prop:=∃o es ep,h.get? a=A? o/\o.ExactDict/\o.data=.dict es ep/\es.toList=xs.map (entryOfKey (eX P w))/\(xs.map (·.1)).Nodup
def NKAt(H:Hp)(k:cg)(b:WS):Prop:=∃c,H b=A? (.tup [.ref c,kV k.2])/\H c=A? (.tup (k.1.map kV))
abbrev KTn(H:Hp):List (cg×V)->List (cg×WS×WV)->Prop:=XH λp q=>p.1=q.1/\NKAt H q.1 q.2.1/\RelV p.2 q.2.2
def DN(P:Xe)(w:Xv)(H:Hp)(a:WS)(kvs:List (cg×V)):Prop:=kvs.length<=Xj/\(a == Yr)=CG/\∃xs φ,H a=A? (.ext φ)/\(∀h,φ h->tJ P w xs a h)/\KTn H kvs xs
theorem NKAt.mono(k:BB.KT H H'){n:cg}(h:NKAt H n b):NKAt H' n b:=by
 obtain⟨c,h1,h2⟩:=h;exact⟨c,k _ _ h1,k _ _ h2⟩
theorem KTn.mono(k:BB.KT H H'){kvs:List (cg×V)}{xs:List (cg×WS×WV)}(r:KTn H kvs xs):KTn H' kvs xs:=XH.mapP r λ_ _ z=>⟨z.1,z.2.1.mono k,z.2.2⟩
theorem DN.mono(s:Same H H'){kvs:List (cg×V)}(h:DN P w H a kvs):DN P w H' a kvs:=by
 obtain⟨z,hd,xs,φ,e,f,r⟩:=h;exact⟨z,hd,xs,φ,s _ _ e,f,KTn.mono (k! s) r⟩
theorem oB{k:cg}(ok:HOk P w H h)(e:NKAt H k b):IsNest P w h k b:=by
 obtain⟨c,h1,h2⟩:=e;obtain⟨_,its,n,r,e1⟩:=(show ObjOk P w H h b (.tup [.ref c,kV k.2])from ok b _ h1);cases r with
 |cons r1 r =>
 cases r with
 |cons r2 r =>
 cases r;cases r1;exact⟨_,n,c,_,e1,D?,D?,ig ok h2,kE (P:=P) (w:=w) r2⟩
theorem w9{kvs:List (cg×V)}(ok:HOk P w H h)(e:DN P w H a kvs):kvs.length<=Xj/\(a == Yr)=CG/\∃xs φ,H a=A? (.ext φ)/\KTn H kvs xs/\h.DictOfH (eX P w) a xs:=by
 obtain⟨z,y,xs,φ,ea,f,r⟩:=e;obtain⟨o,es,ep,h1,h2,h3,h4,h5⟩:=f h (ok a _ ea).1;refine⟨z,y,xs,φ,ea,r,o,es,ep,h1,h2,h3,h4,λx hx=>?_,h5⟩
 have all:∀{l:List (cg×V)}{m:List (cg×WS×WV)},KTn H l m->∀x∈m,(eX P w).is h x.1 x.2.1:=by
  intro l m q;induction q with
  |nil=>intro x hx;exact nomatch hx
  | @cons p q ps qs hq t ih =>
    intro x hx;rcases W6.mp hx with e|hx
    .subst e;exact oB ok hq.2.1
    .exact ih x hx
 exact all r x hx
theorem KTn.val{kvs:List (cg×V)}{xs:List (cg×WS×WV)}(r:KTn H kvs xs)(k:cg):RelO (aM kvs k) ((atKey xs k).map (·.2)):=by
 induction r with
 |nil=>exact Z3
 | @cons p q ps qs hq t ih =>
   by_cases e:p.1=k
   .rw[bq e];have:atKey (q::qs) k=A? q.2:=by simp[atKey,Zp,<-hq.1,e]
    rw[this];exact hq.2.2
   .rw[bA e];have:atKey (q::qs) k=atKey qs k:=by simp[atKey,Zp,<-hq.1,e]
    rw[this];exact ih
theorem KTn.put{kvs:List (cg×V)}{xs:List (cg×WS×WV)}(r:KTn H kvs xs)(k:cg)(hb:NKAt H k b)(ry:RelV y u):KTn H (putK kvs k y) (storedH xs k b u):=by
 have hv:=KTn.val r k;cases e:aM kvs k with
 | none =>
   rw[e]at hv
   have hn:atKey xs k=none:=by
    cases q:atKey xs k with
    |none=>rfl
    |some p=>rw[q]at hv;exact hv.elim
   rw[la y e,storedH_new hn];exact r! r (.cons ⟨rfl,hb,ry⟩ .nil)
 | some v0 =>
   rw[e]at hv
   obtain⟨p,hp⟩:∃p,atKey xs k=A? p:=by
    cases q:atKey xs k with
    |none=>rw[q]at hv;exact hv.elim
    |some p=>exact⟨p,D?⟩
   rw[storedH_old hp];unfold putK;rw[b! (by rw[eR,e];rfl)]
   have all:∀{l:List (cg×V)}{m:List (cg×WS×WV)},KTn H l m->KTn H (l.map λkv=>if kv.1=k then(kv.1,y)else kv) (m.map (putAt k u)):=by
    intro l m q;induction q with
    |nil=>exact .nil
    | @cons p q ps qs hq t ih =>
      refine .cons ?_ ih;unfold putAt;dsimp only;by_cases z:p.1=k
      .rw[b! z,b! (by rw[<-hq.1];exact z)];exact⟨hq.1,hq.2.1,ry⟩
      .rw[a! z,a! (by rw[<-hq.1];exact z)];exact hq
   exact all r
section
variable{X:Cx}{o i value:X3}{td ty tv:TE}
inductive u5(P:Xe)(w:Xv)(x y:V)(H:Hp)(Q:VK):Prop
 |mk (a b:WS) (k:cg) (kvs:List (cg×V)) (v:V) (z0:x=.ref a) (z1:y=.ref b) (z2:DN P w H a kvs) (z3:NKAt H k b) (z4:aM kvs k=A? v) (z5:Q v H):u5 P w x y H Q
def yk(P:Xe)(w:Xv)(td ty:TE):TE:=λY H Q=>td Y H λx H1=>ty Y H1 λy H2=>u5 P w x y H2 Q
theorem uT(hu:X.A.units+2<YJ)(ho:PE X o td)(hi:PE X i ty)(hs:ym i):PE X (.Subscript o i pos) (yk X.prog X.w td ty):=by
 intro Z s Y H Q I h;refine rh PySem.F.slot_dict_getitem.lookup hs (thn (ho Z s Y H _ I h) λu s1⟨x,H1,I1,rx,q1⟩=>thn (hi Z s1 Y H1 _ I1 q1) λiv s2⟨y,H2,I2,ry,q2⟩=>?_);obtain⟨a,b,k,kvs,v,rfl,rfl,hd,hk,hv,q⟩:=q2;obtain rfl:u=XG a:=rx;obtain rfl:iv=XG b:=ry;obtain⟨_,_,xs,φ,ea,rel,dd⟩:=w9 I2.hok hd;obtain⟨w',hw,DO⟩:=RelO.some_of (v:=v) (o:=(atKey xs k).map (·.2)) (by rw[<-hv];exact KTn.val rel k);obtain⟨p,hp,CN⟩:=Yi.mp hw;refine⟨dd.typeIs,wpAny_getItem_heap (knd:=eX X.prog X.w) (show X.A.units+1+1<YJ from hu) (oB I2.hok hk) dd hp ?_⟩;rw[CN];exact⟨v,H2,I2.tok _,DO,q⟩
inductive vn(P:Xe)(w:Xv)(x y v:V)(H:Hp)(R:Hp->Prop):Prop
 |mk (a b:WS) (k:cg) (kvs:List (cg×V)) (z0:x=.ref a) (z1:y=.ref b) (z2:DN P w H a kvs) (z3:NKAt H k b) (z4:kvs.length<Xj) (z5:∀H',(∀c o,c≠a->H c=A? o->H' c=A? o)->DN P w H' a (putK kvs k v)->R H'):vn P w x y v H R
def xW(P:Xe)(w:Xv)(td ty tv:TE):TS:=λD Y H=>tv Y H λv H1=>td Y H1 λx H2=>ty Y H2 λy H3=>vn P w x y v H3 λH4=>D.nx Y H4
theorem vm(hu:X.A.units+2<YJ)(ho:PE X o td)(hi:PE X i ty)(hv:PE X value tv)(hs:swapsWith value (A? (.Subscript o i pos')) pos.line X.env=pure CG) :
 PS X (.Assign [.Subscript o i pos'] value pos) (xW X.prog X.w td ty tv):=by
 intro Z s Y H D I h;refine wpAny_Assign_Subscript (thn (hv Z s Y H _ I h) λr s1⟨v,H1,I1,rv,q1⟩=>thn (ho Z s1 Y H1 _ I1 q1) λu s2⟨x,H2,I2,rx,q2⟩=>thn (hi Z s2 Y H2 _ I2 q2) λiv s3⟨y,H3,I3,ry,q3⟩=>?_) hs;obtain⟨a,b,k,kvs,rfl,rfl,hd,hk,hl,q⟩:=q3;obtain rfl:u=XG a:=rx;obtain rfl:iv=XG b:=ry;obtain⟨z,Cy,xs,φ,ea,rel,dd⟩:=w9 I3.hok hd;have hz:xs.length<=Xj:=by rw[<-Xa rel];exact z
 have Cn:(putK kvs k v).length<=Xj:=by have:=bG kvs k v;lia
 refine wpAny_setItem_heap (knd:=eX X.prog X.w) (hsz:=hz) (show X.A.units+1+1<YJ from hu) (oB I3.hok hk) dd λh' EE hs=>?_;obtain⟨ob,es,ep,hq,h2,h3,h4,_,h5⟩:=EE;have ne:tJ X.prog X.w (storedH xs k b r) a h':=⟨ob,es,ep,hq,h2,h3,h4,h5⟩
 have I4:=iE (ob:=.ext (tJ X.prog X.w (storedH xs k b r) a)) (t':=s3.toks+(eX X.prog X.w).draws k) I3 (by rw[ea];exact Z3) hs ⟨ob,hq⟩ ⟨ne,⟨ob,hq⟩,λh1 h2 p kk=>by
  obtain⟨o1,Oj,Ol,g1,g2⟩:=p;exact⟨o1,Oj,Ol,kk _ g1,g2⟩⟩
 have kt:BB.KT H3 (upd H3 a (.ext (tJ X.prog X.w (storedH xs k b r) a))):=λc ys ec=>by
  rw[af (aF ec ea (λz=>nomatch z))];exact ec
 exact⟨Y,_,I4,q _ (λc o hc e=>by rw[af hc];exact e) ⟨Cn,Cy,_,_,ad,λ_ p=>p,KTn.mono kt (KTn.put rel k hk rv)⟩⟩
def xU(P:Xe)(w:Xv):TE:=λ_ H Q=>∀p H',H p=B?->Same H H'->DN P w H' p []->Q (.ref p) H'
theorem uv:PE X (.Dict [] [] pos) (xU X.prog X.w):=λZ s Y H Q I h=>by
 have hn:H s.1.1.size=none:=I.hok.fresh (WX _);have ne:tJ X.prog X.w [] s.1.1.size (s.1.push {cls:=.type "dict",data:=.dict #[]}):=⟨_,#[],0,W2 _ rfl,⟨rfl,rfl,rfl⟩,rfl,rfl,ZH⟩;refine wpAny_Dict_empty ⟨.ref s.1.1.size,_,I.laid (a:=s.1.1.size) (o:=.ext (tJ X.prog X.w [] s.1.1.size)) (t':=s.toks) (λ_ _ q=>WU _ q) (WX _) ⟨ne,⟨_,W2 _ rfl⟩,λh1 h2 p kk=>?_⟩,rfl,h _ _ hn (aj hn _) ⟨Xr _,beq_eq_false_iff_ne.mpr (Zb (XD I.big)),[],_,ad,λ_ p=>p,.nil⟩⟩;obtain⟨o1,Oj,Ol,g1,g2⟩:=p;exact⟨o1,Oj,Ol,kk _ g1,g2⟩
end
end L2
namespace BB
open PySem L2
mutual
def AtG(r:Rep)(H:Hp):Th->WS->Prop
 |.knot n ks,a=>n≠q/\∃as:List WS,H a=A? (.tup (.str n::as.map i!))/\AtsG r H ks as
 |.call s k,a=>∃v,H a=A? (.tup [.str q,v,.int k])/\StV r H s v
def AtsG(r:Rep)(H:Hp):List Th->List WS->Prop
 | [],as=>as=[]
 |t::ts,as=>∃a z,as=a::z/\AtG r H t a/\AtsG r H ts z
end
mutual
theorem AtG.mono(k:KT H H'):∀{t:Th}{a:WS},AtG r H t a->AtG r H' t a
 | .knot n ks,a,h=>by
   rw[AtG]at h |-;obtain⟨h0,as,h1,h2⟩:=h;exact⟨h0,as,k _ _ h1,AtsG.mono k h2⟩
 | .call s c,a,h=>by
   rw[AtG]at h |-;obtain⟨v,h1,h2⟩:=h;exact⟨v,k _ _ h1,h2.mono k⟩
theorem AtsG.mono(k:KT H H'):∀{ts:List Th}{as:List WS},AtsG r H ts as->AtsG r H' ts as
 | [],as,h=>by rw[AtsG]at h |-;exact h
 | t::ts,as,h=>by
   rw[AtsG]at h |-;obtain⟨a,r,e,h1,h2⟩:=h;exact⟨a,r,e,AtG.mono k h1,AtsG.mono k h2⟩
end
theorem AtsG.nil:AtsG r H [] []:=by rw[AtsG]
theorem AtsG.cons{t:Th}(h1:AtG r H t a)(h2:AtsG r H ts as):AtsG r H (t::ts) (a::as):=by rw[AtsG];exact⟨a,as,D?,h1,h2⟩
theorem AtsG.append:∀{ts us:List Th}{as bs:List WS},AtsG r H ts as->AtsG r H us bs->AtsG r H (ts++us) (as++bs)
 | [],us,as,bs,h,g=>by rw[AtsG]at h;subst h;exact g
 | t::ts,us,as,bs,h,g=>by
   rw[AtsG]at h;obtain⟨a,r,rfl,h1,h2⟩:=h;exact .cons h1 (h2.append g)
theorem AtsG.length:∀{ts:List Th}{as:List WS},AtsG r H ts as->as.length=ts.length
 | [],as,h=>by rw[AtsG]at h;subst h;rfl
 | t::ts,as,h=>by
   rw[AtsG]at h;obtain⟨a,r,rfl,h1,h2⟩:=h;rw[Xf,Xf,h2.length]
theorem AtsG.reverse:∀{ts:List Th}{as:List WS},AtsG r H ts as->AtsG r H ts.reverse as.reverse
 | [],as,h=>by rw[AtsG]at h;subst h;exact .nil
 | t::ts,as,h=>by
   rw[AtsG]at h;obtain⟨a,r,rfl,h1,h2⟩:=h;rw[XZ,XZ];exact h2.reverse.append (.cons h1 .nil)
theorem AtsG.get:∀{ts:List Th}{as:List WS}{i:Nat}{a:WS},AtsG r H ts as->as[i]?=A? a->∃t,ts[i]?=A? t/\AtG r H t a
 | [],as,i,a,h,e=>by rw[AtsG]at h;subst h;simp at e
 | t::ts,as,i,a,h,e=>by
   rw[AtsG]at h;obtain⟨b,r,rfl,h1,h2⟩:=h;cases i with
   |zero=>simp at e;subst e;exact⟨t,D?,h1⟩
   |succ i=>exact h2.get (i:=i) (by simpa using e)
theorem AtsG.at:∀{ts:List Th}{as:List WS}{i:Nat}{t:Th},AtsG r H ts as->ts[i]?=A? t->∃a,as[i]?=A? a/\AtG r H t a
 | [],as,i,a,h,e=>by simp at e
 | t::ts,as,i,a,h,e=>by
   rw[AtsG]at h;obtain⟨b,r,rfl,h1,h2⟩:=h;cases i with
   |zero=>simp at e;subst e;exact⟨b,D?,h1⟩
   |succ i=>exact h2.at (i:=i) (by simpa using e)
theorem AtsG.snoc_inv(h:AtsG r H ts (as++[a])):∃us t,ts=us++[t]/\AtsG r H us as/\AtG r H t a:=by
 have r:=h.reverse;rw[YO,List.reverse_singleton,List.singleton_append]at r;cases e:ts.reverse with
 |nil=>rw[e,AtsG]at r;cases r
 | cons t us =>
   rw[e,AtsG]at r;obtain⟨b,z,e1,h1,h2⟩:=r;cases e1;refine⟨us.reverse,t,?_,?_,h1⟩
   .rw[<-XZ,<-e,YY]
   .have:=h2.reverse;rw[YY]at this;exact this
theorem AtG.tup{t:Th}(h:AtG r H t a):∃n z,H a=A? (.tup (.str n::z)):=by
 cases t with
 |knot n ks=>rw[AtG]at h;obtain⟨_,as,h1,_⟩:=h;exact⟨n,_,h1⟩
 |call s k=>rw[AtG]at h;obtain⟨v,h1,_⟩:=h;exact⟨q,_,h1⟩
mutual
theorem At.g:∀{t:Th}{a:WS},At H t a->AtG .i H t a
 | .knot n ks,a,h=>by
   rw[At]at h;rw[AtG];obtain⟨h0,as,h1,h2⟩:=h;exact⟨h0,as,h1,Ats.g h2⟩
 | .call s c,a,h=>by
   rw[At]at h;rw[AtG];exact⟨_,h,D?⟩
theorem Ats.g:∀{ts:List Th}{as:List WS},Ats H ts as->AtsG .i H ts as
 | [],as,h=>by rw[Ats]at h;rw[AtsG];exact h
 | t::ts,as,h=>by
   rw[Ats]at h;rw[AtsG];obtain⟨a,z,e,h1,h2⟩:=h;exact⟨a,z,e,At.g h1,Ats.g h2⟩
end
mutual
theorem AtG.i:∀{t:Th}{a:WS},AtG .i H t a->At H t a
 | .knot n ks,a,h=>by
   rw[AtG]at h;rw[At];obtain⟨h0,as,h1,h2⟩:=h;exact⟨h0,as,h1,AtsG.i h2⟩
 | .call s c,a,h=>by
   rw[AtG]at h;rw[At];obtain⟨v,h1,h2⟩:=h;rw[show v=o! s from h2]at h1;exact h1
theorem AtsG.i:∀{ts:List Th}{as:List WS},AtsG .i H ts as->Ats H ts as
 | [],as,h=>by rw[AtsG]at h;rw[Ats];exact h
 | t::ts,as,h=>by
   rw[AtsG]at h;rw[Ats];obtain⟨a,z,e,h1,h2⟩:=h;exact⟨a,z,e,AtG.i h1,AtsG.i h2⟩
end
def TopAtG(r:Rep)(H:Hp):Top->WS->Prop
 |.nm n m,a=>∃ta,H a=A? (.tup [.ref ta,.int (m:Nat)])/\n≠q/\H ta=A? (.tup [.str n])
 |.th t,a=>∃ta,H a=A? (.tup [.ref ta,.int 0])/\AtG r H t ta
theorem TopAtG.mono(k:KT H H'):∀{x:Top}{a:WS},TopAtG r H x a->TopAtG r H' x a
 | .nm n m,a,h=>by
   obtain⟨ta,h1,h2,h3⟩:=h;exact⟨ta,k _ _ h1,h2,k _ _ h3⟩
 | .th t,a,h=>by
   obtain⟨ta,h1,h2⟩:=h;exact⟨ta,k _ _ h1,h2.mono k⟩
theorem gY(k:KT H H'){xs:List Top}(h:XH (TopAtG r H) xs as):XH (TopAtG r H') xs as:=v! (λ_ _ e=>e.mono k) h
theorem AtG.width{t:Th}(h:AtG r H t a)(ha:H a=A? (.tup xs)):xs.length<=t.size+2:=by
 cases t with
 | knot n ks =>
   rw[AtG]at h;obtain⟨_,as,h1,h2⟩:=h;rw[ha]at h1;cases h1;have:=h2.length;have:=cL ks;rw[Xf,WO,t!];lia
 | call s k =>
   rw[AtG]at h;obtain⟨v,h1,_⟩:=h;rw[ha]at h1;cases h1;rw[t!];exact WX _
theorem AtG.same{t:Th}(h:AtG r H t a)(ha:H a=A? (.tup xs))(hb:H b=A? (.tup xs)):AtG r H t b:=by
 cases t with
 | knot n ks =>
   rw[AtG]at h |-;obtain⟨h0,as,h1,h2⟩:=h;rw[ha]at h1;cases h1;exact⟨h0,as,hb,h2⟩
 | call s k =>
   rw[AtG]at h |-;obtain⟨v,h1,h2⟩:=h;rw[ha]at h1;cases h1;exact⟨v,hb,h2⟩
def bN(fs:List (Int->Th))(s c:Int):Th:=(fs.getD c.toNat λ_=>.knot (W5 "") []) s
mutual
def b7(pat:Int->Xk->Th):Th->Int->Th
 |.call l h,s=>.call (enc s l) h
 |.knot n ts,s=>(pat s n).fill (bN (bM pat ts))
def bM(pat:Int->Xk->Th):List Th->List (Int->Th)
 | []=>[]
 |t::ts=>b7 pat t::bM pat ts
end
theorem bT(pat:Int->Xk->Th):∀ts:List Th,bM pat ts=ts.map (b7 pat)
 | []=>by rw[bM];rfl
 |t::ts=>by rw[bM,bT pat ts];rfl
def made(pat:Int->Xk->Th)(p k:Th):Th:=p.fill (bN (bM pat k.kids))
theorem dO(pat:Int->Xk->Th)(n:Xk)(ks:List Th)(k:Th):made pat (.knot n ks) k=.knot n (ks.map λp=>made pat p k):=by
 unfold made;rw[x!,dP]
theorem eY(pat:Int->Xk->Th){s:Int}{k k':Th}(h:k.kids[c.toNat]?=A? k'):made pat (.call s c) k=b7 pat k' s:=by
 unfold made;rw[x!];unfold bN;rw[bT,ZS,W3,h];rfl
theorem gC(pat:Int->Xk->Th)(l h s:Int):b7 pat (.call l h) s=.call (enc s l) h:=by rw[b7]
theorem cK(pat:Int->Xk->Th)(n:Xk)(ts:List Th)(s:Int):b7 pat (.knot n ts) s=made pat (pat s n) (.knot n ts):=by
 rw[b7];rfl
theorem FitSs.mem'{ks:List (Xk×Int)}:∀{ts:List Th},FitSs ks S C ts->∀t∈ts,t.FitS ks S C
 | [],_,t,ht=>by cases ht
 | u::us,h,t,ht=>by
   rw[FitSs]at h;rcases W6.mp ht with e|e
   .rw[e];exact h.1
   .exact FitSs.mem' h.2 t e
def aJ(ins:List (Xk×Int))(rows:List (List Th))(s:Int)(n:Xk):Th:=(rowOf rows s).getD ((ins.map (·.1)).idxOf n) (.knot (W5 "") [])
theorem iS(g:aH ins){rows:List (List Th)}{s:Int}{row:List Th}{n:Xk}{m:Int}(hr:rows[s.toNat]?=A? row)(hj:ins[j]?=A? (n,m))(hp:row[j]?=A? p):aJ ins rows s n=p:=by
 have h1:(ins.map (·.1))[j]?=A? n:=by rw[W3,hj];rfl
 obtain⟨hl,he⟩:=Xx.mp h1;have h2:(ins.map (·.1)).idxOf n=j:=by rw[<-he];exact List.Nodup.idxOf_getElem (o9 g) j hl
 unfold aJ rowOf;rw[h2,ZS,ZS,hr];show(row[j]?).getD _=p;rw[hp];rfl
structure il(ins outs:List (Xk×Int))(S:Int)(rows:List (List Th)):Prop where
 len:(rows.length:Int)=S
 row:∀row∈rows,row.length=ins.length/\∀(j:Nat)(p:Th)(k:Xk×Int),row[j]?=A? p->ins[j]?=A? k->p.FitS outs S k.2
theorem BookOk.fitB{d:Nat}{head:Th}{rows:List (List Th)}(h:BookOk ins outs S d head rows):il ins outs S rows :=
 ⟨h.len,λrow hr=>⟨(h.row row hr).len,λj p k hp hk=>((h.row row hr).fit j p k hp hk).1⟩⟩
structure Lead(ins outs:List (Xk×Int))(S S1:Int)(p k:Th):Prop where
 fit:p.FitS outs S (k.kids.length:Int)
 kid:∀u∈k.kids,∃C,u.FitS ins S1 C
theorem Lead.call{s:Int}{k:Th}(h:Lead ins outs S S1 (.call s c) k):0<=s/\s<S/\0<=c/\∃k',k.kids[c.toNat]?=A? k'/\k'∈k.kids:=by
 have:=h.fit;rw[p!]at this;obtain⟨h0,h1,h2,h3⟩:=this;have hl:c.toNat<k.kids.length:=by lia
 exact⟨h0,h1,h2,_,WQ hl,Zh hl⟩
theorem Lead.next{rows:List (List Th)}(g:aH ins)(ok:il ins outs S rows){s:Int}{k:Th}{n:Xk}(h:Lead ins outs S S1 (.call s c) k)(hk:k.kids[c.toNat]?=A? (.knot n ts)) :
 ∃(j:Nat)(row:List Th)(p:Th),ins[j]?=A? (n,(ts.length:Int))/\rows[s.toNat]?=A? row/\row[j]?=A? p/\aJ ins rows s n=p/\Lead ins outs S S1 p (.knot n ts)/\made (aJ ins rows) (.call s c) k=made (aJ ins rows) p (.knot n ts):=by
 obtain⟨h0,h1,h2,k',AG,hm⟩:=h.call;rw[hk]at AG;cases AG;obtain⟨C,hC⟩:=h.kid _ hm;rw[p!]at hC;obtain⟨j,hj⟩:=Xg.mp hC.1;have hl:=ok.len;have hs:s.toNat<rows.length:=by lia
 have hr:=WQ hs;have Rt:=ok.row _ (Zh hs);have Bs:=(glE hj);obtain⟨p,hp⟩:∃p,(rows[s.toNat])[j]?=A? p:=⟨_,WQ (by rw[Rt.1];exact Bs)⟩;have hf:=Rt.2 j _ _ hp hj;have B9:=iS g hr hj hp;refine⟨j,_,_,hj,hr,hp,B9,⟨hf,λu hu=>⟨C,FitSs.mem' hC.2 u hu⟩⟩,?_⟩;rw[eY _ hk,cK,B9]
mutual
def cnT:Th->Nat
 |.knot _ ks=>cF ks
 |.call _ _=>1
def cF:List Th->Nat
 | []=>0
 |t::ts=>cnT t+cF ts
end
structure Small(t:Th):Prop where
 tall:t.tall<=20
 kn:t.kn<=400
 cn:cnT t<=200
theorem zA(t:Th):t.kn=(if t.isCall=C? then 0 else 1)+kns t.kids:=by
 cases t with
 |knot n ks=>rw[Th.kn,Th.isCall,Th.kids,a! Xm];lia
 |call s k=>rw[Th.kn,Th.isCall,Th.kids,b! rfl,kns]
theorem zk(t:Th):cnT t=(if t.isCall=C? then 1 else 0)+cF t.kids:=by
 cases t with
 |knot n ks=>rw[cnT,Th.isCall,Th.kids,a! Xm];lia
 |call s k=>rw[cnT,Th.isCall,Th.kids,b! rfl,cF]
theorem g9(a b:List Th):kns (a++b)=kns a+kns b:=by
 induction a with
 |nil=>rw[List.nil_append,kns];lia
 |cons x a ih=>rw[YU,kns,kns,ih];lia
theorem fZ(a b:List Th):cF (a++b)=cF a+cF b:=by
 induction a with
 |nil=>rw[List.nil_append,cF];lia
 |cons x a ih=>rw[YU,cF,cF,ih];lia
theorem wc(l:List Th):kns l.reverse=kns l:=by
 induction l with
 |nil=>rfl
 |cons t l ih=>rw[XZ,g9,ih,kns,kns,kns];lia
theorem uU(l:List Th):cF l.reverse=cF l:=by
 induction l with
 |nil=>rfl
 |cons t l ih=>rw[XZ,fZ,ih,cF,cF,cF];lia
mutual
theorem nV:∀t:Th,t.size=t.kn+cnT t
 |.knot n ks=>by rw[t!,Th.kn,cnT,pG ks];lia
 |.call s k=>by rw[t!,Th.kn,cnT]
theorem pG:∀ts:List Th,ar ts=kns ts+cF ts
 | []=>by rw[ar,kns,cF]
 |t::ts=>by rw[ar,kns,cF,nV t,pG ts];lia
end
theorem Small.size{t:Th}(h:Small t):t.size<=600:=by
 have:=nV t;have:=h.kn;have:=h.cn;lia
structure MInv(o:Th)(done:List Th)(js:List Job)(k c:Int):Prop where
 wk:done++walks (jos js).reverse=o.walk
 low:∀j∈js,j.r+j.o.tall<=o.tall+1
 kn:k+(kns (jos js):Int)=(o.kn:Int)
 cn:c+(cF (jos js):Int)=(cnT o:Int)
theorem MInv.start{k o:Th}:MInv o [] [⟨p,k,1,o⟩] 0 0:=by
 refine⟨by simp[jos,walks],λj hj=>?_,?_,?_⟩
 .rw[W0.mp hj];show 1+o.tall<=o.tall+1;lia
 .show(0:Int)+((kns [o]:Nat):Int)=_;rw[kns,kns];lia
 .show(0:Int)+((cF [o]:Nat):Int)=_;rw[cF,cF];lia
theorem iV(js:List Job)(j:Job):jos (js++[j])=jos js++[j.o]:=by
 unfold jos;rw[W8];rfl
theorem MInv.size{o:Th}{done:List Th}{js:List Job}{k:Int}(h:MInv o done js k c):done.length+ar (jos js)=o.size:=by
 have:=h! Ze h.wk;rw[W7,gy,lH,D!]at this;exact this
theorem wf(js:List Job):js.length<=ar (jos js):=by
 have:=cL (jos js);unfold jos at this |-;rw[WO]at this;exact this
theorem oQ{k:Int}{a c o:Nat}{i:Nat}(h:k+((a+(i+c+0):Nat):Int)=(o:Int))(hk:k'=k+(i:Int)):k'+((a+c:Nat):Int)=(o:Int):=by lia
theorem t8{k:Int}{a o:Nat}(h:k+(a:Int)=(o:Int))(ho:o<=n):k<=(n:Int):=by lia
theorem MInv.kn'{o:Th}{done:List Th}{js:List Job}{j:Job}{k:Int}(h:MInv o done (js++[j]) k c)(hk:k'=if j.o.isCall=C? then k else k+1):k'+((kns (jos js)+kns j.o.kids:Nat):Int)=(o.kn:Int):=by
 have h2:=h.kn;rw[iV,g9,kns,kns,zA]at h2;refine oQ h2 (hk.trans ?_);split
 .exact(Int.add_zero k).symm
 .rfl
theorem MInv.cn'{o:Th}{done:List Th}{js:List Job}{j:Job}{k:Int}(h:MInv o done (js++[j]) k c)(hc:c'=if j.o.isCall=C? then c+1 else c):c'+((cF (jos js)+cF j.o.kids:Nat):Int)=(cnT o:Int):=by
 have h3:=h.cn;rw[iV,fZ,cF,cF,zk]at h3;refine oQ h3 (hc.trans ?_);split
 .rfl
 .exact(Int.add_zero c).symm
theorem MInv.takes{o:Th}{done:List Th}{js:List Job}{j:Job}{k:Int}(h:MInv o done (js++[j]) k c)(sm:Small o)(hk:k'=if j.o.isCall=C? then k else k+1)(hc:c'=if j.o.isCall=C? then c+1 else c):((j.r:Nat):Int)<=20/\k'<=400/\c'<=200:=by
 refine⟨?_,t8 (h.kn' hk) sm.kn,t8 (h.cn' hc) sm.cn⟩;have h1:=h.low j (by simp);have h4:=j.o.tall_eq;have h5:=sm.tall;clear h sm hk hc;lia
theorem MInv.next{o:Th}{done:List Th}{js Dn:List Job}{j:Job}{k:Int}(h:MInv o done (js++[j]) k c)(hk:k'=if j.o.isCall=C? then k else k+1)(hc:c'=if j.o.isCall=C? then c+1 else c)(h2:jos Dn=j.o.kids.reverse)(hr:∀i∈Dn,i.r=j.r+1):MInv o (done++[j.o]) (js++Dn) k' c':=by
 have e1:jos (js++Dn)=jos js++j.o.kids.reverse:=by rw[<-h2];unfold jos;rw[W8]
 refine⟨?_,λi hi=>?_,?_,?_⟩
 .rw[<-h.wk,iV,e1,YO,YO,YY,YN,fw];show done++([j.o]++_)=done++walks (j.o::(jos js).reverse);rw[walks,Th.walk_eq];rfl
 .rcases Xd.mp hi with hi|hi
  .exact h.low i (XA _ hi)
  .have h1:=h.low j (by simp)
   have h3:i.o∈j.o.kids:=by
    rw[<-List.mem_reverse,<-h2];exact Xn.mpr ⟨i,hi,rfl⟩
   have:=b8 h3;have h4:=j.o.tall_eq;rw[hr i hi];lia
 .rw[e1,g9,wc];exact h.kn' hk
 .rw[e1,fZ,uU];exact h.cn' hc
theorem MInv.done{o:Th}{done:List Th}{k:Int}(h:MInv o done [] k c):done=o.walk:=by simpa[jos,walks]using h.wk
def MJAt(H:Hp)(ins outs:List (Xk×Int))(S S1:Int)(pat:Int->Xk->Th)(j:Job)(a:WS):Prop:=∃(pa ka:WS)(n:Xk)(ts:List Th),H a=A? (.tup [.ref pa,.ref ka,.int (j.r:Nat)])/\AtG .i H j.p pa/\j.k=.knot n ts/\AtG .i H (.knot n ts) ka/\Lead ins outs S S1 j.p j.k/\j.o=made pat j.p j.k
theorem MJAt.mono(kt:KT H H'){pat:Int->Xk->Th}{j:Job}(h:MJAt H ins outs S S1 pat j a):MJAt H' ins outs S S1 pat j a:=by
 obtain⟨pa,ka,n,ts,h1,h2,h3,h4,h5⟩:=h;exact⟨pa,ka,n,ts,kt _ _ h1,h2.mono kt,h3,h4.mono kt,h5⟩
theorem Lead.kids{n:Xk}{ks:List Th}{k:Th}(h:Lead ins outs S S1 (.knot n ks) k):∀t∈ks,Lead ins outs S S1 t k:=λt ht=>by
 have:=h.fit;rw[p!]at this;exact⟨FitSs.mem' this.2 t ht,h.kid⟩
theorem jO:∀{ts:List Th}{as:List WS},XH (AtG r H) ts as->AtsG r H ts as
 |_,_,.nil=>.nil
 |_,_,.cons h g=>.cons h (jO g)
def sol(t:Th):Th:=.knot (W5 "") [t]
def bd(R:Int->List Th)(head:Th):List Int:=bfs R 21 (bE [] (stT head)) 0
def joH(mid:List (Xk×Int))(Aa:List (List Th))(Ad Ac:Th):Th:=made (aJ mid Aa) Ad (sol Ac)
def joR(mid:List (Xk×Int))(Aa Ab:List (List Th))(s:Int):List Th:=(rowOf Ab (s%1000)).map λt=>made (aJ mid Aa) (.call (s / 1000) 0) (sol t)
def PairOk(S S1 s:Int):Prop:=0<=s / 1000/\s / 1000<S/\0<=s%1000/\s%1000<S1
theorem PairOk.enc{st l:Int}(h0:0<=st)(h1:st<S)(g0:0<=l)(g1:l<S1)(hS:S1<=1000):PairOk S S1 (enc st l):=by
 unfold PairOk BB.enc;lia
theorem uV(t:Th):(sol t).kids=[t]:=rfl
theorem Lead.sol{t:Th}(hp:p.FitS outs S 1)(ht:t.FitS ins S1 C):Lead ins outs S S1 p (sol t) :=
 ⟨hp,λu hu=>⟨C,by rw[uV]at hu;rw[W0.mp hu];exact ht⟩⟩
mutual
theorem rR{q:Int->Prop}(f:Int->Int->Th){ks:List (Xk×Int)}(hf:∀s c,0<=s->s<S->0<=c->c<C->∀x∈stT (f s c),q x):∀t:Th,t.FitS ks S C->∀x∈stT (t.fill f),q x
 | .call s c,h,x,hx=>by
   rw[p!]at h;rw[x!]at hx;exact hf s c h.1 h.2.1 h.2.2.1 h.2.2.2 x hx
 | .knot n ts,h,x,hx=>by
   rw[p!]at h;rw[x!,ir]at hx;exact pH f hf ts h.2 x hx
theorem pH{q:Int->Prop}(f:Int->Int->Th){ks:List (Xk×Int)}(hf:∀s c,0<=s->s<S->0<=c->c<C->∀x∈stT (f s c),q x):∀ts:List Th,FitSs ks S C ts->∀x∈cm (fills f ts),q x
 | [],_,x,hx=>by rw[fills]at hx;cases hx
 | t::ts,h,x,hx=>by
   rw[FitSs]at h;rw[fills]at hx;have Bc:x∈stT (t.fill f)++cm (fills f ts):=hx;rcases Xd.mp Bc with z|z
   .exact rR f hf t h.1 x z
   .exact pH f hf ts h.2 x z
end
theorem nQ{rows:List (List Th)}(g:aH ins)(ok:il ins outs S rows)(hS:S1<=1000):∀(n:Nat){p k:Th},k.size<=n->Lead ins outs S S1 p k->∀x∈stT (made (aJ ins rows) p k),PairOk S S1 x
 |0,p,k,hn,_=>by have:=k.size_pos;lia
 | n+1,p,k,hn,h=>by
   unfold made;refine rR _ (λs c h0 h1 h2 h3 x hx=>?_) p h.fit;have hl:Lead ins outs S S1 (.call s c) k:=⟨by rw[p!];exact⟨h0,h1,h2,h3⟩,h.kid⟩;obtain⟨_,_,_,k',hk,hm⟩:=hl.call;have e:bN (bM (aJ ins rows) k.kids) s c=made (aJ ins rows) (.call s c) k:=by unfold made;rw[x!]
   rw[e]at hx
   have hsz:k'.size<=n:=by
    have h1:=EK hm;have h2:=k.size_eq;lia
   cases k' with
   | call l hh =>
     rw[eY _ hk,gC]at hx;obtain⟨C,hC⟩:=h.kid _ hm;rw[p!]at hC;have Bc:x∈[enc s l]:=hx;rw[W0.mp Bc];exact PairOk.enc h0 h1 hC.1 hC.2.1 hS
   | knot nm ts =>
     obtain⟨j,row,p',hj,hr,BA,B9,Cn,EL⟩:=Lead.next g ok hl hk;rw[EL]at hx;exact nQ g ok hS n hsz Cn x hx
where
 EK {ts:List Th} {t:Th} (h:t∈ts):t.size<=ar ts:=by
  induction ts with
  |nil=>cases h
  | cons u ts ih =>
    rw[ar];rcases W6.mp h with rfl|h
    .lia
    .have:=ih h;lia
theorem cx{rows:List (List Th)}(ok:il ins outs S rows){l:Int}(h0:0<=l)(h1:l<S):∃row,rows[l.toNat]?=A? row/\rowOf rows l=row/\row.length=ins.length/\∀t∈row,∃C,t.FitS outs S C:=by
 have hl:=ok.len;have hs:l.toNat<rows.length:=by lia
 refine⟨rows[l.toNat],WQ hs,?_,(ok.row _ (Zh hs)).1,λt ht=>?_⟩
 .unfold rowOf;rw[ZS,WQ hs];rfl
 .obtain⟨hlen,Ah⟩:=ok.row _ (Zh hs);obtain⟨j,hj⟩:=Xg.mp ht;have Bs:=(glE hj);exact⟨_,Ah j t _ hj (WQ (by lia))⟩
structure JoinOk(ins mid outs:List (Xk×Int))(S1 S2:Int)(Ac Ad:Th)(Ab Aa:List (List Th)):Prop where
 gm:aH mid
 le:ins.length<=8
 f1:il ins mid S1 Ab
 f2:il mid outs S2 Aa
 h1:Ac.FitS mid S1 1
 h2:Ad.FitS outs S2 1
 s1:S1<=1000
 many:S1 * S2<=20
 smH:Small (joH mid Aa Ad Ac)
 smR:∀l st:Int,0<=l->l<S1->0<=st->st<S2->∀t∈rowOf Ab l,Small (made (aJ mid Aa) (.call st 0) (sol t))
section
variable{S2:Int}{Ac Ad:Th}
theorem iu{st:Int}(h0:0<=st)(h1:st<S):(F! st 0).FitS outs S 1:=by
 rw[p!];exact⟨h0,h1,Int.le_refl _,by decide⟩
theorem JoinOk.head(J:JoinOk ins mid outs S1 S2 Ac Ad Ab Aa):∀x∈stT (joH mid Aa Ad Ac),PairOk S2 S1 x :=
 nQ J.gm J.f2 J.s1 _ (WX _) (Lead.sol J.h2 J.h1)
theorem JoinOk.rows(J:JoinOk ins mid outs S1 S2 Ac Ad Ab Aa)(s:Int)(hs:PairOk S2 S1 s):∀x∈cm (joR mid Aa Ab s),PairOk S2 S1 x:=λx hx=>by
 obtain⟨t,ht,hx⟩:=List.mem_flatMap.mp hx;obtain⟨u,hu,rfl⟩:=Xn.mp ht;obtain⟨h0,h1,h2,h3⟩:=hs;obtain⟨row,_,e,_,hf⟩:=cx J.f1 h2 h3;rw[e]at hu;obtain⟨C,hC⟩:=hf u hu;exact nQ J.gm J.f2 J.s1 _ (WX _) (Lead.sol (iu h0 h1) hC) x hx
theorem JoinOk.met(J:JoinOk ins mid outs S1 S2 Ac Ad Ab Aa):∀x∈bd (joR mid Aa Ab) (joH mid Aa Ad Ac),PairOk S2 S1 x :=
 tT _ (PairOk S2 S1) (λs hs x hx=>J.rows s hs x hx) _ _ _ λx hx=>(dh.mp hx).elim (λz=>by cases z) (J.head x)
theorem wa(R:Int->List Th)(h:Th):(bd R h).Nodup:=vp _ _ _ _ (qZ ZH)
theorem rC{a b:Int}(h0:0<=b)(h1:b<S):(S * a+b) / S=a:=by
 rw[Int.mul_add_ediv_left _ _ (Int.ne_of_gt (Int.lt_of_le_of_lt h0 h1)),Int.ediv_eq_zero_of_lt h0 h1,Int.add_zero]
theorem ui{x y:Int}(Fp:0<=x%1000)(Ua:x%1000<S)(CS:0<=y%1000)(C5:y%1000<S)(e:S * (x / 1000)+x%1000=S * (y / 1000)+y%1000):x=y:=by
 have hd:x / 1000=y / 1000:=by rw[<-rC (a:=x / 1000) Fp Ua,<-rC (a:=y / 1000) CS C5,e]
 rw[hd]at e;lia
theorem v5{S2 a b:Int}(h0:0<=a)(h1:a<S2)(g0:0<=b)(g1:b<S1):0<=S1 * a+b/\S1 * a+b<S1 * S2:=by
 have hs:0<=S1:=by lia
 have hm:S1 * a<=S1 * (S2 - 1):=Int.mul_le_mul_of_nonneg_left (by lia) hs;have hp:0<=S1 * a:=Int.mul_nonneg hs h0;have he:S1 * (S2 - 1)=S1 * S2 - S1:=by rw[Int.mul_sub,Int.mul_one]
 lia
theorem JoinOk.len2(J:JoinOk ins mid outs S1 S2 Ac Ad Ab Aa):(bd (joR mid Aa Ab) (joH mid Aa Ad Ac)).length<=(S1 * S2).toNat:=by
 have key:((bd (joR mid Aa Ab) (joH mid Aa Ad Ac)).map λs=>S1 * (s / 1000)+s%1000).Nodup:=by
  refine List.pairwise_map.mpr ((wa _ _).imp_of_mem λ{x y}hx hy Ay e=>Ay ?_);obtain⟨_,_,a3,a4⟩:=J.met x hx;obtain⟨_,_,b3,b4⟩:=J.met y hy;exact ui a3 a4 b3 b4 e
 have hb:=sw (S:=(S1 * S2).toNat) key λz hz=>by
  obtain⟨x,hx,rfl⟩:=Xn.mp hz;obtain⟨a1,a2,a3,a4⟩:=J.met x hx;obtain⟨c1,c2⟩:=v5 a1 a2 a3 a4;exact⟨c1,Int.lt_of_lt_of_le c2 (Int.self_le_toNat _)⟩
 rw[WO]at hb;exact hb
theorem JoinOk.len(J:JoinOk ins mid outs S1 S2 Ac Ad Ab Aa):(bd (joR mid Aa Ab) (joH mid Aa Ad Ac)).length<=20 :=
 Xh J.len2 (Int.toNat_le.mpr J.many)
theorem JoinOk.small(J:JoinOk ins mid outs S1 S2 Ac Ad Ab Aa){s:Int}(hs:PairOk S2 S1 s):(joR mid Aa Ab s).length<=8/\∀t∈joR mid Aa Ab s,Small t:=by
 obtain⟨h0,h1,h2,h3⟩:=hs;obtain⟨row,_,e,hl,hf⟩:=cx J.f1 h2 h3;unfold joR;refine⟨by rw[WO,e,hl];exact J.le,λt ht=>?_⟩;obtain⟨u,hu,rfl⟩:=Xn.mp ht;exact J.smR _ _ h2 h3 h0 h1 u hu
end
end BB
namespace L2
open PySem PySem.Spec PySem.Calls PyProof.Rows
abbrev lm:YF:={cls:=.type "frame",data:=.dict #[]}
abbrev rO:YF:={cls:=.type "cell",data:=.cell B?}
theorem jq{globals:WS}{closure:List (Xk×WS)}{binds:List (Xk×WV)}{func:Option WS}{code:WV}{builtins:WS}{Q:Env->WZ->Prop}
 (hk:scope.kind=.function) (hl:∀x∈binds,scope.names.lookup x.1=A? .local)
 (hQ:∀h',h'.Ns s.1.1.size (λx=>binds.reverse.lookup x)->XW s.1.1.size (pushCells (s.1.push lm) scope.names) h' ->
  Q (newEnv scope s.1.1.size globals (cellsFrom (s.1.1.size+1) scope.names closure) qual func code B? builtins) {s with heap:=h',toks:=s.toks+binds.length}) :
 Xc M A (newFunctionEnv scope globals closure binds qual func code B? builtins) Q E s:=by
 simp only[newFunctionEnv,Option.isSome_none,X6,if_false];refine WN (wpAny_alloc ?_);refine WN (wpAny_layCells _ (λname kind cells=>by cases DX:kind == NameKind.cell <;> simp[DX]) _ _ _ _ ?_);rw[show({s with heap:=s.1.push {cls:=.type "frame",data:=.dict #[]}}:WZ).heap.1.size=s.1.1.size+1 from Yb ..];refine WN ?_;generalize BZ:cellsFrom (s.1.1.size+1) scope.names closure=cs at hQ |-
 refine wpAny_forIn_list _
  (λrest _ s'=>∃done h',binds=done++rest/\s'={s with heap:=h',toks:=s.toks+done.length} /\
   h'.Ns s.1.1.size (λx=>done.reverse.lookup x) /\
   XW s.1.1.size (pushCells (s.1.push lm) scope.names) h') _ ?_ ?_ binds _
  ⟨[],_,rfl,rfl,(Heap.Ns.new ..).keeps (pushCells_keeps _ _),Heap.SameBut.refl ..⟩
 .rintro⟨name,v⟩ rest _ s' ⟨done,h',hb,rfl,CJ,C3⟩
  have AG:Env.kindOf {scope,locals:=s.1.1.size,globals,cells:=cs,qual,func,code,frame:=A? s.1.1.size,builtins} name=A? .local :=
   hl (name,v) (by rw[hb];simp)
  have hp:(({scope,locals:=s.1.1.size,globals,cells:=cs,qual,func,code,frame:=A? s.1.1.size,builtins}:Env).scope.kind == .class ||(({scope,locals:=s.1.1.size,globals,cells:=cs,qual,func,code,frame:=A? s.1.1.size,builtins}:Env).scope.kind == .module &&
   ({scope,locals:=s.1.1.size,globals,cells:=cs,qual,func,code,frame:=A? s.1.1.size,builtins}:Env).locals != ({scope,locals:=s.1.1.size,globals,cells:=cs,qual,func,code,frame:=A? s.1.1.size,builtins}:Env).globals))=false:=by
   show(scope.kind == .class ||(scope.kind == .module && _))=CG;rw[hk];rfl
  simp only[storeName_local AG hp];refine WN (wpAny_nsSet CJ λN1 Oo Oq=>WW ⟨done++[(name,v)],N1,by simp[hb],?_,?_,C3.trans Oq⟩)
  .simp[Nat.add_assoc]
  .rw[lookup_reverse_snoc];exact Oo
 .rintro _ s' ⟨done,h',hb,rfl,CJ,C3⟩;rw[Ye]at hb;subst hb;exact WW (hQ h' CJ C3)
def NestAt(H:Hp)(f c':WS)(name qual:Xk)(params:Arguments)(body:List Z4)(scope:ZD)(cl:List (Xk×WS)):Prop:=∃φ,H f=A? (.ext φ)/\∀h:X5,φ h->∃doc pm DY,h.get? f=A? (PySem.W.fnMade name qual params body scope cl doc pm c' DY)
theorem NestAt.mono(s:Same H H'){c':WS}(h:NestAt H f c' name qual params body scope cl):NestAt H' f c' name qual params body scope cl:=by
 obtain⟨φ,h1,h2⟩:=h;exact⟨φ,s _ _ h1,h2⟩
def cxN(P:Xe)(w:Xv)(K:WY)(mg:Xk->Option WV)(base:X5)(N:List Xk)(qual:Xk)(scope:ZD)(f:WS)(cd:WV)(y:Xk)(cl:List (Xk×WS))(A:XF)(outer:List Env)(s:WZ)(H:Hp):Cx where
 prog:=P
 w:=w
 K:=K
 mg:=mg
 base:=base
 A:=A.deeper (PySem.W.envX qual scope s.1.1.size f cd ((y,s.1.1.size+1)::cl))
 N:=N
 s₀:=s
 H₀:=fgt (cl.map (·.2)) H
 env:=PySem.W.envX qual scope s.1.1.size f cd ((y,s.1.1.size+1)::cl)
 outer:=outer
 stack:=PySem.W.envX qual scope s.1.1.size f cd ((y,s.1.1.size+1)::cl)::outer
 ex:=[]
 calm:=C?
 fn:=λx=>x == y
 pn:=[]
 xe:=λ_ _=>False
structure mH(N ps fs:List Xk)(y:Xk)(cl:List (Xk×WS))(sc:ZD):Prop where
 kind:sc.kind=.function
 co:sc.isCoroutine=CG
 gen:sc.isGenerator=CG
 nd:N.Nodup
 pre:N.take (ps.length+fs.length)=ps++fs
 par:∀x∈ps,sc.names.lookup x=A? .local
 fre:∀x∈fs,sc.names.lookup x=A? .free
 cells:∀n:Nat,cellsFrom n sc.names cl=(y,n)::cl
 push:∀h:X5,pushCells h sc.names=h.push rO
 cel:∀x,sc.names.lookup x=A? .cell->x=y
 has:∀x,sc.names.lookup x=A? .free->∃c,cl.lookup x=A? c
 inj:∀x z c,cl.lookup x=A? c->cl.lookup z=A? c->x=z
 ney:∀x∈fs,(x == y)=CG
 neq:∀x,sc.names.lookup x=A? .free->(x == y)=CG
theorem vP{k:Nat}{c':WS}{y:Xk}{fs:List Xk}
 (S:mH N ps fs y cl scope) (bind:∀(doc pm DY:WV)(us:List WV),us.length=ps.length->bindArgs (PySem.W.fnX name qual params body scope cl .none .none doc pm B? (.ref c') DY) ⟨us,[]⟩=pure (ps.zip us))
 (B7:∀vs H Q E,sp vs H Q E->vs.length=ps.length/\NestAt H f c' name qual params body scope cl/\CodeAt H c' qual/\Exts (cl.map (·.2)) H/\∀x c,cl.lookup x=A? c->∃v,CellAt H c v)
 (Bm:∀(A:XF)(outer:List Env)(s:WZ)(H:Hp)(vs:List V)(Q:VK)(E:XK),Room k (A.deeper (PySem.W.envX qual scope s.1.1.size f (.ref c') ((y,s.1.1.size+1)::cl)))->sp vs H Q E ->
  ∃t ws,wJ H cl fs ws/\PSs (cxN P w K mg base N qual scope f (.ref c') y cl A outer s H) body t/\t {nx:=λ_ H'=>(∀b∈cl.map (·.2),H' b=B?)->Q .non (rst (cl.map (·.2)) H H'),rt:=λv H'=>(∀b∈cl.map (·.2),H' b=B?)->Q v (rst (cl.map (·.2)) H H')} (start N (vs++ws)) (fgt (cl.map (·.2)) H)) :
 FvOk P w K mg base CX0 (k+1) f sp where
 fn:=λA outer s H vs Q E e0 h=>by
  obtain⟨_,⟨φ,h1,h2⟩,_⟩:=B7 _ _ _ _ h;obtain⟨doc,pm,DY,e⟩:=h2 _ (e0.hok f _ h1).1;exact⟨_,_,_,_,e⟩
 run:=λA outer s H us vs Q E hr e0 r h=>by
  obtain⟨hl,⟨φ,h1,h2⟩,⟨ψ,g1,g2⟩,hx,Kj⟩:=B7 _ _ _ _ h;obtain⟨doc,pm,DY,ef⟩:=h2 _ (e0.hok f _ h1).1;have Ot:=g2 _ (e0.hok c' _ g1).1;have DQ:us.length=ps.length:=by rw[<-r.length];exact hl
  have Ou:∀z∈ps.zip us,scope.names.lookup z.1=A? .local:=λ⟨n,v⟩hy=>S.par n (List.of_mem_zip hy).1;refine codeAny_call_function hr.depth ef rfl S.co S.gen rfl Ot ?_;rw[show bindArgs _ _=_ from bind doc pm DY us DQ];refine WW (jq S.kind Ou λAu CJ C3=>?_);rw[S.push]at C3;have CT:∀b o,s.1.get? b=A? o->Au.get? b=A? o:=λb o e=>C3.extBut b o (XD (Xi e)) (WU _ (WU _ e));have Ov:(s.1.push lm).objs.size=s.1.1.size+1:=Yb ..;have FI:Au.IsCell (s.1.1.size+1) none:=⟨rO,C3.extBut _ _ (ZK (Nat.lt_succ_self _)) (by rw[<-Ov];exact W2 _ rfl),rfl⟩;refine⟨e0.mod.nolimit.keeps λb o e=>CT b o (e0.bs b o e).1,codeAny_func ?_⟩;show Xc _ (A.deeper (newEnv scope s.1.1.size X8 (cellsFrom (s.1.1.size+1) scope.names cl) (qual++".<locals>.") (A? f) (.ref c') B? builtinsNs)) _ _ _ _;rw[S.cells];obtain⟨t,ws,AR,ht,hq⟩:=Bm A outer s H vs Q E (hr.deeper _) h;have DR:fs.length=ws.length:=Xa AR;have AZ:ps.length+fs.length<=N.length:=by have:=h! Ze S.pre;rw[XB,W7]at this;lia
  have AF:∀x c,cl.lookup x=A? c->c∈cl.map (·.2):=λx c e=>jR e
  have Al:∀c∈cl.map (·.2),c<s.1.1.size:=λc hc=>by
   obtain⟨Jg,e⟩:=hx c hc;exact e0.hok.lt e
  have look:∀x c,((y,s.1.1.size+1)::cl).lookup x=A? c->(x=y/\c=s.1.1.size+1)\/((x == y)=CG/\cl.lookup x=A? c):=λx c e=>by
   rw[Yt]at e;cases hb:x == y with
   |true=>rw[hb]at e;cases e;exact .inl ⟨beq_iff_eq.mp hb,rfl⟩
   |false=>rw[hb]at e;exact .inr ⟨rfl,e⟩
  have GF:∀x c,(x == y)=CG->cl.lookup x=A? c->((y,s.1.1.size+1)::cl).lookup x=A? c:=λx c hb e=>by
   rw[Yt,hb];exact e
  have Kk:((y,s.1.1.size+1)::cl).lookup y=A? (s.1.1.size+1):=by
   rw[Yt,beq_self_eq_true]
  have Hq:∀x c,((y,s.1.1.size+1)::cl).lookup x=A? c->∃v,Au.IsCell c v:=λx c e=>by
   rcases look x c e with⟨_,rfl⟩|⟨_,e⟩
   .exact⟨_,FI⟩
   .obtain⟨v,hv⟩:=Kj x c e;obtain⟨u,_,o,ho,hd⟩:=hv.now e0.hok;exact⟨_,o,CT _ _ ho,hd⟩
  have Hr:∀b,H b=B?->fgt (cl.map (·.2)) H b=none:=λb e=>by
   by_cases hb:b∈cl.map (·.2)
   .exact jf hb
   .rw[bZ hb];exact e
  have ndP:ps.Nodup:=by
   have:N.take (ps.length+fs.length)=ps++fs:=S.pre;have h2:(ps++fs).Nodup:=by rw[<-this];exact S.nd.sublist (List.take_sublist _ _)
   exact(Y5.mp h2).1
  have FJ:∀(i:Nat)(x:Xk),i<ps.length+fs.length->N[i]?=A? x->(ps++fs)[i]?=A? x:=λi x hi e=>by
   rw[<-S.pre,List.getElem?_take_of_lt hi];exact e
  have I:Inv (cxN P w K mg base N qual scope f (.ref c') y cl A outer s H) [] (start N (vs++ws)) (fgt (cl.map (·.2)) H) {s with heap:=Au,toks:=s.toks+(ps.zip us).length}:=by
   refine⟨⟨e0.mod,S.kind,D?,D?,WX _,λx z c e1 e2=>?_,λx hx=>?_,λx c hf e=>?_,λ_=>hr.hd,Around.frames_deeper e0.frames,.inr ⟨D?,D?⟩,λb z=>(by cases z),λb o e=>⟨(e0.bs b o e).1,?_⟩,e0.bsz,λb _ _ z=>(by cases z),λb z=>(by cases z),e0.funs,λb hb=>?_⟩,
    rfl,e0.bare,Un.kept CT,⟨_,CJ,λi x v e1 e2 e3=>?_⟩,Hq,?_,λx c e=>?_,λp hp=>(by cases hp),?_,?_⟩
   .rcases look x c e1 with⟨rfl,h1⟩|⟨_,h1⟩ <;> rcases look z c e2 with⟨rfl,h2⟩|⟨_,h2⟩
    .rfl
    .have:=Al c (AF _ _ h2);lia
    .have:=Al c (AF _ _ h1);lia
    .exact S.inj x z c h1 h2
   .have Bc:scope.names.lookup x=A? .cell\/scope.names.lookup x=A? .free:=hx;rcases Bc with z|z
    .exact⟨_,by rw[S.cel x z];exact Kk⟩
    .obtain⟨c,hc⟩:=S.has x z;exact⟨c,GF x c (S.neq x z) hc⟩
   .have Dm:(x == y)=true:=hf;rcases look x c e with⟨_,h1⟩|⟨h1,_⟩
    .show s.1.1.size<=c;lia
    .rw[h1]at Dm;cases Dm
   .exact Hr b (e0.bs b o e).2
   .exact Hr b (e0.frf b hb)
   .have CL:i<(vs++ws).length:=by
     unfold start at e2;by_cases hi:i<(vs++ws).length
     .exact hi
     .rw[X2 (by simpa using hi)]at e2;rw[List.getElem?_replicate]at e2;split at e2 <;> cases e2
    have ha:(vs++ws)[i]?=A? v:=by
     unfold start at e2;rw[XJ (by simpa using CL),W3]at e2;cases e:(vs++ws)[i]? with
     |none=>rw[e]at e2;cases e2
     |some a=>rw[e]at e2;cases e2;rfl
    rw[W7]at CL;have hp:=FJ i x (by lia) e1;by_cases hi:i<vs.length
    .rw[XJ hi]at ha;rw[XJ (by lia)]at hp;obtain⟨u,hu,rv⟩:=r.get ha;exact⟨u,rv,.inl ⟨S.par x (WR hp),pK ndP DQ hp hu⟩⟩
    .rw[X2 (by lia)]at ha;rw[X2 (by lia)]at hp;rw[hl]at ha;obtain⟨w',BN,c,hc,By⟩:=A! AR hp;rw[ha]at BN;cases BN;obtain⟨u,ru,o,ho,Hs⟩:=By.now e0.hok;have hm:=WR hp;exact⟨u,ru,.inr ⟨.inr (S.fre x hm),c,GF x c (S.ney x hm) hc,o,CT _ _ ho,Hs⟩⟩
   .exact Hr _ (e0.hok.fresh (WX _))
   .rcases look x c e with⟨_,rfl⟩|⟨_,e⟩
    .exact Hr _ (e0.hok.fresh (by lia))
    .exact jf (AF x c e)
   .exact(e0.hok.fgt hx).kept CT
   .show(start N (vs++ws)).length=N.length;unfold start;rw[W7,WO,List.length_replicate,W7];lia
  refine YR (ht [] _ _ _ _ I hq) (λfl s' hs=>?_) λe s' z=>z.elim
  have fin:∀{Ae:St}{H':Hp}{v:V}{u:WV},Inv (cxN P w K mg base N qual scope f (.ref c') y cl A outer s H) [] Ae H' s'->RelV v u->((∀b∈cl.map (·.2),H' b=B?)->Q v (rst (cl.map (·.2)) H H'))->CE outer P w H s Q u s':=λ{Ae H' v u}I' rv q'=>by
   have un:Un (frs outer) [] (fgt (cl.map (·.2)) H) H' s.1 s'.1:=I'.base
   have kS:∀b∈cl.map (·.2),∀o,s.1.get? b=A? o->s'.1.get? b=A? o:=λb hb o e=>un.keep b o e (jf hb) (λz=>by
    obtain⟨Jg,e'⟩:=hx b hb;rw[e0.frf b z]at e';cases e') (by simp)
   have Mv:∀b∈cl.map (·.2),H' b=none:=λb hb=>by
    obtain⟨Jg,e'⟩:=hx b hb;obtain⟨_,⟨o,ho⟩,_⟩:=e0.hok b _ e';exact un.free b o ho (jf hb) (by simp)
   have nS:∀b,H b=B?->b∉cl.map (·.2):=λb e hb=>by
    obtain⟨Jg,e'⟩:=hx b hb;rw[e]at e';cases e'
   refine⟨v,rst (cl.map (·.2)) H H',I'.os,I'.bare,⟨λb o e n hb Bc=>un.keep b o e (Hr b n) hb Bc,λb o e n hb Bc=>un.slot b o e (Hr b n) hb Bc,λb o e n Bc=>?_,λb o e Bc=>un.there b o e Bc,λb xs e=>?_,λb o u' e=>?_,λb pp e=>?_⟩,HOk.rst e0.hok I'.hok hx kS Mv,rv,q' Mv⟩
   .rw[dH (nS b n)];exact un.free b o e (Hr b n) Bc
   .have hb:=hx.out e (by intro Jg z;cases z);rw[dH hb];exact un.tups b xs (by rw[bZ hb];exact e)
   .have hb:=hx.out e (by intro Jg z;cases z);rw[dH hb];exact un.frzs b o u' (by rw[bZ hb];exact e)
   .have hb:=hx.out e (by intro Jg z;cases z);rw[dH hb];exact un.tbls b pp (by rw[bZ hb];exact e)
  cases fl with
  | ret u =>
    obtain⟨v,Ae,H',J,rv,q⟩:=hs;exact fin J rv q
  | next =>
    obtain⟨Ae,H',J,q⟩:=hs;exact fin (v:=V.non) (u:=Yj) J rfl q
  | brk =>
    obtain⟨_,_,_,q⟩:=hs;exact Yk q
  | cont =>
    obtain⟨_,_,_,q⟩:=hs;exact Yk q
theorem ub{S:List WS}(s:Same (fgt S H) H'):Same H (rst S H H'):=λb o e=>by
 by_cases hb:b∈S
 .rw[uQ hb];exact e
 .rw[dH hb];exact s _ _ (by rw[bZ hb];exact e)
theorem uz{S:List WS}(hn:∀b∈S,H' b=B?):Same H' (rst S H H'):=λb o e=>by
 rw[dH λz=>by rw[hn b z]at e;cases e];exact e
theorem yi{S:List WS}(hx:Exts S H):BB.KT H (fgt S H):=λb xs e=>by
 rw[bZ (hx.out e λφ z=>nomatch z)];exact e
def zw(X:Cx)(P:WS)(i:Nat)(name:Xk)(pos:Pos)(params:Arguments)(body:List Z4)(scope:ZD)(cl:List (Xk×WS)):TS:=λD Y H=>TabSt H P pos (X.env.qual++name) /\
 ∀f c' H',SameT P H H'->H' P=A? (.tbl (tabOf pos c'))->CodeAt H' c' (X.env.qual++name)->NestAt H' f c' name (X.env.qual++name) params body scope cl->H f=B?->D.nx (Y.set i (A? (.ref f))) H'
theorem vF{X:Cx}{c P:WS}{i:Nat}(L:Lam X.mg X.base c P)(hN:X.N.Nodup)(hi:X.N[i]?=A? name)(Fp:Loc X.env.scope name)(hc:X.env.code=.ref c)(AF:closureFor scope X.env=pure cl)
 (Fm:params.defaults=[]:=by rfl) (Ca:params.kw_defaults=[]:=by rfl) (ha:annTrees params B? X.env=[]:=by rfl) (hq:qualnameIn X.env name name=X.env.qual++name:=by rfl) (Ru:X.fn name=C?\/X.env.scope.names.lookup name=A? .local:=by first|exact .inl rfl|exact .inr rfl|assumption) :
 PS X (.FunctionDef name params body [] B? [] scope B? name pos) (zw X P i name pos params body scope cl):=by
 intro Z s Y H D I h;obtain⟨tab,q⟩:=h;have Ow:s.1.Ns X8 X.mg:=I.mod.glob.keeps I.bk;have C:PySem.W.CodeHd s.1 c P:=L.hd.keeps I.bk
 have hb:s.1.BuiltinsAt X.mg P:=by
  obtain⟨bm,o,h1,h2,h3,h4,h5,h6⟩:=L.bl;exact⟨bm,o,h1,h2,h3,h4,I.bk _ _ h5,h6⟩
 refine PySem.W.nestDef_K Fm Ca ha ?_;rw[hq];rcases tab with hP|⟨c',hP,C2⟩
 .have Mw:s.1.get? P=A? (PySem.W.tabObj #[]):=I.hok P _ hP
  have Ub:X8≠P:=λz=>by
   obtain⟨o,es,ep,e,d,_⟩:=Ow;rw[z,Mw]at e;cases e;cases d
  refine PySem.W.makeFunction_K AF I.ok.glob Ow hc C Mw trivial rfl Ub hb λc' DY doc h' tk hx FK Al Kl Rv=>?_;have hsz:s.1.1.size<=h'.objs.size:=Xh FK (Z9 Al);have Rw:H c'=none:=I.hok.fresh FK;have nf:H h'.objs.size=none:=I.hok.fresh hsz;have Uc:c'≠h'.objs.size:=XD Al;have Ud:P≠c':=λz=>by rw[z,Rw]at hP;cases hP
  have Ue:P≠h'.objs.size:=λz=>by rw[z,nf]at hP;cases hP
  obtain⟨ob,Jf⟩:∃ob,ob=PySem.W.fnMade name (X.env.qual++name) params body scope cl doc ((X.mg "__name__").getD .none) c' DY:=⟨_,rfl⟩;rw[<-Jf];have kp:∀b o,b≠P->s.1.get? b=A? o->(h'.push ob).get? b=A? o:=λb o n e=>WU _ (hx b o n e);obtain⟨H',Mx⟩:∃H',H'=upd (upd (upd H P (.tbl (tabOf pos c'))) c' (.ext λh=>h.CodeRec (.ref c') (X.env.qual++name))) h'.objs.size (.ext λh=>h.get? h'.objs.size=A? ob):=⟨_,rfl⟩;have eP:H' P=A? (.tbl (tabOf pos c')):=by rw[Mx,af Ue,af Ud,ad]
  have ec:H' c'=A? (.ext λh=>h.CodeRec (.ref c') (X.env.qual++name)):=by rw[Mx,af Uc,ad]
  have ef:H' h'.objs.size=A? (.ext λh=>h.get? h'.objs.size=A? ob):=by rw[Mx,ad]
  have eo:∀b,b≠P->b≠c'->b≠h'.objs.size->H' b=H b:=λb n1 n2 n3=>by rw[Mx,af n3,af n2,af n1]
  have es:∀b o,H b=A? o->b≠P->H' b=A? o:=λb o e n=>by rw[eo b n (λz=>by rw[z,Rw]at e;cases e) (λz=>by rw[z,nf]at e;cases e)];exact e
  have un:Un X.fs [] H H' s.1 (h'.push ob):=by
   have nP:∀b,H b=B?->b≠P:=λb n z=>by rw[z,hP]at n;cases n
   refine⟨λb o e n _ _=>kp b o (nP b n) e,λb o e n _ _=>⟨o.slots,kp b o (nP b n) e⟩,λb o e n _=>?_,λb o e _=>?_,λb xs e=>es b _ e (λz=>by rw[z,hP]at e;cases e),λb o u e=>es b _ e (λz=>by rw[z,hP]at e;cases e),λb pp e=>?_⟩
   .rw[eo b (nP b n) (XD (Xz (Xi e) FK)) (XD (Xz (Xi e) hsz))];exact n
   .by_cases hb:b=P
    .exact⟨_,by rw[hb];exact WU _ Rv⟩
    .exact⟨o,kp b o hb e⟩
   .by_cases hb:b=P
    .subst hb;rw[hP]at e;cases e;exact⟨tabOf pos c',by rw[eP];simp⟩
    .exact⟨#[],by rw[es b _ e hb];simp⟩
  have hok:HOk X.prog X.w H' (h'.push ob):=λa o e=>by
   by_cases ha:a=P
   .subst ha;rw[eP]at e;cases e;exact WU _ Rv
   by_cases Bd:a=c'
   .subst Bd;rw[ec]at e;cases e;refine⟨Kl.push _,?_,λh1 h2 z k=>?_⟩
    .obtain⟨_,oc,_,_,e1,e2,_⟩:=Kl;cases e1;exact⟨oc,WU _ e2⟩
    .obtain⟨_,oc,vs,t,e1,e2,e3⟩:=z;cases e1;exact⟨_,oc,vs,t,D?,k _ e2,e3⟩
   by_cases Dm:a=h'.objs.size
   .subst Dm;rw[ef]at e;cases e;have My:ob.isFreed=false:=by rw[Jf];rfl
    exact⟨W2 _ My,⟨_,W2 _ My⟩,λh1 h2 z k=>k _ z⟩
   rw[eo a ha Bd Dm]at e;refine(I.hok a o e).stay (λb u hb z=>kp b u ?_ z) (λb z=>es b _ z (λy=>by rw[y,hP]at z;cases z)) λb xs z=>es b _ z (λy=>by rw[y,hP]at z;cases z);rcases hb with hb|hb
   .rw[hb];exact ha
   .exactλy=>by rw[y,hP]at hb;cases hb
  refine gq (v:=.ref h'.objs.size) (I.un un hok) hN hi Fp rfl (λs2 I2=>⟨_,H',I2,q _ c' H' (λb o n e=>es b o e n) eP ⟨_,ec,λ_ z=>z⟩ ⟨_,ef,λ_ z=>⟨_,_,_,by rw[z,Jf]⟩⟩ nf⟩) Ru
 .have Mw:s.1.get? P=A? (PySem.W.tabObj (tabOf pos c')):=I.hok P _ hP;refine PySem.W.makeFunction_hit AF I.ok.glob Ow hc C Mw (uq pos c') (tG pos c') hb λDY doc h' tk hk hsz=>?_;have nf:H h'.objs.size=none:=I.hok.fresh hsz
  have I':=I.laid (h':=h'.push {cls:=.type "function",data:=.func (PySem.W.fnX name (X.env.qual++name) params body scope cl .none .none doc ((X.mg "__name__").getD .none) B? (.ref c') DY)}) (a:=h'.objs.size) (t':=tk)
   (o:=.ext λh=>h.get? h'.objs.size=A? (PySem.W.fnMade name (X.env.qual++name) params body scope cl doc ((X.mg "__name__").getD .none) c' DY)) (λb u e=>WU _ (hk b u e)) hsz ⟨W2 _ rfl,⟨_,W2 _ rfl⟩,λh1 h2 z k=>k _ z⟩
  have sm:Same H (upd H h'.objs.size (.ext λh=>h.get? h'.objs.size=A? (PySem.W.fnMade name (X.env.qual++name) params body scope cl doc ((X.mg "__name__").getD .none) c' DY))):=aj nf _;exact gq (v:=.ref h'.objs.size) I' hN hi Fp rfl (λs2 I2=>⟨_,_,I2,q _ c' _ (sm.t P) (sm _ _ hP) (C2.mono sm) ⟨_,ad,λ_ z=>⟨_,_,_,z⟩⟩ nf⟩) Ru
theorem tz{X:Cx}{y z:Xk}{c:WS}(h1:X.env.cells.lookup y=A? c)(h2:X.fn y=C?)(h3:X.env.kindOf y=A? .cell)(g1:X.env.cells.lookup z=A? d)(g2:X.fn z=C?)(g3:X.env.kindOf z=A? .cell):p8 X [(y,c),(z,d)] :=
 ⟨λa b h=>(W6.mp h).elim (λe=>by cases e;exact h1) λe=>by cases W0.mp e;exact g1,
  λa b h=>(W6.mp h).elim (λe=>by cases e;exact h2) λe=>by cases W0.mp e;exact g2,
  λa b h=>(W6.mp h).elim (λe=>by cases e;exact h3) λe=>by cases W0.mp e;exact g3⟩
end L2
namespace BB
open PySem L2
mutual
def lc:Th->Nat
 |.call _ _=>1
 |.knot _ ks=>if lcs ks=0 then 0 else lcs ks+1
def lcs:List Th->Nat
 | []=>0
 |t::ts=>max (lc t) (lcs ts)
end
mutual
theorem nW:∀t:Th,lc t<=t.tall
 |.call _ _=>by rw[lc,q!];exact WX _
 | .knot _ ks=>by
   have:=ng ks;rw[lc,q!];split <;> lia
theorem ng:∀ts:List Th,lcs ts<=ax ts
 | []=>by rw[lcs];exact Xr _
 | t::ts=>by
   have:=nW t;have:=ng ts;rw[lcs,ax];lia
end
mutual
theorem gv{ks:List (Xk×Int)}(g:aH ks):∀t:Th,t.FitS ks S C->2 * t.size+1<=3 ^ t.tall/\3 * cnT t<=3 ^ lc t
 | .call _ _,_=>by
   rw[t!,q!,cnT,lc];exact⟨by decide,by decide⟩
 | .knot n ts,h=>by
   rw[p!]at h;obtain⟨h1,h2⟩:=kh g ts h.2
   have hw:ts.length<=3:=by
    have:=(g.num _ h.1).2;have h2:((ts.length:Nat):Int)<=3:=this;lia
   rw[t!,q!,cnT,lc];refine⟨?_,?_⟩
   .rw[Nat.pow_succ];have hp:1<=3 ^ ax ts:=Nat.pow_pos (by decide);have:ts.length * (3 ^ ax ts - 1)<=3 * (3 ^ ax ts - 1):=Nat.mul_le_mul_right _ hw;lia
   .have:ts.length * 3 ^ lcs ts<=3 * 3 ^ lcs ts:=Nat.mul_le_mul_right _ hw;split
    .rename_i hz
     rw[hz]at h2 this;have h3:=mV g ts h.2 hz;lia
    .rw[Nat.pow_succ];lia
theorem kh{ks:List (Xk×Int)}(g:aH ks):∀ts:List Th,FitSs ks S C ts->2 * ar ts<=ts.length * (3 ^ ax ts - 1)/\3 * cF ts<=ts.length * 3 ^ lcs ts
 | [],_=>by
   rw[ar,cF];exact⟨Xr _,Xr _⟩
 | t::ts,h=>by
   rw[FitSs]at h;obtain⟨h1,h2⟩:=gv g t h.1;obtain⟨h3,h4⟩:=kh g ts h.2;rw[ar,cF,ax,lcs,Xf];have a1:3 ^ t.tall<=3 ^ max t.tall (ax ts):=YX (by decide) (Zo ..);have a2:3 ^ ax ts<=3 ^ max t.tall (ax ts):=YX (by decide) (Zg ..);have b1:3 ^ lc t<=3 ^ max (lc t) (lcs ts):=YX (by decide) (Zo ..);have b2:3 ^ lcs ts<=3 ^ max (lc t) (lcs ts):=YX (by decide) (Zg ..);have a3:ts.length * (3 ^ ax ts - 1)<=ts.length * (3 ^ max t.tall (ax ts) - 1):=Nat.mul_le_mul_left _ (by lia);have b3:ts.length * 3 ^ lcs ts<=ts.length * 3 ^ max (lc t) (lcs ts):=Nat.mul_le_mul_left _ b2;rw[Nat.add_mul,Nat.add_mul];lia
theorem mV{ks:List (Xk×Int)}(g:aH ks):∀ts:List Th,FitSs ks S C ts->lcs ts=0->cF ts=0
 | [],_,_=>by rw[cF]
 | t::ts,h,hz=>by
   rw[FitSs]at h;rw[lcs]at hz;have h1:=(gv g t h.1).2;rw[show lc t=0 by lia]at h1;rw[cF,mV g ts h.2 (by lia)];lia
end
def bnd(c m:Nat):Nat:=if c=0 then 0 else c - 1+m
def iO(c m:Nat):Nat:=if c=0\/m=0 then 0 else c - 1+m
theorem pE{c d:Nat}(h:c<=d):bnd c m<=bnd d m:=by
 unfold bnd;split
 .exact Xr _
 .rw[a! (by lia)];lia
theorem nn{c d:Nat}(h:c<=d):iO c m<=iO d m:=by
 unfold iO;split
 .exact Xr _
 .rw[a! (by lia)];lia
theorem qr{a x y x' y':Nat}(h:a<=max x y)(hx:x<=x')(hy:y<=y'):a<=max x' y' :=
 Xh h (Nat.max_le.mpr ⟨Xh hx (Zo ..),Xh hy (Zg ..)⟩)
theorem vy{c:Nat}(h:c<=ι):bnd c m<=ι - 1+m:=by
 unfold bnd;split
 .exact Xr _
 .exact Nat.add_le_add_right (Z5 h 1) m
theorem rq{c:Nat}(h:c<=ι):iO c m<=ι - 1+m:=by
 unfold iO;split
 .exact Xr _
 .exact Nat.add_le_add_right (Z5 h 1) m
theorem uX{c x y:Nat}(h:x<=max y (bnd c m)):x+1<=max (y+1) (bnd (if c=0 then 0 else c+1) m):=by
 by_cases hc:c=0
 .subst hc;have h0:x<=y:=Xh h (Nat.max_le.mpr ⟨WX _,Xr _⟩);exact Xh (Nat.succ_le_succ h0) (Zo ..)
 .rw[a! hc];rcases Nat.le_total (bnd c m) y with hy|hy
  .exact Xh (Nat.succ_le_succ (Xh h (Nat.max_le.mpr ⟨WX _,hy⟩))) (Zo ..)
  .refine Xh (Nat.succ_le_succ (Xh h (Nat.max_le.mpr ⟨hy,WX _⟩))) (Xh ?_ (Zg ..));unfold bnd;rw[a! hc,a! (Nat.succ_ne_zero c)];clear h hy;lia
theorem sU{c x:Nat}(h:x<=iO c m):(if x=0 then 0 else x+1)<=iO (if c=0 then 0 else c+1) m:=by
 unfold iO at h |-;by_cases hx:x=0
 .rw[b! hx];exact Xr _
 .by_cases hc:c=0\/m=0
  .rw[b! hc]at h;exact g! (Nat.le_zero.mp h) hx
  .rw[a! hc]at h;rw[a! hx,a! (λz=>hc (.inl z)),a! (λz=>z.elim (λy=>Nat.succ_ne_zero c y) λy=>hc (.inr y))];have h1:1<=c:=Nat.pos_of_ne_zero λz=>hc (.inl z);clear hx hc;lia
mutual
theorem li{ks:List (Xk×Int)}(f:Int->Int->Th)(hf:∀s c,0<=s->s<S->0<=c->c<C->(f s c).tall<=m/\lc (f s c)<=c0):∀t:Th,t.FitS ks S C ->
 (t.fill f).tall<=max t.tall (bnd (lc t) m)/\lc (t.fill f)<=iO (lc t) c0
 | .call s c,h=>by
   rw[p!]at h;obtain⟨h1,h2⟩:=hf s c h.1 h.2.1 h.2.2.1 h.2.2.2;rw[x!,lc];refine⟨Xh h1 (Xh (by show m<=1 - 1+m;rw[Nat.sub_self,Nat.zero_add];exact WX _) (Zg ..)),Xh h2 ?_⟩;unfold iO;split <;> clear hf h1 h2 h <;> lia
 | .knot n ts,h=>by
   rw[p!]at h;obtain⟨h1,h2⟩:=mC f hf ts h.2;rw[x!,q!,q!,lc,lc];exact⟨uX h1,sU h2⟩
theorem mC{ks:List (Xk×Int)}(f:Int->Int->Th)(hf:∀s c,0<=s->s<S->0<=c->c<C->(f s c).tall<=m/\lc (f s c)<=c0):∀ts:List Th,FitSs ks S C ts ->
 ax (fills f ts)<=max (ax ts) (bnd (lcs ts) m)/\lcs (fills f ts)<=iO (lcs ts) c0
 | [],_=>by
   rw[fills,ax,lcs];exact⟨Xr _,Xr _⟩
 | t::ts,h=>by
   rw[FitSs]at h;obtain⟨h1,h2⟩:=li f hf t h.1;obtain⟨h3,h4⟩:=mC f hf ts h.2;rw[fills,ax,ax,lcs,lcs]
   exact⟨Nat.max_le.mpr ⟨qr h1 (Zo ..) (pE (Zo ..)),qr h3 (Zg ..) (pE (Zg ..))⟩,
    Nat.max_le.mpr ⟨Xh h2 (nn (Zo ..)),Xh h4 (nn (Zg ..))⟩⟩
end
theorem xZ{t:Th}(h:t∈ts):t.size<=ar ts:=by
 induction ts with
 |nil=>cases h
 | cons u ts ih =>
   rw[ar];rcases W6.mp h with rfl|h
   .lia
   .have:=ih h;lia
theorem yq{t:Th}(h:t∈ts):lc t<=lcs ts:=by
 induction ts with
 |nil=>cases h
 | cons u ts ih =>
   rw[lcs];rcases W6.mp h with rfl|h
   .lia
   .have:=ih h;lia
def aag(rows:List (List Th))(τ:Nat):Prop:=∀row∈rows,∀t∈row,t.tall<=τ/\lc t<=2
theorem uN{a p c x:Nat}(h:a<=max p (bnd c (τ+x - 1)))(hp:p<=τ)(hc:c<=2)(h1:1<=x):a<=τ+(x+1) - 1:=by
 refine Xh h (Nat.max_le.mpr ⟨?_,Xh (vy hc) ?_⟩) <;> clear h <;> lia
theorem ut{a c x:Nat}(h:a<=iO c x)(hc:c<=2):a<=if x=0 then 0 else x+1:=by
 by_cases hx:x=0
 .subst hx;have:iO c 0=0:=b! (.inr rfl);rw[this]at h;exact h
 .rw[a! hx];exact Xh h (Xh (rq hc) (by clear h;lia))
theorem ux{a p:Nat}(h:a<=max p (bnd 0 (τ+0 - 1)))(hp:p<=τ):a<=τ+(0+1) - 1:=by
 unfold bnd at h;rw[b! rfl]at h;lia
mutual
theorem rG:∀t:Th,t.FitS outs S (([]:List Th).length:Int)->lc t=0
 | .call _ _,h=>by
   rw[p!]at h;exact g! (Int.lt_of_le_of_lt h.2.2.1 h.2.2.2) (Int.lt_irrefl _)
 | .knot _ ts,h=>by
   rw[p!]at h;rw[lc,b! (oU ts h.2)]
theorem oU:∀ts:List Th,FitSs outs S (([]:List Th).length:Int) ts->lcs ts=0
 | [],_=>by rw[lcs]
 | t::ts,h=>by
   rw[FitSs]at h;rw[lcs,rG t h.1,oU ts h.2];rfl
end
theorem pick_run(pat:Int->Xk->Th)(h:0<=c)(hc:c<(ts.length:Int))(s:Int):∃u∈ts,bN (bM pat ts) s c=b7 pat u s:=by
 have Al:c.toNat<ts.length:=by lia
 refine⟨ts[c.toNat],Zh Al,?_⟩;unfold bN;rw[bT,ZS,W3,WQ Al];rfl
theorem rm{nm:Xk}{u:Th}(hn:(w! nm ts).size<=n+1)(hu:u∈ts):u.size<=n:=by
 have h1:=xZ hu;rw[t!]at hn;lia
theorem nX{S:Int}{rows:List (List Th)}{τ:Nat}(g:aH ins)(ok:il ins outs S rows)(lim:aag rows τ)(Jh:1<=τ):∀(n:Nat){s C:Int}{t:Th},t.size<=n->t.FitS ins S1 C->0<=s->s<S ->
 (b7 (aJ ins rows) t s).tall<=τ+t.tall - 1/\lc (b7 (aJ ins rows) t s)<=lc t
 |0,s,C,t,hn,_,_,_=>g! (Xh t.size_pos hn) (Nat.not_succ_le_zero 0)
 | n+1,s,C,.call l h,_,_,_,_=>by
   rw[gC,q!,q!,lc,lc];exact⟨Jh,WX _⟩
 | n+1,s,C,.knot nm ts,hn,hf,h0,h1=>by
   have hl:Lead ins outs S S1 (.call s 0) (sol (.knot nm ts)):=Lead.sol (iu h0 h1) hf;obtain⟨j,row,p,hj,hr,hp,B9,Cn,_⟩:=Lead.next g ok hl (k:=sol (.knot nm ts)) (c:=0) rfl;obtain⟨l1,l2⟩:=lim row (WR hr) p (WR hp);rw[cK,B9];rw[p!]at hf
   have hh:=li (ks:=outs) (S:=S) (C:=((w! nm ts).kids.length:Int)) (bN (bM (aJ ins rows) ts)) (m:=τ+ax ts - 1) (c0:=lcs ts) (λs' c a b cc dd=>by
    obtain⟨u,hu,e⟩:=pick_run (aJ ins rows) (ts:=ts) cc dd s';rw[e];obtain⟨q1,q2⟩:=nX (τ:=τ) g ok lim Jh n (rm hn hu) (FitSs.mem' hf.2 u hu) a b;exact⟨Xh q1 (Z5 (Nat.add_le_add_left (b8 hu) _) _),Xh q2 (yq hu)⟩) p Cn.fit
   show((p.fill (bN (bM (aJ ins rows) ts))).tall<=_/\lc (p.fill (bN (bM (aJ ins rows) ts)))<=_);rw[show(w! nm ts).tall=ax ts+1 by rw[q!],lc];refine⟨?_,ut hh.2 l2⟩;by_cases BD:ts=[]
   .subst BD;have h3:=hh.1;rw[rG p Cn.fit]at h3;exact ux h3 l1
   .obtain⟨u,hu⟩:=List.exists_mem_of_ne_nil ts BD;refine uN hh.1 l1 l2 (Xh ?_ (b8 hu));rw[u.tall_eq];exact Nat.succ_le_succ (Xr _)
theorem nY(f:Int->Int->Th)(ts:List Th):(fills f ts).length=ts.length:=by rw[dP,WO]
mutual
theorem lK{ks:List (Xk×Int)}{S' C':Int}(f:Int->Int->Th)(hf:∀s c,0<=s->s<S->0<=c->c<C->(f s c).FitS ks S' C'):∀t:Th,t.FitS ks S C->(t.fill f).FitS ks S' C'
 | .call s c,h=>by
   rw[p!]at h;rw[x!];exact hf s c h.1 h.2.1 h.2.2.1 h.2.2.2
 | .knot n ts,h=>by
   rw[p!]at h;rw[x!,p!,nY];exact⟨h.1,mL f hf ts h.2⟩
theorem mL{ks:List (Xk×Int)}{S' C':Int}(f:Int->Int->Th)(hf:∀s c,0<=s->s<S->0<=c->c<C->(f s c).FitS ks S' C'):∀ts:List Th,FitSs ks S C ts->FitSs ks S' C' (fills f ts)
 | [],_=>by rw[fills,FitSs];trivial
 | t::ts,h=>by
   rw[FitSs]at h;rw[fills,FitSs];exact⟨lK f hf t h.1,mL f hf ts h.2⟩
end
theorem oH{S:Int}{rows:List (List Th)}(g:aH ins)(ok:il ins outs S rows)(hS:S1<=1000):∀(n:Nat){s C:Int}{t:Th},t.size<=n->t.FitS ins S1 C->0<=s->s<S->(b7 (aJ ins rows) t s).FitS outs (1000 * S) C
 |0,s,C,t,hn,_,_,_=>by have:=t.size_pos;lia
 | n+1,s,C,.call l h,_,hf,h0,h1=>by
   rw[p!]at hf;rw[gC,p!];unfold enc;lia
 | n+1,s,C,.knot nm ts,hn,hf,h0,h1=>by
   have hl:Lead ins outs S S1 (.call s 0) (sol (.knot nm ts)):=Lead.sol (iu h0 h1) hf;obtain⟨j,row,p,hj,hr,hp,B9,Cn,_⟩:=Lead.next g ok hl (k:=sol (.knot nm ts)) (c:=0) rfl;rw[cK,B9];rw[p!]at hf;refine lK (ks:=outs) (S:=S) (C:=((w! nm ts).kids.length:Int)) (bN (bM (aJ ins rows) ts)) (λs' c a b cc dd=>?_) p Cn.fit;obtain⟨u,hu,e⟩:=pick_run (aJ ins rows) (ts:=ts) cc dd s';rw[e];exact oH g ok hS n (rm hn hu) (FitSs.mem' hf.2 u hu) a b
theorem sI{a c η:Nat}(h:a<=max η (bnd c m)){Rx:Nat}(h1:η<=Rx)(h2:c<=ι):a<=max Rx (ι - 1+m):=by
 exact qr h h1 (vy h2)
theorem tm{a c:Nat}(h:a<=iO c m)(h2:c<=ι):a<=ι - 1+m:=Xh h (rq h2)
theorem lx(pat:Int->Xk->Th)(s:Int)(t:Th):made pat (.call s 0) (sol t)=b7 pat t s:=eY (k:=sol t) pat rfl
mutual
theorem om{ks:List (Xk×Int)}{M:List Int}:∀t:Th,t.FitS ks S C->(∀x∈stT t,x∈M)->(ren (idx M) t).FitS ks (M.length:Int) C
 | .call s c,h,hm=>by
   rw[p!]at h;rw[gh,p!];have:=yA (hm s (by rw[kX];exact List.mem_singleton_self _));exact⟨this.1,this.2,h.2.2⟩
 | .knot n ts,h,hm=>by
   rw[p!]at h;rw[fU,p!,WO];exact⟨h.1,qc ts h.2 (by rw[ir]at hm;exact hm)⟩
theorem qc{ks:List (Xk×Int)}{M:List Int}:∀ts:List Th,FitSs ks S C ts->(∀x∈cm ts,x∈M)->FitSs ks (M.length:Int) C (ts.map (ren (idx M)))
 | [],_,_=>by rw[YM,FitSs];trivial
 | t::ts,h,hm=>by
   rw[FitSs]at h;rw[XC,FitSs];exact⟨om t h.1 λx hx=>hm x (XA _ hx),qc ts h.2 λx hx=>hm x (Xu _ hx)⟩
end
theorem pC{ks:List (Xk×Int)}(g:aH ks){t:Th}(h:t.FitS ks S C)(h1:t.tall<=6)(h2:lc t<=5):Small t:=by
 obtain⟨a,b⟩:=gv g t h;have a2:3 ^ t.tall<=3 ^ 6:=YX (by decide) h1;have b2:3 ^ lc t<=3 ^ 5:=YX (by decide) h2;have c:=nV t;have a3:(3:Nat) ^ 6=729:=by decide
 have b3:(3:Nat) ^ 5=243:=by decide
 exact⟨by lia,by lia,by lia⟩
structure LimK(ins outs:List (Xk×Int))(S:Int)(head:Th)(rows:List (List Th))(τ κ η ι:Nat):Prop where
 gi:aH ins
 go:aH outs
 fit:il ins outs S rows
 hdf:head.FitS outs S 1
 lim:∀row∈rows,∀t∈row,t.tall<=τ/\lc t<=κ
 hdl:head.tall<=η/\lc head<=ι
theorem BookOk.limK{d:Nat}{head:Th}{rows:List (List Th)}(gi:aH ins)(go:aH outs)(h:BookOk ins outs S d head rows):LimK ins outs S head rows (d+1) (d+1) 2 2:=by
 refine⟨gi,go,h.fitB,h.hdf,λrow hr t ht=>?_,h.hdt,Xh (nW _) h.hdt⟩;obtain⟨j,hj⟩:=Xg.mp ht;have Bs:=(glE hj);rw[(h.row row hr).len]at Bs;have:=((h.row row hr).fit j t _ hj (WQ Bs)).2;exact⟨this,Xh (nW _) this⟩
section
variable{S2:Int}{Ac Ad:Th}{FL FN Ej FO CU GG DE:Nat}
theorem ph(b1:LimK ins mid S1 Ac Ab FL FN Ej FO)(b2:LimK mid outs S2 Ad Aa CU 2 GG DE)(hS:S1<=1000)(ht:1<=CU){l st:Int}(h0:0<=l)(h1:l<S1)(g0:0<=st)(g1:st<S2){t:Th}{k:Xk×Int}(hj:(rowOf Ab l)[j]?=A? t)(hk:ins[j]?=A? k) :
 (b7 (aJ mid Aa) t st).FitS outs (1000 * S2) k.2/\(b7 (aJ mid Aa) t st).tall<=CU+FL - 1/\lc (b7 (aJ mid Aa) t st)<=FN:=by
 obtain⟨row,hr,e,_,_⟩:=cx b1.fit h0 h1;rw[e]at hj;have hf:=(b1.fit.row row (WR hr)).2 j t k hj hk;obtain⟨l1,l2⟩:=b1.lim row (WR hr) t (WR hj);obtain⟨r1,r2⟩:=nX b2.gi b2.fit b2.lim ht _ (WX _) hf g0 g1;exact⟨oH b2.gi b2.fit hS _ (WX _) hf g0 g1,Xh r1 (Z5 (Nat.add_le_add_left l1 _) _),Xh r2 l2⟩
theorem nu(b1:LimK ins mid S1 Ac Ab FL FN Ej FO)(b2:LimK mid outs S2 Ad Aa CU 2 GG DE)(hS:S1<=1000)(ht:1<=CU)(Mz:1<=Ej)(MA:1<=DE) :
 (joH mid Aa Ad Ac).FitS outs (1000 * S2) 1/\(joH mid Aa Ad Ac).tall<=max GG (DE - 1+(CU+Ej - 1))/\lc (joH mid Aa Ad Ac)<=DE - 1+FO:=by
 have key:∀s c,0<=s->s<S2->0<=c->c<1->(bN (bM (aJ mid Aa) (sol Ac).kids) s c)=b7 (aJ mid Aa) Ac s:=λs c a b cc d=>by
  obtain rfl:c=0:=by lia
  rfl
 refine⟨?_,?_⟩
 .refine lK _ (λs c a b cc d=>?_) Ad b2.hdf;rw[key s c a b cc d];exact oH b2.gi b2.fit hS _ (WX _) b1.hdf a b
 .have:=li (bN (bM (aJ mid Aa) (sol Ac).kids)) (m:=CU+Ej - 1) (c0:=FO) (λs c a b cc d=>by
   rw[key s c a b cc d];obtain⟨r1,r2⟩:=nX b2.gi b2.fit b2.lim ht _ (WX _) b1.hdf a b;exact⟨Xh r1 (Z5 (Nat.add_le_add_left b1.hdl.1 _) _),Xh r2 b1.hdl.2⟩) Ad b2.hdf
  exact⟨sI this.1 b2.hdl.1 b2.hdl.2,tm this.2 b2.hdl.2⟩
theorem joinOk_of(b1:LimK ins mid S1 Ac Ab FL FN Ej FO)(b2:LimK mid outs S2 Ad Aa CU 2 GG DE)(hm:S1 * S2<=20)(hS:S1<=1000)(ht:1<=CU)(Mz:1<=Ej)(MA:1<=DE)(h1:CU+FL - 1<=6)(h2:FN<=5)(h3:max GG (DE - 1+(CU+Ej - 1))<=6)(h4:DE - 1+FO<=5) :
 JoinOk ins mid outs S1 S2 Ac Ad Ab Aa:=by
 obtain⟨a1,a2,a3⟩:=nu b1 b2 hS ht Mz MA;refine⟨b2.gi,b1.gi.le,b1.fit,b2.fit,b1.hdf,b2.hdf,hS,hm,pC b2.go a1 (Xh a2 h3) (Xh a3 h4),λl st l0 l1 s0 s1 t MB=>?_⟩;obtain⟨j,hj⟩:=Xg.mp MB;obtain⟨row,hr,e,hlen,_⟩:=cx b1.fit l0 l1;have Bs:=(glE hj);rw[e,hlen]at Bs;obtain⟨c1,c2,c3⟩:=ph b1 b2 hS ht l0 l1 s0 s1 hj (WQ Bs);rw[lx];exact pC b2.go c1 (Xh c2 h1) (Xh c3 h2)
end
end BB
namespace L2
open PySem PySem.Spec PySem.Calls PyProof.Rows
def zC(i j:Int):Prop:=0<j/\j<2 ^ 210
theorem ue{X:Cx}:OpR X (ZC .FloorDiv) (rI zC λi j=>.int (i / j)):=opI λi j _ _ _ _ _ hc q=>by
 have h1:(0:Int)<j:=hc.1;have h2:j<2 ^ 210:=hc.2;refine floordiv_int (by lia) (by rw[Int.fdiv_eq_ediv_of_nonneg i (by lia)];exact q) (.inl (PyProof.noPylong_of_log2 ?_));have:j.natAbs.log2<210:=(Nat.log2_lt (by lia)).mpr (by lia);lia
end L2
namespace BB
open PySem L2
def uf:Th:=.knot (W5 "") []
mutual
def gG(e:Int->Int->Int)(pat:Int->Xk->Th):Th->Int->Th
 |.call l h,s=>.call (e s l) h
 |.knot n ts,s=>(pat s n).fill (bN (jP e pat ts))
def jP(e:Int->Int->Int)(pat:Int->Xk->Th):List Th->List (Int->Th)
 | []=>[]
 |t::ts=>gG e pat t::jP e pat ts
end
theorem i3(e:Int->Int->Int)(pat:Int->Xk->Th):∀ts:List Th,jP e pat ts=ts.map (gG e pat)
 | []=>by rw[jP];rfl
 |t::ts=>by rw[jP,i3 e pat ts];rfl
mutual
theorem d5(pat:Int->Xk->Th):∀(t:Th),gG enc pat t=b7 pat t
 |.call l h=>by funext s;rw[gG,b7]
 |.knot n ts=>by funext s;rw[gG,b7,mO pat ts]
theorem mO(pat:Int->Xk->Th):∀(ts:List Th),jP enc pat ts=bM pat ts
 | []=>by rw[jP,bM]
 |t::ts=>by rw[jP,bM,d5 pat t,mO pat ts]
end
theorem d9{fs:List (Int->Th)}{s:Int}{f:Int->Th}(h:fs[c.toNat]?=A? f):bN fs s c=f s:=by
 unfold bN;rw[ZS,h];rfl
theorem eU{fs:List (Int->Th)}{s:Int}(h:fs[c.toNat]?=B?):bN fs s c=uf:=by
 unfold bN;rw[ZS,h];rfl
theorem sV(f:Int->Int->Th):uf.fill f=uf:=by
 unfold uf;rw[x!,fills]
theorem pV(g:Int->Int)(t:Th)(f:Int->Int->Th):(ren g t).fill f=t.fill λs k=>f (g s) k:=by
 unfold ren;rw[gD];congr 1
mutual
theorem gW{f g:Int->Int->Th}:∀t:Th,(∀s∈stT t,∀k,f s k=g s k)->t.fill f=t.fill g
 | .call s k,h=>by
   rw[x!,x!];exact h s (by rw[kX];exact List.mem_singleton_self _) k
 | .knot n ts,h=>by
   rw[x!,x!,jJ ts (by rw[ir]at h;exact h)]
theorem jJ{f g:Int->Int->Th}:∀ts:List Th,(∀s∈cm ts,∀k,f s k=g s k)->fills f ts=fills g ts
 | [],_=>by rw[fills,fills]
 | t::ts,h=>by
   rw[fills,fills,gW t λs hs=>h s (XA _ hs),jJ ts λs hs=>h s (Xu _ hs)]
end
mutual
theorem jK{ks:List (Xk×Int)}{f g:Int->Int->Th}:∀t:Th,t.FitS ks S C->(∀s k,0<=s->s<S->0<=k->k<C->f s k=g s k)->t.fill f=t.fill g
 | .call s k,h,hf=>by
   rw[p!]at h;rw[x!,x!];exact hf s k h.1 h.2.1 h.2.2.1 h.2.2.2
 | .knot n ts,h,hf=>by
   rw[p!]at h;rw[x!,x!,iQ ts h.2 hf]
theorem iQ{ks:List (Xk×Int)}{f g:Int->Int->Th}:∀ts:List Th,FitSs ks S C ts->(∀s k,0<=s->s<S->0<=k->k<C->f s k=g s k)->fills f ts=fills g ts
 | [],_,_=>by rw[fills,fills]
 | t::ts,h,hf=>by
   rw[FitSs]at h;rw[fills,fills,jK t h.1 hf,iQ ts h.2 hf]
end
mutual
theorem lG{ks:List (Xk×Int)}{e1:Int->Int->Int}{pat:Int->Xk->Th}{F G:Int->Int->Th}(Km:∀s k c,0<=s->s<S->0<=k->k<C->gG e1 pat (F s k) c=G (enc c s) k):∀(p:Th),p.FitS ks S C->∀c,gG e1 pat (p.fill F) c=(gG enc pat p c).fill G
 | .call s k,h,c=>by
   rw[p!]at h;rw[x!,gG,x!];exact Km s k c h.1 h.2.1 h.2.2.1 h.2.2.2
 | .knot m us,h,c=>by
   rw[p!]at h;rw[x!,gG,gG,gD];congr 1;funext c' j;have hl:=mJ Km us h.2;rw[i3,i3];cases hj:us[j.toNat]? with
   | none =>
     rw[eU (by rw[W3,dP,W3,hj];rfl),eU (by rw[W3,hj];rfl),sV]
   | some u =>
     rw[d9 (f:=gG e1 pat (u.fill F)) (by rw[W3,dP,W3,hj];rfl),d9 (f:=gG enc pat u) (gmE hj)];exact hl u (WR hj) c'
theorem mJ{ks:List (Xk×Int)}{e1:Int->Int->Int}{pat:Int->Xk->Th}{F G:Int->Int->Th}(Km:∀s k c,0<=s->s<S->0<=k->k<C->gG e1 pat (F s k) c=G (enc c s) k):∀(us:List Th),FitSs ks S C us->∀u∈us,∀c,gG e1 pat (u.fill F) c=(gG enc pat u c).fill G
 | [],_,u,hu,c=>by cases hu
 | v::us,h,u,hu,c=>by
   rw[FitSs]at h;rcases W6.mp hu with e|e
   .rw[e];exact lG Km v h.1 c
   .exact mJ Km us h.2 u e c
end
def qv(R:Int->List Th)(h:Th):Th:=ren (idx (bd R h)) h
def jZ(R:Int->List Th)(h:Th):List (List Th):=(bd R h).map λs=>(R s).map (ren (idx (bd R h)))
theorem ug{h:Th}(hl:(bd R h).length<=20):∀s∈bd R h,∀x∈cm (R s),x∈bd R h:=hG 21 _ 0 (Nat.lt_of_le_of_lt hl (by decide)) λj s hj=>g! hj (Nat.not_lt_zero _)
theorem wU{h:Th}:∀x∈stT h,x∈bd R h:=λx hx=>(gu R 21 _ 0).subset (dh.mpr (.inr hx))
def ma(ins:List (Xk×Int))(R:Int->List Th)(s:Int)(n:Xk):Th:=(R s).getD ((ins.map (·.1)).idxOf n) uf
section
variable{k0 k1 k2 k3:List (Xk×Int)}{SA SB SC:Int}{a0 b0 c0:Th}{Ry Rz RA:List (List Th)}
end
mutual
theorem qy(g:Int->Int):∀t:Th,lc (ren g t)=lc t
 |.call s k=>by rw[gh,lc,lc]
 |.knot n ts=>by rw[fU,lc,lc,rE g ts]
theorem rE(g:Int->Int):∀ts:List Th,lcs (ts.map (ren g))=lcs ts
 | []=>rfl
 |t::ts=>by rw[XC,lcs,lcs,qy g t,rE g ts]
end
section
variable{S2:Int}{Ac Ad:Th}{FL FN Ej FO CU GG DE:Nat}
theorem sk(J:JoinOk ins mid outs S1 S2 Ac Ad Ab Aa)(b1:LimK ins mid S1 Ac Ab FL FN Ej FO)(b2:LimK mid outs S2 Ad Aa CU 2 GG DE)(ht:1<=CU)(Mz:1<=Ej)(MA:1<=DE) :
 LimK ins outs ((bd (joR mid Aa Ab) (joH mid Aa Ad Ac)).length:Int) (qv (joR mid Aa Ab) (joH mid Aa Ad Ac)) (jZ (joR mid Aa Ab) (joH mid Aa Ad Ac)) (CU+FL - 1) FN (max GG (DE - 1+(CU+Ej - 1))) (DE - 1+FO):=by
 obtain⟨a1,a2,a3⟩:=nu b1 b2 J.s1 ht Mz MA;have hlen:=J.len;have Oy:=J.met;have Oz:∀s∈bd (joR mid Aa Ab) (joH mid Aa Ad Ac),∀x∈cm (joR mid Aa Ab s),x∈bd (joR mid Aa Ab) (joH mid Aa Ad Ac):=hG 21 _ 0 (by show(bd _ _).length<0+21;lia) λj s hj=>g! hj (Nat.not_lt_zero _);have Kn:∀x∈stT (joH mid Aa Ad Ac),x∈bd (joR mid Aa Ab) (joH mid Aa Ad Ac):=λx hx=>(gu _ 21 _ 0).subset (dh.mpr (.inr hx))
 have Aj:∀s∈bd (joR mid Aa Ab) (joH mid Aa Ad Ac),(joR mid Aa Ab s).length=ins.length/\∀(j:Nat)(t:Th)(k:Xk×Int),(joR mid Aa Ab s)[j]?=A? t->ins[j]?=A? k->t.FitS outs (1000 * S2) k.2/\t.tall<=CU+FL - 1/\lc t<=FN:=λs hs=>by
  obtain⟨c1,c2,c3,c4⟩:=Oy s hs;obtain⟨row,hr,er,hl,_⟩:=cx J.f1 c3 c4;unfold joR;refine⟨by rw[WO,er,hl],λj t k hj hk=>?_⟩;rw[W3,Yi]at hj;obtain⟨u,hu,rfl⟩:=hj;rw[lx];exact ph b1 b2 J.s1 ht c3 c4 c1 c2 hu hk
 refine⟨b1.gi,b2.go,⟨by unfold jZ;rw[WO],λrow hr=>?_⟩,?_,λrow hr t ht=>?_,?_,?_⟩
 .obtain⟨s,hs,rfl⟩:=Xn.mp hr;obtain⟨h1,h2⟩:=Aj s hs;refine⟨by rw[WO];exact h1,λj p k hp hk=>?_⟩;rw[W3,Yi]at hp;obtain⟨u,hu,rfl⟩:=hp;exact om u (h2 j u k hu hk).1 λx hx=>Oz s hs x (pT (WR hu) hx)
 .exact om _ a1 Kn
 .obtain⟨s,hs,rfl⟩:=Xn.mp hr;obtain⟨h1,h2⟩:=Aj s hs;obtain⟨u,hu,rfl⟩:=Xn.mp ht;obtain⟨j,hj⟩:=Xg.mp hu;have Bs:=(glE hj);obtain⟨_,q1,q2⟩:=h2 j u _ hj (WQ (by lia));rw[(lR _ u).2,qy];exact⟨q1,q2⟩
 .show(ren _ _).tall<=_;rw[(lR _ _).2];exact a2
 .show lc (ren _ _)<=_;rw[qy];exact a3
end
theorem hid{G:Prop}(k:∀F:Prop,(G->F)->F):G:=k G id
inductive Ex1{A0:Type}(p:A0->Prop):Prop
 |mk (x0:A0) (h:p x0):Ex1 p
inductive Ex2{A0 A1:Type}(p:A0->A1->Prop):Prop
 |mk (x0:A0) (x1:A1) (h:p x0 x1):Ex2 p
inductive Ex3{A0 A1 A2:Type}(p:A0->A1->A2->Prop):Prop
 |mk (x0:A0) (x1:A1) (x2:A2) (h:p x0 x1 x2):Ex3 p
inductive Ex4{A0 A1 A2 A3:Type}(p:A0->A1->A2->A3->Prop):Prop
 |mk (x0:A0) (x1:A1) (x2:A2) (x3:A3) (h:p x0 x1 x2 x3):Ex4 p
inductive Ex5{A0 A1 A2 A3 A4:Type}(p:A0->A1->A2->A3->A4->Prop):Prop
 |mk (x0:A0) (x1:A1) (x2:A2) (x3:A3) (x4:A4) (h:p x0 x1 x2 x3 x4):Ex5 p
inductive Ex6{A0 A1 A2 A3 A4 A5:Type}(p:A0->A1->A2->A3->A4->A5->Prop):Prop
 |mk (x0:A0) (x1:A1) (x2:A2) (x3:A3) (x4:A4) (x5:A5) (h:p x0 x1 x2 x3 x4 x5):Ex6 p
inductive Ex7{A0 A1 A2 A3 A4 A5 A6:Type}(p:A0->A1->A2->A3->A4->A5->A6->Prop):Prop
 |mk (x0:A0) (x1:A1) (x2:A2) (x3:A3) (x4:A4) (x5:A5) (x6:A6) (h:p x0 x1 x2 x3 x4 x5 x6):Ex7 p
inductive Ex8{A0 A1 A2 A3 A4 A5 A6 A7:Type}(p:A0->A1->A2->A3->A4->A5->A6->A7->Prop):Prop
 |mk (x0:A0) (x1:A1) (x2:A2) (x3:A3) (x4:A4) (x5:A5) (x6:A6) (x7:A7) (h:p x0 x1 x2 x3 x4 x5 x6 x7):Ex8 p
inductive Ex9{A0 A1 A2 A3 A4 A5 A6 A7 A8:Type}(p:A0->A1->A2->A3->A4->A5->A6->A7->A8->Prop):Prop
 |mk (x0:A0) (x1:A1) (x2:A2) (x3:A3) (x4:A4) (x5:A5) (x6:A6) (x7:A7) (x8:A8) (h:p x0 x1 x2 x3 x4 x5 x6 x7 x8):Ex9 p
inductive An2(a0 a1:Prop):Prop
 |mk (h0:a0) (h1:a1):An2 a0 a1
inductive An3(a0 a1 a2:Prop):Prop
 |mk (h0:a0) (h1:a1) (h2:a2):An3 a0 a1 a2
inductive An4(a0 a1 a2 a3:Prop):Prop
 |mk (h0:a0) (h1:a1) (h2:a2) (h3:a3):An4 a0 a1 a2 a3
inductive An5(a0 a1 a2 a3 a4:Prop):Prop
 |mk (h0:a0) (h1:a1) (h2:a2) (h3:a3) (h4:a4):An5 a0 a1 a2 a3 a4
inductive An6(a0 a1 a2 a3 a4 a5:Prop):Prop
 |mk (h0:a0) (h1:a1) (h2:a2) (h3:a3) (h4:a4) (h5:a5):An6 a0 a1 a2 a3 a4 a5
inductive An7(a0 a1 a2 a3 a4 a5 a6:Prop):Prop
 |mk (h0:a0) (h1:a1) (h2:a2) (h3:a3) (h4:a4) (h5:a5) (h6:a6):An7 a0 a1 a2 a3 a4 a5 a6
inductive An8(a0 a1 a2 a3 a4 a5 a6 a7:Prop):Prop
 |mk (h0:a0) (h1:a1) (h2:a2) (h3:a3) (h4:a4) (h5:a5) (h6:a6) (h7:a7):An8 a0 a1 a2 a3 a4 a5 a6 a7
inductive An9(a0 a1 a2 a3 a4 a5 a6 a7 a8:Prop):Prop
 |mk (h0:a0) (h1:a1) (h2:a2) (h3:a3) (h4:a4) (h5:a5) (h6:a6) (h7:a7) (h8:a8):An9 a0 a1 a2 a3 a4 a5 a6 a7 a8
inductive uR(a0 a1 a2 a3 a4 a5 a6 a7 a8 a9:Prop):Prop
 |mk (h0:a0) (h1:a1) (h2:a2) (h3:a3) (h4:a4) (h5:a5) (h6:a6) (h7:a7) (h8:a8) (h9:a9):uR a0 a1 a2 a3 a4 a5 a6 a7 a8 a9
inductive yW(a0 a1 a2 a3 a4 a5 a6 a7 a8 a9 RB:Prop):Prop
 |mk (h0:a0) (h1:a1) (h2:a2) (h3:a3) (h4:a4) (h5:a5) (h6:a6) (h7:a7) (h8:a8) (h9:a9) (h10:RB):yW a0 a1 a2 a3 a4 a5 a6 a7 a8 a9 RB
end BB
namespace L2
open PySem PySem.Spec PyProof.Rows
end L2
namespace BB
open PySem L2
section
variable{d:Nat}{head:Th}{rows:List (List Th)}
end
end BB
namespace L2
open PySem PySem.Spec PyProof.Rows
def u8(H H1 H2:Hp):Prop:=∀b,H2 b=H1 b\/∃o u,H1 b=A? (.frz o u)/\H b=A? u/\H2 b=A? u
theorem yw{o:YF}{u:HO}(h:u=.frz o u):False:=by
 have:=h! sizeOf h;simp at this
theorem Inv.thaw{X:Cx}{Bt:St}{s1:WZ}(I:Inv X Z Y H s)(I1:Inv X Z Bt H1 s1)(h:u8 H H1 H2):Inv X Z Bt H2 s1:=by
 have keep:∀b u,H1 b=A? u->(∀o v,u≠.frz o v)->H2 b=A? u:=λb u e n=>by
  rcases h b with z|⟨o,v,z,_⟩
  .rw[z];exact e
  .rw[e]at z;cases z;exact g! rfl (n o v)
 have non:∀b,H1 b=B?->H2 b=none:=λb e=>by
  rcases h b with z|⟨o,v,z,_⟩
  .rw[z];exact e
  .rw[e]at z;cases z
 have ht:∀b xs,H1 b=A? (.tup xs)->H2 b=A? (.tup xs):=λb xs e=>keep b _ e (λ_ _ z=>nomatch z);have hw:∀c b,H1 b=A? (.own c)->H2 b=A? (.own c):=λc b e=>keep b _ e (λ_ _ z=>nomatch z);refine⟨I1.ok,I1.os,I1.bare,⟨I1.base.keep,I1.base.slot,λb o e n x=>non b (I1.base.free b o e n x),I1.base.there,λb xs e=>ht b xs (I1.base.tups b xs e),λb o u e=>?_,λb ps e=>?_⟩,I1.loc,I1.cell,non _ I1.free,λx c e=>non _ (I1.freeC x c e),λp hp=>?_,λb u e=>?_,I1.len⟩
 .have e1:=I1.base.frzs b o u e;have e2:=I.base.frzs b o u e;rcases h b with z|⟨o',v,z,z2,_⟩
  .rw[z];exact e1
  .rw[e1]at z;cases z;rw[e2]at z2;exact(yw (Xl z2).symm).elim
 .obtain⟨more,e1⟩:=I1.base.tbls b ps e;exact⟨more,keep b _ e1 (λ_ _ z=>nomatch z)⟩
 .obtain⟨a1,a2,a3⟩:=I1.pin p hp;exact⟨a1,non _ a2,a3⟩
 .rcases h b with z|⟨o,v,z,_,z3⟩
  .rw[z]at e;exact(I1.hok b u e).stay (λ_ _ _ q=>q) (hw b) ht
  .rw[z3]at e;cases e;obtain⟨_,k⟩:=(show ObjOk X.prog X.w H1 s1.1 b (.frz o u)from I1.hok b _ z);exact k.stay (λ_ _ _ q=>q) (hw b) ht
def ze(t:TS):TS:=λD Y H=>t {D with nx:=λBt H1=>∃H2,u8 H H1 H2/\D.nx Bt H2} Y H
theorem j1{X:Cx}{t:TS}(h:PS X st t):PS X st (ze t):=λZ s Y H D I q=>thn (h Z s Y H _ I q) λf s' r=>by
 cases f with
 | next =>
   obtain⟨Bt,H1,I1,H2,th,q2⟩:=r;exact⟨Bt,H2,I.thaw I1 th,q2⟩
 |brk=>exact r
 |cont=>exact r
 |ret u=>exact r
def lF(t:TE):TE:=λY H Q=>t Y H λv H1=>∃H2,u8 H H1 H2/\Q v H2
theorem nT{X:Cx}{t:TE}(h:PE X e t):PE X e (lF t):=λZ s Y H Q I q=>thn (h Z s Y H _ I q) λv s' r=>by
 obtain⟨x,H1,I1,rv,H2,th,q2⟩:=r;exact⟨x,H2,I.thaw I1 th,rv,q2⟩
theorem eh:entryFor table "dict_itemiterator.__iter__"=A? Y7.«dict_keyiterator.__iter__»:=entryFor_alias (id':="dict_keyiterator.__iter__") (by kernel_rfl) rfl (by decide +kernel) (by kernel_rfl)
theorem Inv.freezeK{X:Cx}{kvs:List (Key×V)}{o:YF}(I:Inv X Z Y H s)(ha:H a=A? (.dK kvs))(ho:s.1.get? a=A? o):Inv X Z Y (upd H a (.frz o (.dK kvs))) s:=by
 have ne:∀b u,H b=A? u->u≠.dK kvs->b≠a:=λb u e d z=>by rw[z,ha]at e;exact d (Xl e).symm
 have ht:∀b xs,H b=A? (.tup xs)->upd H a (.frz o (.dK kvs)) b=A? (.tup xs):=λb xs e=>by rw[af (ne b _ e (by intro z;cases z))];exact e
 have hw:∀c b,H b=A? (.own c)->upd H a (.frz o (.dK kvs)) b=A? (.own c):=λc b e=>by rw[af (ne b _ e (by intro z;cases z))];exact e
 have st:∀b u,H b=A? u->ObjOk X.prog X.w (upd H a (.frz o (.dK kvs))) s.1 b u:=λb u e=>(I.hok b u e).stay (λ_ _ _ q=>q) (hw b) ht;refine I.step (g':=s.gens) (d':=s.drawn) (t':=s.toks) (ch:=[]) (λ_ z=>nomatch z) (λb ob _ _ _ e _=>e) (λb ob _ _ _ e _=>⟨ob.slots,e⟩) (λb ob _ e n=>?_) (λb ob _ e=>⟨ob,e⟩) ht (λb ob u e=>?_) (λb ps e=>⟨#[],?_⟩) (λm hm=>hm) (λb u e=>?_) I.bare
 .rw[af (λz=>by rw[z,ha]at n;cases n)];exact n
 .rw[af (ne b _ e (by intro z;cases z))];exact e
 .rw[af (ne b _ e (by intro z;cases z)),e];simp
 .by_cases hb:b=a
  .subst hb;rw[ad]at e;cases e;exact⟨ho,st _ _ ha⟩
  .rw[af hb]at e;exact st b u e
theorem j8{o:YF}{es:Array DictEntry}{kvs:List (Key×V)}(hd:o.data=.dict es ep)(k:ObjOk P w H h a (.frz o (.dK kvs))) :
 ∃vs,KV kvs vs/\h.DictAt (aC P w) a vs ep/\vs.length=kvs.length:=by
 obtain⟨e0,z,y,vs,rel,o',Gp,Gq,h1,h2,h3,h4⟩:=k;rw[e0]at h1;cases h1;rw[hd]at h3;cases h3;exact⟨vs,rel,⟨o,es,e0,h2,hd,h4⟩,(Xa rel).symm⟩
theorem wq{k:Key}{v:WV}(h:(aC P w).is k v=C?):RelV (kV k) v:=by
 rcases bc h with⟨i,tk,e1,e2⟩|⟨x,tk,e1,e2⟩
 .rw[e1];exact⟨tk,e2⟩
 .rw[e1];exact⟨tk,e2⟩
def ItI(a:WS)(o:YF)(kvs:List (Key×V)):It :=
 ⟨λi H=>H a=A? (.frz o (.dK kvs))/\i<kvs.length,
  λi H v H'=>∃p kv,H p=B?/\v=.ref p/\H'=upd H p (.tup [kV kv.1,kv.2])/\kvs[i]?=A? kv,
  λi H=>H a=A? (.frz o (.dK kvs))/\kvs.length<=i⟩
theorem qH{k1}(a it:WS)(o:YF)(es:Array DictEntry)(ep:Nat)(kvs:List (Key×V))(hd:o.data=.dict es ep) :
 Turn P w K (.Tuple elts k1 pos) (ItI a o kvs) [it] it (λi h=>∃ok ov,IsItemIter h it a i kvs.length ep ok ov) where
 mem:=by simp
 obj:=λi h st b hb=>by
  obtain⟨ok,ov,e⟩:=st;have eb:b=it:=by simpa using hb
  subst eb;exact⟨_,e,λv z=>by cases z⟩
 keep:=λi h h' st k=>by
  obtain⟨ok,ov,e⟩:=st;exact⟨ok,ov,k it (by simp) _ e⟩
 item:=by
  walk_at"a";obtain⟨hq,Al⟩:=hg;obtain⟨ok,ov,hit⟩:=st;obtain⟨vs,rel,dat,hlen⟩:=j8 hd (I.hok a _ hq);obtain⟨kv,Ao⟩:∃kv,kvs[i]?=A? kv:=⟨_,WQ Al⟩;obtain⟨xv,OA,r1,r2⟩:=A! rel Ao;rw[<-hlen]at hit;have Br:it<s.1.1.size:=Xi hit;obtain⟨f0,f1,f2,f3,f4,f5⟩:=hf it (by simp);refine wpAny_pyNext_items_item hit dat (k:=xv.1) (v:=xv.2) OA λkey h1 Cq Cb Hu hsz EM=>?_;refine⟨_,D?,wpAny_letOwnedTupleGo_items Cb λh2 g1 sb=>?_⟩;replace sb:XW it h1 h2:=sb;have FE:H s.1.1.size=none:=I.hok.fresh (WX _)
  have IA:Inv X Z Y (upd H s.1.1.size (.tup [kV kv.1,kv.2])) {s with heap:=s.1.push {cls:=.type "tuple",data:=.seq #[key,xv.2]},toks:=s.toks} :=
   I.laid (o:=.tup [kV kv.1,kv.2]) (λb ob q=>WU _ q) (WX _) ⟨by show 2<=Xj;decide,[key,xv.2],0,.cons (by rw[r1];exact wq Cq) (.cons r2 .nil),W2 _ rfl⟩
  refine⟨.ref s.1.1.size,upd H s.1.1.size (.tup [kV kv.1,kv.2]),?_,D?,⟨_,kv,FE,D?,D?,Ao⟩,⟨_,_,by rw[<-hlen];exact g1⟩,λc hc=>?_⟩
  .refine Inv.turnedL (s:={s with heap:=s.1.push {cls:=.type "tuple",data:=.seq #[key,xv.2]},toks:=s.toks}) (h':=h2) (fp:=[it]) (t':=s.toks) IA (λc oc hc q=>?_) λc hc=>?_
   .have n1:c≠it:=λe=>hc (by simp[e]);rw[sb.2 c n1];by_cases hb2:c=s.1.1.size
    .subst hb2;have q':(s.1.push {cls:=.type "tuple",data:=.seq #[key,xv.2]}).get? s.1.1.size=A? oc:=q;rw[W2 _ rfl]at q';rw[<-q'];exact Hu
    .have q':(s.1.push {cls:=.type "tuple",data:=.seq #[key,xv.2]}).get? c=A? oc:=q;rw[Heap.get?_push_ne _ _ _ hb2]at q';exact EM c oc n1 q'
   .have e:c=it:=by simpa using hc
    subst e;exact⟨by rw[af (XD Br)];exact f0,f1,f2,f3,f4,f5⟩
  .have e:c=it:=by simpa using hc
   subst e;rw[af (XD Br)];exact f0
 done:=by
  walk_at"a";obtain⟨hq,FK⟩:=hg;obtain⟨ok,ov,hit⟩:=st;obtain⟨vs,rel,dat,hlen⟩:=j8 hd (I.hok a _ hq);rw[<-hlen]at hit;obtain⟨f0,f1,f2,f3,f4,f5⟩:=hf it (by simp);exact wpAny_pyNext_items_end (I.ok.hd hc) hit dat (XU (by lia)) λh' eb=>⟨rfl,I.turned (t':=s.toks) (λb ob hb e=>eb b ob hb e) f0 f1 f3 f4 f5⟩
 self:=by
  intro A i s Q E st h;obtain⟨ok,ov,e⟩:=st;have hT:s.TypeIs (.ref it) "dict_itemiterator":=⟨_,e,rfl⟩;refine wpAny_pyIter_slot hT ZX (XT ZX hT eh ?_ (F.args_dict_itemiterator_iter_1 _));exact WW ⟨_,rfl,"dict_itemiterator",_,hT,Yo.lookup,h⟩
section
variable{X:Cx}{apos Az:Pos}
def vg(tl:TE):TI:=λY H R=>tl Y H λx H1=>∃a kvs,x=.ref a/\H1 a=A? (.dK kvs)/\∀o,R (ItI a o kvs) (upd H1 a (.frz o (.dK kvs)))
theorem lw{k1}(he:PE X e te)(A9:Z6 e "items" X.env (YS e X.env)=YS e X.env:=by rfl)(Bo:(apos.endLine == Az.line)=true:=by rfl) :
 PI X (.Tuple elts k1 pos) (.Call (.Attribute e "items" apos) [] [] Az) (vg te):=by
 intro Z s Y H R I h;refine wpAny_Call_method0_late A9 Bo (thn (he Z s Y H _ I h) λv s1⟨x,H1,I1,r1,a,kvs,ex,ha,q⟩=>?_);subst ex;cases r1;obtain⟨z,y,vs,rel,dd⟩:=(show ObjOk X.prog X.w H1 s1.1 a (.dK kvs)from I1.hok a _ ha);obtain⟨o,es,ep,h1,h2,h3,h4⟩:=id dd;have hlen:kvs.length=vs.length:=Xa rel;have dat:s1.1.DictAt (aC X.prog X.w) a vs ep:=⟨o,es,h1,h2,h3,h4⟩;refine⟨"dict","dict.items",F.plainAttrs_dict,F.slot_dict_items,F.type_dict_items,dd.typeIs,dd.mapOf.noDict,?_⟩;refine method_meetsIn F.slot_dict_items F.entry_dict_items rfl (PySem.evalArgs_none ⟨rfl,dd.typeIs,F.args_dict_items_1 _,_,meets_dict_items (aC X.prog X.w) a y,⟨vs,dd⟩,?_⟩);have I2:=I1.freezeK ha h1;refine wpAny_pyIter_items (kvs:=vs) (ep:=ep) ⟨_,W2 _ rfl,rfl,rfl⟩ (dat.push _) ?_;generalize hN:((s1.1.push {cls:=.type "dict_items",data:=.fields #[.ref a]}).objs.size)=n;have hn:n=s1.1.1.size+1:=by rw[<-hN,Yb]
 have kept:∀b ob,s1.1.get? b=A? ob->((s1.1.push {cls:=.type "dict_items",data:=.fields #[.ref a]}).push {cls:=.type "dict_itemiterator",data:=.fields #[.none,.bool CG,.ref a,.int 0 0,.int vs.length 0,.int ep 0,.none,.none]}).get? b=A? ob:=λb ob e=>WU _ (WU _ e);have hz:s1.1.1.size<=n:=by lia
 refine⟨n,[n],_,_,upd H1 a (.frz o (.dK kvs)),D?,I2.kept (t':=s1.toks) kept,qH a n o es ep kvs h3,⟨.none,.none,?_⟩,λb hb=>?_,q o⟩
 .rw[<-hN,hlen];exact W2 _ rfl
 .have e:b=n:=by simpa using hb
  subst e;exact I2.fpOk hz (I2.hok.fresh hz)
theorem mq{o:YF}{kvs:List (Key×V)}{g:TG}(Pv:Nat->St->Hp->Prop)(h0:Pv 0 Y H)(hl:∀i Y H,i<=kvs.length->Pv i Y H->H a=A? (.frz o (.dK kvs)))
 (hs:∀i kv p Y H,kvs[i]?=A? kv->H p=B?->Pv i Y H->g (.ref p) Y (upd H p (.tup [kV kv.1,kv.2])) λAq H2=>tb {D with nx:=Pv (i+1),ct:=Pv (i+1),bk:=D.nx} Aq H2) (hd:∀Y H,Pv kvs.length Y H->D.nx Y H) :
 ∃W:Nat->Nat->St->Hp->Prop,(∃m,W 0 m Y H)/\∀i m Y H,W i m Y H ->
   ((ItI a o kvs).stop i H/\D.nx Y H)\/((ItI a o kvs).go i H/\∃N:St->Hp->Prop,(∀Ae H',N Ae H'->∃m',m'<m/\W (i+1) m' Ae H')/\∀x H',(ItI a o kvs).yld i H x H'->g x Y H' λAq H2=>tb {D with nx:=N,ct:=N,bk:=D.nx} Aq H2):=by
 refine⟨λi m Y H=>m=kvs.length - i/\i<=kvs.length/\Pv i Y H,⟨kvs.length,by simp,Xr _,h0⟩,?_⟩;rintro i m Y H ⟨rfl,hi,p⟩;have q:=hl i Y H hi p;by_cases Al:i<kvs.length
 .refine .inr ⟨⟨q,Al⟩,Pv (i+1),λAe H' p'=>⟨kvs.length - (i+1),by lia,rfl,Al,p'⟩,λx H' y=>?_⟩;obtain⟨pa,kv,hp,rfl,rfl,Ao⟩:=y;exact hs i kv pa Y H Ao hp p
 .have e:i=kvs.length:=by lia
  subst e;exact .inl ⟨⟨q,WX _⟩,hd Y H p⟩
end
def ItW(a:WS)(o:YF)(kvs:List (Key×V)):It :=
 ⟨λi H=>H a=A? (.frz o (.dK kvs))/\i<kvs.length,λi H v H'=>H'=H/\∃k,kvs[i]?=A? (k,v),λi H=>H a=A? (.frz o (.dK kvs))/\kvs.length<=i⟩
theorem pe(a it:WS)(o:YF)(es:Array DictEntry)(ep:Nat)(kvs:List (Key×V))(hd:o.data=.dict es ep) :
 Turn P w K tg (ItW a o kvs) [it] it (λi h=>h.IsValIter it a i kvs.length ep) where
 mem:=by simp
 obj:=λi h st b hb=>by
  have e:b=it:=by simpa using hb
  subst e;obtain⟨ob,e,c,d⟩:=st;exact⟨ob,e,λv z=>by rw[d]at z;cases z⟩
 keep:=λi h h' st k=>st.at λob e=>k it (by simp) ob e
 item:=by
  walk_at"a";obtain⟨hq,Al⟩:=hg;obtain⟨vs,rel,dat,hlen⟩:=j8 hd (I.hok a _ hq);obtain⟨kv,Ao⟩:∃kv,kvs[i]?=A? kv:=⟨_,WQ Al⟩;obtain⟨xv,OA,r1,r2⟩:=A! rel Ao;rw[<-hlen]at st;obtain⟨f0,f1,f2,f3,f4,f5⟩:=hf it (by simp);refine wpAny_pyNext_values_item st dat (k:=xv.1) (v:=xv.2) OA λh' BH sb=>?_;have I1:Inv X Z Y H {s with heap:=h'}:=I.turned (t':=s.toks) (λb ob hb e=>(sb.2 b hb).trans e) f0 f1 f3 f4 f5;rw[hlen]at BH;obtain⟨ob,e,c,d⟩:=id BH;exact⟨_,D?,kg (s:={s with heap:=h'}) e c d (by decide) ⟨kv.2,H,I1,r2,⟨D?,kv.1,Ao⟩,BH,λb hb=>(hf b hb).1⟩⟩
 done:=by
  walk_at"a";obtain⟨hq,FK⟩:=hg;obtain⟨vs,rel,dat,hlen⟩:=j8 hd (I.hok a _ hq);rw[<-hlen]at st;obtain⟨f0,f1,f2,f3,f4,f5⟩:=hf it (by simp);exact wpAny_pyNext_values_end (I.ok.hd hc) st dat (XU (by lia)) λh' eb=>⟨rfl,I.turned (t':=s.toks) (λb ob hb e=>eb b ob hb e) f0 f1 f3 f4 f5⟩
 self:=λ_ _ _ _ _ st h=>wpAny_pyIter_valiter st h
section
variable{X:Cx}{apos Az:Pos}
def vD(tl:TE):TI:=λY H R=>tl Y H λx H1=>∃a kvs,x=.ref a/\H1 a=A? (.dK kvs)/\∀o,R (ItW a o kvs) (upd H1 a (.frz o (.dK kvs)))
theorem tj(he:PE X e te)(A9:Z6 e "values" X.env (YS e X.env)=YS e X.env:=by rfl)(Bo:(apos.endLine == Az.line)=true:=by rfl) :
 PI X tg (.Call (.Attribute e "values" apos) [] [] Az) (vD te):=by
 intro Z s Y H R I h;refine wpAny_Call_method0_late A9 Bo (thn (he Z s Y H _ I h) λv s1⟨x,H1,I1,r1,a,kvs,ex,ha,q⟩=>?_);subst ex;cases r1;obtain⟨z,y,vs,rel,dd⟩:=(show ObjOk X.prog X.w H1 s1.1 a (.dK kvs)from I1.hok a _ ha);obtain⟨o,es,ep,h1,h2,h3,h4⟩:=id dd;have hlen:kvs.length=vs.length:=Xa rel;have dat:s1.1.DictAt (aC X.prog X.w) a vs ep:=⟨o,es,h1,h2,h3,h4⟩;refine⟨"dict","dict.values",F.plainAttrs_dict,F.slot_dict_values,F.type_dict_values,dd.typeIs,dd.mapOf.noDict,?_⟩;refine method_meetsIn F.slot_dict_values F.entry_dict_values rfl (PySem.evalArgs_none ⟨rfl,dd.typeIs,F.args_dict_values_1 _,_,meets_dict_values (aC X.prog X.w) a y,⟨vs,dd⟩,?_⟩);have I2:=I1.freezeK ha h1;refine wpAny_pyIter_values (kvs:=vs) (ep:=ep) ⟨_,W2 _ rfl,rfl,rfl⟩ (dat.push _) ?_;generalize hN:((s1.1.push {cls:=.type "dict_values",data:=.fields #[.ref a]}).objs.size)=n;have hn:n=s1.1.1.size+1:=by rw[<-hN,Yb]
 have hz:s1.1.1.size<=n:=by lia
 refine⟨n,[n],_,_,upd H1 a (.frz o (.dK kvs)),D?,I2.kept (t':=s1.toks) (λb ob e=>WU _ (WU _ e)),pe a n o es ep kvs h3,?_,λb hb=>?_,q o⟩
 .rw[<-hN,hlen];exact⟨_,W2 _ rfl,D?,D?⟩
 .have e:b=n:=by simpa using hb
  subst e;exact I2.fpOk hz (I2.hok.fresh hz)
theorem qk{o:YF}{kvs:List (Key×V)}{g:TG}(Pv:Nat->St->Hp->Prop)(h0:Pv 0 Y H)(hl:∀i Y H,i<=kvs.length->Pv i Y H->H a=A? (.frz o (.dK kvs)))
 (hs:∀i kv Y H,kvs[i]?=A? kv->Pv i Y H->g kv.2 Y H λAq H2=>tb {D with nx:=Pv (i+1),ct:=Pv (i+1),bk:=D.nx} Aq H2) (hd:∀Y H,Pv kvs.length Y H->D.nx Y H) :
 ∃W:Nat->Nat->St->Hp->Prop,(∃m,W 0 m Y H)/\∀i m Y H,W i m Y H ->
   ((ItW a o kvs).stop i H/\D.nx Y H)\/((ItW a o kvs).go i H/\∃N:St->Hp->Prop,(∀Ae H',N Ae H'->∃m',m'<m/\W (i+1) m' Ae H')/\∀x H',(ItW a o kvs).yld i H x H'->g x Y H' λAq H2=>tb {D with nx:=N,ct:=N,bk:=D.nx} Aq H2):=by
 refine⟨λi m Y H=>m=kvs.length - i/\i<=kvs.length/\Pv i Y H,⟨kvs.length,by simp,Xr _,h0⟩,?_⟩;rintro i m Y H ⟨rfl,hi,p⟩;have q:=hl i Y H hi p;by_cases Al:i<kvs.length
 .refine .inr ⟨⟨q,Al⟩,Pv (i+1),λAe H' p'=>⟨kvs.length - (i+1),by lia,rfl,Al,p'⟩,λx H' y=>?_⟩;obtain⟨rfl,k,Ao⟩:=y;exact hs i (k,x) Y _ Ao p
 .have e:i=kvs.length:=by lia
  subst e;exact .inl ⟨⟨q,WX _⟩,hd Y H p⟩
end
end L2
namespace PySem
open Sem (wp)
section
variable{i:Nat}{od:YF}{es:Array DictEntry}{ok ov:WV}
theorem bb_put{vs:Array WV}{x:WV}{Q:Unit->WZ->Prop}(e:s.1.get? it=A? {cls:=.type "dict_itemiterator",dict:=B?,data:=.fields vs,slots:=#[]})(hj:j<vs.size)
 (k:∀h',h'.get? it=A? {cls:=.type "dict_itemiterator",dict:=B?,data:=.fields (vs.setIfInBounds j x),slots:=#[]}->XW it s.1 h'->Q () {s with heap:=h'}):Xc (Xy prog w) A (setField (.ref it) j x) Q E s :=
 Y2 e hj λh' e' sb=>k h' e' sb
theorem bb_itemNextT{en:DictEntry}{Q:Option WV->WZ->Prop}(g:IsItemIter s.1 it d i es.size ep ok ov)(g1:s.1.get? d=A? od)(g2:od.data=.dict es ep)(hx:es[i]?=A? en)
 (fin:∀h',IsItemIterOut h' it d (i+1) es.size ep en.key en.val s.1.1.size->h'.get? s.1.1.size=A? {cls:=.type "tuple",data:=.seq #[en.key,en.val]}->(∀b o,b≠it->s.1.get? b=A? o->h'.get? b=A? o)->Q (A? (.ref s.1.1.size)) {s with heap:=h'}) :
 Xc (Xy prog w) A (ZJ (.ref it)) Q E s:=by
 obtain⟨h0,gn,dr,tk,os⟩:=s;have gT:Shared.TypeIs ⟨h0,gn,dr,tk,os⟩ (.ref it) "dict_itemiterator":=⟨_,g,rfl⟩;have own:Zj "dict_itemiterator"=true:=by decide
 have lt:i<es.size:=(Zm.mp hx).1;have ee:es[i]=en:=(Zm.mp hx).2;have Br:it<h0.objs.size:=Xi g;unfold ZJ;refine WN (ZI (XR (name:=W5 "__next__") gT Yo (XT Yo gT F.entry_dict_itemiterator_next ?_ (F.args_dict_itemiterator_next_1 _))));refine WN (WW (WN (WN ?_)));first|refine WN (ZL gT (WW ?_))|refine WN (wpAny_typeNameOf_itemiter gT (WW ?_))
 refine WN (wpAny_fieldsOf g rfl ?_);simp only[own,if_true];show Xc _ _ (if(XG d == Yj)=C? then _ else _) _ _ _;rw[a! (show¬((XG d == Yj)=C?)from Xm)];refine WN (WW (WN (Zd g1 g2 ?_)));rw[a! (by simp)];refine WN (WW (WN (wpAny_dictEpoch g1 g2 ?_)));rw[a! (by simp)];refine WW ?_;simp only[show¬((i:Int)<0)from by lia,if_false,Yl,Array.getElem?_eq_getElem lt];rw[ee];refine WN ?_;first|refine WN (ZL gT (WW ?_))|refine WN (wpAny_typeNameOf_itemiter gT (WW ?_))
 refine WN (wpAny_isOneOf_itemiter gT ?_);show Xc _ _ (setField (.ref it) 3 (YH ((i:Int)+1)) >>= _) _ _ _;refine WN (bb_put g (by simp) λh1 e1 Ji=>?_);replace Ji:XW it h0 h1:=Ji
 replace e1:IsItemIter h1 it d (i+1) es.size ep ok ov:=by
  have e:((i+1:Nat):Int)=(i:Int)+1:=by lia
  unfold IsItemIter;rw[e];simpa[YH]using e1
 have RC:Shared.TypeIs ⟨h1,gn,dr,tk,os⟩ (.ref it) "dict_itemiterator":=⟨_,e1,rfl⟩;refine WN (Yv (WN (wpAny_isOneOf_itemiter RC (WN (wpAny_isOneOf_itemiter RC ?_)))));show Xc _ _ (Builtin.Dict_items.pairFromOwner (.ref it) 6 en.key en.val) _ _ ⟨h1,gn,dr,tk,os⟩;unfold Builtin.Dict_items.pairFromOwner;refine WN (wpAny_newTuple ?_);have z1:h1.objs.size=h0.objs.size:=Ji.1;have e2:IsItemIter (h1.push {cls:=.type "tuple",data:=.seq #[en.key,en.val]}) it d (i+1) es.size ep ok ov:=WU _ e1;have t2:(h1.push {cls:=.type "tuple",data:=.seq #[en.key,en.val]}).get? h0.objs.size=A? {cls:=.type "tuple",data:=.seq #[en.key,en.val]}:=by rw[<-z1];exact W2 _ rfl
 have k2:∀b o,b≠it->h0.get? b=A? o->(h1.push {cls:=.type "tuple",data:=.seq #[en.key,en.val]}).get? b=A? o:=λb o hb q=>WU _ (Ji.extBut b o hb q);rw[z1];generalize h1.push {cls:=.type "tuple",data:=.seq #[en.key,en.val]}=h2 at e2 t2 k2 |-;show Xc _ _ (Builtin.Dict_items.ownedTupleIsFree (.ref it) >>= _) _ _ ⟨h2,gn,dr,tk,os⟩;refine WN ?_;unfold Builtin.Dict_items.ownedTupleIsFree;refine WN (XS e2 rfl (x:=.none) rfl (WW ?_));simp only[if_true];refine WN (XS e2 rfl (x:=ok) rfl (WN (XS e2 rfl (x:=ov) rfl ?_)));refine WN (bb_put e2 (by simp) λh3 e3 OB=>?_);replace OB:XW it h2 h3:=OB;refine WN (bb_put e3 (by simp) λh4 e4 OC=>?_);replace OC:XW it h3 h4:=OC;refine WN (bb_put e4 (by simp) λh5 e5 OD=>?_);replace OD:XW it h4 h5:=OD;refine WN (bb_put e5 (by simp) λh6 e6 Hv=>?_);replace Hv:XW it h5 h6:=Hv;have up:∀b o,b≠it->h2.get? b=A? o->h6.get? b=A? o:=λb o hb q=>Hv.extBut b o hb (OD.extBut b o hb (OC.extBut b o hb (OB.extBut b o hb q)));exact WN (wpAny_letGo (WW (WW ⟨_,rfl,WW (fin h6 (by unfold IsItemIterOut;simpa[YH]using e6) (up _ _ (ZK Br) t2) λb o hb q=>up b o hb (k2 b o hb q))⟩)))
theorem bb_itemEndT{Q:Option WV->WZ->Prop}(calm:A.handled=B?)(g:IsItemIter s.1 it d i es.size ep ok ov)(g1:s.1.get? d=A? od)(g2:od.data=.dict es ep)(hx:es.size<=i)
 (fin:∀h',Heap.ExtBut it s.1 h'->Q B? {s with heap:=h'}):Xc (Xy prog w) A (ZJ (.ref it)) Q E s:=by
 have gT:s.TypeIs (.ref it) "dict_itemiterator":=⟨_,g,rfl⟩;have own:Zj "dict_itemiterator"=true:=by decide
 unfold ZJ;refine WN (ZI (XR (name:=W5 "__next__") gT Yo (XT Yo gT F.entry_dict_itemiterator_next ?_ (F.args_dict_itemiterator_next_1 _))));refine WN (WW (WN (WN ?_)));first|refine WN (ZL gT (WW ?_))|refine WN (wpAny_typeNameOf_itemiter gT (WW ?_))
 refine WN (wpAny_fieldsOf g rfl ?_);simp only[own,if_true];show Xc _ _ (if(XG d == Yj)=C? then _ else _) _ _ s;rw[a! (show¬((XG d == Yj)=C?)from Xm)];refine WN (WW (WN (Zd g1 g2 ?_)));rw[a! (by simp)];refine WN (WW (WN (wpAny_dictEpoch g1 g2 ?_)));rw[a! (by simp)];refine WW ?_;simp only[show¬((i:Int)<0)from by lia,if_false,Yl,Array.getElem?_eq_none hx];refine WN ?_;first|refine WN (ZL gT (WW ?_))|refine WN (wpAny_typeNameOf_itemiter gT (WW ?_))
 show Xc _ _ (setField (.ref it) 2 .none >>= _) _ _ s;refine WN (ZM g rfl (by simp) ?_);show Xc _ _ (newExc (.type "StopIteration") [] >>= _) _ _ _;refine WN ?_;simp only[newExc,newTuple];refine WN (XQ ?_ (by size_fits));refine WN (m:=ZO _ _) (wpAny_of_eq (a:=Yj) (by first|rfl|(simp only[ZO];rfl)) ?_);refine XQ ?_ (by size_fits);simp only[raiseNew];refine WN (wpAny_handled ?_);rw[show A.in1.handled=B? from calm];refine WN (WW (wpAny_throw ?_));refine WN (ZN (T:="StopIteration") (b:=C?) ⟨_,W2 _ rfl,rfl⟩ isSubtype_stop ?_);exact WW (fin _ (((YG ..).extBut.push _).push _))
theorem bb_itemsT(ns:(d == Yr)=CG)(gT:s.TypeIs (.ref d) "dict")(fin:Q (.ref s.1.1.size) {s with heap:=s.1.push {cls:=.type "dict_items",data:=.fields #[.ref d]}}):Xc (Xy prog w) A (call (.builtin "dict.items") [.ref d]) Q E s:=by
 refine XT F.slot_dict_items gT F.entry_dict_items ?_ (F.args_dict_items_1 _);unfold Y7.«dict.items»;refine WN ?_;unfold Builtin.Dict.noArgs;refine WN (wpAny_notOrdered_dict gT ?_);show Xc _ _ (pure d) _ _ s;refine WW ?_;show Xc _ _ (Builtin.Dict.showsAll d >>= _) _ _ s;unfold Builtin.Dict.showsAll;rw[a! (by rw[ns];exact Xm)];exact WN (WW (WN (XQ (WW ⟨_,rfl,fin⟩))))
theorem bb_itemsIterT{v:WS}(hv:s.1.IsItemsView v d)(g1:s.1.get? d=A? od)(g2:od.data=.dict es ep)
 (fin:Q (.ref s.1.1.size) {s with heap:=s.1.push {cls:=.type "dict_itemiterator",data:=.fields #[.none,.bool CG,.ref d,.int 0 0,.int es.size 0,.int ep 0,.none,.none]}}):Xc (Xy prog w) A (pyIter (.ref v)) Q E s:=by
 obtain⟨o,e1,e2,e3⟩:=id hv;have own:Zj "dict_itemiterator"=true:=by decide
 refine wpAny_pyIter_slot hv.typeIs F.slot_dict_items_iter (XT F.slot_dict_items_iter hv.typeIs F.entry_dict_items_iter ?_ (F.args_dict_items_iter_1 _));unfold Y7.«dict_items.__iter__»;refine WN (WW (WN ?_));unfold Builtin.Dict_items.dictOf;refine WN (XS e1 e3 (x:=.ref d) rfl (WW ?_));refine WN ?_;unfold Builtin.Dict_items.newIterator;refine WN (Zd g1 g2 (WN (wpAny_dictEpoch g1 g2 ?_)));simp only[own,if_true];refine XQ (WW ⟨_,rfl,"dict_itemiterator",_,⟨_,W2 _ rfl,rfl⟩,Yo.lookup,?_⟩) (by simp only[sizeOk,Builtin.Dict_items.ownedTupleFields,W9,W7,Xf,List.length_nil,ZA];lia);simpa[YH,Builtin.Dict_items.ownedTupleFields]using fin
end
end PySem
namespace L2
open PySem PySem.Spec PyProof.Rows
def yR(a:WS)(o:YF)(kvs:List (List Key×V)):It :=
 ⟨λi H=>H a=A? (.frz o (.dT kvs))/\i<kvs.length,
  λi H v H'=>∃p b kv,H p=B?/\v=.ref p/\H'=upd H p (.tup [.ref b,kv.2])/\kvs[i]?=A? kv/\H b=A? (.tup (kv.1.map kV)),
  λi H=>H a=A? (.frz o (.dT kvs))/\kvs.length<=i⟩
theorem qh{k1}(a it:WS)(o:YF)(es:Array DictEntry)(ep:Nat)(kvs:List (List Key×V))(hd:o.data=.dict es ep) :
 Turn P w K (.Tuple elts k1 pos) (yR a o kvs) [it] it (λi h=>∃ok ov,IsItemIter h it a i es.size ep ok ov) where
 mem:=by simp
 obj:=λi h st b hb=>by
  obtain⟨ok,ov,e⟩:=st;have eb:b=it:=by simpa using hb
  subst eb;exact⟨_,e,λv z=>by cases z⟩
 keep:=λi h h' st k=>by
  obtain⟨ok,ov,e⟩:=st;exact⟨ok,ov,k it (by simp) _ e⟩
 item:=by
  walk_at"a";obtain⟨hq,Al⟩:=hg;obtain⟨ok,ov,hit⟩:=st;obtain⟨e0,z,y,xs,r,o',Gp,Gq,h1,h2,h3,h4,h5⟩:=(show ObjOk X.prog X.w H s.1 a (.frz o (.dT kvs))from I.hok a _ hq);rw[e0]at h1;cases h1;rw[hd]at h3;cases h3;obtain⟨kv,Ao⟩:∃kv,kvs[i]?=A? kv:=⟨_,WQ Al⟩;obtain⟨q',Fz,hr⟩:=A! r Ao;have NU:es[i]?=A? (entryOfKey (tupleKind (aC X.prog X.w)) q'):=by rw[<-ZU,h4,W3,Fz];rfl
  have Br:it<s.1.1.size:=Xi hit;obtain⟨f0,f1,f2,f3,f4,f5⟩:=hf it (by simp);refine bb_itemNextT hit e0 hd NU λh1 Cb Hu EM=>?_;refine⟨_,D?,wpAny_letOwnedTupleGo_items Cb λh2 g1 sb=>?_⟩;replace sb:XW it h1 h2:=sb;have FE:H s.1.1.size=none:=I.hok.fresh (WX _)
  have IA:Inv X Z Y (upd H s.1.1.size (.tup [.ref q'.2.1,kv.2])) {s with heap:=s.1.push {cls:=.type "tuple",data:=.seq #[.ref q'.2.1,q'.2.2]},toks:=s.toks} :=
   I.laid (o:=.tup [.ref q'.2.1,kv.2]) (λb ob q=>WU _ q) (WX _) ⟨by show 2<=Xj;decide,[.ref q'.2.1,q'.2.2],0,.cons rfl (.cons hr.2.2 .nil),W2 _ rfl⟩
  refine⟨.ref s.1.1.size,upd H s.1.1.size (.tup [.ref q'.2.1,kv.2]),?_,D?,⟨_,q'.2.1,kv,FE,D?,D?,Ao,hr.2.1⟩,⟨_,_,g1⟩,λc hc=>?_⟩
  .refine Inv.turnedL (s:={s with heap:=s.1.push {cls:=.type "tuple",data:=.seq #[.ref q'.2.1,q'.2.2]},toks:=s.toks}) (h':=h2) (fp:=[it]) (t':=s.toks) IA (λc oc hc q=>?_) λc hc=>?_
   .have n1:c≠it:=λe=>hc (by simp[e]);rw[sb.2 c n1];by_cases hb2:c=s.1.1.size
    .subst hb2;have q2:(s.1.push {cls:=.type "tuple",data:=.seq #[.ref q'.2.1,q'.2.2]}).get? s.1.1.size=A? oc:=q;rw[W2 _ rfl]at q2;rw[<-q2];exact Hu
    .have q2:(s.1.push {cls:=.type "tuple",data:=.seq #[.ref q'.2.1,q'.2.2]}).get? c=A? oc:=q;rw[Heap.get?_push_ne _ _ _ hb2]at q2;exact EM c oc n1 q2
   .have e:c=it:=by simpa using hc
    subst e;exact⟨by rw[af (XD Br)];exact f0,f1,f2,f3,f4,f5⟩
  .have e:c=it:=by simpa using hc
   subst e;rw[af (XD Br)];exact f0
 done:=by
  walk_at"a";obtain⟨hq,FK⟩:=hg;obtain⟨ok,ov,hit⟩:=st;obtain⟨e0,z,y,xs,r,o',Gp,Gq,h1,h2,h3,h4,h5⟩:=(show ObjOk X.prog X.w H s.1 a (.frz o (.dT kvs))from I.hok a _ hq);rw[e0]at h1;cases h1;rw[hd]at h3;cases h3;have hl:=Xa r
  have Bb:es.size=xs.length:=by
   have:=h! Ze h4;rw[WO,Xo]at this;exact this
  obtain⟨f0,f1,f2,f3,f4,f5⟩:=hf it (by simp);exact bb_itemEndT (I.ok.hd hc) hit e0 hd (by lia) λh' eb=>⟨rfl,I.turned (t':=s.toks) (λb ob hb e=>eb b ob hb e) f0 f1 f3 f4 f5⟩
 self:=by
  intro A i s Q E st h;obtain⟨ok,ov,e⟩:=st;have hT:s.TypeIs (.ref it) "dict_itemiterator":=⟨_,e,rfl⟩;refine wpAny_pyIter_slot hT ZX (XT ZX hT eh ?_ (F.args_dict_itemiterator_iter_1 _));exact WW ⟨_,rfl,"dict_itemiterator",_,hT,Yo.lookup,h⟩
section
variable{X:Cx}{apos Az:Pos}
def rW(tl:TE):TI:=λY H R=>tl Y H λx H1=>∃a kvs,x=.ref a/\H1 a=A? (.dT kvs)/\∀o,R (yR a o kvs) (upd H1 a (.frz o (.dT kvs)))
theorem mI{k1}(he:PE X e te)(A9:Z6 e "items" X.env (YS e X.env)=YS e X.env:=by rfl)(Bo:(apos.endLine == Az.line)=true:=by rfl) :
 PI X (.Tuple elts k1 pos) (.Call (.Attribute e "items" apos) [] [] Az) (rW te):=by
 intro Z s Y H R I h;refine wpAny_Call_method0_late A9 Bo (thn (he Z s Y H _ I h) λv s1⟨x,H1,I1,r1,a,kvs,ex,ha,q⟩=>?_);subst ex;cases r1;obtain⟨z,y,xs,r,dd⟩:=(show ObjOk X.prog X.w H1 s1.1 a (.dT kvs)from I1.hok a _ ha);obtain⟨o,es,ep,h1,h2,h3,h4,h5⟩:=id dd;have gT:s1.TypeIs (.ref a) "dict":=⟨_,h1,h2.1⟩;refine⟨"dict","dict.items",F.plainAttrs_dict,F.slot_dict_items,F.type_dict_items,gT,λc e=>by cases e;exact⟨_,h1,h2.2.1⟩,?_⟩;refine Calls.callWith_builtin rfl (PySem.evalArgs_none (bb_itemsT y gT ?_));have I2:=I1.freeze ha h1;refine bb_itemsIterT (d:=a) (od:=o) (es:=es) (ep:=ep) ⟨_,W2 _ rfl,rfl,rfl⟩ (WU _ h1) h3 ?_;generalize hN:((s1.1.push {cls:=.type "dict_items",data:=.fields #[.ref a]}).objs.size)=n;have hn:n=s1.1.1.size+1:=by rw[<-hN,Yb]
 have hz:s1.1.1.size<=n:=by lia
 refine⟨n,[n],_,_,upd H1 a (.frz o (.dT kvs)),D?,I2.kept (t':=s1.toks) (λb ob e=>WU _ (WU _ e)),qh a n o es ep kvs h3,⟨.none,.none,?_⟩,λb hb=>?_,q o⟩
 .rw[<-hN];exact W2 _ rfl
 .have e:b=n:=by simpa using hb
  subst e;exact I2.fpOk hz (I2.hok.fresh hz)
end
def uA(K:WY)(a b:WS):It:=⟨λi H=>∃xs ys x y,SqL K H a xs/\SqL K H b ys/\xs[i]?=A? x/\ys[i]?=A? y,λi H v H'=>∃p x y,H p=B?/\v=.ref p/\H'=upd H p (.tup [x,y])/\(∀xs,SqL K H a xs->xs[i]?=A? x)/\(∀ys,SqL K H b ys->ys[i]?=A? y),λi H=>∃xs ys,SqL K H a xs/\SqL K H b ys/\(xs.length<=i\/ys.length<=i)⟩
structure aat(z TI TO i1 i2 a b:WS)(i:Nat)(h:X5):Prop where
 ap:ZipApart z TI TO i1 i2 a b
 zip:IsZip h z TI TO .none
 hTI:Zv h TI (.ref i1) (.ref i2)
 hTO:∃u v,Zv h TO u v
 h1:h.IsListIter i1 a i
 h2:h.IsListIter i2 b i
theorem tw{k1}(a b z TI TO i1 i2:WS):Turn P w K (.Tuple elts k1 pos) (uA K a b) [z,TI,TO,i1,i2] z (aat z TI TO i1 i2 a b) where
 mem:=by simp
 obj:=λi h st c hc=>by
  obtain⟨D,hz,hTI,⟨u,v,hTO⟩,⟨o1,a1,a2,a3⟩,⟨o2,b1,b2,b3⟩⟩:=st;simp only[W6,ZG,or_false]at hc;rcases hc with rfl|rfl|rfl|rfl|rfl
  .exact⟨_,hz,λv z=>by cases z⟩
  .exact⟨_,hTI,λv z=>by cases z⟩
  .exact⟨_,hTO,λv z=>by cases z⟩
  .exact⟨o1,a1,λv z=>by rw[a3]at z;cases z⟩
  .exact⟨o2,b1,λv z=>by rw[b3]at z;cases z⟩
 keep:=λi h h' st k=>by
  obtain⟨D,hz,hTI,⟨u,v,hTO⟩,⟨o1,a1,a2⟩,⟨o2,b1,b2⟩⟩:=st;exact⟨D,k _ (by simp) _ hz,k _ (by simp) _ hTI,⟨u,v,k _ (by simp) _ hTO⟩,⟨o1,k _ (by simp) _ a1,a2⟩,⟨o2,k _ (by simp) _ b1,b2⟩⟩
 item:=by
  walk_at"a";obtain⟨xs,ys,x,y,DT,DU,hx,hy⟩:=hg;obtain⟨ia,FF,pa,EI⟩:=I.list DT;obtain⟨ib,FG,pb,J8⟩:=I.list DU;obtain⟨u,hu,ru⟩:=FF.get hx;obtain⟨v,hv,rv⟩:=FG.get hy;obtain⟨D,hz,hTI,⟨ta,tb,hTO⟩,h1,h2⟩:=st
  have lt:∀c∈[z,TI,TO,i1,i2],c<s.1.1.size:=λc hc=>by
   simp only[W6,ZG,or_false]at hc;rcases hc with rfl|rfl|rfl|rfl|rfl
   .exact Xi hz
   .exact Xi hTI
   .exact Xi hTO
   .obtain⟨o,e,_⟩:=h1;exact Xi e
   .obtain⟨o,e,_⟩:=h2;exact Xi e
  refine wpAny_pyNext_zip_item D hz hTI hTO h1 h2 pa.isList pb.isList (by simpa using hu) (by simpa using hv) λC4 a1 a2 a3 a4 a5 a6 a7=>?_;refine⟨_,D?,wpAny_letOwnedTupleGo_zip a1 λDj g1 sb=>?_⟩;replace sb:XW z C4 Dj:=sb;have FE:H s.1.1.size=none:=I.hok.fresh (WX _)
  have IA:Inv X Z Y (upd H s.1.1.size (.tup [x,y])) {s with heap:=s.1.push {cls:=.type "tuple",data:=.seq #[u,v]},toks:=s.toks} :=
   I.laid (o:=.tup [x,y]) (λb ob q=>WU _ q) (WX _) ⟨by show 2<=Xj;decide,[u,v],0,.cons ru (.cons rv .nil),W2 _ rfl⟩
  have TZ:s.1.1.size≠z:=ZK (lt z (by simp));refine⟨.ref s.1.1.size,upd H s.1.1.size (.tup [x,y]),?_,D?,⟨_,x,y,FE,D?,D?,λzs Hk=>by rw[I.list_inj Hk DT];exact hx,λzs Hk=>by rw[I.list_inj Hk DU];exact hy⟩,?_,λc hc=>?_⟩
  .have IB:Inv X Z Y (upd H s.1.1.size (.tup [x,y])) {s with heap:=Dj,toks:=s.toks}:=by
    refine Inv.turnedL (s:={s with heap:=s.1.push {cls:=.type "tuple",data:=.seq #[u,v]},toks:=s.toks}) (h':=Dj) (fp:=[z,TI,TO,i1,i2]) (t':=s.toks) IA (λc o hc q=>?_) λc hc=>?_
    .have n1:c≠z:=λe=>hc (by simp[e]);have n2:c≠TO:=λe=>hc (by simp[e]);have n3:c≠i1:=λe=>hc (by simp[e]);have n4:c≠i2:=λe=>hc (by simp[e]);rw[sb.2 c n1];by_cases hb2:c=s.1.1.size
     .subst hb2;have q':(s.1.push {cls:=.type "tuple",data:=.seq #[u,v]}).get? s.1.1.size=A? o:=q;rw[W2 _ rfl]at q';rw[<-q'];exact a5
     .have q':(s.1.push {cls:=.type "tuple",data:=.seq #[u,v]}).get? c=A? o:=q;rw[Heap.get?_push_ne _ _ _ hb2]at q';exact a7 c o n1 n2 n3 n4 q'
    .obtain⟨f0,f1⟩:=hf c hc;exact⟨by rw[af (XD (lt c hc))];exact f0,f1⟩
   exact IB
  .have sT:∀c o,c≠z->C4.get? c=A? o->Dj.get? c=A? o:=λc o hc e=>(sb.2 c hc).trans e;refine⟨D,g1,sT _ _ D.TIz (a7 _ _ D.TIz D.TITO D.TIi1 D.TIi2 hTI),⟨_,_,sT _ _ D.TOz a2⟩,?_,?_⟩
   .obtain⟨o,e,r⟩:=a3;exact⟨o,sT _ _ D.i1z e,r⟩
   .obtain⟨o,e,r⟩:=a4;exact⟨o,sT _ _ D.i2z e,r⟩
  .rw[af (XD (lt c hc))];exact(hf c hc).1
 done:=by
  walk_at"a";obtain⟨xs,ys,DT,DU,CM⟩:=hg;obtain⟨ia,FF,pa,EI⟩:=I.list DT;obtain⟨ib,FG,pb,J8⟩:=I.list DU;have NY:=FF.length;have T1:=FG.length;obtain⟨D,hz,hTI,hTO,h1,h2⟩:=st;obtain⟨ta,tb,hTO⟩:=hTO;refine wpAny_pyNext_zip_end (I.ok.hd hc) D hz hTI hTO h1 h2 pa.isList pb.isList ?_ λh' kp=>⟨rfl,?_⟩
  .rcases CM with h|h
   .exact .inl (by simp;lia)
   .exact .inr (by simp;lia)
  exact I.turnedL (fp:=[z,TI,TO,i1,i2]) (t':=s.toks) (λc o hc q=>kp c o (λe=>hc (by simp[e])) (λe=>hc (by simp[e])) (λe=>hc (by simp[e])) (λe=>hc (by simp[e])) q) hf
 self:=λ_ _ _ _ _ st h=>wpAny_pyIter_zip st.zip h
section
variable{X:Cx}{e1 e2:X3}{t:TA}{p2 Bl:Pos}
def y3(K:WY)(t:TA):TI:=λY H R=>t Y H λvs H1=>∃a b,vs=[.ref a,.ref b]/\(∃xs,SqL K H1 a xs)/\(∃ys,SqL K H1 b ys)/\R (uA K a b) H1
theorem wb{k1}(g2:Gl X "zip")(m2:X.mg "zip"=B?)(ha:PA X [e1,e2] t)
 (h2:XO [e1,e2] X.env=(CG,YS e1 X.env)::XO [e2] X.env:=by rfl) (h3:(Z0 Bl (XO [e2] X.env)).any (·.1)=false:=by rfl):PI X (.Tuple elts k1 pos) (.Call (.Name "zip" p2) [e1,e2] [] Bl) (y3 X.K t):=by
 intro Z s Y H R I h;refine Yq (gf I g2 m2 boot_zip ?_);refine Yu (thn (ha Bl Z s Y H _ I h) λus s2⟨vs,H2,I2,r,a,b,ev,⟨xs,DT⟩,⟨ys,DU⟩,q⟩=>?_) h2 h3;subst ev;obtain⟨u1,u2,rfl,r1,r2⟩:=vals2 r;cases r1;cases r2;obtain⟨ia,FF,pa,EI⟩:=I2.list DT;obtain⟨ib,FG,pb,J8⟩:=I2.list DU;have AO:a<s2.1.1.size:=by obtain⟨o,e,_⟩:=pa.isList;exact Xi e
 have BL:b<s2.1.1.size:=by obtain⟨o,e,_⟩:=pb.isList;exact Xi e
 refine call_zip_2 pa.isList pb.isList λh' z1 z2 z3 z4 z5 z6 z7=>?_;have D:ZipApart (s2.1.1.size+4) (s2.1.1.size+2) (s2.1.1.size+3) s2.1.1.size (s2.1.1.size+1) a b:=zipApart_new AO BL;refine wpAny_pyIter_zip (s:={s2 with heap:=h'}) z1 ?_;refine⟨s2.1.1.size+4,[s2.1.1.size+4,s2.1.1.size+2,s2.1.1.size+3,s2.1.1.size,s2.1.1.size+1],_,_,H2,D?,I2.kept (t':=s2.toks) z7,tw a b _ _ _ _ _,⟨D,z1,z2,⟨_,_,z3⟩,z4,z5⟩,λc hc=>?_,q⟩
 have Bd:s2.1.1.size<=c:=by
  simp only[W6,ZG,or_false]at hc;rcases hc with h|h|h|h|h <;> rw[h]
  .exact Yz _ _
  .exact Yz _ _
  .exact Yz _ _
  .exact WX _
  .exact Yz _ _
 exact I2.fpOk Bd (I2.hok.fresh Bd)
end
def eZ:List (Key×V)->List (Key×V)->List (Key×V)
 |kvs,[]=>kvs
 |kvs,p::ps=>eZ (putK kvs p.1 p.2) ps
def PrK(H:Hp)(pr:Key×V)(pa:WS):Prop:=H pa=A? (.tup [kV pr.1,pr.2])
section
variable{X:Cx}
theorem qm{r key:WV}{k:Key}{kvs:List (Key×V)}{Q:Unit->WZ->Prop}(I:Inv X Z Y H s)(e:H a=A? (.dK kvs))(rk:RelV (kV k) key)(l:kvs.length<Xj)(rv:RelV v r)(h:∀h' tk,XW a s.1 h'->Inv X Z Y (upd H a (.dK (putK kvs k v))) {s with heap:=h',toks:=tk}->Q () {s with heap:=h',toks:=tk}) :
 Xc (Xy X.prog X.w) A (dictSet a key r) Q E s:=by
 obtain⟨z,hd,xs,rel,dd⟩:=xf I.hok e;have hz:xs.length<=Xj:=by rw[<-rel.length];exact z
 have hl:(putK kvs k v).length<=Xj:=by have:=bG kvs k v;lia
 refine wpAny_dictSet_pairs (kE rk) dd (λh' EE hs=>h _ _ hs ?_) hz;obtain⟨q,es,ep,hq,rest⟩:=id EE;exact iE I (by rw[e];exact Z3) hs ⟨q,hq⟩ ⟨hl,hd,_,rel.put k rv,EE⟩
theorem qF{prs:List (Key×V)}{ps:List WS}{R:Result->WZ->Prop}(hh:A.handled=B?)(hu:A.units+8<YJ)(hn:prs.length<=10000) :
 ∀(m i:Nat)(s:WZ)(tk:Tok)(H:Hp)(kvs:List (Key×V)),prs.length - i=m->i<=prs.length->Inv X Z Y H s->H d=A? (.dK kvs)->kvs.length<=i->ja X Z H it->s.1.IsListIter it l i->H l=A? (.lst (ps.map i!))->XH (PrK H) prs ps ->
   (∀s',Inv X Z Y (upd H d (.dK (eZ kvs (prs.drop i)))) s'->R (.ok (.ret .none)) s') ->
   codeAny (Xy X.prog X.w) A (.builtin "dict.update.loop" ⟨[.ref d,.ref it,.int i tk,.none],[]⟩) R s:=by
 intro m;induction m with
 | zero =>
   intro i s tk H kvs hk hi I ed AK hf hit el C6 hR;have CL:i=prs.length:=by lia
   subst CL;obtain⟨its,rv,p,hz⟩:=I.list (n! (K:=X.K) el);have AZ:prs.length=ps.length:=Xa C6;have hl:=rv.length;rw[WO]at hl;obtain⟨f0,f1,f2,f3,f4,f5⟩:=hf;refine codeAny_builtin PySem.F.bb_entry_upd ?_;rw[Around.under_plainId E! _];show Xc _ A.in1 (ZJ (.ref it) >>= _) _ _ s;refine WN (wpAny_pyNext_list_end hh hit p.isList (by simp;lia) λh' eb=>?_);refine WN (WW (WW ?_));refine hR _ ?_;rw[List.drop_length]
   have e0:upd H d (.dK (eZ kvs []))=H:=by
    funext b;by_cases hb:b=d
    .rw[hb,ad,ed];rfl
    .rw[af hb]
   rw[e0];exact I.turned (t':=s.toks) (λb o hb e=>eb b o hb e) f0 f1 f3 f4 f5
 | succ m ih =>
   intro i s tk H kvs hk hi I ed AK hf hit el C6 hR;have Al:i<prs.length:=by lia
   have AZ:prs.length=ps.length:=Xa C6;obtain⟨its,rv,p,hz⟩:=I.list (n! (K:=X.K) el);have hl:=rv.length;rw[WO]at hl;obtain⟨pa,EN,B3⟩:=A! C6 (WQ Al);have hx:(ps.map i!)[i]?=A? (.ref pa):=by rw[W3,EN];rfl
   obtain⟨u,Uh,ru⟩:=rv.get hx;cases ru;obtain⟨f0,f1,f2,f3,f4,f5⟩:=id hf;refine codeAny_builtin PySem.F.bb_entry_upd ?_;rw[Around.under_plainId E! _];show Xc _ A.in1 (ZJ (.ref it) >>= _) _ _ s;refine WN (wpAny_pyNext_list_item hit p.isList (x:=.ref pa) (by simpa using Uh) λh1 OE Ji=>?_);have I1:Inv X Z Y H {s with heap:=h1}:=I.turned (t':=s.toks) (λb o hb e=>(Ji.2 b hb).trans e) f0 f1 f3 f4 f5;obtain⟨_,An,n2,Ui,e2⟩:=(show ObjOk X.prog X.w H h1 pa (.tup [kV (prs[i]).1,(prs[i]).2])from I1.hok pa _ B3)
   obtain⟨kk,vv,rfl,Uj,Uk⟩:∃kk vv,An=[kk,vv]/\RelV (kV (prs[i]).1) kk/\RelV (prs[i]).2 vv:=by
    cases Ui with
    | cons a b =>
      cases b with
      | cons c d =>
        cases d;exact⟨_,_,D?,a,c⟩
   have Ul:(⟨h1,s.gens,s.drawn,s.toks,s.os⟩:WZ).TypeIs (.ref pa) "tuple":=⟨_,e2,rfl⟩;refine WN (Yv ?_);refine WN (wpAny_tryCatch ?_);unfold Builtin.Dict.pairItems;refine WN (ZY Ul ?_);rw[b! (by decide)];refine WN (YB e2 rfl (WW ?_));show Xc _ _ (holding [kk,vv] (dictSet d kk vv)) _ _ _;refine Yv (qm (k:=(prs[i]).1) I1 ed Uj (by have:=eL;rw[ZA];lia) Uk λh2 tk2 Gv I2=>?_);refine WW ⟨plainId_quiet E! _,?_⟩
   have Ko:YH ((i:Int)+1)=.int ((i+1:Nat):Int) 0:=by
    show Value.int ((i:Int)+1) 0=_;rw[show((i+1:Nat):Int)=(i:Int)+1 by lia]
   rw[Ko];have Mq:it≠d:=λz=>by rw[z,ed]at f0;cases f0
   refine ih (i+1) _ 0 _ (putK kvs (prs[i]).1 (prs[i]).2) (by lia) Al I2 ad (by have:=bG kvs (prs[i]).1 (prs[i]).2;lia) ⟨by rw[af Mq];exact f0,f1,f2,f3,f4,f5⟩ ?_ ?_ ?_ λs' I'=>hR s' ?_
   .obtain⟨o,g1,r⟩:=OE;exact⟨o,(Gv.2 it Mq).trans g1,r⟩
   .rw[af (aF el ed (λz=>nomatch z))];exact el
   .refine v! (λx y e=>?_) C6;show upd H d _ y=_;rw[af (aF (show H y=A? (.tup [kV x.1,x.2])from e) ed (λz=>nomatch z))];exact e
   .rw[nU]at I';rw[List.drop_eq_getElem_cons Al];exact I'
def v9:List V->Hp->VK->Prop:=λxs H Q=>∃(l:WS)(ps:List WS)(prs:List (Key×V)),xs=[.ref l]/\H l=A? (.lst (ps.map i!))/\XH (PrK H) prs ps/\prs.length<=10000/\∀d,H d=B?->Q (.ref d) (upd H d (.dK (eZ [] prs)))
theorem jY(hu:X.A.units+12<YJ)(hc:X.calm=C?):fQ X (.type "dict") v9:=by
 intro Z s Y H xs us Q I r h;obtain⟨l,ps,prs,rfl,el,C6,hn,q⟩:=h;obtain⟨u,rfl,rx⟩:=vals1 r;cases rx;obtain⟨z,its,n,rv,e⟩:=(show ObjOk X.prog X.w H s.1 l (.lst (ps.map i!))from I.hok l _ el);refine callType_codes (Q₁:=λobj Af=>obj=.ref s.1.1.size/\Af={s with heap:=s.1.push {cls:=.type "dict",data:=.dict #[]}}) PySem.F.kt_called_dict (PySem.F.kt_typeCall_dict_1 _) PySem.F.entry_dict_init (kt_code_dict_new _ ⟨rfl,rfl⟩) ?_;rintro obj Af ⟨rfl,rfl⟩;have gn:(s.1.push {cls:=.type "dict",data:=.dict #[]}).DictOf (aC X.prog X.w) s.1.1.size []:=Heap.DictOf.new s.1;have gt:(s.1.push {cls:=.type "dict",data:=.dict #[]}).get? l=A? {cls:=.type "list",data:=.seq its.toArray n}:=WU _ e;refine⟨gn.typeIs,PySem.F.args_dict_init_2 _ _,?_⟩;have Fm:=I.hok.fresh (WX s.1.1.size);have I1:Inv X Z Y (upd H s.1.1.size (.dK [])) {s with heap:=s.1.push {cls:=.type "dict",data:=.dict #[]}}:=I.laid (a:=s.1.1.size) (o:=.dK []) (t':=s.toks) (λ_ _ q=>WU _ q) (WX _) (oX s.1 I.big);unfold Y7.«dict.__init__»;refine WN ?_;unfold Builtin.Dict.selfAndRest;refine WN (wpAny_notOrdered_dict gn.typeIs ?_);show Xc _ _ (pure (s.1.1.size,[XG l])) _ _ _;refine WW ?_;show Xc _ _ (Builtin.Dict.updateFrom "dict.__init__" s.1.1.size (.ref l) [] .none) _ _ _;unfold Builtin.Dict.updateFrom;refine WN (ZY (T:="list") ⟨_,gt,rfl⟩ ?_);rw[b! (by decide)];refine WN (bb_nokeysL (A:=X.A.in1.in1) (I.ok.hd hc) gt λh1 OF k1=>?_);have I2:Inv X Z Y (upd H s.1.1.size (.dK [])) {s with heap:=h1,toks:=OF}:=I1.kept (t':=OF) λb o e=>k1 b o e;simp only[Option.isNone_none,if_true];refine WN (wpAny_rule ?_);obtain⟨od,es,ep,Um,gd2⟩:=id gn;have Al:s.1.1.size<h1.objs.size:=Xi (k1 _ _ Um);refine WN (wpAny_pyIter_list (l:=l) (items:=its.toArray) ⟨_,k1 _ _ gt,rfl,n,rfl⟩ ?_);refine WW ⟨plainId_quiet E! _,?_⟩;have Fq:l≠s.1.1.size:=aq el Fm
 have OG:XH (PrK (upd H s.1.1.size (.dK []))) prs ps:=v! (λx y e=>by
  show upd H s.1.1.size _ y=_;rw[af (aq (show H y=A? (.tup [kV x.1,x.2])from e) Fm)];exact e) C6
 have Uo:(upd H s.1.1.size (.dK [])) h1.objs.size=none:=I2.hok.fresh (WX _);refine qF (A:=X.A.in1) (d:=s.1.1.size) (it:=h1.objs.size) (l:=l) (prs:=prs) (ps:=ps) (I.ok.hd hc) (by show X.A.units+1+8<YJ;lia) hn prs.length 0 _ 0 (upd H s.1.1.size (.dK [])) [] (Nat.sub_zero _) (Xr _) (I2.kept (t':=OF) λb o e=>WU _ e) ad (WX _) (I2.fpOk (WX _) Uo) ⟨_,W2 _ rfl,rfl,rfl⟩ (by rw[af Fq];exact el) OG λs' I'=>?_;rw[nU,Y1]at I';exact⟨D?,.ref s.1.1.size,_,I',D?,q _ Fm⟩
end
end L2
namespace BB
open PySem L2
def smC(f:Int->Int->Int)(cs:List (List Int×Int×Int)):Int:=(cs.map λc=>f c.2.1 c.2.2).sum
theorem lE(f:Int->Int->Int)(a b:List (List Int×Int×Int)):smC f (a++b)=smC f a+smC f b:=by
 unfold smC;rw[W8,List.sum_append]
theorem fu(pre:List Int)(n:Xk)(ts:List Th):callsOf (Th.pl pre (.knot n ts))=callsOf (pls pre 0 ts):=by
 rw[Th.pl];rfl
theorem fG(pre:List Int)(s k:Int):callsOf (Th.pl pre (.call s k))=[(pre,s,k)]:=by
 rw[Th.pl];rfl
theorem fK(pre:List Int)(i:Int)(t:Th)(ts:List Th):callsOf (pls pre i (t::ts))=callsOf (t.pl (pre++[i]))++callsOf (pls pre (i+1) ts):=by
 rw[pls,dW]
mutual
theorem oO{rows:List (List Th)}{f:Int->Int->Int}(k:Th):∀(p:Th)(pre:List Int)(o:Th),Out ins rows p k o->(∀c∈callsOf (p.pl pre),∀oc,Out ins rows (.call c.2.1 c.2.2) k oc->f c.2.1 c.2.2=(oc.size:Nat))->((o.size:Nat):Int)=(p.kn:Nat)+smC f (callsOf (p.pl pre))
 | .call s c,pre,o,ho,hf=>by
   rw[fG]at hf |-;have:=hf _ (W0.mpr rfl) o ho;show _=((0:Nat):Int)+(f s c+0);rw[this];simp
 | .knot n ts,pre,o,ho,hf=>by
   obtain⟨os,rfl,Bz⟩:=ho.unknot;rw[fu]at hf |-;have:=mD k ts pre 0 os Bz hf;rw[t!,Th.kn];lia
theorem mD{rows:List (List Th)}{f:Int->Int->Int}(k:Th):∀(ts:List Th)(pre:List Int)(i:Int)(os:List Th),Outs ins rows ts k os->(∀c∈callsOf (pls pre i ts),∀oc,Out ins rows (.call c.2.1 c.2.2) k oc->f c.2.1 c.2.2=(oc.size:Nat))->((ar os:Nat):Int)=(kns ts:Nat)+smC f (callsOf (pls pre i ts))
 | [],pre,i,os,ho,hf=>by
   cases ho;rw[ar,kns,pls];rfl
 | t::ts,pre,i,os,ho,hf=>by
   cases ho with
   |cons h1 h2 =>
   rw[fK]at hf |-;have e1:=oO k t (pre++[i]) _ h1 λc hc=>hf c (XA _ hc);have e2:=mD k ts pre (i+1) _ h2 λc hc=>hf c (Xu _ hc);rw[ar,kns,lE];lia
end
structure MxC(f:Int->Int->Int)(d:Int)(cs:List (List Int×Int×Int))(own m:Int):Prop where
 lo:own<=m
 all:∀c∈cs,(c.1.length:Int) - d+f c.2.1 c.2.2<=m
 some:m=own\/∃c∈cs,m=(c.1.length:Int) - d+f c.2.1 c.2.2
mutual
theorem pU{rows:List (List Th)}{f:Int->Int->Int}(k:Th):∀(p:Th)(pre:List Int)(o:Th),Out ins rows p k o->(∀c∈callsOf (p.pl pre),∀oc,Out ins rows (.call c.2.1 c.2.2) k oc->f c.2.1 c.2.2=(oc.tall:Nat))->MxC f pre.length (callsOf (p.pl pre)) (p.tall:Nat) (o.tall:Nat)
 | .call s c,pre,o,ho,hf=>by
   rw[fG]at hf |-;have e:=hf _ (W0.mpr rfl) o ho;have h1:=Th.tall_eq o;have h2:(F! s c).tall=1:=by rw[q!]
   simp only at e;refine⟨by rw[h2];lia,λc hc=>?_,.inr ⟨_,W0.mpr rfl,?_⟩⟩
   .rw[W0.mp hc];simp only;lia
   .simp only;lia
 | .knot n ts,pre,o,ho,hf=>by
   obtain⟨os,rfl,Bz⟩:=ho.unknot;rw[fu]at hf |-;obtain⟨a,b,c⟩:=mw k ts pre 0 os Bz hf;have h1:(w! n ts).tall=ax ts+1:=by rw[q!]
   have h2:(w! n os).tall=ax os+1:=by rw[q!]
   refine⟨by lia,λc hc=>?_,?_⟩
   .have:=b c hc;lia
   .rcases c with c|⟨x,hx,c⟩
    .exact .inl (by lia)
    .exact .inr ⟨x,hx,by lia⟩
theorem mw{rows:List (List Th)}{f:Int->Int->Int}(k:Th):∀(ts:List Th)(pre:List Int)(i:Int)(os:List Th),Outs ins rows ts k os->(∀c∈callsOf (pls pre i ts),∀oc,Out ins rows (.call c.2.1 c.2.2) k oc->f c.2.1 c.2.2=(oc.tall:Nat))->MxC f (pre.length+1) (callsOf (pls pre i ts)) (ax ts:Nat) (ax os:Nat)
 | [],pre,i,os,ho,hf=>by
   cases ho;rw[pls];exact⟨Int.le_refl _,λc hc=>(by cases hc),.inl rfl⟩
 | t::ts,pre,i,os,ho,hf=>by
   cases ho with
   | @cons _ _ o' _ DL h1 h2 =>
   rw[fK]at hf |-;obtain⟨a1,b1,c1⟩:=pU k t (pre++[i]) _ h1 λc hc=>hf c (XA _ hc);obtain⟨a2,b2,c2⟩:=mw k ts pre (i+1) _ h2 λc hc=>hf c (Xu _ hc);have hl:((pre++[i]).length:Int)=pre.length+1:=by rw[W7];rfl
   rw[hl]at b1 c1;have e1:ax (t::ts)=max t.tall (ax ts):=by rw[ax]
   have e2:ax (o'::DL)=max o'.tall (ax DL):=by rw[ax]
   refine⟨by lia,λc hc=>?_,?_⟩
   .rcases Xd.mp hc with hc|hc
    .have:=b1 c hc;lia
    .have:=b2 c hc;lia
   .by_cases h:ax DL<=o'.tall
    .rcases c1 with c1|⟨x,hx,c1⟩
     .exact .inl (by lia)
     .exact .inr ⟨x,XA _ hx,by lia⟩
    .rcases c2 with c2|⟨x,hx,c2⟩
     .exact .inl (by lia)
     .exact .inr ⟨x,Xu _ hx,by lia⟩
end
def ky(c:Int×Int):List Key:=[Xs c.1,Xs c.2]
theorem ju{a b:Int×Int}(h:ky a=ky b):a=b:=by
 obtain⟨a1,a2⟩:=a;obtain⟨b1,b2⟩:=b;simp only[ky,List.cons.injEq,Sum.inl.injEq,and_true]at h;rw[h.1,h.2]
abbrev CLs:=List ((Int×Int)×Int)
def dE(es:CLs):List (List Key×V):=es.map λe=>(ky e.1,o! e.2)
def eO(es:CLs)(k:Int×Int)(v:Int):CLs:=if k∈es.map (·.1)then es.map (λe=>if e.1=k then(e.1,v)else e)else es++[(k,v)]
def cE:CLs->Int×Int->Option Int
 | [],_=>B?
 |e::es,k=>if e.1=k then A? e.2 else cE es k
theorem oC(k:Int×Int):∀es:CLs,aM (dE es) (ky k)=(cE es k).map o!
 | []=>rfl
 | e::es=>by
   show aM ((ky e.1,o! e.2)::dE es) (ky k)=_;rw[cE];by_cases h:e.1=k
   .rw[b! h,bq (by rw[h])];rfl
   .rw[a! h,bA (λz=>h (ju z)),oC k es]
theorem x9(k:Int×Int)(es:CLs):((dE es).any λkv=>decide (kv.1=ky k))=decide (k∈es.map (·.1)):=by
 rw[ZR,List.any_eq_true,decide_eq_true_iff];constructor
 .rintro⟨x,hx,hk⟩;obtain⟨e,he,rfl⟩:=Xn.mp hx;exact Xn.mpr ⟨e,he,ju (e! hk)⟩
 .intro h;obtain⟨e,he,rfl⟩:=Xn.mp h;exact⟨_,Xn.mpr ⟨e,he,D?⟩,d! rfl⟩
theorem rM(es:CLs)(k:Int×Int)(v:Int):putK (dE es) (ky k) (.int v)=dE (eO es k v):=by
 unfold putK eO;rw[x9];by_cases h:k∈es.map (·.1)
 .rw[b! (d! h),b! h];unfold dE;rw[Zc,Zc];refine List.map_congr_left λe he=>?_;simp only[Function.comp];by_cases g:e.1=k
  .rw[b! (by rw[g]),b! g]
  .rw[a! (λz=>g (ju z)),a! g]
 .rw[a! (λz=>h (e! z)),a! h];unfold dE;rw[W8];rfl
theorem lX{es:CLs}{k:Int×Int}{v:Int}(h:cE es k=A? v):(k,v)∈es:=by
 induction es with
 |nil=>cases h
 | cons e es ih =>
   rw[cE]at h;by_cases g:e.1=k
   .rw[b! g]at h;cases h;rw[<-g];exact W4 ..
   .rw[a! g]at h;exact WT _ (ih h)
theorem ss{es:CLs}{k:Int×Int}(h:cE es k=B?):k∉es.map (·.1):=by
 induction es with
 |nil=>intro z;cases z
 | cons e es ih =>
   rw[cE]at h;by_cases g:e.1=k
   .rw[b! g]at h;cases h
   .rw[a! g]at h;intro z;rcases W6.mp z with z|z
    .exact g z.symm
    .exact ih h z
theorem wH{es:CLs}(nd:(es.map (·.1)).Nodup){e:(Int×Int)×Int}(h:e∈es):cE es e.1=A? e.2:=by
 induction es with
 |nil=>cases h
 | cons x es ih =>
   rw[XC,Yd]at nd;rw[cE];rcases W6.mp h with rfl|h
   .rw[b! rfl]
   .rw[a! (λz=>nd.1 (by rw[z];exact Xn.mpr ⟨e,h,rfl⟩))];exact ih nd.2 h
theorem sP(es:CLs)(k:Int×Int)(v:Int):(eO es k v).map (·.1)=if k∈es.map (·.1)then es.map (·.1)else es.map (·.1)++[k]:=by
 unfold eO;by_cases h:k∈es.map (·.1)
 .rw[b! h,b! h,Zc];refine List.map_congr_left λe he=>?_;simp only[Function.comp];by_cases g:e.1=k
  .rw[b! g]
  .rw[a! g]
 .rw[a! h,a! h,W8];rfl
theorem qP{es:CLs}(nd:(es.map (·.1)).Nodup)(k:Int×Int)(v:Int):((eO es k v).map (·.1)).Nodup:=by
 rw[sP];by_cases h:k∈es.map (·.1)
 .rw[b! h];exact nd
 .rw[a! h,Y5];refine⟨nd,by simp,λa ha b hb=>?_⟩;rw[W0.mp hb];exactλz=>h (z ▸ ha)
theorem iZ{es:CLs}{k:Int×Int}{v:Int}{e:(Int×Int)×Int}(h:e∈eO es k v):e=(k,v)\/(e∈es/\e.1≠k):=by
 unfold eO at h;by_cases g:k∈es.map (·.1)
 .rw[b! g]at h;obtain⟨x,hx,rfl⟩:=Xn.mp h;by_cases e:x.1=k
  .rw[b! e,e];exact .inl rfl
  .rw[a! e];exact .inr ⟨hx,e⟩
 .rw[a! g]at h;rcases Xd.mp h with h|h
  .exact .inr ⟨h,λz=>g (z ▸ Xn.mpr ⟨e,h,rfl⟩)⟩
  .exact .inl (W0.mp h)
theorem vb(es:CLs)(k:Int×Int)(v:Int):(k,v)∈eO es k v:=by
 unfold eO;by_cases g:k∈es.map (·.1)
 .rw[b! g];obtain⟨x,hx,hk⟩:=Xn.mp g;exact Xn.mpr ⟨x,hx,by rw[b! hk,hk]⟩
 .rw[a! g];exact Xu _ (W0.mpr rfl)
theorem sJ{es:CLs}{k:Int×Int}{v:Int}{e:(Int×Int)×Int}(h:e∈es)(hk:e.1≠k):e∈eO es k v:=by
 unfold eO;by_cases g:k∈es.map (·.1)
 .rw[b! g];exact Xn.mpr ⟨e,h,a! hk⟩
 .rw[a! g];exact XA _ h
theorem pI(es:CLs)(k:Int×Int)(v:Int):(eO es k v).length<=es.length+1:=by
 unfold eO;split
 .rw[WO];lia
 .rw[W7];exact WX _
def smE(f:Int->Int->Int)(es:CLs):Int:=(es.map λe=>e.2 * f e.1.1 e.1.2).sum
theorem wN(f:Int->Int->Int)(k:Int×Int)(d:Int):∀{es:CLs},(es.map (·.1)).Nodup->smE f (eO es k ((cE es k).getD 0+d))=smE f es+d * f k.1 k.2:=by
 have upd:∀(es:CLs),(es.map (·.1)).Nodup->k∈es.map (·.1)->∀v,smE f (es.map λe=>if e.1=k then(e.1,v)else e)=smE f es+(v - (cE es k).getD 0) * f k.1 k.2:=by
  intro es;induction es with
  |nil=>intro _ h;cases h
  | cons e es ih =>
    intro nd hk v;rw[XC,Yd]at nd;show(if e.1=k then(e.1,v)else e).2 * f (if e.1=k then(e.1,v)else e).1.1 (if e.1=k then(e.1,v)else e).1.2+smE f (es.map λe=>if e.1=k then(e.1,v)else e)=e.2 * f e.1.1 e.1.2+smE f es+_;rw[cE];by_cases g:e.1=k
    .have hn:∀x∈es,(if x.1=k then(x.1,v)else x)=x:=λx hx=>a! λz=>nd.1 (by rw[g,<-z];exact Xn.mpr ⟨x,hx,rfl⟩);rw[List.map_congr_left hn,List.map_id',b! g,b! g];simp only[Option.getD_some,<-g];rw[Int.sub_mul];lia
    .rw[a! g,a! g];rcases W6.mp hk with z|z
     .exact g! z.symm g
     .have:=ih nd.2 z v;lia
 intro es nd;cases h:cE es k with
 | some v =>
   have hm:k∈es.map (·.1):=Xn.mpr ⟨_,lX h,rfl⟩;unfold eO;rw[b! hm,upd es nd hm,h];simp only[Option.getD_some];rw[show v+d - v=d by lia]
 | none =>
   have hm:=ss h;unfold eO;rw[a! hm];simp only[Option.getD_none];unfold smE;rw[W8,List.sum_append,XC,YM,List.sum_cons,List.sum_nil];rw[show(0:Int)+d=d by lia];show _+(d * f k.1 k.2+0)=_;lia
structure CallsE(cs:List (List Int×Int×Int))(es:CLs):Prop where
 nd:(es.map (·.1)).Nodup
 «of»:∀e∈es,∃c∈cs,c.2=e.1
 to:∀c∈cs,∃e∈es,e.1=c.2
theorem CallsE.nil:CallsE [] []:=⟨ZH,λe h=>(by cases h),λe h=>(by cases h)⟩
theorem CallsE.put{cs:List (List Int×Int×Int)}{es:CLs}(h:CallsE cs es)(c:List Int×Int×Int)(v:Int):CallsE (cs++[c]) (eO es c.2 v):=by
 refine⟨qP h.nd _ _,λe he=>?_,λx hx=>?_⟩
 .rcases iZ he with rfl|⟨he,_⟩
  .exact⟨c,Xu _ (W0.mpr rfl),D?⟩
  .obtain⟨y,hy,e⟩:=h.of e he;exact⟨y,XA _ hy,e⟩
 .by_cases g:x.2=c.2
  .exact⟨_,vb es c.2 v,g.symm⟩
  .rcases Xd.mp hx with hx|hx
   .obtain⟨e,he,e2⟩:=h.to x hx;exact⟨e,sJ he (λz=>g (e2.symm.trans z)),e2⟩
   .exact g! (by rw[W0.mp hx]) g
structure TimesE(cs:List (List Int×Int×Int))(es:CLs):Prop extends CallsE cs es where
 sum:∀f,smE f es=smC f cs
 pos:∀e∈es,0<=e.2/\e.2<=cs.length
theorem TimesE.nil:TimesE [] []:=⟨CallsE.nil,λ_=>rfl,λe h=>by cases h⟩
theorem TimesE.put{cs:List (List Int×Int×Int)}{es:CLs}(h:TimesE cs es)(c:List Int×Int×Int):TimesE (cs++[c]) (eO es c.2 ((cE es c.2).getD 0+1)):=by
 refine⟨h.toCallsE.put c _,λf=>?_,λe he=>?_⟩
 .rw[wN f c.2 1 h.nd,lE,h.sum f,Int.one_mul];show _=smC f cs+(f c.2.1 c.2.2+0);lia
 .rw[W7];rcases iZ he with rfl|⟨he,_⟩
  .show 0<=(cE es c.2).getD 0+1/\(cE es c.2).getD 0+1<=_;cases g:cE es c.2 with
   | none =>
     simp only[Option.getD_none,YE];lia
   | some v =>
     have:=h.pos _ (lX g);simp only[Option.getD_some,YE];simp only at this;lia
  .have:=h.pos _ he;simp only[YE];lia
structure DepthE(cs:List (List Int×Int×Int))(es:CLs):Prop extends CallsE cs es where
 «at»:∀e∈es,∃c∈cs,c.2=e.1/\e.2=(c.1.length:Nat)
 big:∀c∈cs,∀e∈es,e.1=c.2->((c.1.length:Nat):Int)<=e.2
theorem DepthE.nil:DepthE [] []:=⟨CallsE.nil,λe h=>(by cases h),λe h=>by cases h⟩
theorem DepthE.put{cs:List (List Int×Int×Int)}{es:CLs}(h:DepthE cs es)(c:List Int×Int×Int):DepthE (cs++[c]) (eO es c.2 (if(cE es c.2).getD 0 > ((c.1.length:Nat):Int)then(cE es c.2).getD 0 else((c.1.length:Nat):Int))):=by
 have hl:=Xu cs (W0.mpr (rfl:c=c));refine⟨h.toCallsE.put c _,λe he=>?_,λx hx e he hk=>?_⟩
 .rcases iZ he with rfl|⟨he,_⟩
  .cases g:cE es c.2 with
   | none =>
     refine⟨c,hl,D?,?_⟩;simp only[Option.getD_none];rw[a! (by lia)]
   | some v =>
     simp only[Option.getD_some];by_cases hv:v > ((c.1.length:Nat):Int)
     .rw[b! hv];obtain⟨y,hy,e1,e2⟩:=h.at _ (lX g);exact⟨y,XA _ hy,e1,e2⟩
     .rw[a! hv];exact⟨c,hl,D?,D?⟩
  .obtain⟨y,hy,e1,e2⟩:=h.at e he;exact⟨y,XA _ hy,e1,e2⟩
 .rcases iZ he with rfl|⟨he,Ay⟩
  .simp only at hk |-
   have hc:((c.1.length:Nat):Int)<=(if(cE es c.2).getD 0 > ((c.1.length:Nat):Int)then(cE es c.2).getD 0 else((c.1.length:Nat):Int)):=by
    split <;> lia
   rcases Xd.mp hx with hx|hx
   .obtain⟨e,he,e2⟩:=h.to x hx;have h1:=h.big x hx e he e2;have h2:=wH h.nd he;rw[e2,<-hk]at h2;rw[h2];simp only[Option.getD_some];split <;> lia
   .rw[W0.mp hx];exact hc
  .rcases Xd.mp hx with hx|hx
   .exact h.big x hx e he hk
   .exact g! (by rw[hk,W0.mp hx]) Ay
end BB
variable{es:BB.CLs}
namespace BB
open PySem L2
theorem jL{g:TG}{val:(Int×Int)×Int->Int}{Q:VK}
 (Ap:∀R:VK,R (.ref d) H->tl Y H R) (hd:H d=A? (.dT (dE es))) (hlen:es.length<=10000)
 (hs:∀(i:Nat)(e:(Int×Int)×Int)(p b:WS)(H2:Hp)(R:VK),es[i]?=A? e->SameB d H H2->H2 p=A? (.tup [.ref b,.int e.2])->H2 b=A? (.tup ((ky e.1).map kV))->R (.int (val e)) H2->g (.ref p) (cσ js Y) H2 λAq H3=>te Aq H3 R)
 (hq:∀(D:WS)(H2:Hp),j! H H2->H2 D=A? (.lst ((es.map val).map o!))->Q (.ref D) H2) :
 lF (qY js (rW tl) g bf te) Y H Q:=by
 refine Ap _ ⟨d,dE es,rfl,hd,λo D hD=>?_⟩;have DZ:D≠d:=λz=>by rw[z,ad]at hD;cases hD
 have Kp:H D=none:=by rw[af DZ]at hD;exact hD
 have hl:(dE es).length=es.length:=by unfold dE;rw[WO]
 refine⟨es.length,λj H2=>j<=es.length/\SameB d H H2/\H2 d=A? (.frz o (.dT (dE es)))/\H2 D=A? (.lst (((es.take j).map val).map o!)),⟨Xr _,λb u hb e=>by rw[af (aq e Kp),af hb];exact e,by rw[af DZ.symm,ad],ad⟩,?_⟩;rintro j H2 ⟨hj,sb,ed,eD⟩;by_cases Dq:j=es.length
 .left;refine⟨⟨ed,by lia⟩,upd H2 d (.dT (dE es)),λb=>?_,?_⟩
  .by_cases hb:b=d
   .rw[hb];exact .inr ⟨o,_,ed,hd,ad⟩
   .exact .inl (af hb)
  .rw[Dq,YA]at eD;refine hq D _ (λb u e=>?_) (by rw[af DZ];exact eD);by_cases hb:b=d
   .rw[hb,hd]at e;rw[hb,ad];exact e
   .rw[af hb];exact sb b u hb e
 .right;refine⟨by lia,⟨ed,by lia⟩,?_⟩;rintro x H3 ⟨p,b,kv,hp,rfl,rfl,Ao,eb⟩
  obtain⟨e,he,rfl⟩:∃e,es[j]?=A? e/\(ky e.1,o! e.2)=kv:=by
   unfold dE at Ao;rw[W3]at Ao;cases h:es[j]? with
   |none=>rw[h]at Ao;cases Ao
   |some e=>rw[h]at Ao;exact⟨e,D?,Xl Ao⟩
  have RD:d≠p:=λz=>by rw[<-z,ed]at hp;cases hp
  have EO:D≠p:=λz=>by rw[<-z,eD]at hp;cases hp
  refine hs j e p b _ _ he (λc u hc ec=>by rw[af (aq (sb c u hc ec) hp)];exact sb c u hc ec) ad (by rw[af (aq eb hp)];exact eb) ?_;refine⟨_,by rw[af EO];exact eD,br (by rw[WO,WO,XB];lia),by lia,λc u hc ec=>?_,?_,?_⟩
  .rw[af (aq ec Kp),af (aq (sb c u hc ec) hp)];exact sb c u hc ec
  .rw[af DZ.symm,af RD];exact ed
  .rw[ad,Yc,he,W8,W8];rfl
mutual
theorem Th.dv_inj:∀{t u:Th},t.dv=u.dv->t=u
 | .knot n ks,.knot m js,h=>by
   rw[J!,J!]at h;injection h with h;injection h with h1 h2;injection h1 with h1;rw[h1,r6 h2]
 | .call s k,.call s' k',h=>by
   rw[J!,J!]at h;injection h with h;injection h with _ h;injection h with h1 h;injection h with h2 _;injection h1 with h1;injection h2 with h2;rw[h1,h2]
 | .knot n ks,.call s k,h=>by
   rw[J!,J!]at h;injection h with h;injection h with _ h;cases ks with
   |nil=>rw[dvs]at h;cases h
   | cons a as =>
     rw[dvs]at h;injection h with h _;cases a <;> rw[J!]at h <;> cases h
 | .call s k,.knot n ks,h=>by
   rw[J!,J!]at h;injection h with h;injection h with _ h;cases ks with
   |nil=>rw[dvs]at h;cases h
   | cons a as =>
     rw[dvs]at h;injection h with h _;cases a <;> rw[J!]at h <;> cases h
theorem r6:∀{ts us:List Th},dvs ts=dvs us->ts=us
 | [],[],_=>rfl
 | [],u::us,h=>by rw[dvs,dvs]at h;cases h
 |t::ts,[],h=>by rw[dvs,dvs]at h;cases h
 | t::ts,u::us,h=>by
   rw[dvs,dvs]at h;injection h with h1 h2;rw[Th.dv_inj h1,r6 h2]
end
structure Nd where
 t:Th
 ta:WS
 aa:WS
 ka:WS
 ask:List (Key×V)
 sp:List (Key×V)
structure Lv where
 x:WS
 dx:WS
 tl:WS
 al:WS
 kl:WS
 ns:List Nd
def lvF(tl al kl:WS):List (Xk×V):=[(W5 "trees",.ref tl),(W5 "asked",.ref al),(W5 "kid_spots",.ref kl)]
theorem xu:¬(W5 "trees"=W5 "asked"):=by decide +kernel
theorem xB:¬(W5 "trees"=W5 "kid_spots"):=by decide +kernel
theorem xC:¬(W5 "asked"=W5 "kid_spots"):=by decide +kernel
theorem ny(tl al kl:WS):(lvF tl al kl).lookup (W5 "trees")=A? (i! tl):=by
 unfold lvF;simp only[YI,beq_self_eq_true]
theorem pJ(tl al kl:WS):(lvF tl al kl).lookup (W5 "asked")=A? (i! al):=by
 unfold lvF;have h:(W5 "asked" == W5 "trees")=false:=beq_eq_false_iff_ne.mpr λz=>xu z.symm;simp only[YI,h,beq_self_eq_true]
theorem uJ(tl al kl:WS):(lvF tl al kl).lookup (W5 "kid_spots")=A? (i! kl):=by
 unfold lvF;have h:(W5 "kid_spots" == W5 "trees")=false:=beq_eq_false_iff_ne.mpr λz=>xB z.symm;have h2:(W5 "kid_spots" == W5 "asked")=false:=beq_eq_false_iff_ne.mpr λz=>xC z.symm;simp only[YI,h,h2,beq_self_eq_true]
theorem vc{m:Xk}(tl al kl:WS)(h1:(m == W5 "trees")=CG)(h2:(m == W5 "asked")=CG)(h3:(m == W5 "kid_spots")=CG):(lvF tl al kl).lookup m=none:=by
 unfold lvF;simp only[YI,h1,h2,h3]
theorem wj(tl al kl:WS):cz (W5 "kid_spots") (.ref kl) (cz (W5 "asked") (.ref al) (cz (W5 "trees") (.ref tl) []))=lvF tl al kl:=by
 unfold lvF;simp only[cz];rw[a! xu,cz,a! xB,cz,a! xC,cz]
def dcts(ns:List Nd):List WS:=ns.flatMap λn=>[n.aa,n.ka]
theorem jG(a b:List Nd):dcts (a++b)=dcts a++dcts b:=List.flatMap_append
theorem df{ns:List Nd}{n:Nd}(h:n∈ns):n.aa∈dcts ns:=List.mem_flatMap.mpr ⟨n,h,W4 ..⟩
theorem cS{ns:List Nd}{n:Nd}(h:n∈ns):n.ka∈dcts ns:=List.mem_flatMap.mpr ⟨n,h,WT _ (W4 ..)⟩
theorem lU{ns:List Nd}(h:b∈dcts ns):∃n∈ns,b=n.aa\/b=n.ka:=by
 obtain⟨n,hn,hb⟩:=List.mem_flatMap.mp h;refine⟨n,hn,?_⟩;rcases W6.mp hb with h|h
 .exact .inl h
 .exact .inr (W0.mp h)
structure LvSh(C:WS)(H:Hp)(L:Lv):Prop where
 ins:H L.x=A? (.ins C L.dx (lvF L.tl L.al L.kl))
 tl:H L.tl=A? (.lst (L.ns.map λn=>i! n.ta))
 al:H L.al=A? (.lst (L.ns.map λn=>i! n.aa))
 kl:H L.kl=A? (.lst (L.ns.map λn=>i! n.ka))
 tr:∀n∈L.ns,At H n.t n.ta
 ak:∀n∈L.ns,H n.aa=A? (.dK n.ask)
 sp:∀n∈L.ns,H n.ka=A? (.dK n.sp)
 n1:L.tl≠L.al
 n2:L.tl≠L.kl
 n3:L.al≠L.kl
 nd:(dcts L.ns).Nodup
 un:(L.ns.map (·.t)).Nodup
def Lv.own(L:Lv):List WS:=L.x::L.tl::L.al::L.kl::dcts L.ns
theorem LvSh.keep{C:WS}{L:Lv}(h:LvSh C H L)(k:KT H H')(f:∀b∈L.own,∀o,H b=A? o->H' b=A? o):LvSh C H' L:=by
 have d:∀b∈dcts L.ns,∀o,H b=A? o->H' b=A? o:=λb hb=>f b (WT _ (WT _ (WT _ (WT _ hb))))
 exact⟨f _ (W4 ..) _ h.ins,f _ (WT _ (W4 ..)) _ h.tl,f _ (WT _ (WT _ (W4 ..))) _ h.al,f _ (WT _ (WT _ (WT _ (W4 ..)))) _ h.kl,
  λn hn=>(h.tr n hn).mono k,λn hn=>d _ (df hn) _ (h.ak n hn),λn hn=>d _ (cS hn) _ (h.sp n hn),h.n1,h.n2,h.n3,h.nd,h.un⟩
def FrB(S:List WS)(H H':Hp):Prop:=∀b o,b∉S->H b=A? o->H' b=A? o
theorem FrB.refl{S:List WS}:FrB S H H:=λ_ _ _ e=>e
theorem FrB.of{S:List WS}(h:j! H H'):FrB S H H':=λb o _ e=>h b o e
theorem FrB.trans{S:List WS}{A B C:Hp}(h:FrB S A B)(k:FrB S B C):FrB S A C:=λb o hb e=>k b o hb (h b o hb e)
theorem FrB.set{S:List WS}(h:a∈S):FrB S H (upd H a o):=λb u hb e=>by rw[af (show b≠a fromλz=>hb (by rw[z];exact h))];exact e
theorem kG{l:List α}(h:l.Nodup){i:Nat}{x:α}(hi:l[i]?=A? x)(hj:l[j]?=A? x):i=j:=by
 induction l generalizing i j with
 |nil=>simp at hi
 | cons a l ih =>
   rw[Yd]at h;cases i with
   | zero =>
     cases j with
     |zero=>rfl
     | succ j =>
       simp at hi hj;exact g! (by rw[hi];exact WR hj) h.1
   | succ i =>
     cases j with
     | zero =>
       simp at hi hj;exact g! (by rw[hj];exact WR hi) h.1
     | succ j =>
       simp at hi hj;rw[ih h.2 hi hj]
theorem nw{f:α->β}(hf:∀a b,f a=f b->a=b):∀{l:List α},l.Nodup->(l.map f).Nodup
 | [],_=>by simp
 | a::l,h=>by
   rw[Yd]at h;rw[XC,Yd];refine⟨λz=>?_,nw hf h.2⟩;obtain⟨b,hb,e⟩:=Xn.mp z;exact h.1 (hf _ _ e ▸ hb)
theorem dN:∀{l m:List α},l.Nodup->(∀a∈l,a∈m)->l.length<=m.length
 | [],m,_,_=>Xr _
 | a::l,m,h,hs=>by
   rw[Yd]at h;obtain⟨m1,m2,rfl⟩:=List.append_of_mem (hs a (W4 ..))
   have:l.length<=(m1++m2).length:=dN h.2 λb hb=>by
    rcases Xd.mp (hs b (WT _ hb))with z|z
    .exact XA _ z
    .rcases W6.mp z with z|z
     .exact g! (z ▸ hb) h.1
     .exact Xu _ z
   rw[W7,Xf]at*;rw[Xf];lia
theorem fy{B:Nat}:∀{ts:List Th},(∀t∈ts,t.tall<=B)->cu (ts.map J!)<=B
 | [],_=>by rw[YM,cu];exact Xr _
 | t::ts,h=>by
   have h1:=t.dv_deep;have h2:=h t (W4 ..);have h3:=fy (ts:=ts) λu hu=>h u (WT _ hu);rw[XC,cu];lia
theorem LvSh.dats{C:WS}{L:Lv}(h:LvSh C H L):DAts H ((L.ns.map (·.t)).map J!) (L.ns.map λn=>i! n.ta):=by
 have:∀ns:List Nd,(∀n∈ns,At H n.t n.ta)->DAts H ((ns.map (·.t)).map J!) (ns.map λn=>i! n.ta):=by
  intro ns;induction ns with
  |nil=>exactλ_=>.nil
  |cons n ns ih=>exactλh=>.cons (At.dv (h n (W4 ..))) (ih λm hm=>h m (WT _ hm))
 exact this L.ns h.tr
def Lv.add(L:Lv)(t:Th)(ta aa ka:WS):Lv:={L with ns:=L.ns++[⟨t,ta,aa,ka,[],[]⟩]}
theorem LvSh.add{C:WS}{L:Lv}{t:Th}{aa ka:WS}(h:LvSh C H L)(f:FrB [L.tl,L.al,L.kl] H H')(h0:H aa=B?)(h1:H ka=B?)(Ay:aa≠ka)(hA:At H t ta)(hn:t∉L.ns.map (·.t))
 (e1:H' L.tl=A? (.lst ((L.ns.map λn=>i! n.ta)++[.ref ta]))) (e2:H' L.al=A? (.lst ((L.ns.map λn=>i! n.aa)++[.ref aa]))) (e3:H' L.kl=A? (.lst ((L.ns.map λn=>i! n.ka)++[.ref ka]))) (e4:H' aa=A? (.dK [])) (e5:H' ka=A? (.dK [])) :
 LvSh C H' (L.add t ta aa ka):=by
 have no:∀b u,H b=A? u->(∀xs,u≠.lst xs)->b∉[L.tl,L.al,L.kl]:=λb u e n z=>by
  rcases W6.mp z with rfl|z
  .rw[h.tl]at e;exact n _ (Xl e).symm
  .rcases W6.mp z with rfl|z
   .rw[h.al]at e;exact n _ (Xl e).symm
   .rw[W0.mp z,h.kl]at e;exact n _ (Xl e).symm
 have k:KT H H':=λb xs e=>f b _ (no b _ e (λ_ z=>nomatch z)) e
 refine⟨f _ _ (no _ _ h.ins (λ_ z=>nomatch z)) h.ins,e1.trans (by show _=A? (HO.lst ((L.ns++[_]).map _));rw[W8];rfl),e2.trans (by show _=A? (HO.lst ((L.ns++[_]).map _));rw[W8];rfl),e3.trans (by show _=A? (HO.lst ((L.ns++[_]).map _));rw[W8];rfl),
  λn hn=>?_,λn hn=>?_,λn hn=>?_,h.n1,h.n2,h.n3,?_,?_⟩
 .rcases Xd.mp hn with hn|hn
  .exact(h.tr n hn).mono k
  .rw[W0.mp hn];exact hA.mono k
 .rcases Xd.mp hn with hn|hn
  .exact f _ _ (no _ _ (h.ak n hn) (λ_ z=>nomatch z)) (h.ak n hn)
  .rw[W0.mp hn];exact e4
 .rcases Xd.mp hn with hn|hn
  .exact f _ _ (no _ _ (h.sp n hn) (λ_ z=>nomatch z)) (h.sp n hn)
  .rw[W0.mp hn];exact e5
 .show(dcts (L.ns++[_])).Nodup;rw[jG,Y5];refine⟨h.nd,by simp[dcts,Ay],λa ha b hb z=>?_⟩
  have hs:∃o,H a=A? o:=by
   obtain⟨n,hn,rfl|rfl⟩:=lU ha
   .exact⟨_,h.ak n hn⟩
   .exact⟨_,h.sp n hn⟩
  obtain⟨o,ho⟩:=hs;have AV:b=aa\/b=ka:=by simpa[dcts]using hb
  rcases AV with rfl|rfl
  .rw[z,h0]at ho;cases ho
  .rw[z,h1]at ho;cases ho
 .show((L.ns++[_]).map _).Nodup;rw[W8,Y5];refine⟨h.un,by simp,λa ha b hb z=>hn ?_⟩;have:b=t:=by simpa using hb
  rw[<-this,<-z];exact ha
end BB
variable{ns:List BB.Nd}{B L B' L':BB.Lv}
namespace L2
open PySem
theorem uC{g:TG}(Pv:Nat->St->Hp->Prop)(h0:Pv 0 Y H)(hl:∀i Y H,i<=xs.length->Pv i Y H->SqT K H a xs)
 (hs:∀i x p Y H,xs[i]?=A? x->H p=B?->Pv i Y H->g (.ref p) Y (upd H p (.tup [.int (i:Nat),x])) λAq H2=>tb {D with nx:=Pv (i+1),ct:=Pv (i+1),bk:=D.nx} Aq H2) (hd:∀Y H,Pv xs.length Y H->D.nx Y H) :
 ∃W:Nat->Nat->St->Hp->Prop,(∃m,W 0 m Y H)/\∀i m Y H,W i m Y H ->
   ((Ite K a).stop i H/\D.nx Y H)\/((Ite K a).go i H/\∃N:St->Hp->Prop,(∀Ae H',N Ae H'->∃m',m'<m/\W (i+1) m' Ae H')/\∀x H',(Ite K a).yld i H x H'->g x Y H' λAq H2=>tb {D with nx:=N,ct:=N,bk:=D.nx} Aq H2):=by
 refine⟨λi m Y H=>m=xs.length - i/\i<=xs.length/\Pv i Y H,⟨xs.length,by simp,Xr _,h0⟩,?_⟩;rintro i m Y H ⟨rfl,hi,p⟩;have q:=hl i Y H hi p;by_cases Al:i<xs.length
 .refine .inr ⟨⟨xs,xs[i],q,by simp[Al]⟩,Pv (i+1),λAe H' p'=>⟨xs.length - (i+1),by lia,rfl,Al,p'⟩,λx H' y=>?_⟩;obtain⟨pa,y,hp,rfl,rfl,hy⟩:=y;exact hs i y pa Y H (hy xs q) hp p
 .have e:i=xs.length:=by lia
  subst e;exact .inl ⟨⟨xs,q,rfl⟩,hd Y H p⟩
theorem we{ys:List V}{g:TG}(Hw:xs.length=ys.length)(Pv:Nat->St->Hp->Prop)(h0:Pv 0 Y H)(hl:∀i Y H,i<=xs.length->Pv i Y H->SqT K H a xs/\SqT K H b ys)
 (hs:∀i x y p Y H,xs[i]?=A? x->ys[i]?=A? y->H p=B?->Pv i Y H->g (.ref p) Y (upd H p (.tup [x,y])) λAq H2=>tb {D with nx:=Pv (i+1),ct:=Pv (i+1),bk:=D.nx} Aq H2) (hd:∀Y H,Pv xs.length Y H->D.nx Y H) :
 ∃W:Nat->Nat->St->Hp->Prop,(∃m,W 0 m Y H)/\∀i m Y H,W i m Y H ->
   ((Itz K a b).stop i H/\D.nx Y H)\/((Itz K a b).go i H/\∃N:St->Hp->Prop,(∀Ae H',N Ae H'->∃m',m'<m/\W (i+1) m' Ae H')/\∀x H',(Itz K a b).yld i H x H'->g x Y H' λAq H2=>tb {D with nx:=N,ct:=N,bk:=D.nx} Aq H2):=by
 refine⟨λi m Y H=>m=xs.length - i/\i<=xs.length/\Pv i Y H,⟨xs.length,by simp,Xr _,h0⟩,?_⟩;rintro i m Y H ⟨rfl,hi,p⟩;obtain⟨q1,q2⟩:=hl i Y H hi p;by_cases Al:i<xs.length
 .have Hz:i<ys.length:=by lia
  refine .inr ⟨⟨xs,ys,xs[i],ys[i],q1,q2,by simp[Al],by simp[Hz]⟩,Pv (i+1),λAe H' p'=>⟨xs.length - (i+1),by lia,rfl,Al,p'⟩,λx H' y=>?_⟩;obtain⟨pa,x,y,hp,rfl,rfl,hx,hy⟩:=y;exact hs i x y pa Y H (hx xs q1) (hy ys q2) hp p
 .have e:i=xs.length:=by lia
  subst e;exact .inl ⟨⟨xs,ys,q1,q2,.inl (WX _)⟩,hd Y H p⟩
theorem ul{ys:List V}{g:TG}(Hw:xs.length=ys.length)(Pv:Nat->St->Hp->Prop)(h0:Pv 0 Y H)(hl:∀i Y H,i<=xs.length->Pv i Y H->SqL K H a xs/\SqL K H b ys)
 (hs:∀i x y p Y H,xs[i]?=A? x->ys[i]?=A? y->H p=B?->Pv i Y H->g (.ref p) Y (upd H p (.tup [x,y])) λAq H2=>tb {D with nx:=Pv (i+1),ct:=Pv (i+1),bk:=D.nx} Aq H2) (hd:∀Y H,Pv xs.length Y H->D.nx Y H) :
 ∃W:Nat->Nat->St->Hp->Prop,(∃m,W 0 m Y H)/\∀i m Y H,W i m Y H ->
   ((uA K a b).stop i H/\D.nx Y H)\/((uA K a b).go i H/\∃N:St->Hp->Prop,(∀Ae H',N Ae H'->∃m',m'<m/\W (i+1) m' Ae H')/\∀x H',(uA K a b).yld i H x H'->g x Y H' λAq H2=>tb {D with nx:=N,ct:=N,bk:=D.nx} Aq H2):=by
 refine⟨λi m Y H=>m=xs.length - i/\i<=xs.length/\Pv i Y H,⟨xs.length,by simp,Xr _,h0⟩,?_⟩;rintro i m Y H ⟨rfl,hi,p⟩;obtain⟨q1,q2⟩:=hl i Y H hi p;by_cases Al:i<xs.length
 .have Hz:i<ys.length:=by lia
  refine .inr ⟨⟨xs,ys,xs[i],ys[i],q1,q2,by simp[Al],by simp[Hz]⟩,Pv (i+1),λAe H' p'=>⟨xs.length - (i+1),by lia,rfl,Al,p'⟩,λx H' y=>?_⟩;obtain⟨pa,x,y,hp,rfl,rfl,hx,hy⟩:=y;exact hs i x y pa Y H (hx xs q1) (hy ys q2) hp p
 .have e:i=xs.length:=by lia
  subst e;exact .inl ⟨⟨xs,ys,q1,q2,.inl (WX _)⟩,hd Y H p⟩
end L2
namespace BB
open PySem L2
abbrev DP:=Th->V->WS->List (List Key×V)->Prop
def DgAt(Dp:DP)(H:Hp)(p:Th)(a:WS):Prop:=∃d own kvs,H a=A? (.tup [own,.ref d])/\H d=A? (.dT kvs)/\Dp p own d kvs
def DgN(Dp:DP)(td:WS)(H:Hp)(p:Th)(a:WS):Prop:=∃d own kvs,d≠td/\H a=A? (.tup [own,.ref d])/\H d=A? (.dT kvs)/\Dp p own d kvs
structure KTD(H H':Hp):Prop where
 tup:∀b xs,H b=A? (.tup xs)->H' b=A? (.tup xs)
 dct:∀b(kvs:List (List Key×V)),H b=A? (.dT kvs)->H' b=A? (.dT kvs)
theorem KTD.trans{A B C:Hp}(h:KTD A B)(k:KTD B C):KTD A C:=⟨λb xs e=>k.tup b xs (h.tup b xs e),λb xs e=>k.dct b xs (h.dct b xs e)⟩
theorem KTD.refl{A:Hp}:KTD A A:=⟨λ_ _ e=>e,λ_ _ e=>e⟩
theorem KTD.of{A B:Hp}(h:j! A B):KTD A B:=⟨λb xs e=>h b _ e,λb xs e=>h b _ e⟩
theorem DgAt.mono{Dp:DP}(h:DgAt Dp H p a)(k:KTD H H'):DgAt Dp H' p a:=by
 obtain⟨d,own,kvs,h1,h2,h3⟩:=h;exact⟨d,own,kvs,k.tup _ _ h1,k.dct _ _ h2,h3⟩
theorem DgN.at{Dp:DP}(h:DgN Dp td H p a):DgAt Dp H p a:=by
 obtain⟨d,own,kvs,_,h1,h2,h3⟩:=h;exact⟨d,own,kvs,h1,h2,h3⟩
theorem DgN.same{Dp:DP}(h:DgN Dp td H p a)(k:j! H H'):DgN Dp td H' p a:=by
 obtain⟨d,own,kvs,h0,h1,h2,h3⟩:=h;exact⟨d,own,kvs,h0,k _ _ h1,k _ _ h2,h3⟩
theorem DgN.upd{Dp:DP}{u:HO}{tk:List (List Key×V)}(h:DgN Dp td H p a)(e:H td=A? (.dT tk)):DgN Dp td (upd H td u) p a:=by
 obtain⟨d,own,kvs,h0,h1,h2,h3⟩:=h;exact⟨d,own,kvs,h0,by rw[af (aF h1 e (λz=>nomatch z))];exact h1,by rw[af h0];exact h2,h3⟩
def kn2(s:Nat)(n:Xk):List Key:=[Xs ((s:Nat):Int),ZW n]
theorem vT{s s':Nat}{n n':Xk}(h:kn2 s n=kn2 s' n'):s=s'/\n=n':=by
 simp only[kn2,List.cons.injEq,Sum.inl.injEq,Sum.inr.injEq,and_true]at h;exact⟨by lia,h.2⟩
def y4(Dp:DP)(td:WS)(H:Hp)(ins:List (Xk×Int))(rows:List (List Th))(tk:List (List Key×V))(i j:Nat):Prop :=
 ∀(s c:Nat)(row:List Th)(p:Th)(k:Xk×Int),(s<i\/(s=i/\c<j))->rows[s]?=A? row->row[c]?=A? p->ins[c]?=A? k->∃da,aM tk (kn2 s k.1)=A? (.ref da)/\DgN Dp td H p da
def DgTab(Dp:DP)(H:Hp)(ins:List (Xk×Int))(rows:List (List Th))(td:WS):Prop:=∃tk,H td=A? (.dT tk) /\
 ∀(s c:Nat)(row:List Th)(p:Th)(k:Xk×Int),rows[s]?=A? row->row[c]?=A? p->ins[c]?=A? k->∃da,aM tk (kn2 s k.1)=A? (.ref da)/\DgAt Dp H p da
theorem DgTab.mono{Dp:DP}{rows:List (List Th)}(h:DgTab Dp H ins rows td)(k:KTD H H'):DgTab Dp H' ins rows td:=by
 obtain⟨tk,e,g⟩:=h;refine⟨tk,k.dct _ _ e,λs c row p kd h1 h2 h3=>?_⟩;obtain⟨da,a1,a2⟩:=g s c row p kd h1 h2 h3;exact⟨da,a1,a2.mono k⟩
def wB(Dp:DP)(CV:Sp)(ok:Th->Prop):Prop:=∀(H1:Hp)(p:Th)(pa:WS)(R:VK),At H1 p pa->ok p->(∀(r d:WS)(own:V)(kvs:List (List Key×V))(H2:Hp),j! H1 H2->H1 d=B?->H2 r=A? (.tup [own,.ref d])->H2 d=A? (.dT kvs)->Dp p own d kvs->R (.ref r) H2)->CV [.ref pa] H1 R E0
end BB
variable{Dp:BB.DP}
namespace BB
open PySem L2
theorem tP[DecidableEq κ](kvs:List (κ×V))(k:κ)(v:V):(putK kvs k v).map (·.1)=if k∈kvs.map (·.1)then kvs.map (·.1)else kvs.map (·.1)++[k]:=by
 have e:(kvs.any λkv=>decide (kv.1=k))=decide (k∈kvs.map (·.1)):=by
  rw[ZR,List.any_eq_true,decide_eq_true_iff];constructor
  .rintro⟨x,hx,hk⟩;exact Xn.mpr ⟨x,hx,e! hk⟩
  .intro h;obtain⟨x,hx,hk⟩:=Xn.mp h;exact⟨x,hx,d! hk⟩
 unfold putK;rw[e];by_cases h:k∈kvs.map (·.1)
 .rw[b! (d! h),b! h,Zc];refine List.map_congr_left λx hx=>?_;simp only[Function.comp];by_cases g:x.1=k
  .rw[b! g]
  .rw[a! g]
 .rw[a! (λz=>h (e! z)),a! h,W8];rfl
theorem kx[DecidableEq κ]{kvs:List (κ×V)}(nd:(kvs.map (·.1)).Nodup)(k:κ)(v:V):((putK kvs k v).map (·.1)).Nodup:=by
 rw[tP];by_cases h:k∈kvs.map (·.1)
 .rw[b! h];exact nd
 .rw[a! h,Y5];refine⟨nd,by simp,λa ha b hb=>?_⟩;rw[W0.mp hb];exactλz=>h (z ▸ ha)
theorem lC[DecidableEq κ]{kvs:List (κ×V)}{k:κ}{e:κ×V}(h:e∈putK kvs k v):e=(k,v)\/(e∈kvs/\e.1≠k):=by
 unfold putK at h;by_cases g:(kvs.any λkv=>decide (kv.1=k))=C?
 .rw[b! g]at h;obtain⟨x,hx,rfl⟩:=Xn.mp h;by_cases e:x.1=k
  .rw[b! e,e];exact .inl rfl
  .rw[a! e];exact .inr ⟨hx,e⟩
 .rw[a! g]at h;rcases Xd.mp h with h|h
  .exact .inr ⟨h,λz=>g (List.any_eq_true.mpr ⟨e,h,d! z⟩)⟩
  .exact .inl (W0.mp h)
theorem iX[DecidableEq κ]{kvs:List (κ×V)}{k:κ}(h:aM kvs k=A? v):(k,v)∈kvs:=by
 induction kvs with
 |nil=>cases h
 | cons p r ih =>
   by_cases e:p.1=k
   .rw[bq e]at h;cases h;rw[<-e];exact W4 ..
   .rw[bA e]at h;exact WT _ (ih h)
theorem wL[DecidableEq κ]{kvs:List (κ×V)}(nd:(kvs.map (·.1)).Nodup){e:κ×V}(h:e∈kvs):aM kvs e.1=A? e.2:=by
 induction kvs with
 |nil=>cases h
 | cons p r ih =>
   rw[XC,Yd]at nd;rcases W6.mp h with rfl|h
   .exact bq rfl
   .rw[bA (λz=>nd.1 (by rw[z];exact Xn.mpr ⟨e,h,rfl⟩))];exact ih nd.2 h
def jw(ins:List (Xk×Int))(rows:List (List Th))(head:Th)(s:Int)(t p:Th):Prop :=
 (s=-1/\p=head/\∃u,t=.knot Yy [u])\/(0<=s/\∃(m:Xk)(hs:List Th)(c:Int)(j:Nat)(row:List Th),t=.knot m hs/\ins[j]?=A? (m,c)/\rows[s.toNat]?=A? row/\row[j]?=A? p)
theorem Step.pat{rows:List (List Th)}{head:Th}{s k:Int}{ks:List Th}{h:Th}(st:Step ins rows s k ks p h):jw ins rows head s h p:=.inr ⟨st.1,st.2.2.2⟩
structure AskE(Dp:DP)(ins:List (Xk×Int))(rows:List (List Th))(head:Th)(H:Hp)(t:Th)(kv:Key×V)(s:Int)(p:Th)(da:WS):Prop where
 k:kv.1=Xs s
 v:kv.2=.ref da
 pat:jw ins rows head s t p
 dg:DgAt Dp H p da
def AskOk(Dp:DP)(ins:List (Xk×Int))(rows:List (List Th))(head:Th)(H:Hp)(t:Th)(ask:List (Key×V)):Prop:=∀kv∈ask,∃s p da,AskE Dp ins rows head H t kv s p da
theorem AskE.mono{rows:List (List Th)}{head:Th}{t:Th}{s:Int}{da:WS}(h:AskE Dp ins rows head H t kv s p da)(k:KTD H H'):AskE Dp ins rows head H' t kv s p da:=⟨h.k,h.v,h.pat,h.dg.mono k⟩
theorem AskOk.mono{rows:List (List Th)}{head:Th}{t:Th}{ask:List (Key×V)}(h:AskOk Dp ins rows head H t ask)(k:KTD H H'):AskOk Dp ins rows head H' t ask:=λkv Ao=>by
 obtain⟨s,p,da,g⟩:=h kv Ao;exact⟨s,p,da,g.mono k⟩
structure GoodNd(Dp:DP)(ins:List (Xk×Int))(rows:List (List Th))(head:Th)(ok:Th->Prop)(H:Hp)(m:Nd):Prop where
 ask:AskOk Dp ins rows head H m.t m.ask
 nd:(m.ask.map (·.1)).Nodup
 sp:m.sp=[]
 ok:ok m.t
 pos:∀kv∈m.ask,∃s:Int,kv.1=Xs s/\0<=s
theorem GoodNd.mono{rows:List (List Th)}{head:Th}{ok:Th->Prop}{m:Nd}(h:GoodNd Dp ins rows head ok H m)(k:KTD H H'):GoodNd Dp ins rows head ok H' m:=⟨h.ask.mono k,h.nd,h.sp,h.ok,h.pos⟩
theorem AskOk.len{rows:List (List Th)}{head:Th}{t:Th}{ask:List (Key×V)}(h:AskOk Dp ins rows head H t ask)(nd:(ask.map (·.1)).Nodup):ask.length<=rows.length+1:=by
 have:=dN (m:=(Xs (-1):Key)::(YL rows.length).map λi=>(Xs ((i:Nat):Int):Key)) nd λk hk=>by
  obtain⟨kv,Ao,rfl⟩:=Xn.mp hk;obtain⟨s,p,da,g⟩:=h kv Ao;rw[g.k];rcases g.pat with⟨rfl,_⟩|⟨s0,m,hs,c,j,row,_,_,hr,_⟩
  .exact W4 ..
  .refine WT _ (Xn.mpr ⟨s.toNat,List.mem_range.mpr (glE hr),?_⟩);rw[YC s0]
 rw[WO,Xf,WO,List.length_range]at this;exact this
def Lv.setSp(L:Lv)(i:Nat)(n:Nd)(sp:List (Key×V)):Lv:={L with ns:=L.ns.set i {n with sp:=sp}}
def Lv.setAsk(L:Lv)(i:Nat)(n:Nd)(ask:List (Key×V)):Lv:={L with ns:=L.ns.set i {n with ask:=ask}}
theorem map_set(f:α->β){l:List α}{i:Nat}{a b:α}(h:l[i]?=A? a)(e:f b=f a):(l.set i b).map f=l.map f:=by
 rw[List.map_set];refine List.ext_getElem? λj=>?_;rw[List.getElem?_set];split
 .rename_i z
  subst z;rw[WO,b! (glE h),W3,h,e];rfl
 .rfl
theorem ij{l:List Nd}{i:Nat}{a b:Nd}(h:l[i]?=A? a)(e1:b.aa=a.aa)(e2:b.ka=a.ka):dcts (l.set i b)=dcts l:=by
 unfold dcts;rw[List.flatMap_def,List.flatMap_def,map_set (λn:Nd=>[n.aa,n.ka]) h (by simp only[e1,e2])]
theorem mem_set{l:List α}{i:Nat}{b x:α}(h:x∈l.set i b):x=b\/∃j,j≠i/\l[j]?=A? x:=by
 obtain⟨j,hj⟩:=Xg.mp h;rw[List.getElem?_set]at hj;split at hj
 .split at hj
  .exact .inl (Xl hj).symm
  .cases hj
 .rename_i z
  exact .inr ⟨j,λe=>z e.symm,hj⟩
theorem j9{l:List Nd}(h:(dcts l).Nodup){i:Nat}{a b:Nd}(hi:l[i]?=A? a)(hj:l[j]?=A? b)(Ay:j≠i):b.aa≠a.aa/\b.aa≠a.ka/\b.ka≠a.aa/\b.ka≠a.ka:=by
 induction l generalizing i j with
 |nil=>simp at hi
 | cons x l ih =>
   have hc:dcts (x::l)=x.aa::x.ka::dcts l:=rfl;rw[hc,Yd,Yd]at h;obtain⟨h1,h2,h3⟩:=h;have C4:x.aa∉dcts l:=λz=>h1 (WT _ z);cases i with
   | zero =>
     cases j with
     |zero=>exact g! rfl Ay
     | succ j =>
       simp at hi hj;subst hi;have m:=WR hj;exact⟨λz=>C4 (z ▸ df m),λz=>h2 (z ▸ df m),λz=>C4 (z ▸ cS m),λz=>h2 (z ▸ cS m)⟩
   | succ i =>
     cases j with
     | zero =>
       simp at hi hj;subst hj;have m:=WR hi;exact⟨λz=>C4 (z ▸ df m),λz=>C4 (z ▸ cS m),λz=>h2 (z ▸ df m),λz=>h2 (z ▸ cS m)⟩
     | succ j =>
       simp at hi hj;exact ih h3 hi hj (by lia)
theorem iY{l:List Nd}(h:(dcts l).Nodup){i:Nat}{a:Nd}(hi:l[i]?=A? a):a.aa≠a.ka:=by
 induction l generalizing i with
 |nil=>simp at hi
 | cons x l ih =>
   have hc:dcts (x::l)=x.aa::x.ka::dcts l:=rfl;rw[hc,Yd,Yd]at h;cases i with
   | zero =>
     simp at hi;subst hi;exactλz=>h.1 (by rw[z];exact W4 ..)
   | succ i =>
     simp at hi;exact ih h.2.2 hi
theorem cC{C:WS}(h:LvSh C H L)(hb:b∈L.own):∃o,H b=A? o/\(∀xs,o≠.tup xs)/\(∀k,o≠.dT k)/\∀x y,o≠.frz x y:=by
 rcases W6.mp hb with rfl|hb
 .exact⟨_,h.ins,λ_ z=>(nomatch z),λ_ z=>(nomatch z),λ_ _ z=>nomatch z⟩
 rcases W6.mp hb with rfl|hb
 .exact⟨_,h.tl,λ_ z=>(nomatch z),λ_ z=>(nomatch z),λ_ _ z=>nomatch z⟩
 rcases W6.mp hb with rfl|hb
 .exact⟨_,h.al,λ_ z=>(nomatch z),λ_ z=>(nomatch z),λ_ _ z=>nomatch z⟩
 rcases W6.mp hb with rfl|hb
 .exact⟨_,h.kl,λ_ z=>(nomatch z),λ_ z=>(nomatch z),λ_ _ z=>nomatch z⟩
 obtain⟨n,hn,rfl|rfl⟩:=lU hb
 .exact⟨_,h.ak n hn,λ_ z=>(nomatch z),λ_ z=>(nomatch z),λ_ _ z=>nomatch z⟩
 .exact⟨_,h.sp n hn,λ_ z=>(nomatch z),λ_ z=>(nomatch z),λ_ _ z=>nomatch z⟩
theorem LvSh.setSp{C:WS}{i:Nat}{n:Nd}{sp:List (Key×V)}(h:LvSh C H L)(hi:L.ns[i]?=A? n)(k:KT H H')(f:∀b∈L.own,b≠n.ka->∀o,H b=A? o->H' b=A? o)(e:H' n.ka=A? (.dK sp)):LvSh C H' (L.setSp i n sp):=by
 have ni:=WR hi;have AB:=h.sp n ni;have m1:L.x∈L.own:=W4 ..;have m2:L.tl∈L.own:=WT _ (W4 ..);have m3:L.al∈L.own:=WT _ (WT _ (W4 ..));have m4:L.kl∈L.own:=WT _ (WT _ (WT _ (W4 ..)));have m5:∀b∈dcts L.ns,b∈L.own:=λb hb=>WT _ (WT _ (WT _ (WT _ hb)));refine⟨f _ m1 (aF h.ins AB (λz=>nomatch z)) _ h.ins,(f _ m2 (aF h.tl AB (λz=>nomatch z)) _ h.tl).trans ?_,(f _ m3 (aF h.al AB (λz=>nomatch z)) _ h.al).trans ?_,(f _ m4 (aF h.kl AB (λz=>nomatch z)) _ h.kl).trans ?_,λm hm=>?_,λm hm=>?_,λm hm=>?_,h.n1,h.n2,h.n3,?_,?_⟩
 .exact h! (λl=>A? (HO.lst l)) (map_set (λn:Nd=>i! n.ta) (b:={n with sp:=sp}) hi rfl).symm
 .exact h! (λl=>A? (HO.lst l)) (map_set (λn:Nd=>i! n.aa) (b:={n with sp:=sp}) hi rfl).symm
 .exact h! (λl=>A? (HO.lst l)) (map_set (λn:Nd=>i! n.ka) (b:={n with sp:=sp}) hi rfl).symm
 .rcases mem_set hm with rfl|⟨j,hj,hm⟩
  .exact(h.tr n ni).mono k
  .exact(h.tr m (WR hm)).mono k
 .rcases mem_set hm with rfl|⟨j,hj,hm⟩
  .exact f _ (m5 _ (df ni)) (iY h.nd hi) _ (h.ak n ni)
  .have mm:=WR hm;exact f _ (m5 _ (df mm)) (j9 h.nd hi hm hj).2.1 _ (h.ak m mm)
 .rcases mem_set hm with rfl|⟨j,hj,hm⟩
  .exact e
  .have mm:=WR hm;exact f _ (m5 _ (cS mm)) (j9 h.nd hi hm hj).2.2.2 _ (h.sp m mm)
 .show(dcts (L.ns.set i _)).Nodup;rw[ij (b:={n with sp:=sp}) hi rfl rfl];exact h.nd
 .show((L.ns.set i _).map _).Nodup;rw[map_set (λn:Nd=>n.t) (b:={n with sp:=sp}) hi rfl];exact h.un
theorem LvSh.setAsk{C:WS}{i:Nat}{n:Nd}{ask:List (Key×V)}(h:LvSh C H L)(hi:L.ns[i]?=A? n)(k:KT H H')(f:∀b∈L.own,b≠n.aa->∀o,H b=A? o->H' b=A? o)(e:H' n.aa=A? (.dK ask)):LvSh C H' (L.setAsk i n ask):=by
 have ni:=WR hi;have AB:=h.ak n ni;have m1:L.x∈L.own:=W4 ..;have m2:L.tl∈L.own:=WT _ (W4 ..);have m3:L.al∈L.own:=WT _ (WT _ (W4 ..));have m4:L.kl∈L.own:=WT _ (WT _ (WT _ (W4 ..)));have m5:∀b∈dcts L.ns,b∈L.own:=λb hb=>WT _ (WT _ (WT _ (WT _ hb)));refine⟨f _ m1 (aF h.ins AB (λz=>nomatch z)) _ h.ins,(f _ m2 (aF h.tl AB (λz=>nomatch z)) _ h.tl).trans ?_,(f _ m3 (aF h.al AB (λz=>nomatch z)) _ h.al).trans ?_,(f _ m4 (aF h.kl AB (λz=>nomatch z)) _ h.kl).trans ?_,λm hm=>?_,λm hm=>?_,λm hm=>?_,h.n1,h.n2,h.n3,?_,?_⟩
 .exact h! (λl=>A? (HO.lst l)) (map_set (λn:Nd=>i! n.ta) (b:={n with ask:=ask}) hi rfl).symm
 .exact h! (λl=>A? (HO.lst l)) (map_set (λn:Nd=>i! n.aa) (b:={n with ask:=ask}) hi rfl).symm
 .exact h! (λl=>A? (HO.lst l)) (map_set (λn:Nd=>i! n.ka) (b:={n with ask:=ask}) hi rfl).symm
 .rcases mem_set hm with rfl|⟨j,hj,hm⟩
  .exact(h.tr n ni).mono k
  .exact(h.tr m (WR hm)).mono k
 .rcases mem_set hm with rfl|⟨j,hj,hm⟩
  .exact e
  .have mm:=WR hm;exact f _ (m5 _ (df mm)) (j9 h.nd hi hm hj).1 _ (h.ak m mm)
 .rcases mem_set hm with rfl|⟨j,hj,hm⟩
  .exact f _ (m5 _ (cS ni)) (iY h.nd hi).symm _ (h.sp n ni)
  .have mm:=WR hm;exact f _ (m5 _ (cS mm)) (j9 h.nd hi hm hj).2.2.1 _ (h.sp m mm)
 .show(dcts (L.ns.set i _)).Nodup;rw[ij (b:={n with ask:=ask}) hi rfl rfl];exact h.nd
 .show((L.ns.set i _).map _).Nodup;rw[map_set (λn:Nd=>n.t) (b:={n with ask:=ask}) hi rfl];exact h.un
structure Grow(B B':Lv):Prop where
 x:B'.x=B.x
 dx:B'.dx=B.dx
 tl:B'.tl=B.tl
 al:B'.al=B.al
 kl:B'.kl=B.kl
 ns:∀(j:Nat)(m:Nd),B.ns[j]?=A? m->∃m',B'.ns[j]?=A? m'/\m'.t=m.t/\m'.aa=m.aa/\m'.ka=m.ka/\∀k,(aM m.ask k).isSome=C?->(aM m'.ask k).isSome=C?
theorem Grow.refl:Grow B B:=⟨rfl,rfl,rfl,rfl,rfl,λj m h=>⟨m,h,rfl,rfl,rfl,λ_ z=>z⟩⟩
theorem Grow.trans{A C:Lv}(h:Grow A B)(k:Grow B C):Grow A C:=by
 refine⟨k.x.trans h.x,k.dx.trans h.dx,k.tl.trans h.tl,k.al.trans h.al,k.kl.trans h.kl,λj m e=>?_⟩;obtain⟨m1,a1,a2,a3,a4,a5⟩:=h.ns j m e;obtain⟨m2,b1,b2,b3,b4,b5⟩:=k.ns j m1 a1;exact⟨m2,b1,b2.trans a2,b3.trans a3,b4.trans a4,λk z=>b5 k (a5 k z)⟩
theorem Grow.add{t:Th}{aa ka:WS}:Grow B (B.add t ta aa ka):=⟨rfl,rfl,rfl,rfl,rfl,λj m h=>⟨m,by
 show(B.ns++[_])[j]?=_;rw[XJ (glE h)];exact h,rfl,rfl,rfl,λ_ z=>z⟩⟩
theorem Grow.setAsk{i:Nat}{n:Nd}{k:Key}(hi:B.ns[i]?=A? n):Grow B (B.setAsk i n (putK n.ask k v)):=by
 refine⟨D?,D?,D?,D?,D?,λj m h=>?_⟩;by_cases e:i=j
 .subst e;rw[hi]at h;cases h;refine⟨{n with ask:=putK n.ask k v},?_,D?,D?,D?,λk' z=>?_⟩
  .show(B.ns.set i _)[i]?=_;rw[Yn (glE hi)]
  .show(aM (putK n.ask k v) k').isSome=C?;rw[dq];split
   .rfl
   .exact z
 .refine⟨m,?_,D?,D?,D?,λ_ z=>z⟩;show(B.ns.set i _)[j]?=_;rw[Y0 e];exact h
theorem Grow.dcts(h:Grow B B'):∀b∈BB.dcts B.ns,b∈BB.dcts B'.ns:=λb hb=>by
 obtain⟨m,hm,hb⟩:=lU hb;obtain⟨j,hj⟩:=Xg.mp hm;obtain⟨m',h1,h2,h3,h4,_⟩:=h.ns j m hj;have mm:=WR h1;rcases hb with rfl|rfl
 .rw[<-h3];exact df mm
 .rw[<-h4];exact cS mm
def SpOk(sp:List (Key×V))(t:Th)(ns:List Nd):Prop:=∀kv∈sp,∃(kid:Int)(j:Nat)(m:Nd),kv=(Xs kid,.int (j:Nat))/\ns[j]?=A? m/\0<=kid/\t.kids[kid.toNat]?=A? m.t
theorem SpOk.mono{sp:List (Key×V)}{t:Th}(h:SpOk sp t B.ns)(g:Grow B B'):SpOk sp t B'.ns:=λkv Ao=>by
 obtain⟨kid,j,m,h1,h2,h3,h4⟩:=h kv Ao;obtain⟨m',a1,a2,_⟩:=g.ns j m h2;exact⟨kid,j,m',h1,a1,h3,by rw[a2];exact h4⟩
theorem SpOk.len{sp:List (Key×V)}{t:Th}(h:SpOk sp t ns)(nd:(sp.map (·.1)).Nodup):sp.length<=t.kids.length:=by
 have:=dN (m:=(YL t.kids.length).map λi=>(Xs ((i:Nat):Int):Key)) nd λk hk=>by
  obtain⟨kv,Ao,rfl⟩:=Xn.mp hk;obtain⟨kid,j,m,rfl,h2,h3,h4⟩:=h kv Ao;refine Xn.mpr ⟨kid.toNat,List.mem_range.mpr (glE h4),?_⟩;rw[YC h3]
 rw[WO,WO,List.length_range]at this;exact this
def CDone(sp:List (Key×V))(t:Th)(ns:List Nd)(c:Int×Int):Prop:=∃(j:Nat)(m:Nd),aM sp (Xs c.2)=A? (.int (j:Nat))/\ns[j]?=A? m/\t.kids[c.2.toNat]?=A? m.t/\(aM m.ask (Xs c.1)).isSome=C?
theorem CDone.mono{sp DB:List (Key×V)}{t:Th}{c:Int×Int}(h:CDone sp t B.ns c)(g:Grow B B')(hs:∀k v,aM sp k=A? v->aM DB k=A? v):CDone DB t B'.ns c:=by
 obtain⟨j,m,h1,h2,h3,h4⟩:=h;obtain⟨m',a1,a2,_,_,a5⟩:=g.ns j m h2;exact⟨j,m',hs _ _ h1,a1,by rw[a2];exact h3,a5 _ h4⟩
def nA(p:Th)(kvs:List (List Key×V)):Prop:=(∀kv∈kvs,∃c∈callsOf (p.pl []),kv.1=ky c.2)/\∀c∈callsOf (p.pl []),∃kv∈kvs,kv.1=ky c.2
structure HandC(C:WS)(H:Hp)(L:Lv)(i:Nat)(n:Nd)(B:Lv):Prop where
 lv:LvSh C H L
 hi:L.ns[i]?=A? n
 bn:LvSh C H B
 dis:∀b∈L.own,b∉B.own
def hS(n:Nd)(B:Lv):List WS:=n.ka::B.tl::B.al::B.kl::dcts B.ns
structure HandI(C:WS)(Dp:DP)(ins:List (Xk×Int))(rows:List (List Th))(head:Th)(ok:Th->Prop)(H:Hp)(L:Lv)(i:Nat)(n:Nd)(B:Lv)(Hg:Hp)(B':Lv)(sp:List (Key×V)):Prop where
 ktd:KTD H Hg
 fr:FrB (hS n B) H Hg
 lv:LvSh C Hg (L.setSp i n sp)
 bn:LvSh C Hg B'
 gr:Grow B B'
 fresh:∀b∈B'.own,b∈B.own\/H b=B?
 good:∀m∈B'.ns,GoodNd Dp ins rows head ok Hg m
 spk:SpOk sp n.t B'.ns
 spn:(sp.map (·.1)).Nodup
structure Fz2(aa d:WS)(o1 o2:YF)(ask:List (Key×V))(kvs:List (List Key×V))(Hg H:Hp):Prop where
 eq:∀b,b≠aa->b≠d->H b=Hg b
 fa:H aa=A? (.frz o1 (.dK ask))
 fd:H d=A? (.frz o2 (.dT kvs))
 ga:Hg aa=A? (.dK ask)
 gd:Hg d=A? (.dT kvs)
def thw(aa d:WS)(Hg H:Hp):Hp:=λb=>if b=aa\/b=d then Hg b else H b
theorem f9{aa:WS}{Hg:Hp}(h1:b≠aa)(h2:b≠d):thw aa d Hg H b=H b:=a! λz=>z.elim h1 h2
theorem jc{aa:WS}{Hg:Hp}(h:b=aa\/b=d):thw aa d Hg H b=Hg b:=b! h
section
variable{C:WS}{rows:List (List Th)}{head:Th}{ok:Th->Prop}{i:Nat}{n:Nd}{Hg:Hp}{sp:List (Key×V)}
theorem HandC.start(c:HandC C H L i n B)(h0:n.sp=[])(hg:∀m∈B.ns,GoodNd Dp ins rows head ok H m):HandI C Dp ins rows head ok H L i n B H B []:=by
 refine⟨KTD.refl,FrB.refl,?_,c.bn,Grow.refl,λb hb=>.inl hb,hg,λkv h=>(by cases h),ZH⟩;refine c.lv.setSp c.hi (λ_ _ e=>e) (λb _ _ o e=>e) ?_;rw[c.lv.sp n (WR c.hi),h0]
theorem i4(hi:L.ns[i]?=A? n)(sp:List (Key×V)):(L.setSp i n sp).own=L.own:=by
 unfold Lv.own;show L.x::L.tl::L.al::L.kl::dcts (L.ns.set i _)=_;rw[ij (b:={n with sp:=sp}) hi rfl rfl]
theorem HandI.ka(c:HandC C H L i n B)(I:HandI C Dp ins rows head ok H L i n B Hg B' sp):Hg n.ka=A? (.dK sp):=I.lv.sp {n with sp:=sp} (WR (Yn (Xx.mp c.hi).1))
theorem HandI.aa(c:HandC C H L i n B)(I:HandI C Dp ins rows head ok H L i n B Hg B' sp):Hg n.aa=A? (.dK n.ask):=I.lv.ak {n with sp:=sp} (WR (Yn (Xx.mp c.hi).1))
theorem HandI.dis(c:HandC C H L i n B)(I:HandI C Dp ins rows head ok H L i n B Hg B' sp):∀b∈L.own,b∉B'.own:=λb hb z=>by
 rcases I.fresh b z with h|h
 .exact c.dis b hb h
 .obtain⟨o,e,_⟩:=cC c.lv hb;rw[h]at e;cases e
theorem fA{n:Nd}(h:n∈L.ns):n.aa∈L.own:=WT _ (WT _ (WT _ (WT _ (df h))))
theorem km{n:Nd}(h:n∈L.ns):n.ka∈L.own:=WT _ (WT _ (WT _ (WT _ (cS h))))
theorem cO:∀b∈[L.tl,L.al,L.kl],b∈L.own:=λb hb=>by
 rcases W6.mp hb with rfl|hb
 .exact WT _ (W4 ..)
 rcases W6.mp hb with rfl|hb
 .exact WT _ (WT _ (W4 ..))
 .rw[W0.mp hb];exact WT _ (WT _ (WT _ (W4 ..)))
theorem HandI.new(c:HandC C H L i n B)(I:HandI C Dp ins rows head ok H L i n B Hg B' sp)(h:Hg a=B?):H a=none:=by
 cases e:H a with
 |none=>rfl
 | some o =>
   by_cases hs:a∈hS n B
   .rcases W6.mp hs with rfl|hs
    .rw[I.ka c]at h;cases h
    .have ho:a∈B'.own:=by
      have e1:=I.gr.tl;have e2:=I.gr.al;have e3:=I.gr.kl;rcases W6.mp hs with rfl|hs
      .exact cO _ (by rw[<-e1];exact W4 ..)
      rcases W6.mp hs with rfl|hs
      .exact cO _ (by rw[<-e2];exact WT _ (W4 ..))
      rcases W6.mp hs with rfl|hs
      .exact cO _ (by rw[<-e3];exact WT _ (WT _ (W4 ..)))
      .exact WT _ (WT _ (WT _ (WT _ (I.gr.dcts _ hs))))
     obtain⟨o',e',_⟩:=cC I.bn ho;rw[h]at e';cases e'
   .rw[I.fr a o hs e]at h;cases h
theorem HandI.spot(c:HandC C H L i n B)(I:HandI C Dp ins rows head ok H L i n B Hg B' sp){o1 o2:YF}{H5:Hp}(z:Fz2 n.aa d o1 o2 n.ask kvs Hg H4){B2:Lv}{h:Th}{pa:WS}{m:Nd}{kid:Int}
 (hB:LvSh C H5 B2) (Ek:B2=B'\/∃a k,H4 a=B?/\H4 k=B?/\B2=B'.add h pa a k) (hj:B2.ns[j]?=A? m) (hm:m.t=h) (fr:FrB [B'.tl,B'.al,B'.kl] H4 H5) (hk:n.t.kids[kid.toNat]?=A? h) (k0:0<=kid) (Cs:aM sp (Xs kid)=B?) (hok:ok h) :
 H5 n.ka=A? (.dK sp)/\Fz2 n.aa d o1 o2 n.ask kvs (thw n.aa d Hg (upd H5 n.ka (.dK (putK sp (Xs kid) (.int (j:Nat)))))) (upd H5 n.ka (.dK (putK sp (Xs kid) (.int (j:Nat))))) /\
  HandI C Dp ins rows head ok H L i n B (thw n.aa d Hg (upd H5 n.ka (.dK (putK sp (Xs kid) (.int (j:Nat)))))) B2 (putK sp (Xs kid) (.int (j:Nat))):=by
 have ni:=WR c.hi;have MC:=fA ni;have MD:=km ni;have AW:=I.ka c;have OH:n.aa≠n.ka:=iY c.lv.nd c.hi;have DW:n.ka≠d:=aF AW z.gd (λz=>nomatch z);have had:n.aa≠d:=aF z.ga z.gd (λz=>nomatch z);have Up:H4 n.ka=A? (.dK sp):=(z.eq _ OH.symm DW).trans AW;have nl:∀b,b∈L.own->b∉[B'.tl,B'.al,B'.kl]:=λb hb hz=>I.dis c b hb (cO b hz)
 have nd:d∉[B'.tl,B'.al,B'.kl]:=λhz=>by
  obtain⟨o,e,_,h2,_⟩:=cC I.bn (cO d hz);rw[z.gd]at e;exact h2 _ (Xl e).symm
 have ME:H5 n.ka=A? (.dK sp):=fr _ _ (nl _ MD) Up;have RE:=fr _ _ (nl _ MC) z.fa;have OI:=fr _ _ nd z.fd
 have g2:Grow B' B2:=by
  rcases Ek with rfl|⟨_,_,_,_,rfl⟩
  .exact Grow.refl
  .exact Grow.add
 have tz:∀b∈B2.own,b∈B'.own\/Hg b=none:=λb hb=>by
  rcases Ek with rfl|⟨a,k,ha,AG,rfl⟩
  .exact .inl hb
  .have non:∀x,H4 x=B?->Hg x=none:=λx hx=>by
    rw[<-z.eq x (λe=>by rw[e,z.fa]at hx;cases hx) (λe=>by rw[e,z.fd]at hx;cases hx)];exact hx
   have AV:b∈B'.x::B'.tl::B'.al::B'.kl::dcts (B'.ns++[⟨h,pa,a,k,[],[]⟩]):=hb;rw[jG]at AV;have hb2:b∈B'.own++[a,k]:=by simpa[Lv.own,dcts]using AV
   rcases Xd.mp hb2 with h1|h1
   .exact .inl h1
   .rcases W6.mp h1 with rfl|h1
    .exact .inr (non _ ha)
    .rw[W0.mp h1];exact .inr (non _ AG)
 have Kq:∀b∈L.own,b∉B2.own:=λb hb hz=>by
  rcases tz b hz with h1|h1
  .exact I.dis c b hb h1
  .obtain⟨o,e,_⟩:=cC I.lv (by rw[i4 c.hi];exact hb);rw[h1]at e;cases e
 generalize Kr:putK sp (Xs kid) (.int (j:Nat))=DB;generalize RF:upd H5 n.ka (.dK DB)=H6;have Uq:H6 n.ka=A? (.dK DB):=by rw[<-RF,ad]
 have e6:∀b,b≠n.ka->H6 b=H5 b:=λb hb=>by rw[<-RF,af hb]
 have Ur:=(e6 _ OH).trans RE;have Ut:=(e6 _ DW.symm).trans OI
 have pass:∀b o,Hg b=A? o->b∉[B'.tl,B'.al,B'.kl]->b≠n.ka->thw n.aa d Hg H6 b=A? o:=λb o e hb Uu=>by
  by_cases hz:b=n.aa\/b=d
  .rw[jc hz];exact e
  .have h1:b≠n.aa:=λy=>hz (.inl y);have h2:b≠d:=λy=>hz (.inr y);rw[f9 h1 h2,e6 b Uu];exact fr b o hb ((z.eq b h1 h2).trans e)
 have Ks:∀b o,Hg b=A? o->((∃xs,o=.tup xs)\/∃k,o=.dT k)->b∉[B'.tl,B'.al,B'.kl]/\b≠n.ka:=λb o e ho=>by
  refine⟨λhz=>?_,λhz=>?_⟩
  .obtain⟨o',e',h1,h2,_⟩:=cC I.bn (cO b hz);rw[e]at e';cases e';rcases ho with⟨xs,rfl⟩|⟨k,rfl⟩
   .exact h1 _ rfl
   .exact h2 _ rfl
  .rw[hz,AW]at e;cases e;rcases ho with⟨xs,z⟩|⟨k,z⟩ <;> cases z
 have ktd:KTD Hg (thw n.aa d Hg H6):=⟨λb xs e=>by obtain⟨h1,h2⟩:=Ks b _ e (.inl ⟨xs,rfl⟩);exact pass b _ e h1 h2,λb k e=>by obtain⟨h1,h2⟩:=Ks b _ e (.inr ⟨k,rfl⟩);exact pass b _ e h1 h2⟩;refine⟨ME,⟨λb h1 h2=>(f9 h1 h2).symm,Ur,Ut,(jc (.inl rfl)).trans z.ga,(jc (.inr rfl)).trans z.gd⟩,I.ktd.trans ktd,λb o hb e=>?_,?_,?_,I.gr.trans g2,λb hb=>?_,λm' Cz=>?_,?_,?_⟩
 .refine pass b o (I.fr b o hb e) (λhz=>hb ?_) (λhz=>hb (by rw[hz];exact W4 ..));rw[I.gr.tl,I.gr.al,I.gr.kl]at hz;refine WT _ ?_;have:b∈[B.tl,B.al,B.kl]++dcts B.ns:=XA _ hz;exact this
 .have B0:(L.setSp i n sp).ns[i]?=A? {n with sp:=sp}:=Yn (Xx.mp c.hi).1;have:=LvSh.setSp (sp:=DB) (H':=thw n.aa d Hg H6) I.lv B0 ktd.tup (λb hb Ay o e=>pass b o e (nl b (by rw[i4 c.hi]at hb;exact hb)) Ay) ((f9 OH.symm DW).trans Uq)
  have e:(L.setSp i n sp).setSp i {n with sp:=sp} DB=L.setSp i n DB:=by
   unfold Lv.setSp;simp only[List.set_set]
  rw[e]at this;exact this
 .refine hB.keep (λb xs e=>?_) (λb hb o e=>?_)
  .have h1:b≠n.aa:=aF e RE (λz=>nomatch z);have h2:b≠d:=aF e OI (λz=>nomatch z);rw[f9 h1 h2,e6 b (aF e ME (λz=>nomatch z))];exact e
  .have h1:b≠n.aa:=λy=>Kq _ MC (y ▸ hb);have h2:b≠n.ka:=λy=>Kq _ MD (y ▸ hb)
   have h3:b≠d:=λy=>by
    obtain⟨o',e',_,_,h3⟩:=cC hB hb;rw[y,OI]at e';exact h3 _ _ (Xl e').symm
   rw[f9 h1 h3,e6 b h2];exact e
 .rcases tz b hb with h1|h1
  .exact I.fresh b h1
  .exact .inr (I.new c h1)
 .rcases Ek with rfl|⟨a,k,_,_,rfl⟩
  .exact(I.good m' Cz).mono ktd
  .rcases Xd.mp Cz with h1|h1
   .exact(I.good m' h1).mono ktd
   .rw[W0.mp h1];exact⟨λkv Ao=>(by cases Ao),ZH,rfl,hok,λkv Ao=>(by cases Ao)⟩
 .intro kv Ao;rw[<-Kr]at Ao;rcases lC Ao with rfl|⟨h1,_⟩
  .exact⟨kid,j,m,D?,hj,k0,by rw[hm];exact hk⟩
  .exact(I.spk.mono g2) kv h1
 .rw[<-Kr];exact kx I.spn _ _
theorem HandI.ask(c:HandC C H L i n B)(I:HandI C Dp ins rows head ok H L i n B Hg B' sp){o1 o2:YF}{H7:Hp}(z:Fz2 n.aa d o1 o2 n.ask kvs Hg H4)(s7:j! H4 H7){m:Nd}{s':Int}{da:WS}
 (hj:B'.ns[j]?=A? m) (HA:0<=s') (pat:jw ins rows head s' m.t p') (dg:DgAt Dp Hg p' da) :
 H7 m.aa=A? (.dK m.ask)/\Fz2 n.aa d o1 o2 n.ask kvs (thw n.aa d Hg (upd H7 m.aa (.dK (putK m.ask (Xs s') (.ref da))))) (upd H7 m.aa (.dK (putK m.ask (Xs s') (.ref da)))) /\
  HandI C Dp ins rows head ok H L i n B (thw n.aa d Hg (upd H7 m.aa (.dK (putK m.ask (Xs s') (.ref da))))) (B'.setAsk j m (putK m.ask (Xs s') (.ref da))) sp:=by
 have ni:=WR c.hi;have mj:=WR hj;have MC:=fA ni;have MD:=km ni;have MF:=fA mj;have Kt:=I.bn.ak m mj;have HE:m.aa≠n.aa:=λy=>I.dis c _ MC (y ▸ MF);have hmk:m.aa≠n.ka:=λy=>I.dis c _ MD (y ▸ MF);have GH:m.aa≠d:=aF Kt z.gd (λz=>nomatch z);have OJ:H7 m.aa=A? (.dK m.ask):=s7 _ _ ((z.eq _ HE GH).trans Kt);have Uv:=s7 _ _ z.fa;have Uw:=s7 _ _ z.fd;have g2:Grow B' (B'.setAsk j m (putK m.ask (Xs s') (.ref da))):=Grow.setAsk hj;generalize AG:putK m.ask (Xs s') (.ref da)=ask' at g2 |-;generalize RG:upd H7 m.aa (.dK ask')=H8;have Ux:H8 m.aa=A? (.dK ask'):=by rw[<-RG,ad]
 have e8:∀b,b≠m.aa->H8 b=H7 b:=λb hb=>by rw[<-RG,af hb]
 have Uy:=(e8 _ HE.symm).trans Uv;have Uz:=(e8 _ GH.symm).trans Uw
 have pass:∀b o,Hg b=A? o->b≠m.aa->thw n.aa d Hg H8 b=A? o:=λb o e hb=>by
  by_cases hz:b=n.aa\/b=d
  .rw[jc hz];exact e
  .have h1:b≠n.aa:=λy=>hz (.inl y);have h2:b≠d:=λy=>hz (.inr y);rw[f9 h1 h2,e8 b hb];exact s7 b o ((z.eq b h1 h2).trans e)
 have ktd:KTD Hg (thw n.aa d Hg H8):=⟨λb xs e=>pass b _ e (aF e Kt (λz=>nomatch z)),λb k e=>pass b _ e (aF e Kt (λz=>nomatch z))⟩
 have tz:(B'.setAsk j m ask').own=B'.own:=by
  unfold Lv.own;show B'.x::B'.tl::B'.al::B'.kl::dcts (B'.ns.set j _)=_;rw[ij (b:={m with ask:=ask'}) hj rfl rfl]
 refine⟨OJ,⟨λb h1 h2=>(f9 h1 h2).symm,Uy,Uz,(jc (.inl rfl)).trans z.ga,(jc (.inr rfl)).trans z.gd⟩,I.ktd.trans ktd,λb o hb e=>?_,?_,?_,I.gr.trans g2,λb hb=>I.fresh b (by rw[tz]at hb;exact hb),λm' Cz=>?_,I.spk.mono g2,I.spn⟩
 .by_cases Jj:b=m.aa
  .rcases I.fresh b (by rw[Jj];exact MF)with h1|h1
   .exfalso;apply hb;rcases W6.mp h1 with h2|h2
    .obtain⟨o',e',_⟩:=cC c.bn h1;rw[h2]at Jj;have e1:=I.bn.ins;rw[I.gr.x,Jj,Kt]at e1;cases e1
    .exact WT _ h2
   .rw[h1]at e;cases e
  .exact pass b o (I.fr b o hb e) Jj
 .refine I.lv.keep ktd.tup (λb hb o e=>pass b o e (λy=>?_));rw[i4 c.hi]at hb;exact I.dis c b hb (y ▸ MF)
 .exact I.bn.setAsk hj ktd.tup (λb hb Ay o e=>pass b o e Ay) ((f9 HE GH).trans Ux)
 .rcases mem_set Cz with rfl|⟨j',Be,UA⟩
  .have g:=I.good m mj;refine⟨λkv Ao=>?_,?_,g.sp,g.ok,λkv Ao=>?_⟩
   .have Dr:kv∈ask':=Ao;rw[<-AG]at Dr;rcases lC Dr with rfl|⟨h1,_⟩
    .exact⟨s',p',da,D?,D?,pat,dg.mono ktd⟩
    .exact(g.ask.mono ktd) kv h1
   .show(ask'.map _).Nodup;rw[<-AG];exact kx g.nd _ _
   .have Dr:kv∈ask':=Ao;rw[<-AG]at Dr;rcases lC Dr with rfl|⟨h1,_⟩
    .exact⟨s',D?,HA⟩
    .exact g.pos kv h1
  .exact(I.good m' (WR UA)).mono ktd
end
theorem Ats.get'(h:Ats H ts as){i:Nat}{t:Th}(hi:ts[i]?=A? t):∃a,as[i]?=A? a/\At H t a:=by
 have hl:=h.length;have Al:=(glE hi);obtain⟨a,ha⟩:∃a,as[i]?=A? a:=⟨_,WQ (by lia)⟩;obtain⟨t',ht,hA⟩:=h.get ha;rw[hi]at ht;cases ht;exact⟨a,ha,hA⟩
def EDone(Dp:DP)(ins:List (Xk×Int))(rows:List (List Th))(head:Th)(H:Hp)(t:Th)(sp:List (Key×V))(ns:List Nd)(kv:Key×V):Prop:=∃s p da,AskE Dp ins rows head H t kv s p da/\∀c∈callsOf (p.pl []),CDone sp t ns c.2
theorem EDone.grow{rows:List (List Th)}{head:Th}{t:Th}{sp DB:List (Key×V)}(h:EDone Dp ins rows head H t sp B.ns kv)(g:Grow B B')(hs:∀k v,aM sp k=A? v->aM DB k=A? v):EDone Dp ins rows head H t DB B'.ns kv:=by
 obtain⟨s,p,da,h1,h2⟩:=h;exact⟨s,p,da,h1,λc hc=>(h2 c hc).mono g hs⟩
theorem EDone.mono{rows:List (List Th)}{head:Th}{t:Th}{sp:List (Key×V)}(h:EDone Dp ins rows head H t sp ns kv)(k:KTD H H'):EDone Dp ins rows head H' t sp ns kv:=by
 obtain⟨s,p,da,h1,h2⟩:=h;exact⟨s,p,da,h1.mono k,h2⟩
structure LvCl(Dp:DP)(ins:List (Xk×Int))(rows:List (List Th))(head:Th)(H:Hp)(L:Lv)(Ku:List Nd):Prop where
 ed:∀n∈L.ns,∀kv∈n.ask,EDone Dp ins rows head H n.t n.sp Ku kv
 sp:∀n∈L.ns,SpOk n.sp n.t Ku
 an:∀n∈L.ns,(n.ask.map (·.1)).Nodup
 sn:∀n∈L.ns,(n.sp.map (·.1)).Nodup
 kd:∀n∈L.ns,n.t.kids.length<=100
 ln:L.ns.length<=50000
theorem LvCl.mono{rows:List (List Th)}{head:Th}{Ku:List Nd}(h:LvCl Dp ins rows head H L Ku)(k:KTD H H'):LvCl Dp ins rows head H' L Ku:=⟨λn hn kv Ao=>(h.ed n hn kv Ao).mono k,h.sp,h.an,h.sn,h.kd,h.ln⟩
theorem LvCl.grow{rows:List (List Th)}{head:Th}(h:LvCl Dp ins rows head H L B.ns)(g:Grow B B'):LvCl Dp ins rows head H L B'.ns:=⟨λn hn kv Ao=>(h.ed n hn kv Ao).grow g (λ_ _ z=>z),λn hn=>(h.sp n hn).mono g,h.an,h.sn,h.kd,h.ln⟩
def nxt(Ls:List Lv)(k:Nat)(e:List Nd):List Nd:=match Ls[k]? with
 |some L=>L.ns
 |none=>e
structure Okd(W:List Th)(ins:List (Xk×Int))(d:Nat)(h:Th):Prop where
 tall:h.tall<=d
 mem:h∈W
 fit:h.Fit ins
def InW(W:List Th)(t u:Th):Prop:=u∈W\/u=.knot Yy [t]
structure NdReady(Dp:DP)(ins:List (Xk×Int))(rows:List (List Th))(head:Th)(W:List Th)(H:Hp)(d:Nat)(n:Nd):Prop where
 sp:n.sp=[]
 nd:(n.ask.map (·.1)).Nodup
 ask:∀kv∈n.ask,∃s p da,AskE Dp ins rows head H n.t kv s p da/\∀c∈callsOf (p.pl []),∃p' h,Step ins rows c.2.1 c.2.2 n.t.kids p' h/\Okd W ins (d - 1) h
 knot:∃nm ks,n.t=.knot nm ks
 kids:n.t.kids.length<=100
 tall:n.t.tall<=d
theorem NdReady.mono{rows:List (List Th)}{head:Th}{d:Nat}{n:Nd}(h:NdReady Dp ins rows head W H d n)(k:KTD H H'):NdReady Dp ins rows head W H' d n:=⟨h.sp,h.nd,λkv Ao=>by
 obtain⟨s,p,da,h1,h2⟩:=h.ask kv Ao;exact⟨s,p,da,h1.mono k,h2⟩,h.knot,h.kids,h.tall⟩
structure SpUp(L L':Lv):Prop where
 x:L'.x=L.x
 dx:L'.dx=L.dx
 tl:L'.tl=L.tl
 al:L'.al=L.al
 kl:L'.kl=L.kl
 ns:∀j:Nat,(L'.ns[j]?=B?/\L.ns[j]?=B?)\/∃n sp,L.ns[j]?=A? n/\L'.ns[j]?=A? {n with sp:=sp}
theorem SpUp.refl:SpUp L L:=⟨rfl,rfl,rfl,rfl,rfl,λj=>by
 cases h:L.ns[j]? with
 |none=>exact .inl ⟨rfl,rfl⟩
 |some n=>exact .inr ⟨n,n.sp,rfl,rfl⟩⟩
theorem SpUp.set(h:SpUp L L'){i:Nat}{n:Nd}(hi:L'.ns[i]?=A? n)(sp:List (Key×V)):SpUp L (L'.setSp i n sp):=by
 refine⟨h.x,h.dx,h.tl,h.al,h.kl,λj=>?_⟩;by_cases e:i=j
 .subst e;rcases h.ns i with⟨h1,_⟩|⟨m,sp1,h1,h2⟩
  .rw[hi]at h1;cases h1
  .rw[hi]at h2;cases h2;exact .inr ⟨m,sp,h1,Yn (glE hi)⟩
 .have e2:(L'.setSp i n sp).ns[j]?=L'.ns[j]?:=Y0 e;rw[e2];exact h.ns j
theorem SpUp.grow(h:SpUp L L'):Grow L L':=by
 refine⟨h.x,h.dx,h.tl,h.al,h.kl,λj m hj=>?_⟩;rcases h.ns j with⟨_,h1⟩|⟨n,sp,h1,h2⟩
 .rw[hj]at h1;cases h1
 .rw[hj]at h1;cases h1;exact⟨_,h2,D?,D?,D?,λ_ z=>z⟩
theorem SpUp.len(h:SpUp L L'):L'.ns.length=L.ns.length:=by
 apply Nat.le_antisymm
 .rcases h.ns L.ns.length with⟨h1,_⟩|⟨n,sp,h1,_⟩
  .exact List.getElem?_eq_none_iff.mp h1
  .have:=(glE h1);lia
 .rcases h.ns L'.ns.length with⟨_,h1⟩|⟨n,sp,_,h1⟩
  .exact List.getElem?_eq_none_iff.mp h1
  .have:=(glE h1);lia
theorem SpUp.dcts(h:SpUp L L'):BB.dcts L'.ns=BB.dcts L.ns:=by
 unfold BB.dcts;rw[List.flatMap_def,List.flatMap_def];congr 1;refine List.ext_getElem? λj=>?_;rw[W3,W3];rcases h.ns j with⟨h1,h2⟩|⟨n,sp,h1,h2⟩
 .rw[h1,h2]
 .rw[h1,h2];rfl
theorem SpUp.own(h:SpUp L L'):L'.own=L.own:=by
 unfold Lv.own;rw[h.x,h.tl,h.al,h.kl,h.dcts]
structure RunI(C:WS)(Dp:DP)(ins:List (Xk×Int))(rows:List (List Th))(head:Th)(ok:Th->Prop)(H0:Hp)(L B:Lv)(i:Nat)(H:Hp)(L' B':Lv):Prop where
 ktd:KTD H0 H
 fr:FrB (dcts L.ns++B.own) H0 H
 lv:LvSh C H L'
 up:SpUp L L'
 bn:LvSh C H B'
 gr:Grow B B'
 fresh:∀b∈B'.own,b∈B.own\/H0 b=B?
 good:∀m∈B'.ns,GoodNd Dp ins rows head ok H m
 done:∀(j:Nat)(n:Nd),j<i->L'.ns[j]?=A? n->(∀kv∈n.ask,EDone Dp ins rows head H n.t n.sp B'.ns kv)/\SpOk n.sp n.t B'.ns/\(n.sp.map (·.1)).Nodup
 todo:∀j,i<=j->L'.ns[j]?=L.ns[j]?
section
variable{C:WS}{rows:List (List Th)}{head:Th}{ok:Th->Prop}{H0:Hp}{i:Nat}
theorem RunI.start(hL:LvSh C H0 L)(hB:LvSh C H0 B)(h0:B.ns=[]):RunI C Dp ins rows head ok H0 L B 0 H0 L B :=
 ⟨KTD.refl,FrB.refl,hL,SpUp.refl,hB,Grow.refl,λb hb=>.inl hb,λm hm=>(by rw[h0]at hm;cases hm),λj n h=>(by cases h),λj _=>rfl⟩
theorem RunI.handC(R:RunI C Dp ins rows head ok H0 L B i H L' B')(hL:LvSh C H0 L)(dis:∀b∈L.own,b∉B.own){n:Nd}(hi:L'.ns[i]?=A? n):HandC C H L' i n B':=by
 refine⟨R.lv,hi,R.bn,λb hb hz=>?_⟩;rw[R.up.own]at hb;rcases R.fresh b hz with h|h
 .exact dis b hb h
 .obtain⟨o,e,_⟩:=cC hL hb;rw[h]at e;cases e
theorem RunI.step(R:RunI C Dp ins rows head ok H0 L B i H L' B'){n:Nd}(hi:L'.ns[i]?=A? n){B2:Lv}{sp:List (Key×V)}(I:HandI C Dp ins rows head ok H L' i n B' H2 B2 sp)(hd:∀kv∈n.ask,EDone Dp ins rows head H n.t sp B2.ns kv):RunI C Dp ins rows head ok H0 L B (i+1) H2 (L'.setSp i n sp) B2:=by
 refine⟨R.ktd.trans I.ktd,λb o hb e=>I.fr b o (λhz=>hb ?_) (R.fr b o hb e),I.lv,R.up.set hi sp,I.bn,R.gr.trans I.gr,λb hb=>?_,I.good,λj m hj hm=>?_,λj hj=>?_⟩
 .rcases W6.mp hz with rfl|hz
  .refine XA _ ?_;rw[<-R.up.dcts];exact cS (WR hi)
  .have OK:b∈B'.own:=WT _ hz;rcases R.fresh b OK with h|h
   .exact Xu _ h
   .rw[h]at e;cases e
 .rcases I.fresh b hb with h|h
  .exact R.fresh b h
  .refine .inr ?_;cases e:H0 b with
   |none=>rfl
   | some o =>
     by_cases hs:b∈dcts L.ns++B.own
     .rcases Xd.mp hs with hs|hs
      .rw[<-R.up.dcts]at hs;obtain⟨o',e',_⟩:=cC R.lv (WT _ (WT _ (WT _ (WT _ hs))));rw[h]at e';cases e'
      .have:b∈B'.own:=by
        rcases W6.mp hs with rfl|hs
        .rw[<-R.gr.x];exact W4 ..
        .rw[show B.tl::B.al::B.kl::dcts B.ns=[B.tl,B.al,B.kl]++dcts B.ns from rfl]at hs;rcases Xd.mp hs with hs|hs
         .rw[<-R.gr.tl,<-R.gr.al,<-R.gr.kl]at hs;exact cO b hs
         .exact WT _ (WT _ (WT _ (WT _ (R.gr.dcts _ hs))))
       obtain⟨o',e',_⟩:=cC R.bn this;rw[h]at e';cases e'
     .rw[R.fr b o hs e]at h;cases h
 .by_cases e:i=j
  .subst e;have Cz:(L'.setSp i n sp).ns[i]?=A? {n with sp:=sp}:=Yn (glE hi);rw[Cz]at hm;cases hm;exact⟨λkv Ao=>(hd kv Ao).mono I.ktd,I.spk,I.spn⟩
  .have e2:(L'.setSp i n sp).ns[j]?=L'.ns[j]?:=Y0 e;rw[e2]at hm;obtain⟨h1,h2,h3⟩:=R.done j m (by lia) hm;exact⟨λkv Ao=>((h1 kv Ao).grow I.gr (λ_ _ z=>z)).mono I.ktd,h2.mono I.gr,h3⟩
 .have e2:(L'.setSp i n sp).ns[j]?=L'.ns[j]?:=Y0 (by lia);rw[e2];exact R.todo j (by lia)
theorem RunI.closed(R:RunI C Dp ins rows head ok H0 L B L.ns.length H L' B')(hr:∀n∈L.ns,(n.ask.map (·.1)).Nodup)(hk:∀n∈L.ns,n.t.kids.length<=100)(hl:L.ns.length<=50000):LvCl Dp ins rows head H L' B'.ns:=by
 have at':∀n∈L'.ns,∃j,j<L.ns.length/\L'.ns[j]?=A? n:=λn hn=>by
  obtain⟨j,hj⟩:=Xg.mp hn;have:=(glE hj);rw[R.up.len]at this;exact⟨j,this,hj⟩
 refine⟨λn hn=>?_,λn hn=>?_,λn hn=>?_,λn hn=>?_,λn hn=>?_,by rw[R.up.len];exact hl⟩
 .obtain⟨j,h1,h2⟩:=at' n hn;exact(R.done j n h1 h2).1
 .obtain⟨j,h1,h2⟩:=at' n hn;exact(R.done j n h1 h2).2.1
 .obtain⟨j,h1,h2⟩:=at' n hn;rcases R.up.ns j with⟨h3,_⟩|⟨m,sp,h3,h4⟩
  .rw[h2]at h3;cases h3
  .rw[h2]at h4;cases h4;exact hr m (WR h3)
 .obtain⟨j,h1,h2⟩:=at' n hn;exact(R.done j n h1 h2).2.2
 .obtain⟨j,h1,h2⟩:=at' n hn;rcases R.up.ns j with⟨h3,_⟩|⟨m,sp,h3,h4⟩
  .rw[h2]at h3;cases h3
  .rw[h2]at h4;cases h4;exact hk m (WR h3)
end
structure Chain(C:WS)(Dp:DP)(ins:List (Xk×Int))(rows:List (List Th))(head:Th)(H:Hp)(Ls:List Lv)(e:List Nd):Prop where
 sh:∀L∈Ls,LvSh C H L
 cl:∀(k:Nat)(L:Lv),Ls[k]?=A? L->LvCl Dp ins rows head H L (nxt Ls (k+1) e)
theorem rs{C x tl al kl:WS}(hx:H x=B?)(GI:H dx=B?)(Ay:dx≠x)(sb:SameB x (upd (upd H dx (.own x)) x (.ins C dx [])) H1)(Ap:(upd (upd H dx (.own x)) x (.ins C dx [])) tl=B?)(AO:(upd (upd H dx (.own x)) x (.ins C dx [])) al=B?)(AK:(upd (upd H dx (.own x)) x (.ins C dx [])) kl=B?)(n1:tl≠al)(n2:tl≠kl)(n3:al≠kl)
 (ex:H1 x=A? (.ins C dx (lvF tl al kl))) (e1:H1 tl=A? (.lst [])) (e2:H1 al=A? (.lst [])) (e3:H1 kl=A? (.lst [])):j! H H1/\LvSh C H1 ⟨x,dx,tl,al,kl,[]⟩/\∀b∈(Lv.mk x dx tl al kl []).own,H b=none:=by
 have no:∀b,(upd (upd H dx (.own x)) x (.ins C dx [])) b=B?->H b=none:=λb h=>by
  by_cases z:b=x
  .rw[z];exact hx
  .rw[af z]at h;by_cases z2:b=dx
   .rw[z2];exact GI
   .rw[af z2]at h;exact h
 refine⟨λb o e=>sb b o (aq e hx) (by rw[af (aq e hx),af (aq e GI)];exact e),⟨ex,e1,e2,e3,λn hn=>(by cases hn),λn hn=>(by cases hn),λn hn=>(by cases hn),n1,n2,n3,ZH,ZH⟩,λb hb=>?_⟩;have AV:b=x\/b=tl\/b=al\/b=kl:=by simpa[Lv.own,dcts]using hb
 rcases AV with rfl|rfl|rfl|rfl
 .exact hx
 .exact no _ Ap
 .exact no _ AO
 .exact no _ AK
def tY(t:Th)(Ls:List Lv):Prop:=∃L0 n0,Ls[0]?=A? L0/\L0.ns=[n0]/\n0.t=.knot Yy [t]/\(aM n0.ask (Xs (-1))).isSome=C?
structure iP(ins:List (Xk×Int))(rows:List (List Th))(head:Th)(W:List Th):Prop where
 wk:∀u∈W,∀k∈u.kids,k∈W
 wl:W.length<=40000
 rl:rows.length<=100
 kids:∀u:Th,u.Fit ins->u.kids.length<=100
 knot:∀u:Th,u.Fit ins->∃nm ks,u=.knot nm ks
 fit:∀u:Th,u.Fit ins->∀k∈u.kids,k.Fit ins
 step:∀(u:Th)(s:Int)(p:Th),u.Fit ins->0<=s->jw ins rows head s u p->∀c∈callsOf (p.pl []),∃p' h,Step ins rows c.2.1 c.2.2 u.kids p' h
structure LoopI(C:WS)(Dp:DP)(ins:List (Xk×Int))(rows:List (List Th))(head:Th)(W:List Th)(t:Th)(H:Hp)(lv:WS)(mz:Nat)(H4:Hp)(Ls:List Lv)(L:Lv):Prop where
 same:j! H H4
 ls:H4 lv=A? (.lst (Ls.map λL=>i! L.x))
 ch:Chain C Dp ins rows head H4 Ls L.ns
 cur:LvSh C H4 L
 rd:∀n∈L.ns,NdReady Dp ins rows head W H4 mz n
 dis:∀M∈Ls,∀b∈M.own,b∉L.own
 lvn:lv∉L.own/\∀M∈Ls,lv∉M.own
 new:H lv=B?/\(∀b∈L.own,H b=B?)/\∀M∈Ls,∀b∈M.own,H b=B?
 top:tY t (Ls++[L])
 len:Ls.length+mz<=140
 cnt:L.ns.length<=50000
 mem:∀M∈Ls,∀n∈M.ns,InW W t n.t
 mec:∀n∈L.ns,InW W t n.t
theorem GoodNd.ready{rows:List (List Th)}{head:Th}{d:Nat}{m:Nd}(T:iP ins rows head W)(g:GoodNd Dp ins rows head (Okd W ins d) H m):NdReady Dp ins rows head W H d m:=by
 obtain⟨nm,ks,hk⟩:=T.knot _ g.ok.fit;refine⟨g.sp,g.nd,λkv Ao=>?_,⟨nm,ks,hk⟩,T.kids _ g.ok.fit,g.ok.tall⟩;obtain⟨s,p,da,hE⟩:=g.ask kv Ao
 have s0:0<=s:=by
  obtain⟨s',h1,h2⟩:=g.pos kv Ao;have:s=s':=Zt (hE.k.symm.trans h1);lia
 refine⟨s,p,da,hE,λc hc=>?_⟩;obtain⟨p',h,st⟩:=T.step _ s p g.ok.fit s0 hE.pat c hc;have hm:h∈m.t.kids:=WR st.2.2.1;refine⟨p',h,st,?_,T.wk _ g.ok.mem _ hm,T.fit _ g.ok.fit _ hm⟩;have h1:=b8 hm;have h2:=Th.tall_eq m.t;have h3:=g.ok.tall;lia
theorem LoopI.step{C:WS}{rows:List (List Th)}{head:Th}{t:Th}{lv:WS}{mz:Nat}{Ls:List Lv}(I:LoopI C Dp ins rows head W t H lv mz H4 Ls L)(T:iP ins rows head W)(Ay:L.ns≠[]){H6 H7:Hp}
 (s6:j! (upd H4 lv (.lst ((Ls.map λL=>i! L.x)++[.ref L.x]))) H6) (HF:∀b∈B.own,(upd H4 lv (.lst ((Ls.map λL=>i! L.x)++[.ref L.x]))) b=B?)
 (R:RunI C Dp ins rows head (Okd W ins (mz - 1)) H6 L B L.ns.length H7 L' B'):mz - 1<mz/\LoopI C Dp ins rows head W t H lv (mz - 1) H7 (Ls++[L']) B':=by
 have mz1:1<=mz:=by
  cases hL:L.ns with
  |nil=>exact g! hL Ay
  | cons n ns =>
    have h1:=(I.rd n (by rw[hL];exact W4 ..)).tall;have h2:=Th.tall_eq n.t;lia
 obtain⟨l1,l2⟩:=I.lvn;obtain⟨w1,w2,w3⟩:=I.new;generalize RH:upd H4 lv (.lst ((Ls.map λL=>i! L.x)++[.ref L.x]))=H5 at s6 HF;have e5:∀b,b≠lv->H5 b=H4 b:=λb hb=>by rw[<-RH,af hb]
 have Jk:H5 lv=A? (.lst ((Ls.map λL=>i! L.x)++[.ref L.x])):=by rw[<-RH,ad]
 have dL:∀b∈dcts L.ns,b∈L.own:=λb hb=>WT _ (WT _ (WT _ (WT _ hb)))
 have keep:∀b o,H4 b=A? o->b≠lv->b∉L.own->H7 b=A? o:=λb o e hb hL=>by
  have OL:=(e5 b hb).trans e;refine R.fr b o (λz=>?_) (s6 _ _ OL);rcases Xd.mp z with z|z
  .exact hL (dL b z)
  .rw[HF b z]at OL;cases OL
 have ktd:KTD H4 H7:=by
  have a:KTD H4 H5:=⟨λb xs e=>(e5 b (aF e I.ls (λz=>nomatch z))).trans e,λb xs e=>(e5 b (aF e I.ls (λz=>nomatch z))).trans e⟩;exact(a.trans (KTD.of s6)).trans R.ktd
 have Kv:∀b∈L.own,∃o,H6 b=A? o:=λb hb=>by
  obtain⟨o,e,_⟩:=cC I.cur hb;exact⟨o,s6 _ _ ((e5 b (λz=>l1 (z ▸ hb))).trans e)⟩
 have Kw:∀M∈Ls,∀b∈M.own,∃o,H6 b=A? o/\H5 b=A? o:=λM hM b hb=>by
  obtain⟨o,e,_⟩:=cC (I.ch.sh M hM) hb;have:=(e5 b (λz=>l2 M hM (z ▸ hb))).trans e;exact⟨o,s6 _ _ this,this⟩
 have hlen:(Ls++[L']).length=Ls.length+1:=by rw[W7];rfl
 refine⟨by lia,λb o e=>keep b o (I.same b o e) (aq e w1) (λz=>by rw[w2 b z]at e;cases e),?_,⟨λM hM=>?_,λk M hk=>?_⟩,R.bn,λm hm=>(R.good m hm).ready T,λM hM b hb hz=>?_,⟨λhz=>?_,λM hM=>?_⟩,⟨w1,λb hb=>?_,λM hM b hb=>?_⟩,?_,by rw[hlen];have:=I.len;lia,?_,λM hM n hn=>?_,λn hn=>.inl (R.good n hn).ok.mem⟩
 .refine(R.fr _ _ (λz=>?_) (s6 _ _ Jk)).trans ?_
  .rcases Xd.mp z with z|z
   .exact l1 (dL _ z)
   .rw[HF _ z]at Jk;cases Jk
  .rw[W8,XC,YM,R.up.x]
 .rcases Xd.mp hM with hM|hM
  .exact(I.ch.sh M hM).keep ktd.tup λb hb o e=>keep b o e (λz=>l2 M hM (z ▸ hb)) (I.dis M hM b hb)
  .rw[W0.mp hM];exact R.lv
 .by_cases AK:k<Ls.length
  .rw[XJ AK]at hk;have h0:=(I.ch.cl k M hk).mono ktd;unfold nxt at h0 |-;by_cases Fs:k+1<Ls.length
   .rw[XJ Fs];rw[WQ Fs]at h0 |-;exact h0
   .have e1:Ls[k+1]?=none:=XU (by lia);rw[e1]at h0;rw[X2 (by lia),show k+1 - Ls.length=0 by lia];exact h0.grow R.up.grow
  .have AX:=(glE hk);have e1:k=Ls.length:=by lia
   subst e1;rw[X2 (WX _),Nat.sub_self]at hk;have EJ:L'=M:=Xl hk;rw[<-EJ];unfold nxt;rw[XU (by lia)];exact R.closed (λn hn=>(I.rd n hn).nd) (λn hn=>(I.rd n hn).kids) I.cnt
 .rcases Xd.mp hM with hM|hM
  .obtain⟨o,h6,h5⟩:=Kw M hM b hb;rcases R.fresh b hz with z|z
   .rw[HF b z]at h5;cases h5
   .rw[z]at h6;cases h6
  .rw[W0.mp hM,R.up.own]at hb;obtain⟨o,h6⟩:=Kv b hb;rcases R.fresh b hz with z|z
   .have:=HF b z;obtain⟨o',e',_⟩:=cC I.cur hb;rw[e5 b (λz=>l1 (z ▸ hb)),e']at this;cases this
   .rw[z]at h6;cases h6
 .rcases R.fresh _ hz with z|z
  .rw[HF _ z]at Jk;cases Jk
  .rw[s6 _ _ Jk]at z;cases z
 .rcases Xd.mp hM with hM|hM
  .exact l2 M hM
  .rw[W0.mp hM,R.up.own];exact l1
 .cases e:H b with
  |none=>rfl
  | some o =>
    have h5:=(e5 b (aq e w1)).trans (I.same b o e);rcases R.fresh b hb with z|z
    .rw[HF b z]at h5;cases h5
    .rw[s6 _ _ h5]at z;cases z
 .rcases Xd.mp hM with hM|hM
  .exact w3 M hM b hb
  .rw[W0.mp hM,R.up.own]at hb;exact w2 b hb
 .obtain⟨L0,n0,h1,h2,h3,h4⟩:=I.top;cases Ls with
  |cons M Ms=>exact⟨L0,n0,h1,h2,h3,h4⟩
  | nil =>
    have Jl:L=L0:=Xl h1;subst Jl;have hl:=R.up.len;rw[h2]at hl;rcases R.up.ns 0 with⟨_,z⟩|⟨n,sp,z1,z2⟩
    .rw[h2]at z;cases z
    .rw[h2]at z1;have hn:n0=n:=Xl z1;subst hn;refine⟨L',{n0 with sp:=sp},D?,?_,h3,h4⟩;cases CJ:L'.ns with
     |nil=>rw[CJ]at hl;cases hl
     | cons a as =>
       rw[CJ]at z2 hl;have ha:a={n0 with sp:=sp}:=Xl z2;cases as with
       |nil=>rw[ha]
       |cons b bs=>simp at hl
 .have h1:=dN (m:=W) R.bn.un λu hu=>by
   obtain⟨m',Cz,rfl⟩:=Xn.mp hu;exact(R.good m' Cz).ok.mem
  have h2:=T.wl;rw[WO]at h1;lia
 .rcases Xd.mp hM with h|h
  .exact I.mem M h n hn
  .rw[W0.mp h]at hn;obtain⟨j,hj⟩:=Xg.mp hn;rcases R.up.ns j with⟨z,_⟩|⟨m,sp,z1,z2⟩
   .rw[hj]at z;cases z
   .rw[hj]at z2;cases z2;exact I.mec m (WR z1)
theorem oY{g:TG}{aa:WS}{ask:List (Key×V)}{VW:Key×V->Int->Prop}{Q:VK}
 (Ap:∀R:VK,R (.ref aa) H->tl Y H R) (ha:H aa=A? (.dK ask)) (hlen:ask.length<=10000)
 (hs:∀(i:Nat)(kv:Key×V)(p:WS)(H2:Hp)(R:VK),ask[i]?=A? kv->SameB aa H H2->H2 p=A? (.tup [kV kv.1,kv.2])->(∀(v:Int)(pr:WS)(H3:Hp),j! H2 H3->H3 pr=A? (.tup [kV kv.1,.int v])->VW kv v->R (.ref pr) H3)->g (.ref p) (cσ js Y) H2 λAq H3=>te Aq H3 R)
 (hq:∀(D:WS)(ps:List WS)(prs:List (Key×V))(H2:Hp),j! H H2->H2 D=A? (.lst (ps.map i!))->XH (PrK H2) prs ps->prs.map (·.1)=ask.map (·.1)->(∀pr∈prs,∃v,pr.2=.int v/\∃kv∈ask,kv.1=pr.1/\VW kv v)->Q (.ref D) H2) :
 lF (qY js (vg tl) g bf te) Y H Q:=by
 refine Ap _ ⟨aa,ask,rfl,ha,λo D hD=>?_⟩;have DZ:D≠aa:=λz=>by rw[z,ad]at hD;cases hD
 have Kp:H D=none:=by rw[af DZ]at hD;exact hD
 refine⟨ask.length,λj H2=>j<=ask.length/\SameB aa H H2/\H2 aa=A? (.frz o (.dK ask))/\∃(ps:List WS)(prs:List (Key×V)),H2 D=A? (.lst (ps.map i!))/\XH (PrK H2) prs ps/\prs.map (·.1)=(ask.take j).map (·.1)/\∀pr∈prs,∃v,pr.2=.int v/\∃kv∈ask,kv.1=pr.1/\VW kv v,⟨Xr _,λb u hb e=>by rw[af (aq e Kp),af hb];exact e,by rw[af DZ.symm,ad],[],[],ad,.nil,D?,λpr h=>by cases h⟩,?_⟩;rintro j H2 ⟨hj,sb,ed,ps,prs,eD,hp,hk,hv⟩;by_cases Dq:j=ask.length
 .left;refine⟨⟨ed,by lia⟩,upd H2 aa (.dK ask),λb=>?_,?_⟩
  .by_cases hb:b=aa
   .rw[hb];exact .inr ⟨o,_,ed,ha,ad⟩
   .exact .inl (af hb)
  .rw[Dq,YA]at hk;refine hq D ps prs _ (λb u e=>?_) (by rw[af DZ];exact eD) (v! (λpr pa e=>?_) hp) hk hv
   .by_cases hb:b=aa
    .rw[hb,ha]at e;rw[hb,ad];exact e
    .rw[af hb];exact sb b u hb e
   .have e':H2 pa=A? (.tup [kV pr.1,pr.2]):=e;show upd H2 aa _ pa=_;rw[af (aF e' ed (λz=>nomatch z))];exact e'
 .right;refine⟨by lia,⟨ed,by lia⟩,?_⟩;rintro x H3 ⟨p,kv,OM,rfl,rfl,Ao⟩;have RD:aa≠p:=λz=>by rw[<-z,ed]at OM;cases OM
  have s3:j! H2 (upd H2 p (.tup [kV kv.1,kv.2])):=aj OM _;have AZ:=Xa hp;have AK:=h! Ze hk;rw[WO,WO,XB]at AK;refine hs j kv p _ _ Ao (λc u hc ec=>s3 _ _ (sb c u hc ec)) ad λv pr H4 s4 HG UB=>?_;have FP:=s3.trans s4;have GJ:=FP _ _ eD;refine⟨_,GJ,lbE (by lia),by lia,λc u hc ec=>?_,?_,ps++[pr],prs++[(kv.1,.int v)],?_,?_,?_,?_⟩
  .rw[af (aq ec Kp)];exact FP _ _ (sb c u hc ec)
  .rw[af DZ.symm];exact FP _ _ ed
  .rw[ad,W8];rfl
  .refine r! (v! (λMG pa e=>?_) hp) (.cons ?_ .nil)
   .have e':H2 pa=A? (.tup [kV MG.1,MG.2]):=e;show upd H4 D _ pa=_;rw[af (aF e' eD (λz=>nomatch z))];exact FP _ _ e'
   .show upd H4 D _ pr=_;rw[af (aF HG GJ (λz=>nomatch z))];exact HG
  .rw[Yc,Ao,W8,W8,hk];rfl
  .intro MG ON;rcases Xd.mp ON with h|h
   .exact hv MG h
   .rw[W0.mp h];exact⟨v,D?,kv,WR Ao,D?,UB⟩
theorem oZ{rows:List (List Th)}{head:Th}(g:aH ins){s:Int}{u:Th}(h:jw ins rows head s u p)(h':jw ins rows head s u p'):p=p':=by
 rcases h with⟨h1,h2,_⟩|⟨h0,m,hs,c,j,row,h1,h2,h3,h4⟩
 .rcases h' with⟨_,k2,_⟩|⟨k0,_⟩
  .rw[h2,k2]
  .lia
 .rcases h' with⟨k1,_⟩|⟨_,m',Fn,c',j',EG,k1,k2,k3,k4⟩
  .lia
  .rw[h1]at k1;cases k1;have:=g.nd _ _ _ _ h2 k2 rfl;subst this;rw[h3]at k3;cases k3;rw[h4]at k4;cases k4;rfl
def VRs(ins:List (Xk×Int))(rows:List (List Th))(head:Th)(s:Int)(u:Th)(v:Int):Prop:=∀p o,jw ins rows head s u p->Out ins rows p u o->v=(o.size:Nat)
def VRt(ins:List (Xk×Int))(rows:List (List Th))(head:Th)(s:Int)(u:Th)(v:Int):Prop:=∀p o,jw ins rows head s u p->Out ins rows p u o->v=(o.tall:Nat)
def Wvs(p:Th)(f:Int->Int->Int)(v:Int):Prop:=v=(p.kn:Nat)+smC f (callsOf (p.pl []))
def Wvt(p:Th)(f:Int->Int->Int)(v:Int):Prop:=MxC f 0 (callsOf (p.pl [])) (p.tall:Nat) v
theorem MxC.det{f:Int->Int->Int}{d:Int}{cs:List (List Int×Int×Int)}{own a b:Int}(h:MxC f d cs own a)(k:MxC f d cs own b):a=b:=by
 have one:∀{a b:Int},MxC f d cs own a->MxC f d cs own b->a<=b:=λh k=>by
  rcases h.some with e|⟨c,hc,e⟩
  .rw[e];exact k.lo
  .rw[e];exact k.all c hc
 exact Int.le_antisymm (one h k) (one k h)
theorem pj{rows:List (List Th)}{head:Th}{u:Th}{s:Int}{oc:Th}(hu:∃n ks,u=.knot n ks)(ho:Out ins rows (.call s c) u oc):∃p' h,jw ins rows head s h p'/\u.kids[c.toNat]?=A? h/\Out ins rows p' h oc:=by
 obtain⟨n,ks,rfl⟩:=hu;obtain⟨p',h,st,BG⟩:=ho.unstep;exact⟨p',h,st.pat,st.2.2.1,BG⟩
theorem nE{rows:List (List Th)}{head:Th}{s:Int}{u:Th}(h:jw ins rows head s u p):∃n ks,u=.knot n ks:=by
 rcases h with⟨_,_,t,h⟩|⟨_,m,hs,_,_,_,h,_⟩
 .exact⟨_,_,h⟩
 .exact⟨_,_,h⟩
theorem yl{rows:List (List Th)}{head:Th}(g:aH ins)(s:Int)(u p:Th)(f:Int->Int->Int)(v:Int)(hp:jw ins rows head s u p)(hc:∀c∈callsOf (p.pl []),∀h,u.kids[c.2.2.toNat]?=A? h->VRs ins rows head c.2.1 h (f c.2.1 c.2.2))(hw:Wvs p f v):VRs ins rows head s u v:=λp' o BA ho=>by
 rw[<-oZ g hp BA]at ho;rw[oO u p [] o ho λc HH oc IW=>?_]
 .exact hw
 .obtain⟨p2,h,h1,h2,h3⟩:=pj (head:=head) (nE hp) IW;exact hc c HH h h2 p2 oc h1 h3
theorem xN{rows:List (List Th)}{head:Th}(g:aH ins)(s:Int)(u p:Th)(f:Int->Int->Int)(v:Int)(hp:jw ins rows head s u p)(hc:∀c∈callsOf (p.pl []),∀h,u.kids[c.2.2.toNat]?=A? h->VRt ins rows head c.2.1 h (f c.2.1 c.2.2))(hw:Wvt p f v):VRt ins rows head s u v:=λp' o BA ho=>by
 rw[<-oZ g hp BA]at ho;refine MxC.det hw (pU u p [] o ho λc HH oc IW=>?_);obtain⟨p2,h,h1,h2,h3⟩:=pj (head:=head) (nE hp) IW;exact hc c HH h h2 p2 oc h1 h3
theorem qe(h:CallsE (callsOf (p.pl [])) es):nA p (dE es):=by
 refine⟨λkv Ao=>?_,λc hc=>?_⟩
 .obtain⟨e,he,rfl⟩:=Xn.mp Ao;obtain⟨c,hc,e2⟩:=h.of e he;exact⟨c,hc,by rw[e2]⟩
 .obtain⟨e,he,e2⟩:=h.to c hc;exact⟨_,Xn.mpr ⟨e,he,D?⟩,by rw[e2]⟩
theorem CallsE.len{cs:List (List Int×Int×Int)}(h:CallsE cs es):es.length<=cs.length:=by
 have:=dN (m:=cs.map (·.2)) h.nd λk hk=>by
  obtain⟨e,he,rfl⟩:=Xn.mp hk;obtain⟨c,hc,e2⟩:=h.of e he;exact Xn.mpr ⟨c,hc,e2⟩
 rw[WO,WO]at this;exact this
theorem sr{f:Int->Int->Int}{M:Int}(h:DepthE (callsOf (p.pl [])) es)(hm:M∈((p.tall:Nat):Int)::es.map (λe=>e.2+f e.1.1 e.1.2))(ha:∀a∈((p.tall:Nat):Int)::es.map (λe=>e.2+f e.1.1 e.1.2),a<=M):Wvt p f M:=by
 refine⟨ha _ (W4 ..),λc hc=>?_,?_⟩
 .obtain⟨e,he,e2⟩:=h.to c hc;have h1:=h.big c hc e he e2;have h2:=ha _ (WT _ (Xn.mpr ⟨e,he,rfl⟩));rw[e2]at h2;lia
 .rcases W6.mp hm with e|hm
  .exact .inl e
  .obtain⟨e,he,rfl⟩:=Xn.mp hm;obtain⟨c,hc,e1,e2⟩:=h.at e he;refine .inr ⟨c,hc,?_⟩;rw[e1];lia
mutual
theorem mQ:∀(t u k:Th),u∈t.walk->k∈u.kids->k∈t.walk
 | .knot n ks,u,k,hu,hk=>by
   rw[Th.walk]at hu |-;rcases W6.mp hu with rfl|hu
   .exact WT _ (nq ks k hk)
   .exact WT _ (lM ks u k hu hk)
 | .call s c,u,k,hu,hk=>by
   rw[Th.walk]at hu;rw[W0.mp hu]at hk;cases hk
theorem lM:∀(ts:List Th)(u k:Th),u∈walks ts->k∈u.kids->k∈walks ts
 | [],u,k,hu,hk=>by rw[walks]at hu;cases hu
 | t::ts,u,k,hu,hk=>by
   rw[walks]at hu |-;rcases Xd.mp hu with hu|hu
   .exact XA _ (mQ t u k hu hk)
   .exact Xu _ (lM ts u k hu hk)
theorem nq:∀(ts:List Th)(k:Th),k∈ts->k∈walks ts
 | [],k,hk=>by cases hk
 | t::ts,k,hk=>by
   rw[walks];rcases W6.mp hk with rfl|hk
   .exact XA _ (by rw[Th.walk_eq];exact W4 ..)
   .exact Xu _ (nq ts k hk)
end
mutual
theorem i9{ks:List (Xk×Int)}:∀(t:Th)(pre:List Int),t.FitS ks S C->∀c∈callsOf (t.pl pre),0<=c.2.1/\c.2.1<S/\0<=c.2.2/\c.2.2<C
 | .call s k,pre,h,c,hc=>by
   rw[fG]at hc;rw[W0.mp hc];rw[p!]at h;exact h
 | .knot n ts,pre,h,c,hc=>by
   rw[fu]at hc;rw[p!]at h;exact lS ts pre 0 h.2 c hc
theorem lS{ks:List (Xk×Int)}:∀(ts:List Th)(pre:List Int)(i:Int),FitSs ks S C ts->∀c∈callsOf (pls pre i ts),0<=c.2.1/\c.2.1<S/\0<=c.2.2/\c.2.2<C
 | [],pre,i,_,c,hc=>by rw[pls]at hc;cases hc
 | t::ts,pre,i,h,c,hc=>by
   rw[fK]at hc;rw[FitSs]at h;rcases Xd.mp hc with hc|hc
   .exact i9 t _ h.1 c hc
   .exact lS ts _ _ h.2 c hc
end
theorem my{d:Nat}{head:Th}{rows:List (List Th)}(ok:BookOk ins outs S d head rows){s k:Int}{ks:List Th}(s0:0<=s)(s1:s<S)(k0:0<=k)(k1:k<(ks.length:Int))(hf:∀h∈ks,h.Fit ins):∃p' h,Step ins rows s k ks p' h:=by
 have hk:k.toNat<ks.length:=by lia
 obtain⟨h,hh⟩:∃h,ks[k.toNat]?=A? h:=⟨_,WQ hk⟩;have hl:=ok.len;obtain⟨row,Aj⟩:∃row,rows[s.toNat]?=A? row:=⟨_,WQ (by lia)⟩;have FQ:=hf h (WR hh);cases h with
 |call a b=>rw[y!]at FQ;exact FQ.elim
 | knot m hs =>
   rw[y!]at FQ;obtain⟨j,hj⟩:=Xg.mp FQ.1;have D0:=(ok.row row (WR Aj)).len;have Bs:=(glE hj);obtain⟨p',BA⟩:∃p',row[j]?=A? p':=⟨_,WQ (by lia)⟩;exact⟨p',_,s0,k0,hh,m,hs,_,j,row,D?,hj,Aj,BA⟩
theorem rg{d:Nat}{AY head:Th}{rows:List (List Th)}(gi:aH ins)(ok:BookOk ins outs S d AY rows)(hS:S<=100){t:Th}(hz:t.size<=40000):iP ins rows head t.walk:=by
 have RI:∀u:Th,u.Fit ins->∀k∈u.kids,k.Fit ins:=λu hu k hk=>by
  cases u with
  |call a b=>rw[y!]at hu;exact hu.elim
  |knot m hs=>rw[y!]at hu;exact cD hu.2 k hk
 refine⟨λu hu k hk=>mQ t u k hu hk,by rw[D!];exact hz,by have:=ok.len;lia,λu hu=>?_,λu hu=>?_,RI,λu s p hu s0 hp c hc=>?_⟩
 .cases u with
  |call a b=>rw[y!]at hu;exact hu.elim
  | knot m hs =>
    rw[y!]at hu;have:=(gi.num _ hu.1).2;simp only at this;show hs.length<=100;lia
 .cases u with
  |call a b=>rw[y!]at hu;exact hu.elim
  |knot m hs=>exact⟨m,hs,D?⟩
 .rcases hp with⟨h1,_⟩|⟨_,m,hs,cc,j,row,rfl,hj,Aj,Kx⟩
  .lia
  .have B8:=hu;rw[y!]at B8;obtain⟨j',Be⟩:=Xg.mp B8.1;have Ky:=gi.nd _ _ _ _ hj Be rfl;subst Ky;rw[hj]at Be;have C2:cc=(hs.length:Int):=h! Prod.snd (Xl Be);obtain⟨UC,_⟩:=(ok.row row (WR Aj)).fit j p _ Kx hj;obtain⟨a1,a2,a3,a4⟩:=i9 p [] UC c hc;simp only at a4;exact my ok a1 a2 a3 (by show c.2.2<((hs.length:Nat):Int);rw[<-C2];exact a4) (RI _ hu)
theorem nI{rows:List (List Th)}{k:Th}:∀{ps os:List Th},ps.length=os.length->(∀(i:Nat)(p o:Th),ps[i]?=A? p->os[i]?=A? o->Out ins rows p k o)->Outs ins rows ps k os
 | [],[],_,_=>.nil k
 | [],o::os,h,_=>by simp at h
 |p::ps,[],h,_=>by simp at h
 |p::ps,o::os,h,g=>.cons (g 0 p o rfl rfl) (nI (by simpa using h) λi a b ha hb=>g (i+1) a b (by simpa using ha) (by simpa using hb))
theorem lO{rows:List (List Th)}(gi:aH ins)(ok:il ins outs S rows):∀(N:Nat)(n:Xk)(ks:List Th),ar ks<=N->(∀h∈ks,h.Fit ins) ->
 ∀(M:Nat)(p:Th),p.size<=M->p.FitS outs S (ks.length:Int)->Out ins rows p (.knot n ks) (made (aJ ins rows) p (.knot n ks)):=by
 intro N;induction N with
 | zero =>
   intro n ks hN hk M;induction M with
   |zero=>intro p h;have:=p.size_pos;lia
   | succ M J7 =>
     intro p hp hf;cases p with
     | call s c =>
       rw[p!]at hf;cases ks with
       |nil=>exfalso;simp at hf;lia
       |cons x xs=>rw[ar]at hN;have:=x.size_pos;lia
     | knot m ps =>
       rw[p!]at hf;rw[t!]at hp;rw[dO];refine .mk (.stop _ _ _) (nI (by rw[WO]) λi q o hq ho=>?_);rw[W3,hq]at ho;cases ho;have hm:=WR hq;have:=cY hm;exact J7 q (by lia) (FitSs.mem' hf.2 q hm)
 | succ N ih =>
   intro n ks hN hk M;induction M with
   |zero=>intro p h;have:=p.size_pos;lia
   | succ M J7 =>
     intro p hp hf;cases p with
     | call s c =>
       rw[p!]at hf;obtain⟨s0,s1,c0,c1⟩:=hf;have AF:c.toNat<ks.length:=by lia
       have DX:=WQ AF;have Cc:=WR DX;have HI:=hk _ Cc;have hsz:=cY Cc;rw[eY _ (k:=.knot n ks) (k':=ks[c.toNat]) DX];generalize ks[c.toNat]=h at DX Cc HI hsz |-;cases h with
       |call a b=>rw[y!]at HI;exact HI.elim
       |knot m hs =>
       have UD:=HI;rw[y!]at HI;rw[t!]at hsz;obtain⟨j,hj⟩:=Xg.mp HI.1;obtain⟨row,hr,_,hl,_⟩:=cx ok s0 s1;have Bs:=(glE hj);obtain⟨p',BA⟩:∃p',row[j]?=A? p':=⟨_,WQ (by lia)⟩;have Dm:=(ok.row row (WR hr)).2 j p' _ BA hj;rw[cK,iS gi hr hj BA];exact Out.step ⟨s0,c0,DX,m,hs,_,j,row,rfl,hj,hr,BA⟩ (ih m hs (by lia) (cD HI.2) _ p' (WX _) Dm)
     | knot m ps =>
       rw[p!]at hf;rw[t!]at hp;rw[dO];refine .mk (.stop _ _ _) (nI (by rw[WO]) λi q o hq ho=>?_);rw[W3,hq]at ho;cases ho;have hm:=WR hq;have:=cY hm;exact J7 q (by lia) (FitSs.mem' hf.2 q hm)
theorem yh(g:aH ins){n:Xk}{m:Int}(hj:ins[j]?=A? (n,m)):(ins.map (·.1)).idxOf n=j:=by
 have h1:n∈ins.map (·.1):=Xn.mpr ⟨_,WR hj,rfl⟩;have h2:=List.idxOf_lt_length_iff.mpr h1;have h3:(ins.map (·.1))[(ins.map (·.1)).idxOf n]=n:=List.getElem_idxOf h2;rw[WO]at h2;rw[List.getElem_map]at h3;exact g.nd _ _ _ _ (WQ h2) hj h3
theorem r8(g:aH ins){s:Int}{n:Xk}{m:Int}(hj:ins[j]?=A? (n,m))(hp:(R s)[j]?=A? p):ma ins R s n=p:=by
 unfold ma;rw[yh g hj,ZS,hp];rfl
section
variable{S2:Int}{Ac Ad:Th}
theorem pF(gi:aH ins)(f1:il ins mid S1 Ab)(hS:S1<=1000):∀(n:Nat)(t:Th),t.size<=n->t.Fit ins->∀l s,0<=s->s<S1->b7 (ma ins (joR mid Aa Ab)) t (enc l s)=b7 (aJ mid Aa) (b7 (aJ ins Ab) t s) l
 |0,t,hn,_=>by have:=t.size_pos;lia
 |n+1,.call a b,_,hf=>by rw[y!]at hf;exact hf.elim
 | n+1,.knot m ts,hn,hf=>λl s s0 s1=>by
   rw[y!]at hf;rw[t!]at hn;obtain⟨j,hj⟩:=Xg.mp hf.1;obtain⟨row,hr,er,hl,_⟩:=cx f1 s0 s1;have Bs:=(glE hj);obtain⟨p,hp⟩:∃p,row[j]?=A? p:=⟨_,WQ (by lia)⟩;have Kz:=(f1.row row (WR hr)).2 j p _ hp hj;have e1:(enc l s)%1000=s:=by unfold enc;lia
   have e2:(enc l s) / 1000=l:=by unfold enc;lia
   have hq:ma ins (joR mid Aa Ab) (enc l s) m=b7 (aJ mid Aa) p l:=r8 gi hj (by
    unfold joR;rw[e1,e2,er,W3,hp,<-lx];rfl)
   rw[cK,cK,hq,iS gi hr hj hp];unfold made;rw[<-d5,<-d5];refine(lG (λs' k c a1 a2 a3 a4=>?_) p Kz l).symm;have AK:k.toNat<ts.length:=by lia
   have CA:=WQ AK;have Cc:=WR CA;have hsz:=cY Cc;have ih:=pF gi f1 hS n ts[k.toNat] (by lia) (cD hf.2 _ Cc) c s' a1 a2;rw[d5];have q1:bN (bM (ma ins (joR mid Aa Ab)) ts) (enc c s') k=b7 (ma ins (joR mid Aa Ab)) ts[k.toNat] (enc c s'):=d9 (by rw[bT,W3,CA];rfl);have q2:bN (bM (aJ ins Ab) ts) s' k=b7 (aJ ins Ab) ts[k.toNat] s':=d9 (by rw[bT,W3,CA];rfl);show b7 _ (bN (bM _ ts) _ _) _=bN (bM _ ts) _ _;rw[q1,q2,ih]
theorem rZ(gi:aH ins){h:Th}(hl:(bd R h).length<=20)(hR:∀s∈bd R h,(R s).length=ins.length):∀(n:Nat)(t:Th),t.size<=n->t.Fit ins->∀s∈bd R h,b7 (aJ ins (jZ R h)) t (idx (bd R h) s)=b7 (ma ins R) t s
 |0,t,hn,_=>by have:=t.size_pos;lia
 |n+1,.call a b,_,hf=>by rw[y!]at hf;exact hf.elim
 | n+1,.knot m ts,hn,hf=>λs hs=>by
   rw[y!]at hf;rw[t!]at hn;obtain⟨j,hj⟩:=Xg.mp hf.1;have Bs:=(glE hj);have D0:=hR s hs;obtain⟨p,hp⟩:∃p,(R s)[j]?=A? p:=⟨_,WQ (by lia)⟩;have Br:=List.idxOf_lt_length_iff.mpr hs;have FK:(bd R h)[(bd R h).idxOf s]=s:=List.getElem_idxOf Br
   have Aj:(jZ R h)[(idx (bd R h) s).toNat]?=A? ((R s).map (ren (idx (bd R h)))):=by
    unfold jZ;rw[W3];show Option.map _ (bd R h)[(((bd R h).idxOf s:Nat):Int).toNat]?=_;rw[Yl,WQ Br,FK];rfl
   rw[cK,cK,r8 gi hj hp,iS gi Aj hj (p:=ren (idx (bd R h)) p) (gmE hp)];unfold made;rw[pV];refine gW p λs' Fn k=>?_;have Cz:s'∈bd R h:=ug hl s hs s' (pT (WR hp) Fn);show bN (bM _ ts) _ _=bN (bM _ ts) _ _;by_cases AK:k.toNat<ts.length
   .have CA:=WQ AK;have Cc:=WR CA;have hsz:=cY Cc;rw[d9 (f:=b7 (aJ ins (jZ R h)) ts[k.toNat]) (by rw[bT,W3,CA];rfl),d9 (f:=b7 (ma ins R) ts[k.toNat]) (by rw[bT,W3,CA];rfl)];exact rZ gi hl hR n ts[k.toNat] (by lia) (cD hf.2 _ Cc) s' Cz
   .rw[eU (by rw[bT,W3,XU (by lia)];rfl),eU (by rw[bT,W3,XU (by lia)];rfl)]
theorem qE(gi:aH ins)(gm:aH mid)(J:JoinOk ins mid outs S1 S2 Ac Ad Ab Aa)(hJ:il ins outs S (jZ (joR mid Aa Ab) (joH mid Aa Ad Ac)))(hH:(qv (joR mid Aa Ab) (joH mid Aa Ad Ac)).FitS outs S 1){t u o:Th}{n1 n2 n3:Xk}(hF:t.Fit ins)(hU:u.Fit mid)(hu:Out ins Ab Ac (.knot n1 [t]) u)(ho:Out mid Aa Ad (.knot n2 [u]) o) :
 Out ins (jZ (joR mid Aa Ab) (joH mid Aa Ad Ac)) (qv (joR mid Aa Ab) (joH mid Aa Ad Ac)) (.knot n3 [t]) o:=by
 have m1:∀h∈[t],h.Fit ins:=λh hh=>by rw[W0.mp hh];exact hF
 have m2:∀h∈[u],h.Fit mid:=λh hh=>by rw[W0.mp hh];exact hU
 have c1:=lO gi J.f1 _ n1 [t] (WX _) m1 _ Ac (WX _) J.h1;have c2:=lO gm J.f2 _ n2 [u] (WX _) m2 _ Ad (WX _) J.h2;have c3:=lO gi hJ _ n3 [t] (WX _) m1 _ (qv (joR mid Aa Ab) (joH mid Aa Ad Ac)) (WX _) hH;have eu:=j4 gi hu c1;have eo:=j4 gm ho c2;have hlen:=J.len
 have UE:∀s∈bd (joR mid Aa Ab) (joH mid Aa Ad Ac),(joR mid Aa Ab s).length=ins.length:=λs hs=>by
  obtain⟨_,_,c3,c4⟩:=J.met s hs;obtain⟨row,hr,er,hl,_⟩:=cx J.f1 c3 c4;unfold joR;rw[WO,er,hl]
 have key:made (aJ ins (jZ (joR mid Aa Ab) (joH mid Aa Ad Ac))) (qv (joR mid Aa Ab) (joH mid Aa Ad Ac)) (.knot n3 [t])=o:=by
  rw[eo,eu];unfold qv;show(ren _ _).fill (bN (bM _ [t]))=Ad.fill (bN (bM _ [Ac.fill (bN (bM _ [t]))]));rw[pV]
  have NN:(joH mid Aa Ad Ac).fill (λs k=>bN (bM (aJ ins (jZ (joR mid Aa Ab) (joH mid Aa Ad Ac))) [t]) (idx (bd (joR mid Aa Ab) (joH mid Aa Ad Ac)) s) k)=(joH mid Aa Ad Ac).fill (bN (bM (ma ins (joR mid Aa Ab)) [t])):=by
   refine gW _ λs hs k=>?_;have hm:=wU (R:=joR mid Aa Ab) s hs;by_cases hk:k.toNat=0
   .rw[d9 (f:=b7 (aJ ins (jZ (joR mid Aa Ab) (joH mid Aa Ad Ac))) t) (by rw[hk];rfl),d9 (f:=b7 (ma ins (joR mid Aa Ab)) t) (by rw[hk];rfl)];exact rZ gi hlen UE _ t (WX _) hF s hm
   .rw[eU (by rw[bT,W3,XU (by show 1<=k.toNat;lia)];rfl),eU (by rw[bT,W3,XU (by show 1<=k.toNat;lia)];rfl)]
  rw[NN];unfold joH made;rw[gD];refine jK Ad J.h2 λs k s0 s1 k0 k1=>?_;obtain rfl:k=0:=by lia
  show(b7 _ Ac s).fill _=b7 _ (Ac.fill _) s;rw[<-d5 (aJ mid Aa) Ac,<-d5 (aJ mid Aa)];refine(lG (λs' k c a1 a2 a3 a4=>?_) Ac J.h1 s).symm;obtain rfl:k=0:=by lia
  rw[d5];show b7 _ (b7 _ t s') c=b7 _ t (enc c s');exact(pF gi J.f1 J.s1 _ t (WX _) hF c s' a1 a2).symm
 rw[key]at c3;exact c3
end
theorem oy{F:WS->Hp->α->WS->Prop}{g:TG}(zs:List α)(hF:∀D H1 H2 z p,KT H1 H2->(∀b o,b≠D->H1 b=A? o->H2 b=A? o)->F D H1 z p->F D H2 z p)(hz:zs.length=xs.length)(hn:xs.length<=1000000)
 (He:∀i H2,j! H H2->i<xs.length->J.go i H2) (BS:∀H2,j! H H2->J.stop xs.length H2) (Di:∀(i:Nat)H2 x H3,j! H H2->i<xs.length->J.yld i H2 x H3->H3=H2/\xs[i]?=A? x)
 (hb:∀D(i:Nat)x z H2(R:VK)(W':Hp->Prop),H D=B?->(∃o,H2 D=A? o)->xs[i]?=A? x->zs[i]?=A? z->j! H H2->(∀H3 p,j! H2 H3->F D H3 z p->R (.ref p) H3)->g x (cσ js Y) H2 λAq H3=>tt Aq H3 λb H4=>if b=C? then te Aq H4 R else W' H4)
 (BI:∀D H' as,H D=B?->j! H H'->H' D=A? (.lst (as.map i!))->XH (F D H') zs as->fin D H') :
 ∀D,H D=B?->∃(n:Nat)(W:Nat->Hp->Prop),W 0 (upd H D (.lst []))/\fN js g tt te Y J D n W λH'=>fin D H':=by
 intro D hD;refine⟨xs.length,λi H'=>i<=xs.length/\j! H H'/\∃as:List WS,H' D=A? (.lst (as.map i!))/\XH (F D H') (zs.take i) as,⟨Xr _,aj hD _,[],by rw[ad];rfl,.nil⟩,?_⟩;rintro i H' ⟨hi,s1,as,e1,hp⟩;by_cases Al:i<xs.length
 .refine .inr ⟨Al,He i H' s1 Al,λv H1 hy=>?_⟩;obtain⟨e,hx⟩:=Di i H' v H1 s1 Al hy;subst e;obtain⟨z,CO⟩:∃z,zs[i]?=A? z:=⟨_,WQ (by lia)⟩;have hl:(zs.take i).length=as.length:=Xa hp;rw[XB]at hl;refine hb D i v z _ _ _ hD ⟨_,e1⟩ hx CO s1 λH3 p s3 NX=>⟨_,s3 _ _ e1,?_,Al,aE (s1.trans s3) hD,as++[p],?_,?_⟩
  .rw[WO];have:Xj=16777216:=ZA;lia
  .rw[ad,W8];rfl
  .have kt:KT H3 (upd H3 D (.lst (as.map i!++[.ref p]))):=aU (s3 _ _ e1);rw[take_snoc CO];exact r! (v! (λx y e=>hF _ _ _ _ _ ((k! s3).trans kt) (λb o hb ho=>by rw[af hb];exact s3 _ _ ho) e) hp) (.cons (hF _ _ _ _ _ kt (λb o hb ho=>by rw[af hb];exact ho) NX) .nil)
 .have B0:i=xs.length:=by lia
  subst B0;refine .inl ⟨BS _ s1,BI D H' as hD s1 e1 ?_⟩;rw[X1 (by lia)]at hp;exact hp
def PzAt(Ok:WS->Prop)(H:Hp)(ins:List (Xk×Int))(Ab:List (List Th))(mid:List (Xk×Int))(Aa:List (List Th))(h:Th)(a:WS):Prop :=
 ∃es:List WS,H a=A? (.lst (es.map i!))/\es.length=Ab.length/\(∀e∈es,Ok e)/\∀(s:Int)(u:Th),Out ins Ab (.call s 0) (.knot Yy [h]) u->∃e,es[s.toNat]?=A? e/\SzAt H mid Aa u e
theorem PzAt.keep{Ok RJ:WS->Prop}{h:Th}(k:KT H H')(ha:∀o,H a=A? o->H' a=A? o)(hO:∀e,Ok e->RJ e/\∀o,H e=A? o->H' e=A? o)(g:PzAt Ok H ins Ab mid Aa h a):PzAt RJ H' ins Ab mid Aa h a:=by
 obtain⟨es,h1,h2,h3,h4⟩:=g;refine⟨es,ha _ h1,h2,λe he=>(hO e (h3 e he)).1,λs u hu=>?_⟩;obtain⟨e,he,hs⟩:=h4 s u hu;exact⟨e,he,hs.keep k (hO e (h3 e (WR he))).2⟩
theorem PzAt.same{Ok:WS->Prop}{h:Th}(s:j! H H')(g:PzAt Ok H ins Ab mid Aa h a):PzAt Ok H' ins Ab mid Aa h a :=
 g.keep (k! s) (λo ho=>s _ _ ho) λe he=>⟨he,λo ho=>s _ _ ho⟩
theorem LimK.bookOk{head:Th}{rows:List (List Th)}{κ η:Nat}(b:LimK ins outs S head rows τ κ η ι):∃h0,BookOk ins outs S τ h0 rows:=by
 obtain⟨k,hk,hz⟩:=b.go.zero;refine⟨.knot k.1 [],b.fit.len,λrow hr=>⟨(b.fit.row row hr).1,λj t k ht hk=>⟨(b.fit.row row hr).2 j t k ht hk,Nat.le_succ_of_le (b.lim row hr t (WR ht)).1⟩⟩,?_,by rw[q!,ax];decide⟩;rw[p!,FitSs];refine⟨?_,trivial⟩;have:(k.1,((([]:List Th).length:Nat):Int))=k:=Prod.ext rfl hz.symm;rw[this];exact hk
end BB
namespace LAW
open PySem L2 BB
def top(i:Nat):Z4:=PySem.Challenge.pw_boughbook_k45_joined_books_count.main.body.getD i (.Pass ⟨0,0,0,0⟩)
theorem scm{P:List Xk}(a:sc.kind=.function:=by rfl)(b:sc.isCoroutine=false:=by rfl)(c:sc.isGenerator=false:=by rfl)(d:N.Nodup:=by decide +kernel)(e:N.take P.length=P:=by rfl)(f:∀x∈P,sc.names.lookup x=A? .local\/sc.names.lookup x=A? .cell:=by decide +kernel)(g:∀y∈sc.names,y.2≠.free:=by decide +kernel):cQ N P sc:=⟨a,b,c,d,e,f,g⟩
abbrev ND(l:List Xk):Prop:=l.Nodup
abbrev sC(N:List Xk)(k i:Nat):Prop:=cQ N (N.take k) (aI (top i))
theorem qW:sC ["thing"] 1 7:=scm
theorem gx:sC ["thing","met","ahead","part"] 1 8:=scm
theorem dQ:sC ["thing","met","ahead","place","part","kids"] 1 9:=scm
theorem iw:sC ["tops","done","top","many"] 1 10:=scm
theorem fg:sC ["tree","level","rows","beneath","part"] 1 11:=scm
theorem qK:sC ["thing"] 1 14:=scm
theorem qG:sC ["thing"] 1 15:=scm
theorem qi:sC ["thing"] 1 16:=scm
theorem nN:sC ["call"] 1 17:=scm
theorem o6:sC ["pattern"] 1 18:=scm
theorem qI:sC ["pattern"] 1 19:=scm
theorem pS:sC ["pattern"] 1 20:=scm
theorem oI:sC ["pattern"] 1 21:=scm
theorem mN:sC ["part","many"] 1 22:=scm
theorem jj:sC ["pattern","table","tops","part"] 2 23:=scm
theorem eF:sC ["pattern","names","table","state","kid"] 2 24:=scm
theorem jX:cQ ["self"] ["self"] (aI (inClass (top 30) 0)):=scm
theorem jl:cQ ["self","part","row"] ["self","part","row"] (aI (inClass (top 30) 1)):=scm
theorem sK:sC ["book"] 1 31:=scm
theorem qO:sC ["book"] 1 32:=scm
theorem qJ:sC ["book"] 1 33:=scm
theorem pw:sC ["book"] 1 34:=scm
theorem gI:sC ["book","state","name","names"] 3 35:=scm
theorem vC:sC ["tree"] 1 38:=scm
theorem qC:sC ["state"] 1 39:=scm
theorem l9:cQ ["self"] ["self"] (aI (inClass (top 41) 0)):=scm
theorem i0:cQ ["self","tree"] ["self","tree"] (aI (inClass (top 41) 1)):=scm
theorem ce:sC ["book","digest","told","state","patterns","kind","pattern"] 2 42:=scm
theorem cq:sC ["digests","level","number","beneath","tree","spots","own","calls","state","kid","part"] 4 43:=scm
theorem bW:sC ["digests","head","tree","level","top","levels","beneath","number"] 3 44:=scm
theorem cf:sC ["spots","beneath","told","kid","spot","state","value"] 2 45:=scm
theorem cM:sC ["book","head","tree","digest","worth","beneath","level","told","asked","spots","kids"] 5 46:=scm
theorem eI:sC ["pattern","times","place","call"] 1 48:=scm
theorem dR:sC ["pair","counts","own","times"] 2 49:=scm
theorem dM:sC ["pattern","depths","place","call"] 1 50:=scm
theorem du:sC ["pair","heights","own","depths"] 2 51:=scm
theorem pD:sC ["book","tree"] 2 52:=scm
theorem oA:sC ["book","tree"] 2 53:=scm
theorem gS:sC ["pattern","numbers","thing","kid"] 2 55:=scm
theorem dm:sC ["ins","outs","head","patterns_of","numbers","fresh_head","rules","thing"] 4 56:=scm
theorem cw:sC ["second","part","knot","state","kid","lower","handed"] 3 58:=scm
theorem bK:sC ["second","head","pattern","tops","measure","ahead","part","knot","row"] 3 59:=scm
abbrev lZ:Z4:=top 60
theorem jg:sC ["first","second","patterns_of","head"] 2 60:=scm
theorem nL:sC ["script","k"] 2 62:=scm
theorem fB:sC ["cell","k","near"] 2 63:=scm
theorem aG:sC ["cell","letters","rest","size","more","stem","at","leaf","turn","begun","kinds","k","many","pick","name"] 2 64:=scm
theorem iy:sC ["kinds","cell","leaves"] 2 65:=scm
theorem bF:sC ["cell","outs","states","kids","deep","rest","kind","parts","k"] 5 66:=scm
theorem gN:sC ["left","many","digit"] 2 67:=scm
theorem bu:sC ["left","outs","states","kids","deep","state","some","kind","parts","k"] 5 68:=scm
theorem aW:sC ["cell","ins","outs","states","deep","left","rules","state","row","k"] 5 69:=scm
theorem cU:sC ["cell","ins","outs","states","deep","rules","state","row","k"] 5 70:=scm
theorem iJ:sC ["kind","kids","high"] 2 71:=scm
theorem bh:sC ["cells","ins","leaf","wide","row","cell","rest","kind","made"] 2 72:=scm
theorem iH:sC ["second","own","sizes","found"] 3 73:=scm
theorem gg:sC ["second","pattern","kids","sizes","names"] 3 74:=scm
theorem cG:sC ["first","second","tree","kids","names"] 3 75:=scm
theorem cA:sC ["script","found","k"] 1 76:=scm
theorem fD:sC ["script","kinds","cell","first","second","tree","sizes","due","both"] 1 77:=scm
structure FX(K:WY)(mg:Xk->Option WV)(n:Xk)(i:Nat)(ps:List Xk) where
 f:WS
 d:Za
 F:Fun K n n (top i) f d
 b:Binds K d ps []
 m:mg n=A? (.ref f)
structure CTX(K:WY)(mg:Xk->Option WV)(n:Xk)(xs:List V) where
 a:WS
 c:mg n=A? (.ref a)
 q:∀H:Hp,SqT K H a xs
structure FT(K:WY)(mg:Xk->Option WV)(n:Xk)(i:Nat)(ps:List Xk) extends FX K mg n i ps where
 tc:WS
 tp:WS
 th:d.code=.ref tc
 t:PySem.W.tabIn K n=A? (tc,tp)
 u:K.lookup tp=B?
structure FM(K:WY)(e:WS)(n q:Xk)(s:Z4)(ps:List Xk) where
 f:WS
 d:Za
 F:Fun K n q s f d
 b:Binds K d ps []
 me:Meth K e n f
section
open PySem.W
variable{K:Frag}{n q:Xk}{e:WS}{kV dc pm cd ct:WV}{an:Option WS}{sl:Array (Option WV)}{tk:Tok}
abbrev HB(n q:Xk)(st:Z4)(ps:List Xk):Prop:=∀(kV dc pm:WV)(an:Option WS)(cd ct:WV)(us:List WV),us.length=ps.length->bindArgs (fnOf n q (ck st) (bI st) (aI st) .none kV dc pm an cd ct) ⟨us,[]⟩=pure (ps.zip us)
theorem hb1{p0:Xk}(h:∀(kV dc pm:WV)(an:Option WS)(cd ct u0:WV),bindArgs (fnOf n q (ck st) (bI st) (aI st) .none kV dc pm an cd ct) ⟨[u0],[]⟩=pure [(p0,u0)]):HB n q st [p0]:=λa b c d e f us hl=>by obtain⟨u0,rfl⟩:=us1 hl;exact h a b c d e f u0
theorem hb2{p0:Xk}(h:∀(kV dc pm:WV)(an:Option WS)(cd ct u0 u1:WV),bindArgs (fnOf n q (ck st) (bI st) (aI st) .none kV dc pm an cd ct) ⟨[u0,u1],[]⟩=pure [(p0,u0),(p1,u1)]):HB n q st [p0,p1]:=λa b c d e f us hl=>by obtain⟨u0,u1,rfl⟩:=us2 hl;exact h a b c d e f u0 u1
theorem hb3{p0:Xk}(h:∀(kV dc pm:WV)(an:Option WS)(cd ct u0 u1 u2:WV),bindArgs (fnOf n q (ck st) (bI st) (aI st) .none kV dc pm an cd ct) ⟨[u0,u1,u2],[]⟩=pure [(p0,u0),(p1,u1),(p2,u2)]):HB n q st [p0,p1,p2]:=λa b c d e f us hl=>by obtain⟨u0,u1,u2,rfl⟩:=us3 hl;exact h a b c d e f u0 u1 u2
theorem hb4{p0 p3:Xk}(h:∀(kV dc pm:WV)(an:Option WS)(cd ct u0 u1 u2 u3:WV),bindArgs (fnOf n q (ck st) (bI st) (aI st) .none kV dc pm an cd ct) ⟨[u0,u1,u2,u3],[]⟩=pure [(p0,u0),(p1,u1),(p2,u2),(p3,u3)]):HB n q st [p0,p1,p2,p3]:=λa b c d e f us hl=>by obtain⟨u0,u1,u2,u3,rfl⟩:=us4 hl;exact h a b c d e f u0 u1 u2 u3
theorem hb5{p0 p3 p4:Xk}(h:∀(kV dc pm:WV)(an:Option WS)(cd ct u0 u1 u2 u3 u4:WV),bindArgs (fnOf n q (ck st) (bI st) (aI st) .none kV dc pm an cd ct) ⟨[u0,u1,u2,u3,u4],[]⟩=pure [(p0,u0),(p1,u1),(p2,u2),(p3,u3),(p4,u4)]):HB n q st [p0,p1,p2,p3,p4]:=λa b c d e f us hl=>by obtain⟨u0,u1,u2,u3,u4,rfl⟩:=us5 hl;exact h a b c d e f u0 u1 u2 u3 u4
noncomputable def fm(a:findIn K (.ref e) n=A? (A? (.ref f)):=by k_is)(i:isFn K (.ref f)=true:=by k_is)(l:K.lookup f=A? ⟨oc,od,.func (fnOf n q (ck st) (bI st) (aI st) .none kV dc pm an cd ct),sl⟩:=by k_is)(c:codeIn K cd q=true:=by k_is)(k:keepIn K (.ref f)=true:=by k_is)(hb:HB n q (st) ps:=by first|exact LAW.hb1 λ_ _ _ _ _ _ _=>rfl|exact LAW.hb2 λ_ _ _ _ _ _ _ _=>rfl|exact LAW.hb3 λ_ _ _ _ _ _ _ _ _=>rfl|exact LAW.hb4 λ_ _ _ _ _ _ _ _ _ _=>rfl|exact LAW.hb5 λ_ _ _ _ _ _ _ _ _ _ _=>rfl):FM K e n q st ps:=⟨f,_,kC l c k,(kC l c k).binds hb,⟨a,i,k⟩⟩
theorem na(a:findIn K (.ref e) n=A? none:=by k_is):NoAttr K e n:=a
variable(X:K.In h)(G:h.Ns X8 mg)
noncomputable def fx{i:Nat}(a:nsIn K X8 n=A? (A? (.ref f)):=by k_is)(l:K.lookup f=A? ⟨oc,od,.func (fnOf n n (ck (top i)) (bI (top i)) (aI (top i)) .none kV dc pm an cd ct),sl⟩:=by k_is)(c:codeIn K cd n=true:=by k_is)(k:keepIn K (.ref f)=true:=by k_is)(hb:HB n n (top i) ps:=by first|exact LAW.hb1 λ_ _ _ _ _ _ _=>rfl|exact LAW.hb2 λ_ _ _ _ _ _ _ _=>rfl|exact LAW.hb3 λ_ _ _ _ _ _ _ _ _=>rfl|exact LAW.hb4 λ_ _ _ _ _ _ _ _ _ _=>rfl|exact LAW.hb5 λ_ _ _ _ _ _ _ _ _ _ _=>rfl):FX K mg n i ps:=⟨f,_,kC l c k,(kC l c k).binds hb,mg_of X G a⟩
noncomputable def ft{i:Nat}{tc tp:WS}{to:YF}(a:nsIn K X8 n=A? (A? (.ref f)):=by k_is)(l:K.lookup f=A? ⟨oc,od,.func (fnOf n n (ck (top i)) (bI (top i)) (aI (top i)) .none kV dc pm an cd ct),sl⟩:=by k_is)(c:codeIn K cd n=true:=by k_is)(k:keepIn K (.ref f)=true:=by k_is)(hb:HB n n (top i) ps:=by first|exact LAW.hb1 λ_ _ _ _ _ _ _=>rfl|exact LAW.hb2 λ_ _ _ _ _ _ _ _=>rfl|exact LAW.hb3 λ_ _ _ _ _ _ _ _ _=>rfl|exact LAW.hb4 λ_ _ _ _ _ _ _ _ _ _=>rfl|exact LAW.hb5 λ_ _ _ _ _ _ _ _ _ _ _=>rfl)(e:cd=.ref tc:=by rfl)(v:K.lookup tc=A? to:=by k_is)(x:tabAt to=A? tp:=by rfl)(u:K.lookup tp=none:=by kernel_rfl):FT K mg n i ps:=have t:=xI a l e v x;⟨fx X G a l c k hb,tc,tp,vX (kC l c k) a t,t,u⟩
include X G
theorem bn(a:nsIn K X8 n=A? none:=by k_is):mg n=none:=mg_none_of X G a
theorem gn(a:nsIn K X8 n=A? (A? (.ref f)):=by k_is):mg n=A? (.ref f):=mg_of X G a
theorem cs(a:nsIn K X8 n=A? (A? (.str x tk)):=by k_is):∃tk,mg n=A? (.str x tk):=⟨tk,mg_of X G a⟩
theorem ci{x:Int}(a:nsIn K X8 n=A? (A? (.int x tk)):=by k_is):∃tk,mg n=A? (.int x tk):=⟨tk,mg_of X G a⟩
noncomputable def ck1{oc:Option WS}{m:Nat}{sc:Array (Option WV)}{x0:Xk}{t0:Tok}(a:nsIn K X8 n=A? (A? (.ref f)):=by k_is)(w:K.lookup f=A? ⟨.type "tuple",oc,.seq #[.str x0 t0] m,sc⟩:=by k_is):CTX K mg n [.str x0]:=⟨f,mg_of X G a,λH=>.inr ⟨_,_,_,w,rfl,rfl,(by show 1<=Xj;decide),.cons ⟨_,rfl⟩ (.nil)⟩⟩
end
theorem pcF{X:Cx}{kk k:Nat}{n:Xk}{st:Nat}{es:List X3}{t:TA}{p:Pos}(g:FX X.K X.mg n st ps)(F:FnOk X.prog X.w X.K X.mg X.base CX0 k g.f g.d ps sp)(hr:Room kk X.A)(ha:PA X (e::es) t)(hle:k<=kk:=by first|decide|lia)(hg:Gl X n:=by rfl)(DM:(n == ("__debug__":Xk))=false:=by decide)(he:XO (e::es) X.env=(CG,YS e X.env)::XO es X.env:=by rfl)(AZ:(Z0 pos (XO es X.env)).any (·.1)=false:=by rfl):PE X (.Call (.Name n p) (e::es) [] pos) (d3 sp [] E0 t) :=
 de F (hr.mono hle) hg g.m g.F.kp g.b .nil cP ha DM he AZ
structure TX(K:WY)(mg:Xk->Option WV) where
 c_CALL_SIGN:∃tk,mg "CALL_SIGN"=A? (.str (W5 "?") tk)
 k_HOLE:CTX K mg "HOLE" [.str (W5 "*")]
 c_MOST_STATES:∃tk,mg "MOST_STATES"=A? (.int (20) tk)
 c_MOST_ROWS:∃tk,mg "MOST_ROWS"=A? (.int (20) tk)
 c_MOST_KNOTS:∃tk,mg "MOST_KNOTS"=A? (.int (400) tk)
 c_MOST_CALLS:∃tk,mg "MOST_CALLS"=A? (.int (200) tk)
 c_HEAD:∃tk,mg "HEAD"=A? (.int (-1) tk)
 g_0:FX K mg "kids_of" 7 ["thing"]
 g_1:FX K mg "walked" 8 ["thing"]
 g_2:FX K mg "placed" 9 ["thing"]
 g_3:FX K mg "built" 10 ["tops"]
 g_4:FX K mg "tall" 11 ["tree"]
 g_5:FX K mg "is_call" 14 ["thing"]
 g_6:FX K mg "is_hole" 15 ["thing"]
 g_7:FX K mg "is_knot" 16 ["thing"]
 g_8:FX K mg "called_by" 17 ["call"]
 g_9:FX K mg "knots_of" 18 ["pattern"]
 g_10:FX K mg "tall_of" 19 ["pattern"]
 g_11:FX K mg "calls_in" 20 ["pattern"]
 g_12:FX K mg "called_in" 21 ["pattern"]
 g_13:FX K mg "top_of" 22 ["part"]
 g_14:FX K mg "filled" 23 ["pattern","table"]
 g_15:FX K mg "restated" 24 ["pattern","names"]
 g_18:FX K mg "ins_of" 31 ["book"]
 g_19:FX K mg "outs_of" 32 ["book"]
 g_20:FX K mg "head_of" 33 ["book"]
 g_21:FX K mg "rules_of" 34 ["book"]
 g_22:FX K mg "pattern_of" 35 ["book","state","name"]
 g_23:FX K mg "above" 38 ["tree"]
 g_24:FX K mg "call_of" 39 ["state"]
 g_27:FX K mg "digests_of" 42 ["book","digest"]
 g_28:FX K mg "hand_on" 43 ["digests","level","number","beneath"]
 g_29:FX K mg "levels_of" 44 ["digests","head","tree"]
 g_30:FX K mg "kid_worths" 45 ["spots","beneath"]
 g_31:FX K mg "folded" 46 ["book","head","tree","digest","worth"]
 g_32:FX K mg "times_in" 48 ["pattern"]
 g_33:FX K mg "count_worth" 49 ["pair","counts"]
 g_34:FX K mg "depths_in" 50 ["pattern"]
 g_35:FX K mg "height_worth" 51 ["pair","heights"]
 g_36:FX K mg "count_of" 52 ["book","tree"]
 g_37:FX K mg "height_of" 53 ["book","tree"]
 g_38:FX K mg "renamed" 55 ["pattern","numbers"]
 g_39:FX K mg "numbered" 56 ["ins","outs","head","patterns_of"]
 g_40:FX K mg "led_over" 58 ["second","part","knot"]
 g_41:FX K mg "run_over" 59 ["second","head","pattern"]
 g_42:FT K mg "joined" 60 ["first","second"]
 g_43:FX K mg "_law_cell" 62 ["script","k"]
 g_44:FX K mg "_law_turn" 63 ["cell","k"]
 g_45:FX K mg "_law_kinds" 64 ["cell","letters"]
 g_46:FX K mg "_law_leaf" 65 ["kinds","cell"]
 g_47:FX K mg "_law_pattern" 66 ["cell","outs","states","kids","deep"]
 g_48:FX K mg "_law_digit" 67 ["left","many"]
 g_49:FX K mg "_law_by_digits" 68 ["left","outs","states","kids","deep"]
 g_50:FX K mg "_law_book_by_digits" 69 ["cell","ins","outs","states","deep"]
 g_51:FX K mg "_law_book" 70 ["cell","ins","outs","states","deep"]
 g_52:FX K mg "_law_knot" 71 ["kind","kids"]
 g_53:FX K mg "_law_tree" 72 ["cells","ins"]
 g_54:FX K mg "_law_over" 73 ["second","own","sizes"]
 g_55:FX K mg "_law_run" 74 ["second","pattern","kids"]
 g_56:FX K mg "_law_pair_sizes" 75 ["first","second","tree"]
 g_57:FX K mg "_law_three_kinds" 76 ["script"]
 g_58:FX K mg "law" 77 ["script"]
 e_Measure:WS
 x_Measure:mg "Measure"=A? (.ref e_Measure)
 cl_Measure:Cls K e_Measure
 g_16:FM K e_Measure "__init__" "Measure.__init__" (inClass (top 30) 0) ["self"]
 g_17:FM K e_Measure "takes" "Measure.takes" (inClass (top 30) 1) ["self","part","row"]
 mi_Measure:PySem.W.makesIn K e_Measure=C?/\ZE K (.ref e_Measure)=C?
 na_Measure_met_knots:NoAttr K e_Measure "met_knots"
 na_Measure_met_calls:NoAttr K e_Measure "met_calls"
 e_Level:WS
 x_Level:mg "Level"=A? (.ref e_Level)
 cl_Level:Cls K e_Level
 g_25:FM K e_Level "__init__" "Level.__init__" (inClass (top 41) 0) ["self"]
 g_26:FM K e_Level "spot_of" "Level.spot_of" (inClass (top 41) 1) ["self","tree"]
 mi_Level:PySem.W.makesIn K e_Level=C?/\ZE K (.ref e_Level)=C?
 na_Level_trees:NoAttr K e_Level "trees"
 na_Level_asked:NoAttr K e_Level "asked"
 na_Level_kid_spots:NoAttr K e_Level "kid_spots"
 n_0:mg "dict"=B?
 n_1:mg "enumerate"=B?
 n_2:mg "int"=B?
 n_3:mg "len"=B?
 n_4:mg "list"=B?
 n_5:mg "max"=B?
 n_6:mg "range"=B?
 n_7:mg "reversed"=B?
 n_8:mg "sum"=B?
 n_9:mg "tuple"=B?
 n_10:mg "zip"=B?
theorem zZ:ND ["number","done"]:=by decide +kernel
theorem zr:ND ["part"]:=by decide +kernel
theorem zT:ND ["pattern","numbers"]:=by decide +kernel
theorem uw:ND ["kind"]:=by decide +kernel
theorem aas:ND ["kid","knot","row"]:=by decide +kernel
theorem z9:ND ["pattern","second","state"]:=by decide +kernel
theorem yX:ND ["number","kid","place"]:=by decide +kernel
theorem yJ:ND ["place","part"]:=by decide +kernel
theorem zH:ND ["call","many","counts"]:=by decide +kernel
theorem zz:ND ["call","depth","heights"]:=by decide +kernel
theorem xl:ND ["state","pair","worth","kids"]:=by decide +kernel
theorem zc:ND ["kind","deep"]:=by decide +kernel
theorem xk:ND ["kid"]:=by decide +kernel
theorem y2:ND ["part","second","sizes"]:=by decide +kernel
theorem wZ:ND ["size"]:=by decide +kernel
theorem zh:ND ["part","second","kids"]:=by decide +kernel
theorem yV:ND ["row","second","sizes","names","pattern"]:=by decide +kernel
theorem yL:ND ["kid","first","second"]:=by decide +kernel
theorem yY:ND ["row","second","kids","names","tree"]:=by decide +kernel
section
variable(T:TX K mg)
namespace G
inductive dX(vs:List V)(H:Hp)(Q:VK)(_E:XK):Prop
 |mk (rp:Rep) (a:WS) (t:Th):vs=[.ref a]->AtG rp H t a->(∀(r:WS)(as:List WS)(H':Hp),j! H H'->H' r=A? (.tup (as.map i!))->AtsG rp H' t.kids as->Q (.ref r) H')->dX  vs H Q _E
theorem ok_kids_of:FnOk P w K mg base CX0 1 T.g_0.f T.g_0.d ["thing"] dX:=by
 refine T.g_0.F.okA qW λAk A outer s H vs Q E hr h=>?_;obtain⟨rp,a,t,rfl,hA,k⟩:=h
 refine⟨_,(ag (cN (aV fR (aw aA (pv 0) ai (λ_ _=>rfl)) (bP (v:=.str (W5 "?")) rfl T.c_CALL_SIGN.choose_spec ⟨_,D?⟩) (aP _)) (am (ay (aQ ae))) bR)
  (am (ay (bD kF (pv 0) (bO ai) bX)))),?_⟩
 try dsimp only[Ax,Ai]
 cases t with
 | knot n ks =>
   rw[AtG]at hA;walk_at"aa";obtain⟨hn,as,h1,h2⟩:=hA;refine kZ ?_;refine⟨_,D?,a,_,0,.str n,D?,D?,l! h1,at0,D?,_,D?,?_⟩;refine dA (λc=>g! (e! c) (λz=>hn (V.str.inj z))) (λ_=>?_);refine⟨_,D?,1,D?,a,_,D?,l! h1,?_,λr hr=>?_⟩
   .intro z;have:=z.1;simp[u!]at this
   .rw[iq];exact k r as _ (aj hr _) ad (h2.mono (eK hr))
 | call sn kn =>
   rw[AtG]at hA;obtain⟨v,hA,BP⟩:=hA;refine⟨_,D?,a,_,0,.str q,D?,D?,l! hA,at0,D?,_,D?,?_⟩;refine dA (λ_=>?_) (λc=>g! (d! rfl) c);refine⟨by show 0<=Xj;decide,λr hr=>?_⟩;exact k r [] _ (aj hr _) ad .nil
inductive cH(vs:List V)(H:Hp)(Q:VK)(_E:XK):Prop
 |mk (rp:Rep) (a:WS) (t:Th):vs=[.ref a]->AtG rp H t a->Q (.bl t.isCall) H->cH  vs H Q _E
theorem ok_is_call:FnOk P w K mg base CX0 1 T.g_5.f T.g_5.d ["thing"] cH:=by
 refine T.g_5.F.okA qK λAk A outer s H vs Q E hr h=>?_;obtain⟨rp,a,t,rfl,hA,k⟩:=h;refine⟨_,(am (ay (cV fR (aw aA (pv 0) ai (λ_ _=>rfl)) (bP (v:=.str (W5 "?")) rfl T.c_CALL_SIGN.choose_spec ⟨_,D?⟩) (aP _)))),?_⟩
 try dsimp only[Ax,Ai]
 cases t with
 | knot n ks =>
   rw[AtG]at hA;walk_at"aa";obtain⟨hn,as,h1,h2⟩:=hA;refine kZ ?_;refine⟨_,D?,a,_,0,.str n,D?,D?,l! h1,at0,D?,?_⟩;have e:decide (G! n=G! (W5 "?"))=false:=c! (λz=>hn (V.str.inj z));rw[e];exact k
 | call sn kn =>
   rw[AtG]at hA;obtain⟨v,hA,BP⟩:=hA;refine⟨_,D?,a,_,0,.str q,D?,D?,l! hA,at0,D?,?_⟩;have e:decide (G! q=G! (W5 "?"))=true:=d! rfl;rw[e];exact k
inductive bY(vs:List V)(H:Hp)(Q:VK)(_E:XK):Prop
 |mk (rp:Rep) (a:WS) (sn kn:Int):vs=[.ref a]->AtG rp H (.call sn kn) a->(∀p v,StV rp H sn v->H p=B?->Q (.ref p) (upd H p (.tup [v,.int kn])))->bY  vs H Q _E
theorem ok_called_by:FnOk P w K mg base CX0 1 T.g_8.f T.g_8.d ["call"] bY:=by
 refine T.g_8.F.okA nN λAk A outer s H vs Q E hr h=>?_;obtain⟨rp,a,sn,kn,rfl,hA,k⟩:=h;refine⟨_,(am (ay (aQ (ac (aw aA (pv 0) ai (λ_ _=>rfl)) (ac (aw aA (pv 0) ai (λ_ _=>rfl)) ae))))),?_⟩
 try dsimp only[Ax,Ai]
 rw[AtG]at hA;obtain⟨v,hA,BP⟩:=hA;exact⟨_,D?,a,_,1,_,D?,D?,l! hA,at1,_,D?,a,_,2,_,D?,D?,l! hA,at2,lnE rfl,λp hp=>k p v BP hp⟩
inductive ff(vs:List V)(H:Hp)(Q:VK)(_E:XK):Prop
 |mk (rp:Rep) (a:WS) (t:Th):vs=[.ref a]->AtG rp H t a->t.size<=100000->(∀(r:WS)(as:List WS)(H':Hp),j! H H'->H r=B?->H' r=A? (.lst (as.map i!))->AtsG rp H' t.walk as->Q (.ref r) H')->ff  vs H Q _E
theorem ok_walked:FnOk P w K mg base CX0 2 T.g_1.f T.g_1.d ["thing"] ff:=by
 refine T.g_1.F.okA gx λAk A outer s H vs Q E hr h=>?_;obtain⟨rp,a,t,rfl,hA,hsz,k⟩:=h
 refine⟨_,(ag (ao 1 gx.nd (aL ae))
  (ag (ao 2 gx.nd (aL (ac (pv 0) ae)))
  (ag (dk Xw (bJ (pv 2) (λ_=>rfl)) (ag (ao 3 gx.nd (ox Xb PySem.F.slot_list_pop PySem.F.type_list_pop nO (pv 2)))
  (ag (aS (bC Xb Xq Xp aK (pv 1) (ac (pv 3) ae)))
  (am (aS (bC Xb PySem.F.slot_list_extend PySem.F.type_list_extend lQ (pv 2) (ac (rc yv (pcF T.g_0 (ok_kids_of T) hr (ac (pv 3) ae))) ae)))))))
  (am (ay (pv 1)))))),?_⟩
 try dsimp only[Ax,Ai]
 refine⟨by show 0<=Xj;decide,λmt DF=>?_⟩;refine⟨_,D?,by show 1<=Xj;decide,λah Ds=>?_⟩;have El:H ah=none:=(aj DF _).free Ds;have Ay:ah≠mt:=λz=>by rw[z,ad]at Ds;cases Ds
 refine⟨λm Y H2=>Ex5 λ(ms as:List WS)(Ms As:List Th)(p:Option V)=>An8 (Y=[A? (.ref a),A? (.ref mt),A? (.ref ah),p]) (j! H H2) (H2 mt=A? (.lst (ms.map i!))) (H2 ah=A? (.lst (as.map i!))) (AtsG rp H2 Ms ms) (AtsG rp H2 As as) (Ms++walks As.reverse=t.walk) (m=ar As),⟨_,[],[a],[],[t],B?,D?,?_,?_,?_,.nil,.cons (hA.mono ?_) .nil,?_,D?⟩,?_⟩
 .exact aE (aj DF _) El
 .rw[af Ay.symm,ad];rfl
 .rw[ad];rfl
 .exact k! (aE (aj DF _) El)
 .simp[walks]
 rintro m Y H2 ⟨ms,as,Ms,As,p,rfl,sm,e1,e2,a1,a2,hw,rfl⟩
 have hlen:ms.length+ar As<=100000:=by
  have h1:=h! Ze hw;rw[W7,gy,D!,<-a1.length]at h1;have h2:=np As;lia
 refine⟨_,D?,_,.inl ⟨_,n! e2,D?⟩,?_⟩;refine dA (λc=>?_) (λc=>?_)
 ·-- a part is taken off
  refine⟨λAe H'=>∃m',m'<ar As/\Ex5 λ(ms as:List WS)(Ms As:List Th)(p:Option V)=>An8 (Ae=[A? (.ref a),A? (.ref mt),A? (.ref ah),p]) (j! H H') (H' mt=A? (.lst (ms.map i!))) (H' ah=A? (.lst (as.map i!))) (AtsG rp H' Ms ms) (AtsG rp H' As as) (Ms++walks As.reverse=t.walk) (m'=ar As),λAe H' h=>h,?_⟩;have CW:as≠[]:=by intro z;subst z;simp at c
  obtain⟨AL,b,rfl⟩:∃AL b,as=AL++[b]:=⟨as.dropLast,as.getLast CW,(ZQ CW).symm⟩;obtain⟨Us,x,rfl,a3,a4⟩:=a2.snoc_inv;have hs:ar (Us++[x])=ar Us+x.size:=by rw[aR,ar,ar];lia
  have UG:=x.size_eq;rw[hs]at hlen;refine⟨_,D?,.inl ⟨D?,_,n! e2⟩,ah,_,.ref b,D?,D?,e2,by simp,?_⟩;have d1:((AL++[b]).map i!).dropLast=AL.map i!:=by simp
  rw[d1];refine⟨_,D?,.inl ⟨D?,_,n! (by rw[af Ay.symm];exact e1)⟩,_,D?,mt,_,.ref b,D?,D?,by rw[af Ay.symm];exact e1,lbE (by lia),?_⟩;have k1:KT H2 (upd (upd H2 ah (.lst (AL.map i!))) mt (.lst (ms.map i!++[.ref b]))):=(aU e2).trans (aU (xs:=ms.map i!) (by rw[af Ay.symm];exact e1));refine⟨_,D?,.inl ⟨D?,_,n! (by rw[af Ay,ad])⟩,_,D?,rp,b,x,D?,a4.mono k1,λr ks H3 s3 e3 a5=>?_⟩;refine⟨r,_,D?,l! e3,λl hl=>?_⟩;have l1:l≠ah:=λz=>by rw[z,s3 ah _ (by rw[af Ay,ad])]at hl;cases hl
  have l2:l≠mt:=λz=>by rw[z,s3 mt _ ad]at hl;cases hl
  refine⟨ah,l,_,_,D?,D?,by rw[af l1.symm];exact s3 ah _ (by rw[af Ay,ad]),l! ad,Z9 (br ?_),?_⟩
  .have q1:=a3.length;have q2:=a5.length;have q3:=cL Us;have q4:=cL x.kids;rw[WO,X0,WO];lia
  .have k2:KT H2 (upd (upd H3 l (.tup (ks.map i!).reverse)) ah (.lst (AL.map i!++(ks.map i!).reverse))) :=
    k1.trans ((k! s3).trans ((eK hl).trans (aU (xs:=AL.map i!) (by rw[af l1.symm];exact s3 ah _ (by rw[af Ay,ad])))))
   have k3:KT H3 (upd (upd H3 l (.tup (ks.map i!).reverse)) ah (.lst (AL.map i!++(ks.map i!).reverse))) :=
    (eK hl).trans (aU (xs:=AL.map i!) (by rw[af l1.symm];exact s3 ah _ (by rw[af Ay,ad])))
   refine⟨ar (Us++x.kids.reverse),?_,ms++[b],AL++ks.reverse,Ms++[x],Us++x.kids.reverse,A? (.ref b),D?,?_,?_,?_,?_,?_,?_,D?⟩
   .rw[aR,np,hs];lia
   .have s4:j! H (upd (upd H2 ah (.lst (AL.map i!))) mt (.lst (ms.map i!++[.ref b]))):=aE (aE sm El) DF;have nl:H l=none:=s4.free (s3.free hl);exact aE (aE (s4.trans s3) nl) El
   .rw[af Ay.symm,af l2.symm,s3 mt _ ad,W8];rfl
   .rw[ad,W8,List.map_reverse]
   .exact(a1.mono k2).append (.cons (a4.mono k2) .nil)
   .exact(a3.mono k2).append (a5.mono k3).reverse
   .rw[<-hw,YN,YO,YO,YY,fw];show Ms++([x]++(walks x.kids++walks Us.reverse))=Ms++walks (x::Us.reverse);rw[walks,x.walk_eq];rfl
 .have hz:as=[]:=by
   cases as with
   |nil=>rfl
   |cons y ys=>simp at c
  subst hz;have HJ:As=[]:=Yx.mp a2.length.symm;subst HJ;refine⟨_,D?,k mt ms H2 sm DF e1 ?_⟩;have BN:Ms=t.walk:=by simpa[walks]using hw
  rw[<-BN];exact a1
inductive nk(vs:List V)(H:Hp)(Q:VK)(_E:XK):Prop
 |mk (rp:Rep) (a:WS) (t:Th):vs=[.ref a]->AtG rp H t a->(∀(r:WS)(H':Hp),j! H H'->TopAtG rp H' (dj F! t) r->Q (.ref r) H')->nk  vs H Q _E
theorem mr:FnOk P w K mg base CX0 2 T.g_13.f T.g_13.d ["part"] nk:=by
 refine T.g_13.F.okA mN λAk A outer s H vs Q E hr h=>?_;obtain⟨rp,a,t,rfl,hA,k⟩:=h
 refine⟨_,(ag (ao 1 mN.nd (aD aB rfl T.n_3 XE (ac (pcF T.g_0 (ok_kids_of T) hr (ac (pv 0) ae)) ae)))
  (am (ay (aQ (ac (bD wY (pv 0) bX (bO (av jx (aD aB rfl T.n_3 XE (ac (pv 0) ae)) (pv 1)))) (ac (pv 1) ae)))))),?_⟩
 try dsimp only[Ax,Ai]
 refine⟨_,D?,rp,a,t,D?,hA,λr as H1 s1 er Ba=>⟨r,_,D?,.inr (l! er),?_⟩⟩;obtain⟨xs,ea⟩:∃xs,H a=A? (.tup xs):=⟨_,hA.tup.choose_spec.choose_spec⟩;refine⟨_,D?,_,D?,a,_,D?,.inr (l! (s1 _ _ ea)),_,D?,_,_,D?,D?,_,D?,a,_,D?,s1 _ _ ea,λp H2 s2 e2=>?_⟩;have AO:as.length=t.kids.length:=Ba.length;refine⟨_,D?,lnE rfl,λl hl=>?_⟩;refine k l _ (s1.trans (s2.trans (aj hl _))) ?_
 try dsimp only at e2
 cases t with
 | knot n ks =>
   rw[AtG]at hA;walk_at"aa";obtain⟨hn,ka,G',AB⟩:=hA;refine kZ ?_;rw[ea]at G';cases G';have AK:ka.length=ks.length:=AB.length;have ER:as.length=ks.length:=AO
   have e1:((G! n::ka.map i!).length:Int) - ((as.map i!).length:Int)=1:=by
    rw[Xf,WO,WO,AK,ER];lia
   rw[e1,vM]at e2;exact⟨p,by rw[ad,WO,ER],hn,aj hl _ _ _ e2⟩
 | call sn kn =>
   have ER:as.length=0:=AO;have RK:=hA;rw[AtG]at RK;obtain⟨v,G',BP⟩:=RK;rw[ea]at G';cases G'
   have e1:(([G! q,v,o! kn]).length:Int) - ((as.map i!).length:Int)=((3:Nat):Int):=by
    rw[WO,ER];rfl
   rw[e1,j2 (show 3<=3 from WX _)]at e2;have UH:=hA.mono (k! (s1.trans s2));have hp:AtG rp H2 (.call sn kn) p:=UH.same ((s1.trans s2) _ _ ea) e2;refine⟨p,?_,hp.mono (eK hl)⟩;rw[ad,WO,ER];rfl
inductive pR(vs:List V)(H:Hp)(Q:VK)(_E:XK):Prop
 |mk (rp:Rep) (l:WS) (as:List WS) (tops:List Top) (u:Th):vs=[.ref l]->H l=A? (.lst (as.map i!))->XH (TopAtG rp H) tops as->tops.length<=100000->TopsOk tops->(∀t,Top.th t∈tops->t.size<=100000)->bl tops=[u]->(∀(r:WS)(H':Hp),j! H H'->AtG rp H' u r->Q (.ref r) H')->pR  vs H Q _E
theorem pZ:FnOk P w K mg base CX0 1 T.g_3.f T.g_3.d ["tops"] pR:=by
 refine T.g_3.F.okA iw λAk A outer s H vs Q E hr h=>?_;obtain⟨rp,l,as,tops,u,rfl,el,hT,hlen,hok,OO,hu,k⟩:=h
 refine⟨_,(ag (ao 1 iw.nd (aL ae))
  (ag (bx Xw rfl (tV rfl T.n_7 (pv 0)) (bw rfl (au (pgN 2 iw.nd) (au (pgN 3 iw.nd) aY))) (am (cN (aV d4 (pv 3) ai (aP _)) (am (aS (bC Xb Xq Xp aK (pv 1) (ac (av io (pv 2) (bj aX rfl T.n_9 X4 (ac (bv (N:=["number","done"]) (js:=[B?,A? 1]) (g:=(az 0)) (tt:=bf) (te:=(yO K "list" (yQ) (aZ 1))) rfl (bU rfl (by decide +kernel) (by decide +kernel) rfl rfl rfl) (b9 rfl T.n_6 (ac (pv 3) ae)) (λ_ _ _ _ _ _=>(pgN 0 zZ)) (aO rfl) (λ_ _ _ _ _ _=>bt) (λ_ _ _ _ _ _=>(ox Xb PySem.F.slot_list_pop PySem.F.type_list_pop nO (pv 1)))) ae))) ae)))) (am (aS (bC Xb Xq Xp aK (pv 1) (ac (pv 2) ae)))))))
  (am (ay (aw aT (pv 1) ai (λ_ _=>rfl)))))),?_⟩
 try dsimp only[Ax,Ai]
 have AO:tops.length=as.length:=Xa hT;refine⟨lnE rfl,λdn Jm=>?_⟩;refine⟨_,D?,l,_,D?,n! (aj Jm _ _ _ el),?_⟩
 refine rT (K:=K) (a:=l) (xs:=as.map i!) (λi Y H2=>Ex3 λc2 c3 ds=>An4 (Y=[A? (.ref l),A? (.ref dn),c2,c3]) (j! H H2) (H2 dn=A? (.lst (ds.map i!))) (AtsG rp H2 (bl (tops.drop (tops.length - i))).reverse ds))
  ⟨B?,B?,[],rfl,aj Jm _,ad,by rw[Nat.sub_zero,List.drop_length];exact .nil⟩ (λi Y H2 _⟨_,_,_,_,s2,_,_⟩=>n! (s2 _ _ el)) ?_ ?_
 .rintro i y Y H2 hi hy ⟨c2,c3,ds,rfl,s2,FR,BQ⟩;rw[WO,<-AO]at hi hy;obtain⟨pr,rfl,B4⟩:=aN hy;obtain⟨x,hx,OP⟩:=z! hT B4;have RL:=OP.mono (k! s2);have hn:tops.length - 1 - i<tops.length:=by lia
  have MH:tops.drop (tops.length - 1 - i)=x::tops.drop (tops.length - i):=by
   rw[List.drop_eq_getElem_cons hn,show tops.length - 1 - i+1=tops.length - i by lia];congr 1;rw[WQ hn]at hx;exact Xl hx
  have FU:=hok.drop (tops.length - 1 - i);rw[MH]at FU;have GK:tops.length - (i+1)=tops.length - 1 - i:=by lia
  have UI:(bl (tops.drop (tops.length - i))).length<=100000:=by
   have:=qo (tops.drop (tops.length - i));rw[XX]at this;lia
  generalize tops.drop (tops.length - i)=S at MH BQ FU UI;walk_at"aa"
  obtain⟨ta,m,xs,HG,eta,hm,MI,BI⟩:∃(ta:WS)(m:Nat)(xs:List V),H2 pr=A? (.tup [.ref ta,.int (m:Nat)])/\H2 ta=A? (.tup xs)/\m<=(bl S).length/\xs.length<=200000/\∀(H':Hp)(p:WS)(ks:List WS),KT H2 H'->AtsG rp H' ((bl S).take m) ks->H' p=A? (.tup (xs++ks.map i!))->∃u',bl (x::S)=u'::(bl S).drop m/\AtG rp H' u' p:=by
   cases x with
   | nm n m =>
     rw[TopsOk]at FU;obtain⟨ta,h1,h2,h3⟩:=RL;refine⟨ta,m,_,h1,h3,FU.1,(by show 1<=200000;decide),λH' p ks kt hk hp=>⟨_,by rw[bl],?_⟩⟩;rw[AtG];exact⟨h2,ks,hp,hk⟩
   | th t =>
     obtain⟨ta,h1,h2⟩:=RL;obtain⟨n',r',h3⟩:=h2.tup;have hw:=h2.width h3;have AV:=OO t (WR hx);refine⟨ta,0,_,h1,h3,Xr _,by lia,λH' p ks kt hk hp=>⟨t,by rw[bl,Y1],?_⟩⟩;rw[ZF,AtsG]at hk;subst hk;rw[YM,Ye]at hp;exact(h2.mono kt).same (kt _ _ h3) hp
  refine kZ ?_;refine⟨pr,_,D?,l! HG,D?,_,_,D?,_,_,D?,D?,?_⟩;have OQ:=BQ.length;rw[X0]at OQ;refine cR (λb H'=>An2 (H'=H2) (b=decide ((0:Int)<(m:Int)))) (λkk CA=>?_) (λH' hb=>?_) (λH' hb=>?_)
  .exact⟨_,D?,_,_,D?,D?,_,D?,CA _ _ ⟨D?,D?⟩⟩
  rotate_left
  .obtain⟨rfl,hb⟩:=hb
   have Cd:m=0:=by
    have:=of_decide_eq_false hb.symm;lia
   subst Cd;obtain⟨u',B8,BE⟩:=BI H' ta [] (k! (.refl _)) (by rw[ZF];exact .nil) (by rw[YM,Ye];exact eta);refine⟨_,D?,.inl ⟨D?,_,n! FR⟩,_,D?,dn,_,_,D?,D?,FR,lbE (by lia),?_⟩;have k6:KT H' (upd H' dn (.lst (ds.map i!++[.ref ta]))):=aU FR;refine⟨_,_,ds++[ta],D?,?_,uAE,?_⟩
   .intro b o e;rw[af (aq e Jm)];exact s2 b o e
   .rw[GK,MH,B8,XZ];rw[Y1];exact(BQ.mono k6).append (.cons (BE.mono k6) .nil)
  obtain⟨rfl,hb⟩:=hb;refine⟨_,D?,.inl ⟨D?,_,n! FR⟩,_,D?,?_⟩;refine⟨_,D?,(m:Int),D?,by lia,by lia,λD hD=>?_⟩;have DZ:D≠dn:=λz=>by rw[z,FR]at hD;cases hD
  have DF:((m:Nat):Int).toNat=m:=Yl m
  refine⟨m,λj H3=>An3 (j<=m) ((∀b o,H' b=A? o->b≠dn->H3 b=A? o)) (Ex2 λ(FV ks:List WS)=>An4 (H3 dn=A? (.lst (FV.map i!))) (H3 D=A? (.lst (ks.map i!))) (AtsG rp H3 ((bl S).drop j).reverse FV) (AtsG rp H3 ((bl S).take j) ks)),
   ⟨Xr _,λb o e hb=>?_,ds,[],?_,?_,?_,?_⟩,?_⟩
  .rw[af (aq e hD)];exact e
  .rw[af DZ.symm];exact FR
  .rw[ad];rfl
  .rw[Y1];exact BQ.mono (eK hD)
  .rw[ZF];exact .nil
  rintro j H3 ⟨hj,kp,FV,ks,ed,eD,KA,hd2⟩;by_cases RM:j=m
  .left;refine⟨(by show((m:Nat):Int).toNat<=j;rw[DF,RM];exact WX _),?_⟩;subst RM;have KC:KT H' H3:=λb xs' e=>kp b _ e (aF e FR (by intro z;cases z));refine⟨D,_,D?,.inl ⟨n! eD,λtp B5=>?_⟩⟩;refine gU B5 λH4 s4 e4=>?_;have AK:=hd2.length;refine vz (s4 _ _ (KC _ _ eta)) e4 (by rw[WO,AK,XB];lia) λp H5 s5 e5=>?_;have Dt:=s4.trans s5;have RN:=Dt _ _ ed;have OR:=KC.trans (k! Dt);obtain⟨u',B8,BE⟩:=BI H5 p ks OR (hd2.mono (k! Dt)) e5;have hdl:=KA.length;rw[X0,XX]at hdl;refine⟨dn,_,_,D?,D?,RN,lbE (by lia),?_⟩;have k6:KT H5 (upd H5 dn (.lst (FV.map i!++[.ref p]))):=aU RN;refine⟨_,_,FV++[p],D?,?_,uAE,?_⟩
   .intro b o e;have hb:b≠dn:=aq e Jm;rw[af hb];exact Dt _ _ (kp b o (s2 b o e) hb)
   .rw[GK,MH,B8,XZ];exact(KA.mono ((k! Dt).trans k6)).append (.cons (BE.mono k6) .nil)
  .right;have Be:j<m:=by lia
   refine⟨Be,(by show j<((m:Nat):Int).toNat;rw[DF];exact Be),?_⟩;rintro x' H4 ⟨e1,e2⟩;have Et:H4=H3:=e1;subst Et;have RO:j<(bl S).length:=by lia
   have UJ:(bl S).drop j=(bl S)[j]::(bl S).drop (j+1):=List.drop_eq_getElem_cons RO;rw[UJ,XZ]at KA
   have Ay:FV≠[]:=by
    intro z;subst z;have:=KA.length;rw[W7]at this;simp at this
   walk_at"aa";obtain⟨HK,b,rfl⟩:∃HK b,FV=HK++[b]:=⟨FV.dropLast,FV.getLast Ay,(ZQ Ay).symm⟩;obtain⟨Us,x2,e3,hU,hb2⟩:=KA.snoc_inv;have e4:=List.append_inj' e3 rfl;obtain⟨e5,e6⟩:=e4;refine kZ ?_;cases e6;subst e5;refine⟨_,D?,.inl ⟨D?,_,n! ed⟩,dn,_,.ref b,D?,D?,ed,by simp,?_⟩;have d1:((HK++[b]).map i!).dropLast=HK.map i!:=by simp
   rw[d1];have RP:(upd H4 dn (.lst (HK.map i!))) D=A? (.lst (ks.map i!)):=by rw[af DZ];exact eD
   have k5:KT H4 (upd (upd H4 dn (.lst (HK.map i!))) D (.lst (ks.map i!++[.ref b]))):=(aU ed).trans (aU RP);refine⟨_,RP,br (by rw[WO,hd2.length,XB];lia),Be,λb' o e AV=>?_,HK,ks++[b],?_,?_,hU.mono k5,?_⟩
   .rw[af (aq e hD),af AV];exact kp b' o e AV
   .rw[af DZ.symm,ad]
   .rw[ad,W8];rfl
   .rw[Yc,WQ RO];exact(hd2.mono k5).append (.cons (hb2.mono k5) .nil)
 .rintro Y H2 ⟨c2,c3,ds,rfl,s2,FR,BQ⟩;rw[WO,<-AO,Nat.sub_self,Y1,hu]at BQ;have KD:AtsG rp H2 [u] ds:=BQ;rw[AtsG]at KD;obtain⟨b,r,rfl,hb,hr2⟩:=KD;exact⟨_,D?,dn,_,0,.ref b,D?,D?,n! FR,at0,k b H2 s2 hb⟩
def CP(rp:Rep)(H:Hp)(c:Int×Int)(a:WS):Prop:=∃v,H a=A? (.tup [v,.int c.2])/\StV rp H c.1 v
theorem CP.mono{rp:Rep}(k:KT H H'){c:Int×Int}(h:CP rp H c a):CP rp H' c a:=by
 obtain⟨v,h1,h2⟩:=h;exact⟨v,k _ _ h1,h2.mono k⟩
inductive iU(vs:List V)(H:Hp)(Q:VK)(_E:XK):Prop
 |mk (rp:Rep) (a:WS) (t:Th):vs=[.ref a]->AtG rp H t a->t.size<=100000->(∀(r:WS)(as:List WS)(H':Hp),j! H H'->H r=B?->H' r=A? (.lst (as.map i!))->XH (CP rp H') (dC t) as->Q (.ref r) H')->iU  vs H Q _E
theorem iG:FnOk P w K mg base CX0 3 T.g_12.f T.g_12.d ["pattern"] iU:=by
 refine T.g_12.F.okA oI λAk A outer s H vs Q E hr h=>?_;obtain⟨rp,a,t,rfl,hA,hsz,k⟩:=h;refine⟨_,(am (ay (bv (N:=["part"]) (js:=[B?]) (g:=(az 0)) (tt:=(λY H Q=>(d3 cH [] E0 (ba (aZ 0) d7)) Y H λx H1=>∃k,vq K x H1 k/\Q k H1)) (te:=(d3 bY [] E0 (ba (aZ 0) d7))) rfl (bU rfl (by decide +kernel) (by decide +kernel) rfl rfl rfl) (cj (pcF T.g_1 (ok_walked T) hr (ac (pv 0) ae))) (λ_ _ _ _ _ _=>(pgN 0 zr)) (aO rfl) (λ_ _ _ _ _ _=>gA (bJ (pcF T.g_5 (ok_is_call T) hr (ac (pv 0) ae)) (λ_=>rfl))) (λ_ _ _ _ _ _=>(pcF T.g_8 (ok_called_by T) hr (ac (pv 0) ae)))))),?_⟩
 try dsimp only[Ax,Ai]
 refine⟨_,D?,rp,a,t,D?,hA,hsz,λr as H1 s1 nr er C6=>⟨r,D?,⟨_,n! er⟩,?_⟩⟩;have AO:as.length=t.walk.length:=C6.length;have AZ:=D! t;intro D hD;refine⟨as.length,λj H2=>An3 (j<=as.length) (j! H1 H2) (Ex1 λ(bs:List WS)=>An2 (H2 D=A? (.lst (bs.map i!))) (XH (CP rp H2) ((t.walk.take j).filterMap mS) bs)),⟨Xr _,aj hD _,[],ad,.nil⟩,?_⟩;rintro j H2 ⟨hj,s2,bs,eD,AQ⟩;by_cases Dq:j=as.length
 .left;refine⟨⟨_,n! (s2 _ _ er),by rw[WO,Dq];exact WX _⟩,?_⟩;have Ag:t.walk.take j=t.walk:=by rw[Dq,AO,YA]
  rw[Ag]at AQ;exact k D bs H2 (s1.trans s2) (s1.free hD) eD AQ
 .right;have Be:j<as.length:=by lia
  refine⟨Be,⟨_,.ref as[j],n! (s2 _ _ er),by rw[W3,WQ Be];rfl⟩,?_⟩;rintro y H3 ⟨rfl,hv⟩;have Cr:=hv _ (n! (s2 _ _ er));obtain⟨ta,rfl,B4⟩:=aN Cr;obtain⟨u,OS,e3⟩:=(C6.mono (k! s2)).get B4;have BO:t.walk.take (j+1)=t.walk.take j++[u]:=by rw[Yc,OS];rfl
  have BL:bs.length<=j:=by
   have g1:=Xa AQ;have g2:=List.length_filterMap_le mS (t.walk.take j);rw[XB]at g2;lia
  refine⟨_,D?,rp,ta,u,D?,e3,_,D?,?_⟩;cases u with
  | knot n ks =>
    refine qg ⟨Be,s2,bs,eD,?_⟩;rw[BO,ZT];show XH (CP rp H3) ((t.walk.take j).filterMap mS++[]) bs;rw[Ye];exact AQ
  | call sn kn =>
    refine qx ?_;refine⟨_,D?,rp,ta,sn,kn,D?,e3,λca v BP B6=>?_⟩;have s4:j! H3 (upd H3 ca (.tup [v,.int kn])):=aj B6 _;have GJ:=s4 _ _ eD;refine⟨_,GJ,lbE (by lia),Be,aE (s2.trans s4) hD,bs++[ca],?_,?_⟩
    .rw[ad,W8];rfl
    .have k5:KT (upd H3 ca (.tup [v,.int kn])) (upd (upd H3 ca (.tup [v,.int kn])) D (.lst (bs.map i!++[.ref ca]))):=aU GJ;rw[BO,ZT];refine r! (v! (λ_ _ e=>CP.mono ((k! s4).trans k5) e) AQ) (.cons ⟨v,k5 _ _ ad,BP.mono ((k! s4).trans k5)⟩ .nil)
def jT(x y k:Int):cg:=([Xs x,Xs y],Xs k)
inductive mF(P:Xe)(w:Xv)(vs:List V)(H:Hp)(Q:VK)(_E:XK):Prop
 |mk (a ta:WS) (t:Th) (f:Int->Int->Th) (kvs:List (cg×V)):vs=[.ref a,.ref ta]->AtG .p H t a->t.size<=100000->DN P w H ta kvs->(∀x y k,F! (enc x y) k∈t.walk->0<=y->y<1000->∃v,aM kvs (jT x y k)=A? (.ref v)/\AtG .i H (f (enc x y) k) v/\(f (enc x y) k).size<=100000)->(∀(r:WS)(H':Hp),j! H H'->AtG .i H' (t.fill f) r->Q (.ref r) H')->mF P w vs H Q _E
theorem tI:FnOk P w K mg base CX0 3 T.g_14.f T.g_14.d ["pattern","table"] (mF P w):=by
 refine T.g_14.F.okA jj λAk A outer s H vs Q E hr h=>?_;obtain⟨a,ta,t,f,kvs,rfl,hA,hsz,Ja,ES,k⟩:=h
 refine⟨_,(ag (ao 2 jj.nd (aL ae))
  (ag (bx Xw rfl (cj (pcF T.g_1 (ok_walked T) hr (ac (pv 0) ae))) (pgN 3 jj.nd) (am (cN (bJ (pcF T.g_5 (ok_is_call T) hr (ac (pv 3) ae)) (λ_=>rfl)) (am (aS (bC Xb Xq Xp aK (pv 2) (ac (aQ (ac (uT (vA hr) (pv 1) (pcF T.g_8 (ok_called_by T) hr (ac (pv 3) ae)) (λ_ _=>rfl)) (ac ai ae))) ae)))) (am (aS (bC Xb Xq Xp aK (pv 2) (ac (pcF T.g_13 (mr T) hr (ac (pv 3) ae)) ae)))))))
  (am (ay (pcF T.g_3 (pZ T) hr (ac (pv 2) ae)))))),?_⟩
 try dsimp only[Ax,Ai]
 refine⟨lnE rfl,λtl Ap=>?_⟩;refine⟨_,D?,.p,a,t,D?,hA.mono (eK Ap),hsz,λwl as H1 s1 RQ RR hw=>?_⟩;have DR:as.length=t.walk.length:=hw.length;have UK:=D! t;have UL:j! H H1:=(aj Ap _).trans s1;have OT:wl≠tl:=λz=>by rw[z,ad]at RQ;cases RQ
 refine⟨wl,D?,⟨_,n! RR⟩,?_⟩
 refine dS (K:=K) (a:=wl) (xs:=as.map i!) (λi Y H2=>Ex2 λc bs=>An6 (Y=[A? (.ref a),A? (.ref ta),A? (.ref tl),c]) (j! H H2) (H2 wl=A? (.lst (as.map i!))) (AtsG .p H2 t.walk as) (H2 tl=A? (.lst (bs.map i!))) (XH (TopAtG .i H2) ((t.walk.take i).map (dj f)) bs))
  ⟨B?,[],rfl,UL,RR,hw,s1 _ _ ad,.nil⟩ (λi Y H2 _⟨_,_,_,_,e,_,_,_⟩=>n! e) ?_ ?_
 .rintro i x Y H2 hx ⟨c,bs,rfl,s2,KG,Jn,HL,AQ⟩;obtain⟨xa,rfl,FW⟩:=aN hx;obtain⟨tx,HM,HP⟩:=Jn.get FW;have UM:tx∈t.walk:=WR HM;have BO:t.walk.take (i+1)=t.walk.take i++[tx]:=by rw[Yc,HM];rfl
  have BL:bs.length<=100000:=by
   have:=Xa AQ;rw[WO,XB]at this;lia
  refine⟨_,D?,.p,xa,tx,D?,HP,_,D?,?_⟩
  have push:∀(H3:Hp)(p:WS),j! H2 H3->TopAtG .i H3 (dj f tx) p->Ex2 λc ET=>An6 (([A? (.ref a),A? (.ref ta),A? (.ref tl),A? (.ref xa)]:St)=[A? (.ref a),A? (.ref ta),A? (.ref tl),c]) (j! H (upd H3 tl (.lst (bs.map i!++[.ref p])))) ((upd H3 tl (.lst (bs.map i!++[.ref p]))) wl=A? (.lst (as.map i!))) (AtsG .p (upd H3 tl (.lst (bs.map i!++[.ref p]))) t.walk as) ((upd H3 tl (.lst (bs.map i!++[.ref p]))) tl=A? (.lst (ET.map i!))) (XH (TopAtG .i (upd H3 tl (.lst (bs.map i!++[.ref p])))) ((t.walk.take (i+1)).map (dj f)) ET):=by
   intro H3 p s3 hp;have k3:KT H3 (upd H3 tl (.lst (bs.map i!++[.ref p]))):=aU (s3 _ _ HL);refine⟨_,bs++[p],D?,aE (s2.trans s3) Ap,by rw[af OT];exact s3 _ _ KG,Jn.mono ((k! s3).trans k3),uAE,?_⟩;rw[BO,W8];exact r! (gY ((k! s3).trans k3) AQ) (.cons (hp.mono k3) .nil)
  cases tx with
  | call sn kn =>
    refine qx ?_;refine⟨_,D?,.inl ⟨D?,_,n! HL⟩,_,D?,_,D?,.p,xa,sn,kn,D?,HP,λcb sv BP UN=>?_⟩;walk_at"aa";obtain⟨pa,x,y,rfl,B3,rfl,Fp,CS,C5⟩:=BP;obtain⟨v,hv,UO,_⟩:=ES x y kn UM CS C5;refine kZ ?_;have s3:j! H2 (upd H2 cb (.tup [.ref pa,.int kn])):=aj UN _;have MJ:NKAt (upd H2 cb (.tup [.ref pa,.int kn])) (jT x y kn) cb:=⟨pa,ad,s3 _ _ B3⟩;generalize(upd H2 cb (.tup [.ref pa,.int kn]))=H3 at s3 MJ |-;refine⟨ta,cb,_,kvs,.ref v,D?,D?,Ja.mono (s2.trans s3),MJ,hv,lnE rfl,λp hp=>?_⟩;have s4:=s3.trans (aj hp (.tup [.ref v,.int 0]));refine⟨tl,_,_,D?,D?,s4 _ _ HL,lbE (by lia),?_⟩;exact push _ p s4 ⟨v,ad,UO.mono (k! (s2.trans s4))⟩
  | knot nm us =>
    refine qg ?_;refine⟨_,D?,.inl ⟨D?,_,n! HL⟩,_,D?,.p,xa,.knot nm us,D?,HP,λp H3 s3 hp=>?_⟩;refine⟨tl,_,_,D?,D?,s3 _ _ HL,lbE (by lia),?_⟩;exact push _ p s3 hp
 .rintro Y H2 ⟨c,bs,rfl,s2,KG,Jn,HL,AQ⟩;rw[WO,DR,YA]at AQ;obtain⟨b1,b2⟩:=rb f t;refine⟨_,D?,.i,tl,bs,_,t.fill f,D?,HL,AQ,by rw[WO];lia,b2,?_,b1,λr H3 s3 KH=>k r H3 (s2.trans s3) KH⟩;intro u hu;obtain⟨x,hx,e⟩:=Xn.mp hu;cases x with
  |knot nm us=>cases e
  | call sn kn =>
    cases e;walk_at"aa";obtain⟨xa,FW,BE⟩:=Jn.at (Xg.mp hx).choose_spec;rw[AtG]at BE;obtain⟨sv,_,pa,x,y,_,_,rfl,_,CS,C5⟩:=BE;obtain⟨v,_,_,hz⟩:=ES x y kn hx CS C5;refine kZ ?_;exact hz
theorem sS{t:Th}{s k:Int}(h:F! s k∈t.walk):(s,k)∈dC t:=List.mem_filterMap.mpr ⟨_,h,rfl⟩
theorem tW{t:Th}{c:Int×Int}(h:c∈dC t):c.1∈stT t:=Xn.mpr ⟨c,h,rfl⟩
inductive jS(P:Xe)(w:Xv)(vs:List V)(H:Hp)(Q:VK)(_E:XK):Prop
 |mk (a nd:WS) (t:Th) (g:Int->Int) (kvs:List (List Key×V)):vs=[.ref a,.ref nd]->AtG .p H t a->t.size<=100000->H nd=A? (.dT kvs)->(∀x y,enc x y∈stT t->0<=x->0<=y->y<1000->aM kvs [Xs x,Xs y]=A? (.int (g (enc x y))))->(∀(r:WS)(H':Hp),j! H H'->AtG .i H' (ren g t) r->Q (.ref r) H')->jS P w vs H Q _E
theorem o8:FnOk P w K mg base CX0 4 T.g_15.f T.g_15.d ["pattern","names"] (jS P w):=by
 refine T.g_15.F.okA eF λAk A outer s H vs Q E hr h=>?_;obtain⟨a,nd,t,g,kvs,rfl,hA,hsz,FY,HQ,k⟩:=h
 refine⟨_,(ag (ao 2 eF.nd uv)
  (ag (bx Xw rfl (cj (pcF T.g_12 (iG T) hr (ac (pv 0) ae))) (bw rfl (au (pgN 3 eF.nd) (au (pgN 4 eF.nd) aY))) (am (vm (vA hr) (pv 2) (aQ (ac (pv 3) (ac (pv 4) ae))) (aQ (ac (bP (v:=.str (W5 "?")) rfl T.c_CALL_SIGN.choose_spec ⟨_,D?⟩) (ac (gw (di hr) (pv 1) (pv 3) (λ_ _=>rfl)) (ac (pv 4) ae)))) rfl)))
  (am (ay (pcF T.g_14 (tI T) hr (ac (pv 0) (ac (pv 2) ae))))))),?_⟩
 try dsimp only[Ax,Ai]
 intro td H1 MK s1 e1;dsimp only[az];refine⟨_,D?,.p,a,t,D?,hA.mono (k! s1),hsz,λr as H2 s2 nr er BZ=>⟨r,D?,⟨_,n! er⟩,?_⟩⟩;have AF:(dC t).length=as.length:=Xa BZ
 have hcw:(dC t).length<=100000:=by
  have h1:=List.length_filterMap_le mS t.walk;have h2:=D! t;unfold dC;lia
 have OU:r≠td:=λz=>by
  obtain⟨_,_,_,φ,e,_⟩:=e1;rw[z,e]at nr;cases nr
 refine dS (K:=K) (a:=r) (xs:=as.map i!) (λi Y H3=>Ex3 λ(c3 c4:Option V)(tk:List (cg×V))=>An7 (Y=[A? (.ref a),A? (.ref nd),A? (.ref td),c3,c4]) (j! H H3) (H3 r=A? (.lst (as.map i!))) (XH (CP .p H3) (dC t) as) (DN P w H3 td tk) (tk.length<=i) (∀c∈(dC t).take i,∀x y,c.1=enc x y->0<=y->y<1000->∃v,aM tk (jT x y c.2)=A? (.ref v)/\AtG .i H3 (.call (g c.1) c.2) v))
  ⟨B?,B?,[],rfl,s1.trans s2,er,BZ,e1.mono s2,WX _,λc hc=>by rw[ZF]at hc;cases hc⟩ (λi Y H3 _⟨_,_,_,_,_,e,_,_,_,_⟩=>n! e) ?_ ?_
 .rintro i x Y H3 hx ⟨c3,c4,tk,rfl,s3,BF,Bf,HR,hlen,Ag⟩;walk_at"aa";obtain⟨ca,rfl,B6⟩:=aN hx;obtain⟨⟨sn,kn⟩,hc,sv,KI,BP⟩:=z! Bf B6;obtain⟨pa,x,y,rfl,B3,Hw,Fp,CS,C5⟩:=BP;refine kZ ?_;dsimp only at Hw KI;subst Hw;have Br:i<100000:=by have:=(glE hc);lia
  have UP:=HQ x y (tW (WR hc)) Fp CS C5;refine⟨ca,_,D?,l! KI,D?,_,_,D?,_,_,D?,D?,?_⟩;dsimp only[az];have OV:=s3 _ _ FY;refine⟨_,D?,_,D?,nd,.int (g (enc x y)),D?,.inr ⟨kvs,[.inl x,.inl y],pa,.inl OV,D?,B3,UP.symm⟩,_,D?,lnE rfl,λcv Kj=>?_⟩;have s4:j! H3 (upd H3 cv (.tup [.str (W5 "?"),.int (g (enc x y)),.int kn])):=aj Kj _;have e4:AtG .i (upd H3 cv (.tup [.str (W5 "?"),.int (g (enc x y)),.int kn])) (.call (g (enc x y)) kn) cv:=by rw[AtG];exact⟨_,ad,D?⟩
  generalize(upd H3 cv (.tup [.str (W5 "?"),.int (g (enc x y)),.int kn]))=H4 at s4 e4 |-;refine⟨_,D?,_,D?,_,D?,lnE rfl,λkp FZ=>?_⟩;have s5:j! H4 (upd H4 kp (.tup [.ref pa,.int kn])):=aj FZ _;have e5:NKAt (upd H4 kp (.tup [.ref pa,.int kn])) (jT x y kn) kp:=⟨pa,ad,s5 _ _ (s4 _ _ B3)⟩;generalize(upd H4 kp (.tup [.ref pa,.int kn]))=H5 at s5 e5 |-;have Dt:=s4.trans s5;have Jo:=HR.mono Dt;refine⟨td,kp,_,tk,D?,D?,Jo,e5,br (by lia),λH6 Hv ML=>?_⟩
  have k6:KT H5 H6:=λb xs e=>Hv b _ (λz=>by
   obtain⟨_,_,_,φ,e',_⟩:=Jo;rw[z,e']at e;cases e) e
  have RS:=(k! Dt).trans k6;refine⟨_,_,_,D?,λb o e=>Hv b o (aq e MK) ((s3.trans Dt) b o e),Hv _ _ OU (Dt _ _ BF),v! (λ_ _ e=>CP.mono RS e) Bf,ML,?_,λc Bd x' y' F0 KJ KL=>?_⟩
  .have:=bG tk (jT x y kn) (.ref cv);lia
  .rw[dq];by_cases C2:jT x' y' c.2=jT x y kn
   .rw[b! C2];unfold jT at C2;injection C2 with h1 h2;injection h1 with h3 h4;injection h4 with h5 _;have e1:x'=x:=Zt h3;have e2:y'=y:=Zt h5;have e3:c.2=kn:=Zt h2;exact⟨cv,D?,by rw[F0,e1,e2,e3];exact(e4.mono (k! s5)).mono k6⟩
   .rw[a! C2];rw[take_snoc hc]at Bd;rcases Xd.mp Bd with h|h
    .obtain⟨v,h1,h2⟩:=Ag c h x' y' F0 KJ KL;exact⟨v,h1,h2.mono RS⟩
    .refine g! ?_ C2;rw[W0.mp h]at F0 |-;obtain⟨h1,h2⟩:=vZ F0 CS C5 KJ KL;rw[h1,h2]
 .rintro Y H3 ⟨c3,c4,tk,rfl,s3,BF,Bf,HR,hlen,Ag⟩;rw[X1 (by rw[WO];lia)]at Ag;refine⟨_,D?,_,D?,a,td,t,λs k=>.call (g s) k,tk,D?,hA.mono (k! s3),hsz,HR,λx y k' AG CS C5=>?_,λr' H4 s4 h4=>k r' H4 (s3.trans s4) h4⟩;obtain⟨v,h1,h2⟩:=Ag (enc x y,k') (sS AG) x y rfl CS C5;exact⟨v,h1,h2,by rw[t!];decide⟩
def kP(s:Int):List Key:=[Xs (s / 1000),Xs (s%1000)]
theorem uI{x y:Int}(h0:0<=y)(h1:y<1000):kP (enc x y)=[Xs x,Xs y]:=by
 unfold kP enc;rw[show(1000 * x+y) / 1000=x by lia,show(1000 * x+y)%1000=y by lia]
theorem xP{a b:Int}(h:kP a=kP b):a=b:=by
 unfold kP at h;injection h with h1 h2;injection h2 with h2 _;have e1:=Zt h1;have e2:=Zt h2;lia
def dF(m:List Int):List (List Key×V):=m.zipIdx.map λp=>(kP p.1,o! (p.2:Nat))
theorem kW(m:List Int):(dF m).length=m.length:=by unfold dF;rw[WO,List.length_zipIdx]
theorem si(m:List Int)(s:Int):dF (m++[s])=dF m++[(kP s,o! (m.length:Nat))]:=by
 unfold dF;rw[List.zipIdx_append,W8];simp
theorem kj:∀(m:List Int)(s:Int)(n:Nat),aM ((m.zipIdx n).map λp=>(kP p.1,o! (p.2:Nat))) (kP s)=if s∈m then A? (.int ((n+m.idxOf s:Nat):Int))else B?
 | [],s,n=>rfl
 | x::m,s,n=>by
   rw[List.zipIdx_cons,XC];by_cases h:x=s
   .subst h;rw[bq rfl,b! (W4 ..),List.idxOf_cons_self];rfl
   .rw[bA (λz=>h (xP z)),kj m s (n+1)];by_cases hm:s∈m
    .rw[b! hm,b! (WT _ hm),List.idxOf_cons,(beq_eq_false_iff_ne.mpr h:(x == s)=CG)];simp only[cond_false];have:n+1+m.idxOf s=n+(m.idxOf s+1):=by lia
     rw[this]
    .rw[a! hm,a! (λz=>(W6.mp z).elim (λy=>h y.symm) hm)]
theorem re{m:List Int}{s:Int}(h:s∈m):aM (dF m) (kP s)=A? (.int (idx m s)):=by
 unfold dF;rw[kj,b! h,Nat.zero_add];rfl
theorem vi{m:List Int}{s:Int}(h:s∉m):aM (dF m) (kP s)=none:=by
 unfold dF;rw[kj,a! h]
inductive ie(P:Xe)(w:Xv)(vs:List V)(H:Hp)(Q:VK)(_E:XK):Prop
 |mk (a nd:WS) (t:Th) (m:List Int):vs=[.ref a,.ref nd]->AtG .p H t a->t.size<=100000->H nd=A? (.dT (dF m))->(bE m (stT t)).length<=20->(∀(r:WS)(H':Hp),SameB nd H H'->H' nd=A? (.dT (dF (bE m (stT t))))->AtG .i H' (ren (idx (bE m (stT t))) t) r->Q (.ref r) H')->ie P w vs H Q _E
theorem kU:FnOk P w K mg base CX0 5 T.g_38.f T.g_38.d ["pattern","numbers"] (ie P w):=by
 refine T.g_38.F.okA gS λAk A outer s H vs Q E hr h=>?_;obtain⟨a,nd,t,m,rfl,hA,hsz,FY,Jp,k⟩:=h
 refine⟨_,(ag (bx Xw rfl (cj (pcF T.g_12 (iG T) hr (ac (pv 0) ae))) (bw rfl (au (pgN 2 gS.nd) (au (pgN 3 gS.nd) aY))) (am (aS (bC PySem.F.plainAttrs_dict PySem.F.slot_dict_setdefault PySem.F.type_dict_setdefault (l5 (di hr)) (pv 1) (ac (pv 2) (ac (aD i7 rfl T.n_3 XE (ac (pv 1) ae)) ae))))))
  (ag (cN (aV d4 (aD i7 rfl T.n_3 XE (ac (pv 1) ae)) (bP (v:=.int (20)) rfl T.c_MOST_STATES.choose_spec ⟨_,D?⟩) (aP _)) (am lg) bR)
  (am (ay (pcF T.g_15 (o8 T) hr (ac (pv 0) (ac (pv 1) ae))))))),?_⟩
 try dsimp only[Ax,Ai]
 refine⟨_,D?,.p,a,t,D?,hA,hsz,λr as H1 s1 nr er BZ=>⟨r,D?,⟨_,n! er⟩,?_⟩⟩;have AF:(dC t).length=as.length:=Xa BZ;have F1:r≠nd:=λz=>by rw[z,FY]at nr;cases nr
 refine dS (K:=K) (a:=r) (xs:=as.map i!) (λi Y H3=>Ex2 λc2 c3=>An6 (Y=[A? (.ref a),A? (.ref nd),c2,c3]) (SameB nd H H3) (KT H H3) (H3 r=A? (.lst (as.map i!))) (XH (CP .p H3) (dC t) as) (H3 nd=A? (.dT (dF (bE m ((stT t).take i))))))
  ⟨B?,B?,rfl,SameB.of s1,k! s1,er,BZ,by rw[ZF];exact s1 _ _ FY⟩ (λi Y H3 _⟨_,_,_,_,_,e,_,_⟩=>n! e) ?_ ?_
 .rintro i x Y H3 hx ⟨c2,c3,rfl,s3,k3,BF,Bf,EU⟩;walk_at"aa";obtain⟨ca,rfl,B6⟩:=aN hx;obtain⟨⟨sn,kn⟩,hc,sv,KI,OW⟩:=z! Bf B6;obtain⟨pa,x,y,rfl,B3,Hw,Fp,CS,C5⟩:=OW;refine kZ ?_;dsimp only at Hw KI;have FZ:[Xs x,Xs y]=kP sn:=by rw[Hw,uI CS C5]
  have BP:(stT t)[i]?=A? sn:=by unfold stT;rw[W3,hc];rfl
  have BO:bE m ((stT t).take (i+1))=iz (bE m ((stT t).take i)) sn:=by
   rw[take_snoc BP,eG];rfl
  have JZ:(iz (bE m ((stT t).take i)) sn).length<=20:=by
   have h1:bE m (stT t)=bE (bE m ((stT t).take (i+1))) ((stT t).drop (i+1)):=by rw[<-eG,List.take_append_drop]
   have h2:=(gj ((stT t).drop (i+1)) (bE m ((stT t).take (i+1)))).length_le;rw[<-h1,BO]at h2;lia
  generalize bE m ((stT t).take i)=mi at EU BO JZ |-;have hmi:=(p5 mi sn).length_le;refine⟨ca,_,D?,l! KI,D?,_,_,D?,_,_,D?,D?,?_⟩;dsimp only[az];have hl:=kW mi;refine⟨_,D?,.inr (.inr (.inl ⟨D?,.inr ⟨_,EU⟩⟩)),_,D?,_,D?,nd,_,D?,EU,nd,pa,.int ((dF mi).length:Nat),kP sn,dF mi,D?,D?,EU,by rw[<-FZ];exact B3,br (by lia),λu hu=>?_,λhu=>?_⟩
  .have CL:sn∈mi:=by
    by_cases h:sn∈mi
    .exact h
    .rw[vi h]at hu;cases hu
   refine⟨_,_,D?,s3,k3,BF,Bf,?_⟩;rw[BO];unfold iz;rw[b! CL];exact EU
  .have CL:sn∉mi:=λh=>by rw[re h]at hu;cases hu
   have OX:putK (dF mi) (kP sn) (.int ((dF mi).length:Nat))=dF (iz mi sn):=by
    rw[la _ hu];unfold iz;rw[a! CL,si,hl]
   rw[OX];have k4:KT H3 (upd H3 nd (.dT (dF (iz mi sn)))):=λb xs e=>by rw[af (aF e EU (λz=>nomatch z))];exact e
   refine⟨_,_,D?,λb o hb e=>by rw[af hb];exact s3 b o hb e,k3.trans k4,by rw[af F1];exact BF,v! (λ_ _ e=>CP.mono k4 e) Bf,by rw[ad,BO]⟩
 .rintro Y H3 ⟨c2,c3,rfl,s3,k3,BF,Bf,EU⟩;have MM:(stT t).length=as.length:=by unfold stT;rw[WO];lia
  rw[X1 (by rw[WO];lia)]at EU;have hl:=kW (bE m (stT t));dsimp only[w8];refine bS (λAe H'=>An2 (H3=H') (Ae=[A? (.ref a),A? (.ref nd),c2,c3])) (λkk hk=>?_) ?_
  .refine⟨_,D?,nd,_,D?,EU,_,_,D?,D?,_,D?,?_⟩;refine dA (λc=>?_) (λc=>hk _ _ ⟨rfl,rfl⟩);have:=e! c;lia
  rintro Ae H' ⟨rfl,rfl⟩;exact⟨_,D?,_,D?,a,nd,t,idx (bE m (stT t)),_,D?,hA.mono k3,hsz,EU,λx y hs _ CS C5=>by rw[<-uI CS C5];exact re (dh.mpr (.inr hs)),λr' H4 s4 h4=>k r' H4 (λb o hb e=>s4 _ _ (s3 b o hb e)) (s4 _ _ EU) h4⟩
inductive jI(P:Xe)(w:Xv)(K:WY)(mg:Xk->Option WV)(base:X5)(vs:List V)(H:Hp)(Q:VK)(_E:XK):Prop
 |mk (ia oa ha f:WS) (head:Th) (R:Int->List Th) (CV:Sp):vs=[.ref ia,.ref oa,.ref ha,.ref f]->AtG .p H head ha->head.size<=1000->(bd R head).length<=20->(∀s∈bd R head,(R s).length<=8/\∀t∈R s,t.size<=1000)->FvOk P w K mg base CX0 9 f CV->(∀(H1:Hp)(s:Int)(pa:WS)(Z:VK),j! H H1->s∈bd R head->H1 pa=A? (.tup [.int (s / 1000),.int (s%1000)])->(∀(r:WS)(as:List WS)(H2:Hp),j! H1 H2->H2 r=A? (.lst (as.map i!))->AtsG .p H2 (R s) as->Z (.ref r) H2)->CV [.ref pa] H1 Z E0)->(∀(r fh rl:WS)(HS:List WS)(H':Hp),j! H H'->H' r=A? (.tup [.ref ia,.ref oa,.ref fh,.ref rl])->At H' (ren (idx (bd R head)) head) fh->H' rl=A? (.tup (HS.map i!))->XH (RowAt H') ((bd R head).map λs=>(R s).map (ren (idx (bd R head)))) HS->Q (.ref r) H')->jI P w K mg base vs H Q _E
theorem jF(a b:List Th):cm (a++b)=cm a++cm b:=List.flatMap_append
theorem uy{m:List Int}{i:Nat}{s:Int}(h:m[i]?=A? s):(dF m)[i]?=A? (kP s,o! (i:Nat)):=by
 unfold dF;rw[W3,List.getElem?_zipIdx,h];simp
theorem px:FnOk P w K mg base CX0 12 T.g_39.f T.g_39.d ["ins","outs","head","patterns_of"] (jI P w K mg base):=by
 refine T.g_39.F.okA dm λAk A outer s H vs Q E hr h=>?_;obtain⟨ia,oa,ha,f,head,R,CV,rfl,hA,hsz,KN,UQ,Jq,D1,k⟩:=h
 refine⟨_,(ag (ao 4 dm.nd fT)
  (ag (ao 5 dm.nd (pcF T.g_38 (kU T) hr (ac (pv 2) (ac (pv 4) ae))))
  (ag (ao 6 dm.nd (aL ae))
  (ag (dk Xw (aV uM (aD aB rfl T.n_3 XE (ac (pv 6) ae)) (aD i7 rfl T.n_3 XE (ac (pv 4) ae)) (aP _)) (ag (ao 7 dm.nd (aw aT (bj (lP rfl) rfl T.n_4 PyProof.Rows.boot_list (ac (pv 4) ae)) (aD aB rfl T.n_3 XE (ac (pv 6) ae)) (λ_ _=>rfl)))
  (am (aS (bC Xb Xq Xp aK (pv 6) (ac (bj aX rfl T.n_9 X4 (ac (bv (N:=["pattern","numbers"]) (js:=[B?,A? 4]) (g:=(az 0)) (tt:=bf) (te:=(d3 (ie P w) [] E0 (ba (aZ 0) (ba (aZ 1) d7)))) rfl (bU rfl (by decide +kernel) (by decide +kernel) rfl rfl rfl) (yp (iA (k:=9) (i:=3) rfl (Or.inl rfl) (hr.mono (by first|decide|lia)) cP (ac (pv 7) ae))) (λ_ _ _ _ _ _=>(pgN 0 zT)) (aO rfl) (λ_ _ _ _ _ _=>bt) (λ_ _ _ _ _ _=>(pcF T.g_38 (kU T) hr (ac (pv 0) (ac (pv 1) ae))))) ae)) ae))))))
  (am (ay (aQ (ac (pv 0) (ac (pv 1) (ac (pv 5) (ac (bj aX rfl T.n_9 X4 (ac (pv 6) ae)) ae))))))))))),?_⟩
 try dsimp only[Ax,Ai]
 have EV:bE [] (stT head) <+: bd R head:=gu _ _ _ _;intro nd F2;dsimp only[az];refine gU F2 λH1 s1 e1=>?_;have e1:H1 nd=A? (.dT (dF [])):=e1;refine⟨_,D?,_,D?,ha,nd,head,[],D?,hA.mono (k! s1),by lia,e1,Xh EV.length_le KN,λfh H2 Gv RT h2=>?_⟩;dsimp only[az];have OY:ren (idx (bE [] (stT head))) head=ren (idx (bd R head)) head:=qQ head λx hx=>(rJ EV (dh.mpr (.inr hx))).symm;rw[OY]at h2;have h2:=h2.i;have s2:j! H H2:=λb o e=>Gv b o (aq e F2) (s1 b o e);refine⟨lnE rfl,λrl D0=>?_⟩;have s3:j! H2 (upd H2 rl (.lst [])):=aj D0 _;have e3:(upd H2 rl (.lst [])) rl=A? (.lst []):=ad;have D3:H rl=none:=s2.free D0;have GL:nd≠rl:=λz=>by rw[<-z,RT]at D0;cases D0
 generalize(upd H2 rl (.lst []))=H3 at s3 e3 |-
 refine⟨λmz Y H4=>Ex4 λ(i:Nat)(mm:List Int)(bs:List WS)(tv:Option V)=>uR (Y=[A? (.ref ia),A? (.ref oa),A? (.ref ha),A? (.ref f),A? (.ref nd),A? (.ref fh),A? (.ref rl),tv]) (j! H H4) (H4 nd=A? (.dT (dF mm))) (H4 rl=A? (.lst (bs.map i!))) (XH (RowAt H4) (((bd R head).take i).map λs=>(R s).map (ren (idx (bd R head)))) bs) (At H4 (ren (idx (bd R head)) head) fh) (mm <+: bd R head) (bfs R (21 - i) mm i=bd R head) (i<=mm.length) (mz=21 - i),
  ⟨_,0,bE [] (stT head),[],B?,D?,s2.trans s3,s3 _ _ RT,e3,.nil,h2.mono (k! s3),EV,D?,Xr _,D?⟩,?_⟩
 rintro mz Y H4 ⟨i,mm,bs,tv,rfl,s4,OZ,Jr,AQ,FQ,Df,F3,hi,rfl⟩;have hmm:=Df.length_le
 have BL:bs.length=i:=by
  have:=Xa AQ;rw[WO,XB]at this;lia
 have hnl:=kW mm;refine⟨_,D?,rl,_,D?,.inl (n! Jr),_,D?,nd,_,D?,OZ,_,_,D?,D?,_,D?,?_⟩;refine dA (λcc=>?_) (λcc=>?_)
 .have Al:i<mm.length:=by
   have:=e! cc;rw[WO]at this;lia
  refine⟨λAe H'=>∃m',m'<21 - i/\Ex4 λ(i:Nat)(mm:List Int)(bs:List WS)(tv:Option V)=>uR (Ae=[A? (.ref ia),A? (.ref oa),A? (.ref ha),A? (.ref f),A? (.ref nd),A? (.ref fh),A? (.ref rl),tv]) (j! H H') (H' nd=A? (.dT (dF mm))) (H' rl=A? (.lst (bs.map i!))) (XH (RowAt H') (((bd R head).take i).map λs=>(R s).map (ren (idx (bd R head)))) bs) (At H' (ren (idx (bd R head)) head) fh) (mm <+: bd R head) (bfs R (21 - i) mm i=bd R head) (i<=mm.length) (m'=21 - i),λAe H' h=>h,?_⟩;obtain⟨sn,O0⟩:∃sn,mm[i]?=A? sn:=⟨_,WQ Al⟩
  have RU:(bd R head)[i]?=A? sn:=by
   obtain⟨rr,UR⟩:=Df;rw[<-UR,XJ Al];exact O0
  have RV:sn∈bd R head:=WR RU;refine⟨_,D?,nd,_,D?,OZ,λl ET hl O1=>?_⟩;obtain⟨pa,EN,O2⟩:=A! O1 (uy O0);refine gU hl λH5 s5 e5=>?_;have Cm:=s5 _ _ Jr;have US:=s5 _ _ OZ;have Jj:(bs.map i!).length=i:=by rw[WO];exact BL
  refine⟨_,D?,rl,_,D?,.inl (n! Cm),l,_,_,.ref pa,D?,D?,n! e5,at_nonneg (by lia) (by rw[Jj,Yl,W3,EN];rfl),?_⟩;dsimp only[az];refine⟨_,D?,.inl ⟨D?,_,n! Cm⟩,f,CV,D?,Jq,_,D?,D1 H5 sn pa _ (s4.trans s5) RV (s5 _ _ O2) λr as H6 s6 CB Ce=>⟨r,D?,.inl ⟨⟨_,n! CB⟩,?_⟩⟩⟩;obtain⟨KO,GN⟩:=UQ sn RV;generalize Aj:R sn=row at Ce KO GN;have AO:=Ce.length
  have KP:bfs R (21 - i) mm i=bfs R (21 - (i+1)) (bE mm (cm row)) (i+1):=by
   rw[show 21 - i=(21 - (i+1))+1 by lia,bfs,O0];show bfs R (21 - (i+1)) (bE mm (cm (R sn))) (i+1)=_;rw[Aj]
  rw[KP]at F3;have GO:bE mm (cm row) <+: bd R head:=by rw[<-F3];exact gu _ _ _ _
  have MN:=s6 _ _ US;have KQ:=s6 _ _ Cm;have MO:=s4.trans (s5.trans s6);have O3:r≠nd:=λz=>by rw[z,MN]at CB;cases CB
  intro D hD;have HU:D≠nd:=λz=>by rw[z,MN]at hD;cases hD
  have UT:D≠rl:=λz=>by rw[z,KQ]at hD;cases hD
  have DG:∀(H7:Hp),SameB nd H6 H7->KT H6 H7:=λH7 sb b xs e=>sb b _ (aF e MN (λz=>nomatch z)) e
  refine⟨as.length,λj H7=>An4 (j<=as.length) (SameB nd H6 H7) (H7 nd=A? (.dT (dF (bE mm (cm (row.take j)))))) (Ex1 λ(ds:List WS)=>An2 (H7 D=A? (.lst (ds.map i!))) (Ats H7 ((row.take j).map (ren (idx (bd R head)))) ds)),
   ⟨Xr _,SameB.of (aj hD _),by rw[af HU.symm];exact MN,[],ad,.nil⟩,?_⟩
  rintro j H7 ⟨hj,Js,MP,ds,eD,BQ⟩;have KR:H7 r=A? (.lst (as.map i!)):=Js _ _ O3 CB
  have hdl:ds.length=j:=by
   have:=BQ.length;rw[WO,XB]at this;lia
  by_cases Dq:j=as.length
  .left;refine⟨⟨_,n! KR,by rw[WO,Dq];exact WX _⟩,?_⟩;have Ag:row.take j=row:=by rw[Dq,AO,YA]
   rw[Ag]at BQ MP;have UU:j! H H7:=λb o e=>Js b o (aq e F2) (MO b o e);have O4:H7 rl=A? (.lst (bs.map i!)):=Js _ _ GL.symm KQ;refine⟨D,_,D?,.inl ⟨n! eD,λtp B5=>?_⟩⟩;refine gU B5 λH8 s8 e8=>?_;have RW:=s8 _ _ O4;refine⟨rl,_,_,D?,D?,RW,lbE (by lia),?_⟩;have k9:KT H8 (upd H8 rl (.lst (bs.map i!++[.ref tp]))):=aU RW;have MQ:KT H4 (upd H8 rl (.lst (bs.map i!++[.ref tp]))):=((k! (s5.trans s6)).trans (DG H7 Js)).trans ((k! s8).trans k9);refine⟨21 - (i+1),by lia,i+1,bE mm (cm row),bs++[tp],_,D?,aE (UU.trans s8) D3,by rw[af GL];exact s8 _ _ MP,uAE,?_,FQ.mono MQ,GO,F3,Xh Al (gj _ _).length_le,D?⟩;rw[take_snoc RU,W8];refine r! (v! (λ_ _ e=>H! MQ e) AQ) (.cons ⟨ds,k9 _ _ e8,?_⟩ .nil);dsimp only;rw[Aj];exact BQ.mono ((k! s8).trans k9)
  .right;have Be:j<as.length:=by lia
   refine⟨Be,⟨_,.ref as[j],n! KR,by rw[W3,WQ Be];rfl⟩,?_⟩;rintro y H8 ⟨rfl,hv⟩;have Cr:=hv _ (n! KR);obtain⟨ta,rfl,C7⟩:=aN Cr;obtain⟨t,ht,BE⟩:=(Ce.mono (DG _ Js)).get C7;have BO:row.take (j+1)=row.take j++[t]:=by rw[Yc,ht];rfl
   have KS:bE mm (cm (row.take (j+1)))=bE (bE mm (cm (row.take j))) (stT t):=by
    rw[BO,jF,eG];show bE _ (stT t++[])=_;rw[Ye]
   have Kx:bE mm (cm (row.take (j+1))) <+: bd R head:=by
    refine List.IsPrefix.trans ?_ GO;have:bE mm (cm row)=bE (bE mm (cm (row.take (j+1)))) (cm (row.drop (j+1))):=by rw[<-eG,<-jF,List.take_append_drop]
    rw[this];exact gj _ _
   rw[KS]at Kx;have hzt:=GN t (WR ht);refine⟨_,D?,_,D?,ta,nd,t,_,D?,BE,by lia,MP,Xh Kx.length_le KN,λr' H9 O5 UW h9=>?_⟩;have h9:=h9.i;have UX:ren (idx (bE (bE mm (cm (row.take j))) (stT t))) t=ren (idx (bd R head)) t:=qQ t λx hx=>(rJ Kx (dh.mpr (.inr hx))).symm;rw[UX]at h9;have RX:=O5 _ _ HU eD;have UY:KT H8 H9:=λb xs e=>O5 b _ (aF e MP (λz=>nomatch z)) e;have kA:KT H9 (upd H9 D (.lst (ds.map i!++[.ref r']))):=aU RX;refine⟨_,RX,lbE (by lia),Be,λb o hb e=>?_,?_,ds++[r'],?_,?_⟩
   .rw[af (aq e hD)];exact O5 b o hb (Js b o hb e)
   .rw[af HU.symm,KS];exact UW
   .rw[ad,W8];rfl
   .rw[BO,W8];exact(BQ.mono (UY.trans kA)).append (.cons (h9.mono kA) .nil)
 .have FK:i=mm.length:=by
   by_cases h:i<mm.length
   .exact g! (d! (by rw[WO];lia)) cc
   .lia
  have UZ:bd R head=mm:=by rw[<-F3,wF _ _ _ _ (by lia)]
  have BO:(bd R head).take i=bd R head:=by rw[X1 (by rw[UZ];lia)]
  rw[BO]at AQ;refine⟨_,D?,_,D?,_,D?,_,D?,rl,_,D?,.inl ⟨n! Jr,λrt OU=>⟨lnE rfl,λr CC=>?_⟩⟩⟩;have t1:=aj OU (.tup (bs.map i!));have t2:=aj CC (.tup [.ref ia,.ref oa,.ref fh,.ref rt]);have O6:=t1.trans t2;exact k r fh rt bs _ (s4.trans O6) ad (FQ.mono (k! O6)) (t2 _ _ ad) (v! (λ_ _ e=>H! (k! O6) e) AQ)
inductive i5(vs:List V)(H:Hp)(Q:VK)(_E:XK):Prop
 |mk (b:WS) (v1 v2 v3 v4:V):vs=[.ref b]->H b=A? (.tup [v1,v2,v3,v4])->Q v1 H->i5  vs H Q _E
inductive f6(vs:List V)(H:Hp)(Q:VK)(_E:XK):Prop
 |mk (b:WS) (v1 v2 v3 v4:V):vs=[.ref b]->H b=A? (.tup [v1,v2,v3,v4])->Q v4 H->f6  vs H Q _E
theorem eT:FnOk P w K mg base CX0 1 T.g_18.f T.g_18.d ["book"] i5:=by
 refine T.g_18.F.okA sK λAk A outer s H vs Q E hr h=>?_;obtain⟨b,v1,v2,v3,v4,rfl,e,q⟩:=h;refine⟨_,(am (ay (aw aA (pv 0) ai (λ_ _=>rfl)))),?_⟩
 try dsimp only[Ax,Ai]
 exact⟨_,D?,b,_,0,v1,D?,D?,l! e,at0,q⟩
theorem eg:FnOk P w K mg base CX0 1 T.g_21.f T.g_21.d ["book"] f6:=by
 refine T.g_21.F.okA pw λAk A outer s H vs Q E hr h=>?_;obtain⟨b,v1,v2,v3,v4,rfl,e,q⟩:=h;refine⟨_,(am (ay (aw aA (pv 0) ai (λ_ _=>rfl)))),?_⟩
 try dsimp only[Ax,Ai]
 exact⟨_,D?,b,_,3,v4,D?,D?,l! e,bo (j:=3) rfl,q⟩
inductive kL(vs:List V)(H:Hp)(Q:VK)(_E:XK):Prop
 |mk (b:WS) (v1 v2 v3 v4:V):vs=[.ref b]->H b=A? (.tup [v1,v2,v3,v4])->Q v2 H->kL  vs H Q _E
theorem ko:FnOk P w K mg base CX0 1 T.g_19.f T.g_19.d ["book"] kL:=by
 refine T.g_19.F.okA qO λAk A outer s H vs Q E hr h=>?_;obtain⟨b,v1,v2,v3,v4,rfl,e,q⟩:=h;refine⟨_,(am (ay (aw aA (pv 0) ai (λ_ _=>rfl)))),?_⟩
 try dsimp only[Ax,Ai]
 exact⟨_,D?,b,_,1,v2,D?,D?,l! e,bo (j:=1) rfl,q⟩
inductive hI(vs:List V)(H:Hp)(Q:VK)(_E:XK):Prop
 |mk (b:WS) (v1 v2 v3 v4:V):vs=[.ref b]->H b=A? (.tup [v1,v2,v3,v4])->Q v3 H->hI  vs H Q _E
inductive lh(vs:List V)(H:Hp)(Q:VK)(_E:XK):Prop
 |mk (v:V):vs=[v]->(∀p,H p=B?->Q (.ref p) (upd H p (.tup [.str (W5 ""),v])))->lh  vs H Q _E
inductive fL(vs:List V)(H:Hp)(Q:VK)(_E:XK):Prop
 |mk (s:Int):vs=[.int s]->(∀p,H p=B?->Q (.ref p) (upd H p (.tup [.str q,.int s,.int 0])))->fL  vs H Q _E
theorem d6:FnOk P w K mg base CX0 1 T.g_20.f T.g_20.d ["book"] hI:=by
 refine T.g_20.F.okA qJ λAk A outer s H vs Q E hr h=>?_;obtain⟨b,v1,v2,v3,v4,rfl,e,q⟩:=h;refine⟨_,(am (ay (aw aA (pv 0) ai (λ_ _=>rfl)))),?_⟩
 try dsimp only[Ax,Ai]
 exact⟨_,D?,b,_,2,v3,D?,D?,l! e,bo (j:=2) rfl,q⟩
theorem lW:FnOk P w K mg base CX0 1 T.g_23.f T.g_23.d ["tree"] lh:=by
 refine T.g_23.F.okA vC λAk A outer s H vs Q E hr h=>?_;obtain⟨v,rfl,q⟩:=h;refine⟨_,(am (ay (aQ (ac eM (ac (pv 0) ae))))),?_⟩
 try dsimp only[Ax,Ai]
 exact⟨_,D?,lnE rfl,λp hp=>q p hp⟩
theorem lV:FnOk P w K mg base CX0 1 T.g_24.f T.g_24.d ["state"] fL:=by
 refine T.g_24.F.okA qC λAk A outer s H vs Q E hr h=>?_;obtain⟨v,rfl,q⟩:=h;refine⟨_,(am (ay (aQ (ac (bP (v:=.str (W5 "?")) rfl T.c_CALL_SIGN.choose_spec ⟨_,D?⟩) (ac (pv 0) (ac ai ae)))))),?_⟩
 try dsimp only[Ax,Ai]
 exact⟨_,D?,lnE rfl,λp hp=>q p hp⟩
inductive gO(vs:List V)(H:Hp)(Q:VK)(_E:XK):Prop
 |mk (b ia ra Bq ta:WS) (v2 v3:V) (Av Aw BK:List WS) (ins:List (Xk×Int)) (st:Int) (j:Nat) (k:Xk×Int):vs=[.ref b,.int st,.str k.1]->H b=A? (.tup [.ref ia,v2,v3,.ref ra])->H ia=A? (.tup (Av.map i!))->KsAt H ins Av->aH ins->H ra=A? (.tup (Aw.map i!))->0<=st->Aw[st.toNat]?=A? Bq->H Bq=A? (.tup (BK.map i!))->ins[j]?=A? k->BK[j]?=A? ta->(∀H',j! H H'->Q (.ref ta) H')->gO  vs H Q _E
theorem ml:FnOk P w K mg base CX0 2 T.g_22.f T.g_22.d ["book","state","name"] gO:=by
 refine T.g_22.F.okA gI λAk A outer s H vs Q E hr h=>?_;obtain⟨b,ia,ra,Bq,ta,v2,v3,Av,Aw,BK,ins,st,j,k,rfl,eb,RY,F4,g,era,BP,Aj,Cw,hj,C7,q⟩:=h
 refine⟨_,(ag (gB (i:=3) (N:=["kind"]) (js:=[B?]) (g:=(az 0)) (tt:=bf) (te:=(tOp (ii K) (aZ 0) (tC (.int 0)))) gI.nd rfl (Or.inl rfl) rfl (bU rfl (by decide +kernel) (by decide +kernel) rfl rfl rfl) (dB (pcF T.g_18 (eT T) hr (ac (pv 0) ae))) (λ_ _ _ _ _ _=>(pgN 0 uw)) (aO rfl) (λ_ _ _ _ _ _=>bt) (λ_ _ _ _ _ _=>(aw aA (pv 0) ai (λ_ _=>rfl))))
  (am (ay (aw aA (aw aA (pcF T.g_21 (eg T) hr (ac (pv 0) ae)) (pv 1) (λ_ _=>rfl)) (bC Xb Y4 PySem.F.type_list_index i8 (pv 3) (ac (pv 2) ae)) (λ_ _=>rfl))))),?_⟩
 try dsimp only[Ax,Ai]
 have Br:ins.length=Av.length:=Xa F4;have HV:=g.le;refine⟨_,D?,b,_,_,_,_,D?,eb,ia,D?,⟨_,l! RY⟩,f7 ins (λk=>G! k.1) (l! RY) (by rw[WO];exact Br) (by rw[WO];lia) (λi x z H2 R W' hx hz s2 hR=>?_) (λD H1 hD s1 e1=>?_)⟩
 .obtain⟨ka,rfl,AB⟩:=aN hx;obtain⟨z',CO,ez⟩:=z! F4 AB;rw[hz]at CO;cases CO;exact⟨_,D?,ka,_,0,.str z.1,D?,D?,l! (s2 _ _ ez),at0,hR H2 (.refl _)⟩
 have en:ins.map (λk=>G! k.1)=(ins.map (·.1)).map G!:=by rw[Zc];rfl
 rw[en]at e1;refine⟨_,D?,b,_,_,_,_,D?,s1 _ _ eb,_,D?,ra,_,st,.ref Bq,D?,D?,l! (s1 _ _ era),at_nonneg BP (gmE Aj),_,D?,.inl ⟨D?,_,n! e1⟩,_,D?,?_⟩;refine⟨D,ins.map (·.1),k.1,j,D?,D?,n! e1,by rw[W3,hj];rfl,λi hi hz=>?_,by rw[WO];lia,?_⟩
 .rw[W3]at hz;obtain⟨k',AG,e⟩:=Yi.mp hz;have:=g.nd i j k' k AG hj e;lia
 .exact⟨Bq,_,(j:Int),.ref ta,D?,D?,l! (s1 _ _ Cw),bo (gmE C7),q H1 s1⟩
def mf(k c:Int):List (Xk×V):=[("met_knots",.int k),("met_calls",.int c)]
theorem mkc:¬(("met_knots":Xk)="met_calls"):=by decide +kernel
theorem aad:¬(("met_calls":Xk)="met_knots"):=by decide +kernel
theorem vQ:cz "met_knots" (.int 0) []=[(("met_knots":Xk),o! 0)]:=rfl
theorem wy:cz "met_calls" (.int 0) [(("met_knots":Xk),o! 0)]=mf 0 0:=by
 unfold mf;rw[cz,a! mkc,cz]
theorem wG(k c z:Int):cz "met_knots" (.int z) (mf k c)=mf z c:=by
 unfold mf;rw[cz,b! rfl]
theorem wx(k c z:Int):cz "met_calls" (.int z) (mf k c)=mf k z:=by
 unfold mf;rw[cz,a! mkc,cz,b! rfl]
theorem zf(k c:Int):(mf k c).lookup ("met_knots":Xk)=A? (o! k):=by
 unfold mf;have hb:(("met_knots":Xk) == "met_knots")=true:=beq_iff_eq.mpr rfl;simp only[YI,hb]
theorem za(k c:Int):(mf k c).lookup ("met_calls":Xk)=A? (o! c):=by
 unfold mf;have hb:(("met_calls":Xk) == "met_calls")=true:=beq_iff_eq.mpr rfl;have hc:(("met_calls":Xk) == "met_knots")=false:=beq_eq_false_iff_ne.mpr aad;simp only[YI,hb,hc]
theorem zu{m:Xk}(k c:Int)(h1:(m == ("met_knots":Xk))=CG)(h2:(m == ("met_calls":Xk))=CG):(mf k c).lookup m=none:=by
 unfold mf;simp only[YI,h1,h2]
theorem uW(k c:Int):(mf k c).length<1000:=by show 2<1000;decide
inductive fS(C:WS)(vs:List V)(H:Hp)(Q:VK)(_E:XK):Prop
 |mk (x dx:WS):vs=[.ref x]->H x=A? (.ins C dx [])->(∀H':Hp,(∀b o,b≠x->H b=A? o->H' b=A? o)->H' x=A? (.ins C dx (mf 0 0))->Q .non H')->fS C vs H Q _E
theorem jU:FnOk P w K mg base CX0 1 T.g_16.f T.g_16.d ["self"] (fS T.e_Measure):=by
 refine T.g_16.F.okA jX λAk A outer s H vs Q E hr h=>?_;obtain⟨x,dx,rfl,ex,q⟩:=h
 refine⟨_,(ag (kD (pv 0) ai rfl)
  (am (kD (pv 0) ai rfl))),?_⟩
 try dsimp only[Ax,Ai]
 refine⟨_,D?,x,T.e_Measure,dx,_,D?,ex,T.cl_Measure,T.na_Measure_met_knots,(by show 0<1000;decide),?_⟩;refine⟨_,D?,x,T.e_Measure,dx,_,D?,ad,T.cl_Measure,T.na_Measure_met_calls,(by show 1<1000;decide),?_⟩;refine q _ (λb o hb e=>?_) ?_
 .rw[af hb,af hb];exact e
 .rw[ad,vQ,wy]
inductive fe(C:WS)(vs:List V)(H:Hp)(Q:VK)(_E:XK):Prop
 |mk (x dx pa:WS) (k c row:Int) (t:Th) (rp:Rep):vs=[.ref x,.ref pa,.int row]->H x=A? (.ins C dx (mf k c))->AtG rp H t pa->(∀(k' c':Int)(H':Hp),k'=(if t.isCall=C? then k else k+1)->c'=(if t.isCall=C? then c+1 else c)->(∀b o,b≠x->H b=A? o->H' b=A? o)->H' x=A? (.ins C dx (mf k' c'))->Q (.bl (decide (row<=20/\k'<=400/\c'<=200))) H')->fe C vs H Q _E
theorem jn:FnOk P w K mg base CX0 2 T.g_17.f T.g_17.d ["self","part","row"] (fe T.e_Measure):=by
 refine T.g_17.F.okA jl λAk A outer s H vs Q E hr h=>?_;obtain⟨x,dx,pa,k,c,row,t,rp,rfl,ex,hA,q⟩:=h
 refine⟨_,(ag (cN (bJ (pcF T.g_5 (ok_is_call T) hr (ac (pv 1) ae)) (λ_=>rfl)) (am (mT (pv 0) ai ur)) (am (mT (pv 0) ai ur)))
  (am (ay (og (cV vk (pv 2) (bP (v:=.int (20)) rfl T.c_MOST_ROWS.choose_spec ⟨_,D?⟩) (aP _)) (og (cV vk (cB (pv 0) rfl) (bP (v:=.int (400)) rfl T.c_MOST_KNOTS.choose_spec ⟨_,D?⟩) (aP _)) (qN (cV vk (cB (pv 0) rfl) (bP (v:=.int (200)) rfl T.c_MOST_CALLS.choose_spec ⟨_,D?⟩) (aP _)))))))),?_⟩
 try dsimp only[Ax,Ai]
 refine bS (λAe H'=>Ex2 λ(k' c':Int)=>An5 (k'=(if t.isCall=C? then k else k+1)) (c'=(if t.isCall=C? then c+1 else c)) ((∀b o,b≠x->H b=A? o->H' b=A? o)) (H' x=A? (.ins T.e_Measure dx (mf k' c'))) (Ae=[A? (.ref x),A? (.ref pa),A? (.int row)])) (λkk hk=>?_) ?_
 .refine cR (λb H'=>An2 (H=H') (b=t.isCall)) (λk2 AX=>?_) (λH' hb=>?_) (λH' hb=>?_)
  .exact⟨_,D?,rp,pa,t,D?,hA,_,D?,AX _ _ ⟨D?,D?⟩⟩
  .obtain⟨rfl,hb⟩:=hb;refine⟨_,D?,x,T.e_Measure,dx,_,_,D?,ex,T.cl_Measure,T.na_Measure_met_calls,za k c,c,1,D?,D?,dx,_,ex,uW k c,?_⟩;exact hk _ _ ⟨k,c+1,by rw[b! hb.symm],by rw[b! hb.symm],λb o hb e=>by rw[af hb];exact e,by rw[ad,wx],rfl⟩
  .obtain⟨rfl,hb⟩:=hb;have AV:¬t.isCall=true:=λz=>by rw[<-hb]at z;cases z
   refine⟨_,D?,x,T.e_Measure,dx,_,_,D?,ex,T.cl_Measure,T.na_Measure_met_knots,zf k c,k,1,D?,D?,dx,_,ex,uW k c,?_⟩;exact hk _ _ ⟨k+1,c,by rw[a! AV],by rw[a! AV],λb o hb e=>by rw[af hb];exact e,by rw[ad,wG],rfl⟩
 rintro Ae H' ⟨k',c',AG,Bd,hs,Mh,rfl⟩;have q':=q k' c' H' AG Bd hs Mh;clear q;refine⟨_,D?,_,_,D?,D?,?_⟩;refine⟨_,D?,?_⟩;by_cases c1:row<=20
 .rw[b! (d! c1)];refine⟨_,D?,x,T.e_Measure,dx,_,_,D?,Mh,T.cl_Measure,T.na_Measure_met_knots,zf k' c',_,_,D?,D?,_,D?,?_⟩;by_cases c2:k'<=400
  .rw[b! (d! c2)];refine⟨_,D?,x,T.e_Measure,dx,_,_,D?,Mh,T.cl_Measure,T.na_Measure_met_calls,za k' c',_,_,D?,D?,?_⟩;have e:decide (row<=20/\k'<=400/\c'<=200)=decide (c'<=200):=by simp[c1,c2]
   rw[e]at q';exact q'
  .rw[a! (λz=>c2 (e! z))];rw[c! (λz=>c2 z.2.1)]at q';exact q'
 .rw[a! (λz=>c1 (e! z))];rw[c! (λz=>c1 z.1)]at q';exact q'
inductive jD(vs:List V)(H:Hp)(Q:VK)(_E:XK):Prop
 |mk (b pa ka:WS) (ins outs:List (Xk×Int)) (S S1:Int) (head:Th) (rows:List (List Th)) (p:Th) (kn:Xk) (D6:List Th):vs=[.ref b,.ref pa,.ref ka]->Bk H ins outs head rows b->aH ins->il ins outs S rows->S1<=1000->AtG .i H p pa->AtG .i H (.knot kn D6) ka->Lead ins outs S S1 p (.knot kn D6)->(∀(r Jt RZ:WS)(H':Hp),j! H H'->H' r=A? (.tup [.ref Jt,.ref RZ])->((∃n ks n' HW,AtG .i H' (.knot n ks) Jt/\AtG .i H' (.knot n' HW) RZ/\Lead ins outs S S1 (.knot n ks) (.knot n' HW)/\made (aJ ins rows) p (.knot kn D6)=made (aJ ins rows) (.knot n ks) (.knot n' HW))\/∃c h,AtG .p H' (.call c h) Jt/\made (aJ ins rows) p (.knot kn D6)=.call c h)->Q (.ref r) H')->jD  vs H Q _E
theorem pO:FnOk P w K mg base CX0 3 T.g_40.f T.g_40.d ["second","part","knot"] jD:=by
 refine T.g_40.F.okA cw λAk A outer s H vs Q E hr h=>?_;obtain⟨b,pa,ka,ins,outs,S,S1,head,rows,p,kn,D6,rfl,hb,g,hok,KU,hp,hk,hl,q⟩:=h
 refine⟨_,(ag (dk Xw (bJ (pcF T.g_5 (ok_is_call T) hr (ac (pv 1) ae)) (λ_=>rfl)) (ag (fo (pcF T.g_8 (ok_called_by T) hr (ac (pv 1) ae)) (bw rfl (au (pgN 3 cw.nd) (au (pgN 4 cw.nd) aY))))
  (ag (ao 2 cw.nd (aw aA (pv 2) (av bz (pv 4) ai) (λ_ _=>rfl)))
  (ag (cN (bJ (pcF T.g_5 (ok_is_call T) hr (ac (pv 2) ae)) (λ_=>rfl)) (ag (fo (pcF T.g_8 (ok_called_by T) hr (ac (pv 2) ae)) (bw rfl (au (pgN 5 cw.nd) (au (pgN 6 cw.nd) aY))))
  (am (ay (aQ (ac (aQ (ac (bP (v:=.str (W5 "?")) rfl T.c_CALL_SIGN.choose_spec ⟨_,D?⟩) (ac (aQ (ac (pv 3) (ac (pv 5) ae))) (ac (pv 6) ae)))) (ac (pv 2) ae)))))) bR)
  (am (ao 1 cw.nd (pcF T.g_22 (ml T) hr (ac (pv 0) (ac (pv 3) (ac (aw aA (pv 2) ai (λ_ _=>rfl)) ae))))))))))
  (am (ay (aQ (ac (pv 1) (ac (pv 2) ae)))))),?_⟩
 try dsimp only[Ax,Ai]
 refine⟨λmz Y H2=>Ex7 λ(pa ka:WS)(p2:Th)(n2:Xk)(CY:List Th)(v3 v4:Option V)=>An7 (Y=[A? (.ref b),A? (.ref pa),A? (.ref ka),v3,v4,B?,B?]) (j! H H2) (AtG .i H2 p2 pa) (AtG .i H2 (.knot n2 CY) ka) (Lead ins outs S S1 p2 (.knot n2 CY)) (made (aJ ins rows) p (.knot kn D6)=made (aJ ins rows) p2 (.knot n2 CY)) (mz=(w! n2 CY).tall),⟨_,pa,ka,p,kn,D6,B?,B?,D?,.refl _,hp,hk,hl,D?,D?⟩,?_⟩;rintro mz Y H2 ⟨pa,ka,p2,n2,CY,v3,v4,rfl,s2,CN,AX,Bb,hm,rfl⟩;refine⟨_,D?,.i,pa,p2,D?,CN,_,D?,?_⟩;cases p2 with
 | knot n ks =>
   refine qg ?_;refine⟨_,D?,_,D?,lnE rfl,λr CC=>?_⟩;have s3:=aj CC (.tup [.ref pa,.ref ka]);exact q r pa ka _ (s2.trans s3) ad (.inl ⟨n,ks,n2,CY,CN.mono (k! s3),AX.mono (k! s3),Bb,hm⟩)
 | call st kd =>
   refine qx ?_;refine⟨λAe H'=>∃m',m'<(w! n2 CY).tall/\Ex7 λ(pa ka:WS)(p2:Th)(n2:Xk)(CY:List Th)(v3 v4:Option V)=>An7 (Ae=[A? (.ref b),A? (.ref pa),A? (.ref ka),v3,v4,B?,B?]) (j! H H') (AtG .i H' p2 pa) (AtG .i H' (.knot n2 CY) ka) (Lead ins outs S S1 p2 (.knot n2 CY)) (made (aJ ins rows) p (.knot kn D6)=made (aJ ins rows) p2 (.knot n2 CY)) (m'=(w! n2 CY).tall),λAe H' h=>h,?_⟩;walk_at"aa";obtain⟨HA,Hj,Ca,k',AG,O7⟩:=Bb.call;have DW:(w! n2 CY).kids=CY:=rfl;rw[DW]at AG O7;have Ap:=b8 O7;have KW:=AX;rw[AtG]at KW;obtain⟨JO,GP,AW,O8⟩:=KW;obtain⟨ua,EW,F5⟩:=O8.at AG;refine kZ ?_;refine⟨_,D?,.i,pa,st,kd,D?,CN,λc v BP hc=>⟨c,_,D?,l! ad,D?,_,_,D?,_,_,D?,D?,?_⟩⟩;obtain rfl:v=o! st:=BP;refine gU hc λH3 s3 _=>?_;have CD:=s2.trans s3;have F6:=F5.mono (k! s3);refine⟨_,D?,_,D?,_,_,D?,D?,ka,_,_,.ref ua,D?,D?,l! (s3 _ _ AW),at_nonneg (by lia) (by rw[show(kd+1).toNat=kd.toNat+1 by lia,List.getElem?_cons_succ,W3,EW];rfl),?_⟩;refine⟨_,D?,.i,ua,k',D?,F6,_,D?,?_⟩;cases k' with
   | call l h =>
     refine qx ?_;refine⟨_,D?,.i,ua,l,h,D?,F6,λc2 v2 O9 DC=>⟨c2,_,D?,l! ad,D?,_,_,D?,_,_,D?,D?,?_⟩⟩;obtain rfl:v2=o! l:=O9;refine gU DC λH4 s4 _=>?_;refine⟨_,D?,_,D?,lnE rfl,λpp U0=>⟨_,D?,lnE rfl,λcp U1=>⟨_,D?,lnE rfl,λr CC=>?_⟩⟩⟩;have t1:=aj U0 (.tup [.int st,.int l]);have t2:=aj U1 (.tup [.str (W5 "?"),.ref pp,.int h]);have t3:=aj CC (.tup [.ref cp,.ref ua]);obtain⟨C,hC⟩:=Bb.kid _ O7;rw[p!]at hC;refine q r cp ua _ (CD.trans (s4.trans (t1.trans (t2.trans t3)))) ad (.inr ⟨enc st l,h,?_,?_⟩)
     .rw[AtG];exact⟨.ref pp,t3 _ _ ad,pp,st,l,D?,(t2.trans t3) _ _ ad,D?,HA,hC.1,by lia⟩
     .rw[hm,eY (k:=.knot n2 CY) _ AG,gC]
   | knot n ts =>
     refine qg ?_;walk_at"aa";obtain⟨j,row,p3,hj,Aj,Pa,B9,U2,EL⟩:=Lead.next g hok Bb AG;obtain⟨ia,oa,BW,ra,Av,AA,Aw,bk⟩:=id (hb.mono (k! CD));obtain⟨Bq,BX,BK,Cw,Cf⟩:=A! bk.rw Aj;obtain⟨ta,C7,BE⟩:=Cf.at Pa;have GQ:=F6;rw[AtG]at GQ;obtain⟨hnq,bs,U3,AQ⟩:=GQ;refine kZ ?_;refine⟨_,D?,_,D?,_,D?,ua,_,0,.str n,D?,D?,l! U3,at0,b,ia,ra,Bq,ta,_,_,Av,Aw,BK,ins,st,j,(n,(ts.length:Int)),D?,bk.bk,bk.inE,bk.inK,g,bk.rl,HA,BX,Cw,hj,C7,λH4 s4=>?_⟩;refine⟨(w! n ts).tall,by rw[show(w! n2 CY).tall=ax CY+1 by rw[q!]];lia,ta,ua,p3,n,ts,_,_,D?,CD.trans s4,(BE.g).mono (k! s4),F6.mono (k! s4),U2,by rw[hm,EL],D?⟩
theorem qf:W5 ""≠q:=by decide +kernel
inductive fX(vs:List V)(H:Hp)(Q:VK)(_E:XK):Prop
 |mk (b ha ta:WS) (ins outs:List (Xk×Int)) (S S1:Int) (head:Th) (rows:List (List Th)) (p t:Th):vs=[.ref b,.ref ha,.ref ta]->Bk H ins outs head rows b->aH ins->il ins outs S rows->S1<=1000->AtG .i H p ha->AtG .i H t ta->Lead ins outs S S1 p (.knot (W5 "") [t])->Small (made (aJ ins rows) p (.knot (W5 "") [t]))->(∀(r:WS)(H':Hp),j! H H'->AtG .p H' (made (aJ ins rows) p (.knot (W5 "") [t])) r->Q (.ref r) H')->fX  vs H Q _E
def xx(C:WS)(b ha ta tl mo dx ah:WS)(ins outs:List (Xk×Int))(S S1:Int)(rows:List (List Th))(o:Th)(H:Hp)(m:Nat)(Y:St)(H2:Hp):Prop :=
 Ex9 λ(C8 as:List WS)(done:List Th)(js:List Job)(k c:Int)(c6 c7 c8:Option V)=>An9 (Y=[A? (.ref b),A? (.ref ha),A? (.ref ta),A? (.ref tl),A? (.ref mo),A? (.ref ah),c6,c7,c8]) (j! H H2) (H2 tl=A? (.lst (C8.map i!))) (H2 ah=A? (.lst (as.map i!))) (H2 mo=A? (.ins C dx (mf k c))) (XH (TopAtG .p H2) (done.map (dj F!)) C8) (XH (MJAt H2 ins outs S S1 (aJ ins rows)) js as) (MInv o done js k c) (m=ar (jos js))
theorem jz:FnOk P w K mg base CX0 6 T.g_41.f T.g_41.d ["second","head","pattern"] fX:=by
 refine T.g_41.F.okA bK λAk A outer s H vs Q E hr h=>?_;obtain⟨b,ha,ta,ins,outs,S,S1,head,rows,p,t,rfl,hb,gi,hok,KU,hp,ht,U4,Ju,q⟩:=h
 refine⟨_,(ag (ao 3 bK.nd (aL ae))
  (ag (ao 4 bK.nd (lA ⟨T.mi_Measure.1,T.g_16.me.1,T.g_16.me.2,T.mi_Measure.2⟩ (jU T) (hr.mono (by first|decide|lia)) rfl T.x_Measure T.g_16.b .nil cP))
  (ag (ao 5 bK.nd (aL (ac (aQ (ac (pv 1) (ac (pcF T.g_23 (lW T) hr (ac (pv 2) ae)) (ac ai ae)))) ae)))
  (ag (dk Xw (bJ (pv 5) (λ_=>rfl)) (ag (fo (ox Xb PySem.F.slot_list_pop PySem.F.type_list_pop nO (pv 5)) (bw rfl (au (pgN 6 bK.nd) (au (pgN 7 bK.nd) (au (pgN 8 bK.nd) aY)))))
  (ag (fo (pcF T.g_40 (pO T) hr (ac (pv 0) (ac (pv 6) (ac (pv 7) ae)))) (bw rfl (au (pgN 6 bK.nd) (au (pgN 7 bK.nd) aY))))
  (ag (cN (xG (bJ (oo (pv 4) T.cl_Measure T.g_17.me (jn T) (hr.mono (by first|decide|lia)) T.g_17.b .nil cP (ac (pv 6) (ac (pv 8) ae))) (λ_=>rfl))) (am lg) bR)
  (ag (aS (bC Xb Xq Xp aK (pv 3) (ac (pcF T.g_13 (mr T) hr (ac (pv 6) ae)) ae)))
  (am (aS (bC Xb PySem.F.slot_list_extend PySem.F.type_list_extend nh (pv 5) (ac (bv (N:=["kid","knot","row"]) (js:=[B?,A? 7,A? 8]) (g:=(az 0)) (tt:=bf) (te:=(tK (ba (aZ 0) (ba (aZ 1) (ba (tOp (rI0 λi j=>.int (i+j)) (aZ 2) (tC (.int 1))) d7))))) rfl (bU rfl (by decide +kernel) (by decide +kernel) rfl rfl rfl) (vG rfl T.n_7 (pcF T.g_0 (ok_kids_of T) hr (ac (pv 6) ae))) (λ_ _ _ _ _ _=>(pgN 0 aas)) (aO rfl) (λ_ _ _ _ _ _=>bt) (λ_ _ _ _ _ _=>(aQ (ac (pv 0) (ac (pv 1) (ac (av bz (pv 2) ai) ae)))))) ae)))))))))
  (am (ay (pcF T.g_3 (pZ T) hr (ac (pv 3) ae)))))))),?_⟩
 try dsimp only[Ax,Ai]
 generalize ho:made (aJ ins rows) p (.knot (W5 "") [t])=o at Ju q;have U5:=Ju.size;refine⟨lnE rfl,λtl Ap=>?_⟩;refine gU Ap λH1 s1 e1=>?_;have e1:H1 tl=A? (.lst (([]:List WS).map i!)):=e1;intro mo dx KY GI Ay;refine⟨mo,dx,D?,ad,λH2 k2 Pb=>⟨D?,?_⟩⟩;have s2:j! H1 H2:=λb o e=>k2 b o (aq e KY) (by rw[af (aq e KY),af (aq e GI)];exact e);have Pd:H mo=none:=s1.free KY;have MB:tl≠mo:=λz=>by rw[z]at e1;rw[e1]at KY;cases KY
 refine⟨_,D?,_,D?,.ref ta,D?,λab Dl=>⟨lnE rfl,λtp B5=>⟨lnE rfl,λah Ds=>?_⟩⟩⟩;have El:H ah=none:=(s1.trans s2).free ((aj Dl _).free ((aj B5 _).free Ds));have s3:j! H2 (upd H2 ab (.tup [.str (W5 ""),.ref ta])):=aj Dl _;have e3:(upd H2 ab (.tup [.str (W5 ""),.ref ta])) ab=A? (.tup [.str (W5 ""),.ref ta]):=ad;generalize(upd H2 ab (.tup [.str (W5 ""),.ref ta]))=H3 at s3 e3 B5 Ds |-;have s4:j! H3 (upd H3 tp (.tup [.ref ha,.ref ab,.int 1])):=aj B5 _;have e4:(upd H3 tp (.tup [.ref ha,.ref ab,.int 1])) tp=A? (.tup [.ref ha,.ref ab,.int 1]):=ad;generalize(upd H3 tp (.tup [.ref ha,.ref ab,.int 1]))=H4 at s4 e4 Ds |-;refine gU Ds λH5 s5 e5=>?_;have e5:H5 ah=A? (.lst ([tp].map i!)):=e5;have FP:=s3.trans s4
 have C7:tl≠ah:=λz=>by
  have:=FP _ _ (s2 _ _ e1);rw[z,Ds]at this;cases this
 have HE:mo≠ah:=λz=>by
  have:=FP _ _ Pb;rw[z,Ds]at this;cases this
 have MR:=FP.trans s5;have F7:=s1.trans (s2.trans MR);refine⟨xx T.e_Measure b ha ta tl mo dx ah ins outs S S1 rows o H,⟨_,[],[tp],[],[⟨p,.knot (W5 "") [t],1,o⟩],0,0,B?,B?,B?,D?,F7,MR _ _ (s2 _ _ e1),e5,MR _ _ Pb,.nil,.cons ⟨ha,ab,_,_,s5 _ _ e4,hp.mono (k! F7),D?,?_,U4,ho.symm⟩ .nil,MInv.start,D?⟩,?_⟩
 .rw[AtG];exact⟨qf,[ta],(s4.trans s5) _ _ e3,.cons (ht.mono (k! F7)) .nil⟩
 clear F7 MR FP s5 e5 s4 e4 s3 e3 s2 k2 Pb s1 e1;rintro m Y H2 ⟨C8,as,done,js,k,c,c6,c7,c8,rfl,sm,et,ea,em,hT,hJ,J,rfl⟩;refine⟨_,D?,_,.inl ⟨_,n! ea,D?⟩,?_⟩;refine dA (λcc=>?_) (λcc=>?_)
 .have CW:as≠[]:=by intro z;subst z;simp at cc
  walk_at"aa";obtain⟨AL,x,rfl⟩:∃AL x,as=AL++[x]:=⟨as.dropLast,as.getLast CW,(ZQ CW).symm⟩;obtain⟨F8,j,rfl,R0,hj⟩:=P2.snoc_inv hJ;obtain⟨jp,jk,jr,jo⟩:=j;obtain⟨pa,ka,kn,D6,ex,EN,R1,AB,GR,R3⟩:=hj;refine kZ ?_;dsimp only at ex EN R1 GR R3;subst R1;have hsz:=J.size;have Bs:=wf (F8++[⟨jp,.knot kn D6,jr,jo⟩]);rw[W7]at Bs;have U6:F8.length=AL.length:=Xa R0
  have hdl:done.length=C8.length:=by
   have:=Xa hT;rw[WO]at this;exact this
  refine⟨λAe H'=>∃m',m'<ar (jos (F8++[⟨jp,.knot kn D6,jr,jo⟩]))/\xx T.e_Measure b ha ta tl mo dx ah ins outs S S1 rows o H m' Ae H',λAe H' h=>h,?_⟩;refine⟨_,D?,.inl ⟨D?,_,n! ea⟩,ah,_,.ref x,D?,D?,ea,by simp,?_⟩;have d1:((AL++[x]).map i!).dropLast=AL.map i!:=by simp
  rw[d1];have k3:KT H2 (upd H2 ah (.lst (AL.map i!))):=aU ea;have s3:j! H (upd H2 ah (.lst (AL.map i!))):=aE sm El;have e3:(upd H2 ah (.lst (AL.map i!))) ah=A? (.lst (AL.map i!)):=ad;have t3:(upd H2 ah (.lst (AL.map i!))) tl=A? (.lst (C8.map i!)):=by rw[af C7];exact et
  have m3:(upd H2 ah (.lst (AL.map i!))) mo=A? (.ins T.e_Measure dx (mf k c)):=by rw[af HE];exact em
  generalize(upd H2 ah (.lst (AL.map i!)))=H3 at k3 s3 e3 t3 m3 |-;refine⟨x,_,D?,l! (k3 _ _ ex),D?,_,_,D?,_,_,D?,_,_,D?,D?,?_⟩;refine⟨_,D?,_,D?,_,D?,b,pa,ka,ins,outs,S,S1,head,rows,jp,kn,D6,D?,hb.mono (k! s3),gi,hok,KU,EN.mono k3,AB.mono k3,GR,λr EX GS H4 s4 er KZ=>?_⟩;refine⟨r,_,D?,l! er,D?,_,_,D?,_,_,D?,D?,?_⟩;have t4:=s4 _ _ t3;have a4:=s4 _ _ e3;have m4:=s4 _ _ m3;have GU:=s3.trans s4;have U7:=k3.trans (k! s4);rw[<-R3]at KZ
  walk_at"aa"
  obtain⟨rp,pt,K0,EY,K1,AK,K2⟩:∃(rp:Rep)(pt:Th),AtG rp H4 pt EX/\(∀(H':Hp)(a:WS),TopAtG rp H' (dj F! pt) a->TopAtG .p H' (dj F! jo) a)/\pt.isCall=jo.isCall/\pt.kids.length=jo.kids.length/\(∀(i:Nat)(u ou:Th),pt.kids[i]?=A? u->jo.kids[i]?=A? ou->∀(H':Hp)(a ua:WS),KT H4 H'->H' a=A? (.tup [.ref ua,.ref GS,.int ((jr+1:Nat):Int)])->AtG rp H' u ua->∃k',MJAt H' ins outs S S1 (aJ ins rows) ⟨u,k',jr+1,ou⟩ a):=by
   rcases KZ with⟨n,ks,n',HW,h1,h2,h3,h4⟩|⟨cc,hh,h1,h2⟩
   .refine⟨.i,.knot n ks,h1,?_,?_,?_,?_⟩
    .intro H' a h;rw[h4,dO];obtain⟨ta,g1,g2,g3⟩:=h;exact⟨ta,by rw[g1,WO],g2,g3⟩
    .rw[h4,dO];rfl
    .rw[h4,dO];show ks.length=(ks.map _).length;rw[WO]
    .intro i u ou hu Pe H' a ua kt e EW;rw[h4,dO]at Pe;have K3:(ks.map λp=>made (aJ ins rows) p (.knot n' HW))[i]?=A? ou:=Pe;have B8:ks[i]?=A? u:=hu;rw[W3,B8]at K3;cases K3;exact⟨.knot n' HW,ua,GS,n',HW,e,EW,D?,h2.mono kt,h3.kids u (WR B8),D?⟩
   .refine⟨.p,.call cc hh,h1,?_,?_,?_,?_⟩
    .intro H' a h;rw[h2];exact h
    .rw[h2]
    .rw[h2]
    .intro i u ou hu Pe;have:([]:List Th)[i]?=A? u:=hu;cases this
  refine kZ ?_;dsimp only[az];refine bS (λAe H6=>Ex2 λ(k' c':Int)=>An5 (k'=(if jo.isCall=C? then k else k+1)) (c'=(if jo.isCall=C? then c+1 else c)) ((∀b o,b≠mo->H4 b=A? o->H6 b=A? o)) (H6 mo=A? (.ins T.e_Measure dx (mf k' c'))) (Ae=[A? (.ref b),A? (.ref ha),A? (.ref ta),A? (.ref tl),A? (.ref mo),A? (.ref ah),A? (.ref EX),A? (.ref GS),A? (.int (jr:Nat))])) (λkk CA=>?_) ?_
  .refine cR (λbb H6=>Ex2 λ(k' c':Int)=>An5 (k'=(if jo.isCall=C? then k else k+1)) (c'=(if jo.isCall=C? then c+1 else c)) ((∀b o,b≠mo->H4 b=A? o->H6 b=A? o)) (H6 mo=A? (.ins T.e_Measure dx (mf k' c'))) (bb=!decide (((jr:Nat):Int)<=20/\k'<=400/\c'<=200))) (λk2 AX=>?_) (λH6 hb=>?_) (λH6 hb=>?_)
   .refine⟨_,D?,mo,dx,_,D?,m4,zu k c (by decide +kernel) (by decide +kernel),_,D?,_,D?,mo,dx,EX,k,c,(jr:Nat),pt,rp,D?,m4,K0,λk' c' H6 h1 h2 h3 h4=>?_⟩;rw[K1]at h1 h2;exact⟨_,D?,AX _ _ ⟨k',c',h1,h2,h3,h4,D?⟩⟩
   .obtain⟨k',c',h1,h2,h3,h4,h5⟩:=hb;rw[d! (J.takes Ju h1 h2)]at h5;cases h5
   .walk_at"aa";obtain⟨k',c',h1,h2,h3,h4,h5⟩:=hb;refine kZ ?_;exact CA _ _ ⟨k',c',h1,h2,h3,h4,rfl⟩
  rintro Ae H5 ⟨k',c',AG,Bd,h3,m5,rfl⟩;have Pf:KT H4 H5:=λb xs e=>h3 b _ (λz=>by rw[z,m4]at e;cases e) e;have F7:j! H H5:=λb o e=>h3 b o (aq e Pd) (GU b o e);have t5:H5 tl=A? (.lst (C8.map i!)):=h3 _ _ MB t4;have a5:H5 ah=A? (.lst (AL.map i!)):=h3 _ _ HE.symm a4;have U8:=U7.trans Pf
  refine⟨_,D?,.inl ⟨D?,_,n! t5⟩,_,D?,rp,EX,pt,D?,K0.mono Pf,λF9 H6 s6 Pg=>?_⟩;refine⟨tl,_,_,D?,D?,s6 _ _ t5,lbE (by lia),?_⟩;have k7:KT H6 (upd H6 tl (.lst (C8.map i!++[.ref F9]))):=aU (s6 _ _ t5);have s7:j! H (upd H6 tl (.lst (C8.map i!++[.ref F9]))):=aE (F7.trans s6) Ap;have t7:(upd H6 tl (.lst (C8.map i!++[.ref F9]))) tl=A? (.lst ((C8++[F9]).map i!)):=uAE;have a7:(upd H6 tl (.lst (C8.map i!++[.ref F9]))) ah=A? (.lst (AL.map i!)):=by rw[af C7.symm];exact s6 _ _ a5
  have m7:(upd H6 tl (.lst (C8.map i!++[.ref F9]))) mo=A? (.ins T.e_Measure dx (mf k' c')):=by rw[af MB.symm];exact s6 _ _ m5
  generalize(upd H6 tl (.lst (C8.map i!++[.ref F9])))=H7 at k7 s7 t7 a7 m7 |-;have R4:=(k! s6).trans k7;have R5:=U8.trans R4;have R6:=Pf.trans R4
  have U9:XH (TopAtG .p H7) ((done++[jo]).map (dj F!)) (C8++[F9]):=by
   rw[W8];exact r! (gY R5 hT) (.cons ((EY _ _ Pg).mono k7) .nil)
  refine⟨_,D?,.inl ⟨D?,_,n! a7⟩,_,D?,rp,EX,pt,D?,K0.mono R6,λp3 AH H8 s8 e8 Bv=>?_⟩;have U':=R6.trans (k! s8);have K4:AH.length=jo.kids.length:=by rw[Bv.length];exact AK
  have Oi:=jo.size_eq;have hls:=cL jo.kids
  have Ph:ar (jos (F8++[⟨jp,.knot kn D6,jr,jo⟩]))=ar (jos F8)+jo.size:=by
   rw[iV,aR,ar,ar];rfl
  have MI:((AH.map i!).reverse).length=jo.kids.length:=by rw[X0,WO];exact K4
  refine⟨p3,_,D?,l! e8,j3 (F:=λH(j:Th×Th)a=>∃k',MJAt H ins outs S S1 (aJ ins rows) ⟨j.1,k',jr+1,j.2⟩ a) (xs:=(AH.map i!).reverse) (pt.kids.zip jo.kids).reverse (λH1 H2 z p kt⟨k',h⟩=>⟨k',h.mono kt⟩) (by rw[X0,List.length_zip,MI];lia) (by lia) (λi Hx sx hi=>⟨by rw[X0]at hi;exact hi,_,l! (sx _ _ e8),D?⟩) (λHx sx=>by rw[X0];rfl) (λi Hx x Hy sx hi hy=>⟨hy.1,?_⟩) (λi x z Hx R W' hx CZ sx hR=>?_) (λD Hx GP hD sx eD EO=>?_)⟩
  .rw[X0]at hi;rw[List.getElem?_reverse hi];exact hy.2 _ (l! (sx _ _ e8))
  .have hi2:i<jo.kids.length:=by
    have:=(glE hx);lia
   have EZ:(pt.kids.zip jo.kids).length=jo.kids.length:=by rw[List.length_zip];lia
   rw[List.getElem?_reverse (by lia),EZ]at CZ;have K5:i<(AH.map i!).length:=by rw[WO];lia
   rw[List.getElem?_reverse K5,WO,K4]at hx;walk_at"aa";obtain⟨xa,rfl,FW⟩:=aN hx;obtain⟨u,hu,Va⟩:=Bv.get FW;obtain⟨HX,OK⟩:=YQ.mp CZ;refine kZ ?_;rw[hu]at HX;obtain rfl:=(Xl HX);refine⟨_,D?,_,D?,_,D?,_,_,D?,D?,lnE rfl,λp4 Pj=>?_⟩;have s9:=aj Pj (.tup [.ref xa,.ref GS,.int ((jr:Nat)+1)]);have MQ:=U'.trans (k! (sx.trans s9));exact hR _ p4 s9 (K2 _ _ _ hu OK _ p4 xa MQ (by rw[ad];rfl) (Va.mono (k! (sx.trans s9))))
  .have R7:=Xa EO;rw[X0,List.length_zip]at R7
   obtain⟨Dn,HY,Vb⟩:∃Dn:List Job,(jos Dn=jo.kids.reverse/\∀i∈Dn,i.r=jr+1)/\XH (MJAt Hx ins outs S S1 (aJ ins rows)) Dn GP:=by
    have hz:((pt.kids.zip jo.kids).reverse).map (·.2)=jo.kids.reverse:=by
     rw[List.map_reverse,List.map_snd_zip (by lia)]
    rw[<-hz];generalize(pt.kids.zip jo.kids).reverse=zs at EO;clear R7 hz eD sx hD;induction EO with
    |nil=>exact⟨[],⟨D?,λi hi=>by cases hi⟩,.nil⟩
    | cons h _ ih =>
      obtain⟨k',h⟩:=h;obtain⟨Dn,⟨h1,h2⟩,h3⟩:=ih;exact⟨_::Dn,⟨by show _::jos Dn=_;rw[h1];rfl,λi hi=>(W6.mp hi).elim (λe=>by rw[e]) (h2 i)⟩,.cons h h3⟩
   refine⟨ah,D,_,_,D?,D?,sx _ _ (s8 _ _ a7),eD,Z9 (br (by rw[WO,WO];lia)),?_⟩;have a9:=sx _ _ (s8 _ _ a7);have k9:KT Hx (upd Hx ah (.lst (AL.map i!++GP.map i!))):=aU a9;have R8:=(k! (s8.trans sx)).trans k9;refine⟨ar (jos (F8++Dn)),?_,C8++[F9],AL++GP,done++[jo],F8++Dn,k',c',_,_,_,D?,aE (s7.trans (s8.trans sx)) El,by rw[af C7];exact sx _ _ (s8 _ _ t7),by rw[ad,W8],by rw[af HE];exact sx _ _ (s8 _ _ m7),gY R8 U9,r! (v! (λ_ _ e=>e.mono (R5.trans R8)) R0) (v! (λ_ _ e=>e.mono k9) Vb),J.next AG Bd HY.1 HY.2,D?⟩;rw[Ph];have:jos (F8++Dn)=jos F8++jo.kids.reverse:=by rw[<-HY.1];unfold jos;rw[W8]
   rw[this,aR,lH];lia
 .have hz:as=[]:=by
   cases as with
   |nil=>rfl
   |cons y ys=>simp at cc
  subst hz;have HZ:js=[]:=Yx.mp (Xa hJ);subst HZ;have Jm:=J.done;subst Jm;obtain⟨b1,b2⟩:=rb F! o;rw[sd]at b1;have hsz:=D! o;refine⟨_,D?,.p,tl,C8,_,o,D?,et,hT,by rw[WO];lia,b2,?_,b1,λr H3 s3 KH=>q r H3 (sm.trans s3) KH⟩;intro u hu;obtain⟨x,hx,e⟩:=Xn.mp hu;cases x with
  |knot nm us=>cases e
  | call sn kn =>
    cases e;rw[t!];decide
def nd_joined:Z4:=match bI lZ with
 | [_,st,_,_]=>st
 |_=>.Pass ⟨0,0,0,0⟩
def ndP:Z4->Arguments
 |.FunctionDef _ p _ _ _ _ _ _ _ _=>p
 |_=>ck lZ
def ndB:Z4->List Z4
 |.FunctionDef _ _ b _ _ _ _ _ _ _=>b
 |_=>[]
def ndS:Z4->ZD
 |.FunctionDef _ _ _ _ _ _ s _ _ _=>s
 |_=>aI lZ
def ndPos:Z4->Pos
 |.FunctionDef _ _ _ _ _ _ _ _ _ p=>p
 |_=>⟨0,0,0,0⟩
def ndQ:Xk:="joined.<locals>."++"patterns_of"
inductive nM(f c' c1 c2:WS)(vs:List V)(H:Hp)(Q:VK)(_E:XK):Prop
 |mk (pa b1 b2:WS) (st lo:Int) (ins mid outs:List (Xk×Int)) (S1 S2:Int) (Ac Ad:Th) (Ab Aa:List (List Th)):vs=[.ref pa]->NestAt H f c' "patterns_of" ndQ (ndP nd_joined) (ndB nd_joined) (ndS nd_joined) [("second",c2),("first",c1)]->CodeAt H c' ndQ->CellAt H c1 (.ref b1)->CellAt H c2 (.ref b2)->H pa=A? (.tup [.int st,.int lo])->Bk H ins mid Ac Ab b1->Bk H mid outs Ad Aa b2->JoinOk ins mid outs S1 S2 Ac Ad Ab Aa->0<=st->st<S2->0<=lo->lo<S1->(∀(r:WS)(as:List WS)(H':Hp),j! H H'->H' r=A? (.lst (as.map i!))->AtsG .p H' ((rowOf Ab lo).map λt=>made (aJ mid Aa) (.call st 0) (sol t)) as->Q (.ref r) H')->nM f c' c1 c2 vs H Q _E
theorem n5:(["pair","first","second","state","lower"]:List Xk).Nodup:=by decide +kernel
theorem wv(c1 c2:WS)(Ay:c1≠c2):mH ["pair","first","second","state","lower"] ["pair"] ["first","second"] "state" [("second",c2),("first",c1)] (ndS nd_joined):=by
 refine⟨D?,D?,D?,n5,D?,by decide +kernel,by decide +kernel,λn=>rfl,λh=>rfl,λx h=>?_,λx h=>?_,λx y c h1 h2=>?_,by decide +kernel,λx h=>?_⟩
 .have hm:=X7 h;have Ag:∀z∈(ndS nd_joined).names,z.2=.cell->z.1="state":=by decide +kernel
  exact Ag _ hm rfl
 .have hm:=X7 h;have Ag:∀z∈(ndS nd_joined).names,z.2=.free->z.1="first"\/z.1="second":=by decide +kernel
  rcases Ag _ hm rfl with e|e
  .exact⟨c1,by rw[show x="first" from e];rfl⟩
  .exact⟨c2,by rw[show x="second" from e];rfl⟩
 .have e1:=X7 h1;have e2:=X7 h2;rcases W6.mp e1 with e1|e1 <;> rcases W6.mp e2 with e2|e2
  .exact(h! Prod.fst e1).trans (h! Prod.fst e2).symm
  .have e2:=W0.mp e2;exact g! ((show c=c1 from h! Prod.snd e2).symm.trans (show c=c2 from h! Prod.snd e1)) Ay
  .have e1:=W0.mp e1;exact g! ((show c=c1 from h! Prod.snd e1).symm.trans (show c=c2 from h! Prod.snd e2)) Ay
  .have e1:=W0.mp e1;have e2:=W0.mp e2;exact(h! Prod.fst e1).trans (h! Prod.fst e2).symm
 .have hm:=X7 h;have Ag:∀z∈(ndS nd_joined).names,z.2=.free->(z.1 == ("state":Xk))=false:=by decide +kernel
  exact Ag _ hm rfl
include T in
theorem wX(f c' c1 c2:WS)(Ay:c1≠c2):FvOk P w K mg base CX0 9 f (nM f c' c1 c2):=by
 refine vP (k:=8) (c':=c') (name:="patterns_of") (qual:=ndQ) (params:=ndP nd_joined) (body:=ndB nd_joined) (wv c1 c2 Ay) (λdoc pm DY us hl=>?_) (λvs H Q E h=>?_) λA outer s H vs Q E hr h=>?_
 .obtain⟨u,rfl⟩:=us1 hl;rfl
 .obtain⟨pa,b1,b2,st,lo,ins,mid,outs,S1,S2,Ac,Ad,Ab,Aa,rfl,hn,hc,h1,h2,_⟩:=h;refine⟨D?,hn,hc,λb hb=>?_,λx c hx=>?_⟩
  .rcases W6.mp hb with e|e
   .obtain⟨φ,z,_⟩:=h2;exact⟨φ,by rw[e];exact z⟩
   .obtain⟨φ,z,_⟩:=h1;exact⟨φ,by rw[W0.mp e];exact z⟩
  .have e1:=X7 hx;rcases W6.mp e1 with e|e
   .cases e;exact⟨_,h2⟩
   .cases W0.mp e;exact⟨_,h1⟩
 .obtain⟨pa,b1,b2,st,lo,ins,mid,outs,S1,S2,Ac,Ad,Ab,Aa,rfl,hn,hc,h1,h2,B3,Em,D7,J,HA,Hj,JT,Ck,kq⟩:=h
  have hx:Exts (([("second",c2),("first",c1)]:List (Xk×WS)).map (·.2)) H:=λb hb=>by
   rcases W6.mp hb with e|e
   .obtain⟨φ,z,_⟩:=h2;exact⟨φ,by rw[e];exact z⟩
   .obtain⟨φ,z,_⟩:=h1;exact⟨φ,by rw[W0.mp e];exact z⟩
  have kf:=yi hx
  refine⟨_,[.ref b1,.ref b2],.cons ⟨c1,D?,h1⟩ (.cons ⟨c2,D?,h2⟩ .nil),(ag (fo (pv 0) (bw rfl (au (pgN 3 n5) (au (pgN 4 n5) aY))))
   (am (ay (bv (N:=["pattern","second","state"]) (js:=[B?,A? 2,A? 3]) (g:=(az 0)) (tt:=bf) (te:=(d3 fX [] E0 (ba (aZ 1) (ba (d3 fL [] E0 (ba (aZ 2) d7)) (ba (aZ 0) d7))))) rfl (bU rfl (by decide +kernel) (by decide +kernel) rfl rfl rfl) (dB (aw aA (pcF T.g_21 (eg T) hr (ac (pv 1) ae)) (pv 4) (λ_ _=>rfl))) (λ_ _ _ _ _ _=>(pgN 0 z9)) (aO rfl) (λ_ _ _ _ _ _=>bt) (λ_ _ _ _ _ _=>(pcF T.g_41 (jz T) hr (ac (pv 1) (ac (pcF T.g_24 (lV T) hr (ac (pv 2) ae)) (ac (pv 0) ae))))))))),?_⟩
  generalize Vc:fgt (([("second",c2),("first",c1)]:List (Xk×WS)).map (·.2)) H=H0 at kf |-;have Pk:=Em.mono kf;have Pl:=D7.mono kf;walk_at"aa";obtain⟨ia,oa,ha,ra,Av,AA,Aw,bk⟩:=id Pk;obtain⟨row,Aj,Cw,hlen,Ah⟩:=cx J.f1 JT Ck;obtain⟨Bq,BX,BK,F',Cf⟩:=A! bk.rw Aj;refine kZ ?_;have Ju:=J.smR lo st JT Ck HA Hj;rw[Cw]at Ju kq;have Ap:BK.length=row.length:=Cf.length;have hle:=J.le;refine⟨_,D?,pa,_,D?,l! (kf _ _ B3),D?,_,_,D?,_,_,D?,D?,?_⟩;refine⟨_,D?,b1,_,_,_,_,D?,bk.bk,_,D?,ra,_,_,.ref Bq,D?,D?,l! bk.rl,at_nonneg JT (gmE BX),?_⟩;refine⟨Bq,D?,⟨_,l! F'⟩,j3 (F:=AtG .p) (xs:=BK.map i!) (row.map λt=>made (aJ mid Aa) (.call st 0) (sol t)) (λH1 H2 z p kt h=>h.mono kt) (by rw[WO,WO];lia) (by rw[WO];lia) (λi Hx sx hi=>⟨_,_,l! (sx _ _ F'),WQ hi⟩) (λHx sx=>⟨_,l! (sx _ _ F'),WX _⟩) (λi Hx x Hy sx hi hy=>⟨hy.1,hy.2 _ (l! (sx _ _ F'))⟩) (λi y z Hx R W' hy CZ sx hR=>?_) (λD Hx as hD sx eD EO=>?_)⟩
  .obtain⟨ua,rfl,EW⟩:=aN hy;obtain⟨u,hu,F5⟩:=Cf.get EW;rw[W3,hu]at CZ;cases CZ;have Cc:=WR hu;obtain⟨C,hC⟩:=Ah u Cc;refine⟨_,D?,_,D?,st,D?,λca B6=>⟨_,D?,?_⟩⟩;refine gU B6 λH3 s3 e3=>?_;have k3:=k! (sx.trans s3);refine⟨b2,ca,ua,mid,outs,S2,S1,Ad,Aa,.call st 0,u,D?,Pl.mono k3,J.gm,J.f2,J.s1,?_,(F5.g).mono k3,Lead.sol (iu HA Hj) hC,Ju u Cc,λr H4 s4 K6=>hR H4 r (s3.trans s4) K6⟩;rw[AtG];exact⟨_,e3,D?⟩
  .intro Mv;subst Vc;have sR:=uz (H:=H) Mv;refine kq D as _ (ub sx) (sR _ _ eD) ?_;exact(show AtsG .p Hx _ as from jO EO).mono (k! sR)
inductive nj(tp:WS)(vs:List V)(H:Hp)(Q:VK)(_E:XK):Prop
 |mk (b1 b2 K7 MS GV K8 MT K9 GW K':WS) (Ia Ib E1 Ic Ie E2:List WS) (ins mid outs:List (Xk×Int)) (S1 S2:Int) (Ac Ad:Th) (Ab Aa:List (List Th)):vs=[.ref b1,.ref b2]->BookAt H ins mid Ac Ab b1 K7 MS GV K8 Ia Ib E1->BookAt H mid outs Ad Aa b2 MT K9 GW K' Ic Ie E2->JoinOk ins mid outs S1 S2 Ac Ad Ab Aa->TabSt H tp (ndPos nd_joined) ndQ->(∀(r fh rl:WS)(HS:List WS)(H':Hp),SameT tp H H'->TabSt H' tp (ndPos nd_joined) ndQ->H' r=A? (.tup [.ref K7,.ref K9,.ref fh,.ref rl])->At H' (ren (idx (bd (joR mid Aa Ab) (joH mid Aa Ad Ac))) (joH mid Aa Ad Ac)) fh->H' rl=A? (.tup (HS.map i!))->XH (RowAt H') ((bd (joR mid Aa Ab) (joH mid Aa Ad Ac)).map λs=>(joR mid Aa Ab s).map (ren (idx (bd (joR mid Aa Ab) (joH mid Aa Ad Ac))))) HS->Q (.ref r) H')->nj tp vs H Q _E
theorem ok_joined(L:Lam mg base T.g_42.tc T.g_42.tp):FnOk P w K mg base CX0 13 T.g_42.f T.g_42.d ["first","second"] (nj T.g_42.tp):=by
 refine T.g_42.F.okT T.g_42.th jg (λvs H Q E h=>?_) (λA outer s H vs Q E hr h=>?_)
 .obtain⟨b1,b2,K7,MS,GV,K8,MT,K9,GW,K',Ia,Ib,E1,Ic,Ie,E2,ins,mid,outs,S1,S2,Ac,Ad,Ab,Aa,rfl,_⟩:=h;rfl
 obtain⟨b1,b2,K7,MS,GV,K8,MT,K9,GW,K',Ia,Ib,E1,Ic,Ie,E2,ins,mid,outs,S1,S2,Ac,Ad,Ab,Aa,rfl,Em,D7,J,ES,q⟩:=h
 refine⟨_,(ag (cN (aV (yC (B:=150) (im hr)) (pcF T.g_19 (ko T) hr (ac (pv 0) ae)) (pcF T.g_18 (eT T) hr (ac (pv 1) ae)) (aP _)) (am lg) bR)
  (ag (vF (i:=2) (name:="patterns_of") (pos:=ndPos nd_joined) (params:=ndP nd_joined) (body:=ndB nd_joined) (scope:=ndS nd_joined) (cl:=[("second",s.1.1.size+2),("first",s.1.1.size+1)]) L jg.nd rfl (Or.inl rfl) rfl rfl)
  (ag (ao 3 jg.nd (pcF T.g_41 (jz T) hr (ac (pv 1) (ac (pcF T.g_20 (d6 T) hr (ac (pv 1) ae)) (ac (pcF T.g_20 (d6 T) hr (ac (pv 0) ae)) ae)))))
  (am (ay (vt (cl:=[("second",s.1.1.size+2),("first",s.1.1.size+1)]) (px T) (hr.mono (by decide)) rfl T.g_39.m T.g_39.F.kp T.g_39.b (tz rfl rfl rfl rfl rfl rfl) (ac (de (eT T) (hr.mono (by decide)) rfl T.g_18.m T.g_18.F.kp T.g_18.b .nil cP (ac (pv 0) ae)) (ac (de (ko T) (hr.mono (by decide)) rfl T.g_19.m T.g_19.F.kp T.g_19.b .nil cP (ac (pv 1) ae)) (ac (pv 3) (ac (pv 2) ae)))))))))),?_⟩
 try dsimp only[Ax,Ai]
 refine⟨_,D?,b1,_,_,_,_,D?,Em.bk,_,D?,b2,_,_,_,_,D?,D7.bk,MS,MT,_,_,_,_,D?,D?,l! Em.outE,l! D7.inE,vd Em.outK,vd D7.inK,?_,λbb Ob=>⟨_,D?,?_⟩⟩
 .exact Xh (p7 mid) (by decide)
 have:bb=false:=by
  cases bb with
  |false=>rfl
  |true=>exact g! rfl (Ob.mp rfl)
 subst this;refine qg ?_;refine⟨ES,λf c' H1 s1 et Co La hf=>?_⟩;have Jv:KT H H1:=ES.kt s1;refine⟨_,D?,_,D?,b2,_,_,_,_,D?,Jv _ _ D7.bk,_,D?,b1,_,_,_,_,D?,Jv _ _ Em.bk,?_⟩;refine⟨b2,GW,GV,mid,outs,S2,S1,Ad,Aa,Ad,Ac,D?,⟨_,_,_,_,_,_,_,D7.mono Jv⟩,J.gm,J.f2,J.s1,(D7.hd.g).mono Jv,(Em.hd.g).mono Jv,Lead.sol J.h2 J.h1,J.smH,λhd H2 s2 Kn=>?_⟩;have Pm:KT H H2:=Jv.trans (k! s2);refine⟨_,D?,b1,_,_,_,_,D?,Pm _ _ Em.bk,_,D?,b2,_,_,_,_,D?,Pm _ _ D7.bk,_,D?,_,D?,λH3 trk=>?_⟩;have Pn:=trk.same;have Vd:KT H H3:=Pm.trans (k! Pn);have E3:=s2.trans Pn;have Ig:CellAt H3 (s.1.1.size+1) (.ref b1):=trk.2.2.2 0 "first" (.ref b1) _ rfl rfl rfl;have Ih:CellAt H3 (s.1.1.size+2) (.ref b2):=trk.2.2.2 1 "second" (.ref b2) _ rfl rfl rfl;have Ve:(joH mid Aa Ad Ac).size<=1000:=Xh J.smH.size (by decide);refine⟨K7,K9,hd,f,joH mid Aa Ad Ac,joR mid Aa Ab,nM f c' (s.1.1.size+1) (s.1.1.size+2),D?,Kn.mono (k! Pn),Ve,J.len,λx hx=>?_,wX T f c' _ _ (XD (Nat.lt_succ_self _)),λH4 x pa Z s4 hx B3 hZ=>?_,λr fh rl HS H4 s4 e4 h4 Lb Pj=>?_⟩
 .obtain⟨h1,h2⟩:=J.small (J.met x hx);exact⟨h1,λt ht=>Xh (h2 t ht).size (by decide)⟩
 .walk_at"aa";obtain⟨a1,a2,a3,a4⟩:=J.met x hx;refine kZ ?_;have k4:=Vd.trans (k! s4);exact⟨pa,b1,b2,x / 1000,x%1000,ins,mid,outs,S1,S2,Ac,Ad,Ab,Aa,D?,(La.mono E3).mono s4,(Co.mono E3).mono s4,Ig.mono s4,Ih.mono s4,B3,⟨_,_,_,_,_,_,_,Em.mono k4⟩,⟨_,_,_,_,_,_,_,D7.mono k4⟩,J,a1,a2,a3,a4,λr as H5 s5 er Ce=>hZ r as H5 s5 er Ce⟩
 .refine⟨λb' hb=>?_,q r fh rl HS _ (s1.trans ((s2.trans (trk.back s4)).t _)) ((show TabSt H1 _ _ _ from .inr ⟨c',et,Co⟩).mono (s2.trans (trk.back s4))) (trk.kt s4 _ _ e4) (h4.mono (trk.kt s4)) (trk.kt s4 _ _ Lb) (v! (λ_ _ e=>H! (trk.kt s4) e) Pj)⟩;obtain⟨φ,e⟩:=trk.2.2.1 b' hb;rw[e,s4 _ _ e]
end G
open G (i5 eT f6 eg hI d6 lh lW fL lV)
inductive dX(vs:List V)(H:Hp)(Q:VK)(_E:XK):Prop
 |mk (a:WS) (t:Th):vs=[.ref a]->At H t a->(∀(r:WS)(as:List WS)(H':Hp),j! H H'->H' r=A? (.tup (as.map i!))->Ats H' t.kids as->Q (.ref r) H')->dX  vs H Q _E
inductive cH(vs:List V)(H:Hp)(Q:VK)(_E:XK):Prop
 |mk (a:WS) (t:Th):vs=[.ref a]->At H t a->Q (.bl t.isCall) H->cH  vs H Q _E
inductive bY(vs:List V)(H:Hp)(Q:VK)(_E:XK):Prop
 |mk (a:WS) (sn kn:Int):vs=[.ref a]->At H (.call sn kn) a->(∀p,H p=B?->Q (.ref p) (upd H p (.tup [.int sn,.int kn])))->bY  vs H Q _E
inductive ff(vs:List V)(H:Hp)(Q:VK)(_E:XK):Prop
 |mk (a:WS) (t:Th):vs=[.ref a]->At H t a->t.size<=100000->(∀(r:WS)(as:List WS)(H':Hp),j! H H'->H r=B?->H' r=A? (.lst (as.map i!))->Ats H' t.walk as->Q (.ref r) H')->ff  vs H Q _E
theorem ok_kids_of:FnOk P w K mg base CX0 1 T.g_0.f T.g_0.d ["thing"] dX:=(G.ok_kids_of T).imp λvs H Q E h=>by
 obtain⟨a,t,e,h,k⟩:=h;exact⟨.i,a,t,e,h.g,λr as H' s e' hs=>k r as H' s e' hs.i⟩
theorem ok_is_call:FnOk P w K mg base CX0 1 T.g_5.f T.g_5.d ["thing"] cH:=(G.ok_is_call T).imp λvs H Q E h=>by
 obtain⟨a,t,e,h,k⟩:=h;exact⟨.i,a,t,e,h.g,k⟩
theorem ok_called_by:FnOk P w K mg base CX0 1 T.g_8.f T.g_8.d ["call"] bY:=(G.ok_called_by T).imp λvs H Q E h=>by
 obtain⟨a,s,c,e,h,k⟩:=h;exact⟨.i,a,s,c,e,h.g,λp v hv hp=>by rw[show v=.int s from hv];exact k p hp⟩
theorem ok_walked:FnOk P w K mg base CX0 2 T.g_1.f T.g_1.d ["thing"] ff:=(G.ok_walked T).imp λvs H Q E h=>by
 obtain⟨a,t,e,h,hz,k⟩:=h;exact⟨.i,a,t,e,h.g,hz,λr as H' s n e' hs=>k r as H' s n e' hs.i⟩
inductive mG(vs:List V)(H:Hp)(Q:VK)(_E:XK):Prop
 |mk (a:WS) (t:Th):vs=[.ref a]->At H t a->t.size<=100000->t.tall<=100000->(∀(r:WS)(as:List WS)(H':Hp),j! H H'->H r=B?->H' r=A? (.lst (as.map i!))->PsAt H' (t.pl []) as->Q (.ref r) H')->mG  vs H Q _E
theorem tH:FnOk P w K mg base CX0 2 T.g_2.f T.g_2.d ["thing"] mG:=by
 refine T.g_2.F.okA dQ λAk A outer s H vs Q E hr h=>?_;obtain⟨a,t,rfl,hA,hsz,Ap,k⟩:=h
 refine⟨_,(ag (ao 1 dQ.nd (aL ae))
  (ag (ao 2 dQ.nd (aL (ac (aQ (ac (aQ ae) (ac (pv 0) ae))) ae)))
  (ag (dk Xw (bJ (pv 2) (λ_=>rfl)) (ag (fo (ox Xb PySem.F.slot_list_pop PySem.F.type_list_pop nO (pv 2)) (bw rfl (au (pgN 3 dQ.nd) (au (pgN 4 dQ.nd) aY))))
  (ag (aS (bC Xb Xq Xp aK (pv 1) (ac (aQ (ac (pv 3) (ac (pv 4) ae))) ae)))
  (ag (gB (i:=5) (N:=["number","kid","place"]) (js:=[B?,B?,A? 3]) (g:=(qp K 2 (fP (az 0) (fP (az 1) qD)))) (tt:=bf) (te:=(tK (ba (tOp (tX K) (aZ 2) (tK (ba (aZ 0) d7))) (ba (aZ 1) d7)))) dQ.nd rfl (Or.inl rfl) rfl (bU rfl (by decide +kernel) (by decide +kernel) rfl rfl rfl) (rA rfl T.n_1 (pcF T.g_0 (ok_kids_of T) hr (ac (pv 4) ae))) (λ_ _ _ _ _ _=>(bw rfl (au (pgN 0 yX) (au (pgN 1 yX) aY)))) (ld (cZ bL (aO rfl) (cZ bL (aO rfl) kT))) (λ_ _ _ _ _ _=>bt) (λ_ _ _ _ _ _=>(aQ (ac (av io (pv 2) (aQ (ac (pv 0) ae))) (ac (pv 1) ae)))))
  (am (aS (bC Xb PySem.F.slot_list_extend PySem.F.type_list_extend nh (pv 2) (ac (rc wK (pv 5)) ae))))))))
  (am (ay (pv 1)))))),?_⟩
 try dsimp only[Ax,Ai]
 refine⟨lnE rfl,λmt DF=>?_⟩;have s1:j! H (upd H mt (.lst [])):=aj DF _;have Po:(upd H mt (.lst [])) mt=A? (.lst []):=ad;generalize upd H mt (.lst [])=H1 at s1 Po |-;refine⟨lnE rfl,λp0 Vf=>?_⟩;refine⟨_,D?,lnE rfl,λp1 GX=>?_⟩;refine⟨lnE rfl,λah Ds=>?_⟩;have s2:j! H1 (upd (upd H1 p0 (.tup [])) p1 (.tup [.ref p0,.ref a])):=(aj Vf _).trans (aj GX _);have e1:(upd (upd H1 p0 (.tup [])) p1 (.tup [.ref p0,.ref a])) p1=A? (.tup [.ref p0,.ref a]):=ad;have e0:(upd (upd H1 p0 (.tup [])) p1 (.tup [.ref p0,.ref a])) p0=A? (.tup []):=aj GX _ _ _ ad;generalize(upd (upd H1 p0 (.tup [])) p1 (.tup [.ref p0,.ref a]))=H2 at s2 e1 e0 Ds |-;have Ii:H1 ah=none:=s2.free Ds;have El:H ah=none:=s1.free Ii;have Ay:ah≠mt:=λz=>by rw[z,Po]at Ii;cases Ii
 refine⟨λm Y H3=>Ex7 λ(ms as:List WS)(Ms As:List (List Int×Th))(c3 c4 c5:Option V)=>An9 (Y=[A? (.ref a),A? (.ref mt),A? (.ref ah),c3,c4,c5]) (j! H H3) (H3 mt=A? (.lst (ms.map i!))) (H3 ah=A? (.lst (as.map i!))) (PsAt H3 Ms ms) (PsAt H3 As as) (Ms++plP As.reverse=t.pl []) ((∀p∈As,p.1.length+p.2.tall<=100000)) (m=szP As),⟨_,[],[p1],[],[([],t)],B?,B?,B?,D?,?_,?_,?_,.nil,.cons ⟨p0,a,?_,?_,?_⟩ .nil,?_,?_,D?⟩,?_⟩
 .exact aE (s1.trans s2) El
 .rw[af Ay.symm];exact s2 _ _ Po
 .rw[ad];rfl
 .exact aj Ds _ _ _ e1
 .exact aj Ds _ _ _ e0
 .exact hA.mono (k! (aE (s1.trans s2) El))
 .simp[plP]
 .intro p hp;rw[W0]at hp;subst hp;simpa using Ap
 rintro m Y H3 ⟨ms,as,Ms,As,c3,c4,c5,rfl,sm,em,ea,a1,a2,hw,hb,rfl⟩
 have hlen:ms.length+szP As<=100000:=by
  have h1:=h! Ze hw;rw[W7,rL,Th.pl_len,rf]at h1;have h2:=Xa a1;lia
 refine⟨_,D?,_,.inl ⟨_,n! ea,D?⟩,?_⟩;refine dA (λc=>?_) (λc=>?_)
 .refine⟨λAe H'=>∃m',m'<szP As/\Ex7 λ(ms as:List WS)(Ms As:List (List Int×Th))(c3 c4 c5:Option V)=>An9 (Ae=[A? (.ref a),A? (.ref mt),A? (.ref ah),c3,c4,c5]) (j! H H') (H' mt=A? (.lst (ms.map i!))) (H' ah=A? (.lst (as.map i!))) (PsAt H' Ms ms) (PsAt H' As as) (Ms++plP As.reverse=t.pl []) ((∀p∈As,p.1.length+p.2.tall<=100000)) (m'=szP As),λAe H' h=>h,?_⟩;have CW:as≠[]:=by intro z;subst z;simp at c
  walk_at"aa";obtain⟨AL,b,rfl⟩:∃AL b,as=AL++[b]:=⟨as.dropLast,as.getLast CW,(ZQ CW).symm⟩;obtain⟨Us,⟨pre,x⟩,rfl,a3,pa,ta,eb,B3,C7⟩:=P2.snoc_inv a2;refine kZ ?_;have R9:szP (Us++[(pre,x)])=szP Us+x.size:=by rw[fC,szP,szP];rfl
  have UG:=x.size_eq;rw[R9]at hlen;have Vg:=hb (pre,x) (by simp);simp only at Vg B3 C7;refine⟨_,D?,.inl ⟨D?,_,n! ea⟩,ah,_,.ref b,D?,D?,ea,by simp,?_⟩;have d1:((AL++[b]).map i!).dropLast=AL.map i!:=by simp
  rw[d1];have k1:KT H3 (upd H3 ah (.lst (AL.map i!))):=aU ea;have GY:j! H (upd H3 ah (.lst (AL.map i!))):=aE sm El;have Lc:(upd H3 ah (.lst (AL.map i!))) mt=A? (.lst (ms.map i!)):=by rw[af Ay.symm];exact em
  have Pp:(upd H3 ah (.lst (AL.map i!))) ah=A? (.lst (AL.map i!)):=ad;generalize(upd H3 ah (.lst (AL.map i!)))=H4 at k1 GY Lc Pp |-;refine⟨b,_,D?,l! (k1 _ _ eb),D?,_,_,D?,_,_,D?,D?,?_⟩
  refine⟨_,D?,.inl ⟨D?,_,n! Lc⟩,_,D?,_,D?,lnE rfl,λpr B4=>?_⟩;have Pq:mt≠pr:=aq Lc B4;refine⟨mt,_,_,D?,D?,aj B4 _ _ _ Lc,lbE (by lia),?_⟩;have Pr:(upd H4 pr (.tup [.ref pa,.ref ta])) mt=A? (.lst (ms.map i!)):=aj B4 _ _ _ Lc;have k2:KT H4 (upd (upd H4 pr (.tup [.ref pa,.ref ta])) mt (.lst (ms.map i!++[.ref pr]))):=(eK B4).trans (aU Pr);have Pt:j! H (upd (upd H4 pr (.tup [.ref pa,.ref ta])) mt (.lst (ms.map i!++[.ref pr]))):=aE (aE GY (GY.free B4)) DF;have R':(upd (upd H4 pr (.tup [.ref pa,.ref ta])) mt (.lst (ms.map i!++[.ref pr]))) mt=A? (.lst ((ms++[pr]).map i!)):=uAE;have Jw:(upd (upd H4 pr (.tup [.ref pa,.ref ta])) mt (.lst (ms.map i!++[.ref pr]))) ah=A? (.lst (AL.map i!)):=by rw[af Ay,af (aq Pp B4)];exact Pp
  have HG:(upd (upd H4 pr (.tup [.ref pa,.ref ta])) mt (.lst (ms.map i!++[.ref pr]))) pr=A? (.tup [.ref pa,.ref ta]):=by rw[af Pq.symm,ad]
  generalize(upd (upd H4 pr (.tup [.ref pa,.ref ta])) mt (.lst (ms.map i!++[.ref pr])))=H5 at k2 Pt R' Jw HG |-;have Pu:KT H3 H5:=k1.trans k2;have Pw:=Pu _ _ B3
  refine⟨_,D?,ta,x,D?,C7.mono Pu,λr ks H6 s6 er Ba=>⟨r,D?,⟨_,l! er⟩,?_⟩⟩;have AK:ks.length=x.kids.length:=Ba.length;have MU:=cL x.kids;intro D hD;have Px:=s6 _ _ Pw;refine⟨ks.length,λj H7=>An3 (j<=ks.length) (j! H6 H7) (Ex1 λ(bs:List WS)=>An2 (H7 D=A? (.lst (bs.map i!))) (PsAt H7 ((eQ pre 0 x.kids).take j) bs)),⟨Xr _,aj hD _,[],ad,.nil⟩,?_⟩;rintro j H7 ⟨hj,s7,bs,eD,AQ⟩;by_cases Dq:j=ks.length
  .left;refine⟨⟨_,l! (s7 _ _ er),by rw[WO];exact Dq.symm⟩,?_⟩;have Ag:(eQ pre 0 x.kids).take j=eQ pre 0 x.kids:=by rw[Dq,AK,<-lD pre 0 x.kids,YA]
   rw[Ag]at AQ;have Py:=s7 _ _ (s6 _ _ Jw);have Sa:=s7 _ _ (s6 _ _ R')
   have BL:bs.length=x.kids.length:=by
    have:=Xa AQ;rw[lD]at this;exact this.symm
   refine⟨_,D?,.inl ⟨D?,_,n! Py⟩,_,D?,D,_,D?,n! eD,λl hl=>?_⟩;have NY:ah≠l:=aq Py hl;have Ij:mt≠l:=aq Sa hl;have Sb:(upd H7 l (.lst (bs.map i!).reverse)) ah=A? (.lst (AL.map i!)):=by rw[af NY];exact Py
   have q3:AL.length=Us.length:=(Xa a3).symm;have q4:=rN Us;refine⟨ah,l,_,_,D?,D?,Sb,ad,bi ?_,?_⟩
   .rw[WO,X0,WO];lia
   have k8:KT H7 (upd (upd H7 l (.lst (bs.map i!).reverse)) ah (.lst (AL.map i!++(bs.map i!).reverse))):=(eK hl).trans (aU Sb);have MV:KT H3 (upd (upd H7 l (.lst (bs.map i!).reverse)) ah (.lst (AL.map i!++(bs.map i!).reverse))):=Pu.trans ((k! (s6.trans s7)).trans k8);refine⟨szP (Us++(eQ pre 0 x.kids).reverse),?_,ms++[pr],AL++bs.reverse,Ms++[(pre,x)],Us++(eQ pre 0 x.kids).reverse,_,_,_,D?,?_,?_,?_,?_,?_,?_,?_,D?⟩
   .rw[fC,rf,pA,R9];lia
   .exact aE (aE ((Pt.trans s6).trans s7) ((Pt.trans s6).trans s7 |>.free hl)) El
   .rw[af Ay.symm,af Ij];exact Sa
   .rw[ad,W8,List.map_reverse]
   .exact r! (a1.mono MV) (.cons ⟨pa,ta,k8 _ _ (s7 _ _ (s6 _ _ HG)),MV _ _ B3,C7.mono MV⟩ .nil)
   .exact r! (PsAt.mono MV a3) (P2.reverse (PsAt.mono k8 AQ))
   .rw[<-hw,YN,YO,YO,YY,lI,o0];show Ms++([(pre,x)]++(pls pre 0 x.kids++plP Us.reverse))=Ms++plP ((pre,x)::Us.reverse);rw[plP,x.pl_eq pre];rfl
   .intro p hp;rcases Xd.mp hp with hp|hp
    .exact hb p (XA _ hp)
    .obtain⟨g1,g2⟩:=oP pre 0 x.kids p (List.mem_reverse.mp hp);have:=oj g2;lia
  .right;have Be:j<ks.length:=by lia
   refine⟨Be,⟨_,.ref ks[j],l! (s7 _ _ er),by rw[W3,WQ Be];rfl⟩,?_⟩;rintro y H8 ⟨p,v,hp,rfl,rfl,hv⟩;have Cr:=hv _ (l! (s7 _ _ er));obtain⟨kd,rfl,DW⟩:=aN Cr;obtain⟨tk,BO,Vh⟩:=Ba.get DW;have s8:j! H7 (upd H7 p (.tup [.int (j:Nat),.ref kd])):=aj hp _;refine⟨p,_,D?,l! ad,D?,_,_,D?,_,_,D?,D?,?_⟩;generalize(upd H7 p (.tup [.int (j:Nat),.ref kd]))=H8 at s8 |-;refine⟨_,D?,_,D?,lnE rfl,λn1 Vi=>?_⟩;refine gU Vi λH9 s9 e9=>?_;refine vz (s9 _ _ (s8 _ _ (s7 _ _ Px))) e9 (by rw[WO];show pre.length+1<=1000000;lia) λn2 Ex Ew Vj=>?_;refine⟨_,D?,lnE rfl,λn3 Ld=>?_⟩;have Hd:j! H7 (upd Ex n3 (.tup [.ref n2,.ref kd])):=(s8.trans (s9.trans Ew)).trans (aj Ld _);have Le:=Hd _ _ eD;refine⟨_,Le,br ?_,Be,?_,bs++[n3],?_,?_⟩
   .have:=Xa AQ;rw[XB]at this;rw[WO];lia
   .exact aE (s7.trans Hd) hD
   .rw[ad,W8];rfl
   .have Ft:KT (upd Ex n3 (.tup [.ref n2,.ref kd])) (upd (upd Ex n3 (.tup [.ref n2,.ref kd])) D (.lst (bs.map i!++[.ref n3]))):=aU Le;rw[Yc,o7 pre 0 x.kids j tk BO];refine r! (PsAt.mono ((k! Hd).trans Ft) AQ) (.cons ⟨n2,kd,Ft _ _ ad,Ft _ _ (aj Ld _ _ _ ?_),?_⟩ .nil)
    .rw[Vj,W8,Int.zero_add];rfl
    .exact Vh.mono ((k! (s7.trans Hd)).trans Ft)
 .have hz:as=[]:=by
   cases as with
   |nil=>rfl
   |cons y ys=>simp at c
  subst hz;have HJ:As=[]:=Yx.mp (Xa a2);subst HJ;refine⟨_,D?,k mt ms H3 sm DF em ?_⟩;have BN:Ms=t.pl []:=by simpa[plP]using hw
  rw[<-BN];exact a1
inductive kO(vs:List V)(H:Hp)(Q:VK)(_E:XK):Prop
 |mk (a:WS) (t:Th):vs=[.ref a]->At H t a->t.tall<=150->Q (.bl t.isHole) H->kO  vs H Q _E
theorem qX:FnOk P w K mg base CX0 1 T.g_6.f T.g_6.d ["thing"] kO:=by
 refine T.g_6.F.okA qG λAk A outer s H vs Q E hr h=>?_;obtain⟨a,t,rfl,hA,Ap,k⟩:=h;refine⟨_,(am (ay (cV (xH (B:=150) (im hr)) (pv 0) (bP (v:=.ref T.k_HOLE.a) rfl T.k_HOLE.c rfl) (aP _)))),?_⟩
 try dsimp only[Ax,Ai]
 refine⟨_,D?,?_⟩;cases t with
 | knot n ks =>
   rw[At]at hA;walk_at"aa";obtain⟨hn,as,h1,h2⟩:=hA;refine kZ ?_;rw[q!]at Ap;have hd:=kK ks;refine⟨a,T.k_HOLE.a,_,_,.str n::dvs ks,[.str star],D?,D?,l! h1,T.k_HOLE.q _,.cons (by rw[DAt]) h2.dvs,.cons (by rw[DAt];rfl) .nil,by rw[cu,Dv.deep];lia,λb hb=>?_⟩
   have e:b=(w! n ks).isHole:=by
    rw[ZR,hb];show _↔decide (n=star/\ks=[])=C?;rw[decide_eq_true_iff];constructor
    .intro z;have z1:=List.cons.inj z;refine⟨Dv.str.inj z1.1,?_⟩;cases ks with
     |nil=>rfl
     |cons x xs=>rw[dvs]at z1;cases z1.2
    .rintro⟨z1,z2⟩;rw[z1,z2,dvs]
   rw[e];exact k
 | call sn kn =>
   rw[At]at hA;refine⟨a,T.k_HOLE.a,_,_,[.str q,.int sn,.int kn],[.str star],D?,D?,l! hA,T.k_HOLE.q _,.cons (by rw[DAt]) (.cons (by rw[DAt]) (.cons (by rw[DAt]) .nil)),.cons (by rw[DAt];rfl) .nil,by simp[cu,Dv.deep],λb hb=>?_⟩
   have e:b=(F! sn kn).isHole:=by
    show b=CG;cases b with
    |false=>rfl
    |true=>exact g! (hb.mp rfl) (by simp)
   rw[e];exact k
inductive hV(vs:List V)(H:Hp)(Q:VK)(_E:XK):Prop
 |mk (a:WS) (t:Th):vs=[.ref a]->At H t a->t.tall<=150->Q (.bl t.isKnot) H->hV  vs H Q _E
theorem qt:FnOk P w K mg base CX0 2 T.g_7.f T.g_7.d ["thing"] hV:=by
 refine T.g_7.F.okA qi λAk A outer s H vs Q E hr h=>?_;obtain⟨a,t,rfl,hA,Ap,k⟩:=h;refine⟨_,(am (ay (og (vj (pcF T.g_5 (ok_is_call T) hr (ac (pv 0) ae))) (qN (vj (pcF T.g_6 (qX T) hr (ac (pv 0) ae))))))),?_⟩
 try dsimp only[Ax,Ai]
 refine⟨_,D?,a,t,D?,hA,_,D?,_,D?,?_⟩;refine dA (λc=>?_) (λc=>?_)
 .refine⟨_,D?,a,t,D?,hA,Ap,_,D?,?_⟩;have e:t.isKnot=!t.isHole:=by unfold C!;rw[c];rfl
  rw[e]at k;exact k
 .have e:t.isKnot=false:=by unfold C!;rw[Bool.eq_false_iff.mpr c];rfl
  rw[e]at k;exact k
inductive jN(vs:List V)(H:Hp)(Q:VK)(_E:XK):Prop
 |mk (a:WS) (t:Th):vs=[.ref a]->At H t a->t.size<=100000->t.tall<=100000->(∀(r:WS)(as:List WS)(H':Hp),j! H H'->H' r=A? (.lst (as.map i!))->CsAt H' (callsOf (t.pl [])) as->Q (.ref r) H')->jN  vs H Q _E
theorem jA:FnOk P w K mg base CX0 3 T.g_11.f T.g_11.d ["pattern"] jN:=by
 refine T.g_11.F.okA pS λAk A outer s H vs Q E hr h=>?_;obtain⟨a,t,rfl,hA,hsz,Ap,k⟩:=h;refine⟨_,(am (ay (bv (N:=["place","part"]) (js:=[B?,B?]) (g:=(qp K 2 (fP (az 0) (fP (az 1) qD)))) (tt:=(λY H Q=>(d3 cH [] E0 (ba (aZ 1) d7)) Y H λx H1=>∃k,vq K x H1 k/\Q k H1)) (te:=(tK (ba (aZ 0) (ba (d3 bY [] E0 (ba (aZ 1) d7)) d7)))) rfl (bU rfl (by decide +kernel) (by decide +kernel) rfl rfl rfl) (cj (pcF T.g_2 (tH T) hr (ac (pv 0) ae))) (λ_ _ _ _ _ _=>(bw rfl (au (pgN 0 yJ) (au (pgN 1 yJ) aY)))) (ld (cZ bL (aO rfl) (cZ bL (aO rfl) kT))) (λ_ _ _ _ _ _=>gA (bJ (pcF T.g_5 (ok_is_call T) hr (ac (pv 1) ae)) (λ_=>rfl))) (λ_ _ _ _ _ _=>(aQ (ac (pv 0) (ac (pcF T.g_8 (ok_called_by T) hr (ac (pv 1) ae)) ae))))))),?_⟩
 try dsimp only[Ax,Ai]
 refine⟨_,D?,a,t,D?,hA,hsz,Ap,λr as H1 s1 nr er C6=>⟨r,D?,⟨_,n! er⟩,?_⟩⟩;have AO:(t.pl []).length=as.length:=Xa C6;have AZ:=Th.pl_len [] t;intro D hD;refine⟨as.length,λj H2=>An3 (j<=as.length) (j! H1 H2) (Ex1 λ(bs:List WS)=>An2 (H2 D=A? (.lst (bs.map i!))) (CsAt H2 (callsOf ((t.pl []).take j)) bs)),⟨Xr _,aj hD _,[],ad,.nil⟩,?_⟩;rintro j H2 ⟨hj,s2,bs,eD,AQ⟩;by_cases Dq:j=as.length
 .left;refine⟨⟨_,n! (s2 _ _ er),by rw[WO,Dq];exact WX _⟩,?_⟩;have Ag:(t.pl []).take j=t.pl []:=by rw[Dq,<-AO,YA]
  rw[Ag]at AQ;exact k D bs H2 (s1.trans s2) eD AQ
 .right;have Be:j<as.length:=by lia
  refine⟨Be,⟨_,.ref as[j],n! (s2 _ _ er),by rw[W3,WQ Be];rfl⟩,?_⟩;rintro y H3 ⟨rfl,hv⟩;have Cr:=hv _ (n! (s2 _ _ er));walk_at"aa";obtain⟨pr,rfl,B4⟩:=aN Cr;obtain⟨⟨p,u⟩,OS,pa,ta,e1,e2,e3⟩:=z! (C6.mono (k! s2)) B4;refine kZ ?_;simp only at e2 e3;have BO:(t.pl []).take (j+1)=(t.pl []).take j++[(p,u)]:=by rw[Yc,OS];rfl
  have BL:bs.length<=j:=by
   have g1:=Xa AQ;have g2:=eJ ((t.pl []).take j);rw[XB]at g2;lia
  refine⟨pr,_,D?,l! e1,D?,_,_,D?,_,_,D?,D?,?_⟩;refine⟨_,D?,ta,u,D?,e3,_,D?,?_⟩;cases u with
  | knot n ks =>
    refine qg ⟨Be,s2,bs,eD,?_⟩;rw[BO,dW];show CsAt H3 (callsOf ((t.pl []).take j)++[]) bs;rw[Ye];exact AQ
  | call sn kn =>
    refine qx ?_;refine⟨_,D?,_,D?,ta,sn,kn,D?,e3,λca B6=>⟨lnE rfl,λn3 Ld=>?_⟩⟩;have s4:j! H3 (upd (upd H3 ca (.tup [.int sn,.int kn])) n3 (.tup [.ref pa,.ref ca])):=(aj B6 _).trans (aj Ld _);have GJ:=s4 _ _ eD;refine⟨_,GJ,lbE (by lia),Be,aE (s2.trans s4) hD,bs++[n3],?_,?_⟩
    .rw[ad,W8];rfl
    .have k5:KT (upd (upd H3 ca (.tup [.int sn,.int kn])) n3 (.tup [.ref pa,.ref ca])) (upd (upd (upd H3 ca (.tup [.int sn,.int kn])) n3 (.tup [.ref pa,.ref ca])) D (.lst (bs.map i!++[.ref n3]))):=aU GJ;rw[BO,dW];exact r! (CsAt.mono ((k! s4).trans k5) AQ) (.cons ⟨pa,ca,k5 _ _ ad,k5 _ _ (s4 _ _ e2),k5 _ _ (aj Ld _ _ _ ad)⟩ .nil)
inductive ow(vs:List V)(H:Hp)(Q:VK)(_E:XK):Prop
 |mk (a:WS) (t:Th):vs=[.ref a]->At H t a->t.size<=100000->(∀H',j! H H'->Q (.int (t.tall:Nat)) H')->ow  vs H Q _E
theorem wW:FnOk P w K mg base CX0 2 T.g_4.f T.g_4.d ["tree"] ow:=by
 refine T.g_4.F.okA fg λAk A outer s H vs Q E hr h=>?_;obtain⟨a,t,rfl,hA,hsz,k⟩:=h
 refine⟨_,(ag (ao 1 fg.nd (aL (ac (pv 0) ae)))
  (ag (ao 2 fg.nd ai)
  (ag (dk Xw (bJ (pv 1) (λ_=>rfl)) (ag (yB (i:=2) fg.nd rfl (Or.inl rfl) ai yt)
  (ag (ao 3 fg.nd (aL ae))
  (ag (bx Xw rfl (cj (pv 1)) (pgN 4 fg.nd) (am (aS (bC Xb PySem.F.slot_list_extend PySem.F.type_list_extend lQ (pv 3) (ac (pcF T.g_0 (ok_kids_of T) hr (ac (pv 4) ae)) ae)))))
  (am (ao 1 fg.nd (pv 3)))))))
  (am (ay (pv 2)))))),?_⟩
 try dsimp only[Ax,Ai]
 refine⟨_,D?,lnE rfl,λlv Jx=>?_⟩;refine⟨λm Y H2=>Ex6 λ(lv:WS)(as:List WS)(Ls:List Th)(r:Int)(c3 c4:Option V)=>An7 (Y=[A? (.ref a),A? (.ref lv),A? (.int r),c3,c4]) (j! H H2) (H2 lv=A? (.lst (as.map i!))) (Ats H2 Ls as) (ar Ls<=100000) (r+(ax Ls:Nat)=(t.tall:Nat)) (m=ax Ls),⟨_,lv,[a],[t],0,B?,B?,D?,aj Jx _,ad,.cons (hA.mono (eK Jx)) .nil,by rw[ar,ar];lia,by rw[ax,ax];lia,D?⟩,?_⟩;rintro m Y H2 ⟨lv,as,Ls,r,c3,c4,rfl,s2,MW,Lf,hz,CC,rfl⟩;refine⟨_,D?,_,.inl ⟨_,n! MW,D?⟩,?_⟩;refine dA (λc=>?_) (λc=>?_)
 .have Ay:Ls≠[]:=by
   intro z;subst z;rw[Ats]at Lf;subst Lf;simp at c
  have ht:=iK Ay;have Ba:=fk Ls;have Fq:as.length=Ls.length:=Lf.length;refine⟨λAe H'=>∃m',m'<ax Ls/\Ex6 λ(lv:WS)(as:List WS)(Ls:List Th)(r:Int)(c3 c4:Option V)=>An7 (Ae=[A? (.ref a),A? (.ref lv),A? (.int r),c3,c4]) (j! H H') (H' lv=A? (.lst (as.map i!))) (Ats H' Ls as) (ar Ls<=100000) (r+(ax Ls:Nat)=(t.tall:Nat)) (m'=ax Ls),λAe H' h=>h,?_⟩;refine⟨_,D?,_,_,D?,D?,?_⟩;refine⟨lnE rfl,λbn MX=>?_⟩;have BL:lv≠bn:=aq MW MX;refine⟨_,D?,lv,D?,⟨_,n! (aj MX _ _ _ MW)⟩,?_⟩
  refine dS (K:=K) (a:=lv) (xs:=as.map i!) (λi Y H3=>Ex2 λc4 bs=>An4 (Y=[A? (.ref a),A? (.ref lv),A? (.int (r+1)),A? (.ref bn),c4]) (j! H2 H3) (H3 bn=A? (.lst (bs.map i!))) (Ats H3 (bp (Ls.take i)) bs))
   ⟨c4,[],rfl,aj MX _,ad,.nil⟩ (λi Y H3 _⟨_,_,_,s3,_,_⟩=>n! (s3 _ _ MW)) ?_ ?_
  .rintro i x Y H3 hx ⟨c4,bs,rfl,s3,MY,AQ⟩;obtain⟨xa,rfl,FW⟩:=aN hx;obtain⟨tx,HM,HP⟩:=(Lf.mono (k! s3)).get FW;have BO:Ls.take (i+1)=Ls.take i++[tx]:=by rw[Yc,HM];rfl
   refine⟨_,D?,.inl ⟨D?,_,n! MY⟩,_,D?,xa,tx,D?,HP,λkr AH H4 s4 Ik Jy=>?_⟩;have Lg:=s4 _ _ MY
   have hle:bs.length+AH.length<=100000:=by
    have g1:=AQ.length;have g2:=Jy.length;have g3:(bp (Ls.take (i+1))).length<=ar (bp (Ls.take (i+1))):=cL _;have g4:=fk (Ls.take (i+1));have g5:=lL (i+1) Ls
    have g6:bp (Ls.take (i+1))=bp (Ls.take i)++tx.kids:=by
     rw[BO,fY,cX];show _++(tx.kids++bp [])=_;unfold bp;simp
    rw[g6,W7]at g3;rw[g6]at g4;lia
   refine⟨bn,kr,_,_,D?,D?,Lg,l! Ik,bi (by rw[WO,WO];lia),?_⟩;have k5:KT H4 (upd H4 bn (.lst (bs.map i!++AH.map i!))):=aU Lg;refine⟨_,bs++AH,D?,aE (s3.trans s4) MX,by rw[ad,W8],?_⟩;rw[BO,fY,cX];refine(AQ.mono ((k! s4).trans k5)).append ?_;have:tx.kids++bp []=tx.kids:=by unfold bp;simp
   rw[this];exact Jy.mono k5
  .rintro Y H3 ⟨c4,bs,rfl,s3,MY,AQ⟩;rw[WO,Fq,YA]at AQ;refine⟨_,D?,ax (bp Ls),by lia,bn,bs,bp Ls,r+1,_,_,D?,s2.trans s3,MY,AQ,by lia,by lia,D?⟩
 .have Fj:as=[]:=by
   cases as with
   |nil=>rfl
   |cons y ys=>simp at c
  subst Fj;have HJ:Ls=[]:=Yx.mp Lf.length.symm;subst HJ;rw[ax]at CC;refine⟨_,D?,?_⟩;have:r=((t.tall:Nat):Int):=by lia
  rw[this];exact k H2 s2
def qB:Sp:=ow
theorem qz:FnOk P w K mg base CX0 3 T.g_10.f T.g_10.d ["pattern"] qB:=by
 refine T.g_10.F.okA qI λAk A outer s H vs Q E hr h=>?_;obtain⟨a,t,rfl,hA,hsz,k⟩:=h;refine⟨_,(am (ay (pcF T.g_4 (wW T) hr (ac (pv 0) ae)))),?_⟩
 try dsimp only[Ax,Ai]
 exact⟨_,D?,a,t,D?,hA,hsz,k⟩
inductive jM(vs:List V)(H:Hp)(Q:VK)(_E:XK):Prop
 |mk (a:WS) (t:Th):vs=[.ref a]->At H t a->t.size<=100000->t.tall<=150->(∀H',j! H H'->Q (.int ((t.walk.filter C!).length:Nat)) H')->jM  vs H Q _E
theorem oW:FnOk P w K mg base CX0 3 T.g_9.f T.g_9.d ["pattern"] jM:=by
 refine T.g_9.F.okA o6 λAk A outer s H vs Q E hr h=>?_;obtain⟨a,t,rfl,hA,hsz,Ap,k⟩:=h;refine⟨_,(am (ay (aD aB rfl T.n_3 XE (ac (bv (N:=["part"]) (js:=[B?]) (g:=(az 0)) (tt:=(λY H Q=>(d3 hV [] E0 (ba (aZ 0) d7)) Y H λx H1=>∃k,vq K x H1 k/\Q k H1)) (te:=(aZ 0)) rfl (bU rfl (by decide +kernel) (by decide +kernel) rfl rfl rfl) (cj (pcF T.g_1 (ok_walked T) hr (ac (pv 0) ae))) (λ_ _ _ _ _ _=>(pgN 0 zr)) (aO rfl) (λ_ _ _ _ _ _=>gA (bJ (pcF T.g_7 (qt T) hr (ac (pv 0) ae)) (λ_=>rfl))) (λ_ _ _ _ _ _=>(pv 0))) ae)))),?_⟩
 try dsimp only[Ax,Ai]
 refine⟨_,D?,a,t,D?,hA,hsz,λr as H1 s1 nr er hw=>⟨r,D?,⟨_,n! er⟩,?_⟩⟩;have DR:as.length=t.walk.length:=hw.length;have UK:=D! t;have EZ:(t.walk.zip as).length=(as.map i!).length:=by rw[List.length_zip,WO];lia
 have GZ:∀(i:Nat)(x:V)(z:Th×WS),(as.map i!)[i]?=A? x->(t.walk.zip as)[i]?=A? z->x=.ref z.2/\At H1 z.1 z.2/\z.1.tall<=150:=by
  intro i x z hx hz;obtain⟨xa,rfl,FW⟩:=aN hx;obtain⟨tx,HM,HP⟩:=hw.get FW;rw[YQ]at hz;obtain⟨g1,g2⟩:=hz;rw[HM]at g1;rw[FW]at g2;cases g1;cases g2;refine⟨D?,HP,?_⟩;have:=tQ t z.1 (WR HM);lia
 refine oF (t.walk.zip as) (λz=>z.1.isKnot) (λz=>.ref z.2) (n! er) EZ (by rw[WO];lia) (λi x z H2 R hx hz sm r=>?_) (λi x z H2 R hx hz _ sm r=>?_) (λD hD=>?_)
 .obtain⟨rfl,g2,g3⟩:=GZ i x z hx hz;exact⟨_,D?,z.2,z.1,D?,g2.mono (k! sm),g3,_,D?,r⟩
 .obtain⟨rfl,g2,g3⟩:=GZ i x z hx hz;exact⟨_,D?,r⟩
 .refine⟨D,_,D?,.inl (n! ad),?_⟩
  have e:(((t.walk.zip as).filter λz=>z.1.isKnot).map λz=>i! z.2).length=(t.walk.filter C!).length:=by
   rw[WO];have h1:t.walk=(t.walk.zip as).map Prod.fst:=by rw[List.map_fst_zip (by lia)]
   have h2:t.walk.filter C!=((t.walk.zip as).filter λz=>z.1.isKnot).map Prod.fst:=by
    conv=>lhs;rw[h1]
    rw[List.filter_map];rfl
   rw[h2,WO]
  rw[e];exact k _ (s1.trans (aj hD _))
inductive fV(vs:List V)(H:Hp)(Q:VK)(_E:XK):Prop
 |mk (a:WS) (t:Th):vs=[.ref a]->At H t a->t.size<=10000->t.tall<=150->(∀(r d:WS)(es:CLs)(H':Hp),j! H H'->H d=B?->H' r=A? (.tup [.int ((t.walk.filter C!).length:Nat),.ref d])->H' d=A? (.dT (dE es))->TimesE (callsOf (t.pl [])) es->Q (.ref r) H')->fV  vs H Q _E
inductive fM(vs:List V)(H:Hp)(Q:VK)(_E:XK):Prop
 |mk (a:WS) (t:Th):vs=[.ref a]->At H t a->t.size<=10000->t.tall<=150->(∀(r d:WS)(es:CLs)(H':Hp),j! H H'->H d=B?->H' r=A? (.tup [.int (t.tall:Nat),.ref d])->H' d=A? (.dT (dE es))->DepthE (callsOf (t.pl [])) es->Q (.ref r) H')->fM  vs H Q _E
theorem kb{l:List α}{i:Nat}{x:α}(h:l[i]?=A? x):l.take (i+1)=l.take i++[x]:=by rw[Yc,h];rfl
theorem qd:FnOk P w K mg base CX0 4 T.g_32.f T.g_32.d ["pattern"] fV:=by
 refine T.g_32.F.okA eI λAk A outer s H vs Q E hr h=>?_;obtain⟨a,t,rfl,hA,hsz,Ap,k⟩:=h
 refine⟨_,(ag (ao 1 eI.nd fT)
  (ag (bx Xw rfl (cj (pcF T.g_11 (jA T) hr (ac (pv 0) ae))) (bw rfl (au (pgN 2 eI.nd) (au (pgN 3 eI.nd) aY))) (am (fj (di hr) (pv 1) (pv 3) (av bz (oR (di hr) (pv 1) (pv 3) ai ⟨D?,D?,D?,D?⟩) ai) rfl)))
  (am (ay (aQ (ac (pcF T.g_9 (oW T) hr (ac (pv 0) ae)) (ac (pv 1) ae))))))),?_⟩
 try dsimp only[Ax,Ai]
 intro d hd;dsimp only[az];refine gU hd λH1 s1 e1=>?_;have e1:H1 d=A? (.dT (dE [])):=e1;refine⟨_,D?,a,t,D?,hA.mono (k! s1),by lia,by lia,λr as H2 s2 er BZ=>⟨r,D?,⟨_,n! er⟩,?_⟩⟩;have AF:=Xa BZ;have hl:=eJ (t.pl []);have AZ:=Th.pl_len [] t;generalize Kj:callsOf (t.pl [])=cs at BZ AF hl k;have Ja:r≠d:=λz=>by rw[z,s2 _ _ e1]at er;cases er
 refine dS (K:=K) (a:=r) (xs:=as.map i!) (λi Y H3=>Ex3 λ(c3 c4:Option V)(es:CLs)=>An7 (Y=[A? (.ref a),A? (.ref d),c3,c4]) (j! H H3) (H3 r=A? (.lst (as.map i!))) (CsAt H3 cs as) (H3 d=A? (.dT (dE es))) (es.length<=i) (TimesE (cs.take i) es))
  ⟨B?,B?,[],rfl,s1.trans s2,er,BZ,s2 _ _ e1,WX _,by rw[ZF];exact TimesE.nil⟩ (λi Y H3 _⟨_,_,_,_,_,e,_,_,_,_⟩=>n! e) ?_ ?_
 .rintro i x Y H3 hx ⟨c3,c4,es,rfl,s3,BF,Bf,D8,hlen,AS⟩;walk_at"aa";obtain⟨ca,rfl,B6⟩:=aN hx;obtain⟨⟨pl,sn,kn⟩,hc,pa,Pz,ec,ep,Il⟩:=z! Bf B6;refine kZ ?_;have Br:i<10000:=by have:=(glE hc);lia
  refine⟨ca,_,D?,l! ec,D?,_,_,D?,_,_,D?,D?,?_⟩;dsimp only[az];have Lh:H3 Pz=A? (.tup ((ky (sn,kn)).map kV)):=Il;refine⟨_,D?,d,D?,.inr ⟨_,.inl D8⟩,_,D?,_,DGet.t D8 Lh,?_⟩;rw[oC];have hg:((cE es (sn,kn)).map o!).getD (.int 0)=.int ((cE es (sn,kn)).getD 0):=by cases cE es (sn,kn) <;> rfl
  rw[hg];refine⟨_,_,D?,D?,_,D?,_,D?,d,_,D?,DPut.t D8 Lh (br (by unfold dE;rw[WO];lia)),?_⟩;rw[rM];have k6:KT H3 (upd H3 d (.dT (dE (eO es (sn,kn) ((cE es (sn,kn)).getD 0+1))))):=λb xs e=>by rw[af (aF e D8 (λz=>nomatch z))];exact e
  refine⟨_,_,_,D?,aE s3 hd,by rw[af Ja];exact BF,Bf.mono k6,ad,?_,?_⟩
  .have:=pI es (sn,kn) ((cE es (sn,kn)).getD 0+1);lia
  .rw[kb hc];exact AS.put (pl,sn,kn)
 .rintro Y H3 ⟨c3,c4,es,rfl,s3,BF,Bf,D8,hlen,AS⟩;rw[X1 (by rw[WO];lia)]at AS;refine⟨_,D?,a,t,D?,hA.mono (k! s3),by lia,Ap,λH4 s4=>⟨_,D?,lnE rfl,λp hp=>?_⟩⟩;have s5:=aj hp (.tup [.int ((t.walk.filter C!).length:Nat),.ref d]);exact k p d es _ (s3.trans (s4.trans s5)) hd ad (s5 _ _ (s4 _ _ D8)) AS
theorem oz:FnOk P w K mg base CX0 4 T.g_34.f T.g_34.d ["pattern"] fM:=by
 refine T.g_34.F.okA dM λAk A outer s H vs Q E hr h=>?_;obtain⟨a,t,rfl,hA,hsz,Ap,k⟩:=h
 refine⟨_,(ag (ao 1 dM.nd fT)
  (ag (bx Xw rfl (cj (pcF T.g_11 (jA T) hr (ac (pv 0) ae))) (bw rfl (au (pgN 2 dM.nd) (au (pgN 3 dM.nd) aY))) (am (fj (di hr) (pv 1) (pv 3) (aD (gE rfl) rfl T.n_5 YT (ac (aD aB rfl T.n_3 XE (ac (pv 2) ae)) (ac (oR (di hr) (pv 1) (pv 3) ai ⟨D?,D?,D?,D?⟩) ae))) rfl)))
  (am (ay (aQ (ac (pcF T.g_10 (qz T) hr (ac (pv 0) ae)) (ac (pv 1) ae))))))),?_⟩
 try dsimp only[Ax,Ai]
 intro d hd;dsimp only[az];refine gU hd λH1 s1 e1=>?_;have e1:H1 d=A? (.dT (dE [])):=e1;refine⟨_,D?,a,t,D?,hA.mono (k! s1),by lia,by lia,λr as H2 s2 er BZ=>⟨r,D?,⟨_,n! er⟩,?_⟩⟩;have AF:=Xa BZ;have hl:=eJ (t.pl []);have AZ:=Th.pl_len [] t;generalize Kj:callsOf (t.pl [])=cs at BZ AF hl k;have Ja:r≠d:=λz=>by rw[z,s2 _ _ e1]at er;cases er
 refine dS (K:=K) (a:=r) (xs:=as.map i!) (λi Y H3=>Ex3 λ(c3 c4:Option V)(es:CLs)=>An7 (Y=[A? (.ref a),A? (.ref d),c3,c4]) (j! H H3) (H3 r=A? (.lst (as.map i!))) (CsAt H3 cs as) (H3 d=A? (.dT (dE es))) (es.length<=i) (DepthE (cs.take i) es))
  ⟨B?,B?,[],rfl,s1.trans s2,er,BZ,s2 _ _ e1,WX _,by rw[ZF];exact DepthE.nil⟩ (λi Y H3 _⟨_,_,_,_,_,e,_,_,_,_⟩=>n! e) ?_ ?_
 .rintro i x Y H3 hx ⟨c3,c4,es,rfl,s3,BF,Bf,D8,hlen,AS⟩;walk_at"aa";obtain⟨ca,rfl,B6⟩:=aN hx;obtain⟨⟨pl,sn,kn⟩,hc,pa,Pz,ec,ep,Il⟩:=z! Bf B6;refine kZ ?_;have Br:i<10000:=by have:=(glE hc);lia
  refine⟨ca,_,D?,l! ec,D?,_,_,D?,_,_,D?,D?,?_⟩;dsimp only[az];have Lh:H3 Pz=A? (.tup ((ky (sn,kn)).map kV)):=Il;refine⟨_,D?,pa,_,D?,.inr (l! ep),_,D?,d,D?,.inr ⟨_,.inl D8⟩,_,D?,_,DGet.t D8 Lh,?_⟩;rw[oC];have hg:((cE es (sn,kn)).map o!).getD (.int 0)=.int ((cE es (sn,kn)).getD 0):=by cases cE es (sn,kn) <;> rfl
  rw[hg];refine⟨_,_,D?,?_⟩;simp only[WO];refine⟨_,D?,_,D?,d,_,D?,DPut.t D8 Lh (br (by unfold dE;rw[WO];lia)),?_⟩;rw[rM];generalize hv:(if(cE es (sn,kn)).getD 0 > ((pl.length:Nat):Int)then(cE es (sn,kn)).getD 0 else((pl.length:Nat):Int))=v;have k6:KT H3 (upd H3 d (.dT (dE (eO es (sn,kn) v)))):=λb xs e=>by rw[af (aF e D8 (λz=>nomatch z))];exact e
  refine⟨_,_,_,D?,aE s3 hd,by rw[af Ja];exact BF,Bf.mono k6,ad,?_,?_⟩
  .have:=pI es (sn,kn) v;lia
  .rw[kb hc,<-hv];exact AS.put (pl,sn,kn)
 .rintro Y H3 ⟨c3,c4,es,rfl,s3,BF,Bf,D8,hlen,AS⟩;rw[X1 (by rw[WO];lia)]at AS;refine⟨_,D?,a,t,D?,hA.mono (k! s3),by lia,λH4 s4=>⟨_,D?,lnE rfl,λp hp=>?_⟩⟩;have s5:=aj hp (.tup [.int (t.tall:Nat),.ref d]);exact k p d es _ (s3.trans (s4.trans s5)) hd ad (s5 _ _ (s4 _ _ D8)) AS
inductive dZ(vs:List V)(H:Hp)(Q:VK)(_E:XK):Prop
 |mk (pa d ca:WS) (own:Int) (es:CLs) (AN:List (List Key×V)) (f:Int->Int->Int):vs=[.ref pa,.ref ca]->H pa=A? (.tup [.int own,.ref d])->H d=A? (.dT (dE es))->H ca=A? (.dT AN)->d≠ca->es.length<=10000->(∀e∈es,0<=e.2/\e.2<=10000/\aM AN (ky e.1)=A? (.int (f e.1.1 e.1.2)))->(∀H',j! H H'->Q (.int (own+smE f es)) H')->dZ  vs H Q _E
inductive dw(vs:List V)(H:Hp)(Q:VK)(_E:XK):Prop
 |mk (pa d ca:WS) (own:Int) (es:CLs) (AN:List (List Key×V)) (f:Int->Int->Int):vs=[.ref pa,.ref ca]->H pa=A? (.tup [.int own,.ref d])->H d=A? (.dT (dE es))->H ca=A? (.dT AN)->d≠ca->es.length<=10000->(∀e∈es,aM AN (ky e.1)=A? (.int (f e.1.1 e.1.2)))->(∀(H':Hp)(M:Int),j! H H'->M∈own::es.map (λe=>e.2+f e.1.1 e.1.2)->(∀a∈own::es.map (λe=>e.2+f e.1.1 e.1.2),a<=M)->Q (.int M) H')->dw  vs H Q _E
theorem kN:FnOk P w K mg base CX0 2 T.g_33.f T.g_33.d ["pair","counts"] dZ:=by
 refine T.g_33.F.okA dR λAk A outer s H vs Q E hr h=>?_;obtain⟨pa,d,ca,own,es,AN,f,rfl,B3,ed,Fu,Hs,hlen,AS,k⟩:=h
 refine⟨_,(ag (fo (pv 0) (bw rfl (au (pgN 2 dR.nd) (au (pgN 3 dR.nd) aY))))
  (am (ay (av bz (pv 2) (aD (oS rfl) rfl T.n_8 PyProof.Rows.boot_sum (ac (nT (bv (N:=["call","many","counts"]) (js:=[B?,B?,A? 1]) (g:=(qp K 2 (fP (az 0) (fP (az 1) qD)))) (tt:=bf) (te:=(tOp (rI CMul λi j=>.int (i * j)) (aZ 1) (vx (aZ 2) (aZ 0)))) rfl (bU rfl (by decide +kernel) (by decide +kernel) rfl rfl rfl) (mI (pv 3)) (λ_ _ _ _ _ _=>(bw rfl (au (pgN 0 zH) (au (pgN 1 zH) aY)))) (ld (cZ bL (aO rfl) (cZ bL (aO rfl) kT))) (λ_ _ _ _ _ _=>bt) (λ_ _ _ _ _ _=>(av dY (pv 1) (gw (di hr) (pv 2) (pv 0) (λ_ _=>rfl)))))) ae)))))),?_⟩
 try dsimp only[Ax,Ai]
 refine⟨_,D?,pa,_,D?,l! B3,D?,_,_,D?,_,_,D?,D?,?_⟩;dsimp only[az];refine⟨_,D?,?_⟩;change lF _ _ _ _;refine jL (d:=d) (es:=es) (val:=λe=>e.2 * f e.1.1 e.1.2) (λR hR=>⟨_,rfl,hR⟩) ed hlen (λi e p b H2 R he sb ep eb hR=>?_) (λD H2 s2 eD=>?_)
 .obtain⟨h1,h2,h3⟩:=AS e (WR he);refine⟨p,_,D?,l! ep,D?,_,_,D?,_,_,D?,D?,?_⟩;dsimp only[az];exact⟨_,D?,_,D?,_,D?,ca,_,D?,by have:=DGet.t (sb _ _ Hs.symm Fu) eb;rw[h3]at this;exact this,_,_,D?,D?,.inl ⟨by lia,by lia⟩,hR⟩
 .exact⟨D,_,D?,n! eD,_,_,D?,D?,k H2 s2⟩
theorem jW:FnOk P w K mg base CX0 2 T.g_35.f T.g_35.d ["pair","heights"] dw:=by
 refine T.g_35.F.okA du λAk A outer s H vs Q E hr h=>?_;obtain⟨pa,d,ca,own,es,AN,f,rfl,B3,ed,Fu,Hs,hlen,AS,k⟩:=h
 refine⟨_,(ag (fo (pv 0) (bw rfl (au (pgN 2 du.nd) (au (pgN 3 du.nd) aY))))
  (am (ay (aD (je rfl) rfl T.n_5 YT (ac (av hX (aL (ac (pv 2) ae)) (nT (bv (N:=["call","depth","heights"]) (js:=[B?,B?,A? 1]) (g:=(qp K 2 (fP (az 0) (fP (az 1) qD)))) (tt:=bf) (te:=(tOp (rI0 λi j=>.int (i+j)) (aZ 1) (vx (aZ 2) (aZ 0)))) rfl (bU rfl (by decide +kernel) (by decide +kernel) rfl rfl rfl) (mI (pv 3)) (λ_ _ _ _ _ _=>(bw rfl (au (pgN 0 zz) (au (pgN 1 zz) aY)))) (ld (cZ bL (aO rfl) (cZ bL (aO rfl) kT))) (λ_ _ _ _ _ _=>bt) (λ_ _ _ _ _ _=>(av bz (pv 1) (gw (di hr) (pv 2) (pv 0) (λ_ _=>rfl))))))) ae))))),?_⟩
 try dsimp only[Ax,Ai]
 refine⟨_,D?,pa,_,D?,l! B3,D?,_,_,D?,_,_,D?,D?,?_⟩;dsimp only[az];refine⟨_,D?,lnE rfl,λl hl=>?_⟩;refine gU hl λH1 s1 e1=>?_;refine jL (d:=d) (es:=es) (val:=λe=>e.2+f e.1.1 e.1.2) (λR hR=>⟨_,rfl,hR⟩) (s1 _ _ ed) hlen (λi e p b H2 R he sb ep eb hR=>?_) (λD H2 s2 eD=>?_)
 .have h3:=AS e (WR he);refine⟨p,_,D?,l! ep,D?,_,_,D?,_,_,D?,D?,?_⟩;dsimp only[az];exact⟨_,D?,_,D?,_,D?,ca,_,D?,by have:=DGet.t (sb _ _ Hs.symm (s1 _ _ Fu)) eb;rw[h3]at this;exact this,_,_,D?,D?,hR⟩
 .refine⟨l,D,_,_,D?,D?,s2 _ _ e1,eD,by refine bi ?_;rw[WO,WO,YE];lia,λr CC=>?_⟩;refine⟨r,own::es.map (λe=>e.2+f e.1.1 e.1.2),D?,n! (by rw[ad];rfl),by simp,λM hM Ag=>k _ M (s1.trans (s2.trans (aj CC _))) hM Ag⟩
theorem uP{k:Nat}(hr:L2.Room k A):A.units+148+4<YJ:=by
 have:=im hr;lia
inductive gK(C:WS)(vs:List V)(H:Hp)(Q:VK)(_E:XK):Prop
 |mk (x dx:WS):vs=[.ref x]->H x=A? (.ins C dx [])->(∀(tl al kl:WS)(H':Hp),SameB x H H'->H tl=B?->H al=B?->H kl=B?->tl≠al->tl≠kl->al≠kl->H' x=A? (.ins C dx (lvF tl al kl))->H' tl=A? (.lst [])->H' al=A? (.lst [])->H' kl=A? (.lst [])->Q .non H')->gK C vs H Q _E
inductive eV(C:WS)(vs:List V)(H:Hp)(Q:VK)(_E:XK):Prop
 |mk (L:Lv) (ta:WS) (t:Th):vs=[.ref L.x,.ref ta]->LvSh C H L->At H t ta->t.tall<=140->(∀n∈L.ns,n.t.tall<=140)->L.ns.length<=50000->(∀(L':Lv)(j:Nat)(n:Nd)(H':Hp),LvSh C H' L'->(L'=L\/∃aa ka,H aa=B?/\H ka=B?/\L'=L.add t ta aa ka)->L'.ns[j]?=A? n->n.t=t->FrB [L.tl,L.al,L.kl] H H'->Q (.int (j:Nat)) H')->eV C vs H Q _E
theorem gM:FnOk P w K mg base CX0 1 T.g_25.f T.g_25.d ["self"] (gK T.e_Level):=by
 refine T.g_25.F.okA l9 λAk A outer s H vs Q E hr h=>?_;obtain⟨x,dx,rfl,ex,q⟩:=h
 refine⟨_,(ag (kD (pv 0) (aL ae) rfl)
  (ag (kD (pv 0) (aL ae) rfl)
  (am (kD (pv 0) (aL ae) rfl)))),?_⟩
 try dsimp only[Ax,Ai]
 refine⟨lnE rfl,λtl Ap=>?_⟩;have Im:x≠tl:=λz=>by rw[<-z,ex]at Ap;cases Ap
 refine⟨_,D?,x,T.e_Level,dx,_,D?,by rw[af Im];exact ex,T.cl_Level,T.na_Level_trees,(by show 0<1000;decide),?_⟩;refine⟨lnE rfl,λal AO=>?_⟩;have Li:x≠al:=λz=>by rw[<-z,ad]at AO;cases AO
 have MZ:tl≠al:=λz=>by rw[<-z,af Im.symm,ad]at AO;cases AO
 rw[af Li.symm,af MZ.symm]at AO;refine⟨_,D?,x,T.e_Level,dx,_,D?,by rw[af Li];exact ad,T.cl_Level,T.na_Level_asked,(by show 1<1000;decide),?_⟩;refine⟨lnE rfl,λkl AK=>?_⟩;have M0:x≠kl:=λz=>by rw[<-z,ad]at AK;cases AK
 have PB:al≠kl:=λz=>by rw[<-z,af Li.symm,ad]at AK;cases AK
 have PD:tl≠kl:=λz=>by rw[<-z,af Im.symm,af MZ,af Im.symm,ad]at AK;cases AK
 rw[af M0.symm,af PB.symm,af M0.symm,af PD.symm]at AK;refine⟨_,D?,x,T.e_Level,dx,_,D?,by rw[af M0];exact ad,T.cl_Level,T.na_Level_kid_spots,(by show 2<1000;decide),?_⟩;refine q tl al kl _ (λb o hb e=>?_) Ap AO AK MZ PD PB ?_ ?_ ?_ ?_
 .rw[af hb,af (aq e AK),af hb,af (aq e AO),af hb,af (aq e Ap)];exact e
 .rw[ad];exact h! A? (h! (HO.ins T.e_Level dx) (wj tl al kl))
 .rw[af Im.symm,af PD,af Im.symm,af MZ,af Im.symm,ad]
 .rw[af Li.symm,af PB,af Li.symm,ad]
 .rw[af M0.symm,ad]
theorem eS:FnOk P w K mg base CX0 2 T.g_26.f T.g_26.d ["self","tree"] (eV T.e_Level):=by
 refine T.g_26.F.okA i0 λAk A outer s H vs Q E hr h=>?_;obtain⟨L,ta,t,rfl,hL,hA,Ap,BD,hlen,k⟩:=h
 refine⟨_,(ag (cN (aV (tL (B:=150) (im hr)) (pv 1) (cB (pv 0) rfl) (by with_unfolding_all rfl)) (ag (aS (bC Xb Xq Xp aK (cB (pv 0) rfl) (ac (pv 1) ae)))
  (ag (aS (bC Xb Xq Xp aK (cB (pv 0) rfl) (ac qa ae)))
  (am (aS (bC Xb Xq Xp aK (cB (pv 0) rfl) (ac qa ae)))))) bR)
  (am (ay (bC Xb Y4 PySem.F.type_list_index (sy (B:=148) (uP hr)) (cB (pv 0) rfl) (ac (pv 1) ae))))),?_⟩
 try dsimp only[Ax,Ai]
 have Ga:∀a b:Th,a.dv=b.dv->a=b:=λa b=>Th.dv_inj
 have AD:∀u∈L.ns.map (·.t),u.tall<=140:=λu hu=>by
  obtain⟨n,hn,rfl⟩:=Xn.mp hu;exact BD n hn
 have Vk:(L.ns.map λn=>i! n.ta).length<Xj:=lbE (by lia);refine bS (λAe H'=>An2 (Ae=[A? (.ref L.x),A? (.ref ta)]) (Ex1 λ(L':Lv)=>An5 (LvSh T.e_Level H' L') ((L'=L\/∃aa ka,H aa=B?/\H ka=B?/\L'=L.add t ta aa ka)) (t∈L'.ns.map (·.t)) (At H' t ta) (FrB [L.tl,L.al,L.kl] H H'))) (λkk hk=>?_) ?_
 .refine cR (λb H'=>An2 (H=H') ((b=C?↔t∉L.ns.map (·.t)))) (λk2 AX=>?_) (λH' hb=>?_) (λH' hb=>?_)
  .refine⟨_,D?,_,D?,L.x,T.e_Level,L.dx,_,_,D?,hL.ins,T.cl_Level,T.na_Level_trees,ny _ _ _,L.tl,_,_,_,D?,n! hL.tl,At.dv hA,hL.dats,Xh (fy AD) (by decide),λr hr=>⟨r,D?,AX _ _ ⟨D?,hr.trans (not_congr ⟨λz=>?_,λz=>Xn.mpr ⟨_,z,D?⟩⟩)⟩⟩⟩;obtain⟨u,hu,e⟩:=Xn.mp z;exact Ga _ _ e ▸ hu
  .obtain⟨rfl,hb⟩:=hb;have Cs:=hb.mp rfl;refine⟨_,D?,L.x,T.e_Level,L.dx,_,_,D?,hL.ins,T.cl_Level,T.na_Level_trees,ny _ _ _,.inl ⟨D?,_,n! hL.tl⟩,_,D?,L.tl,_,_,D?,D?,hL.tl,Vk,?_⟩;have nxt:L.x≠L.tl:=aF hL.ins hL.tl (λz=>nomatch z);have Vl:L.x≠L.al:=aF hL.ins hL.al (λz=>nomatch z);have nxk:L.x≠L.kl:=aF hL.ins hL.kl (λz=>nomatch z);have f1:FrB [L.tl,L.al,L.kl] H (upd H L.tl (.lst ((L.ns.map λn=>i! n.ta)++[.ref ta]))):=FrB.set (W4 ..);have x1:(upd H L.tl (.lst ((L.ns.map λn=>i! n.ta)++[.ref ta]))) L.x=_:=(af nxt).trans hL.ins;have a1:(upd H L.tl (.lst ((L.ns.map λn=>i! n.ta)++[.ref ta]))) L.al=_:=(af hL.n1.symm).trans hL.al;have k1:(upd H L.tl (.lst ((L.ns.map λn=>i! n.ta)++[.ref ta]))) L.kl=_:=(af hL.n2.symm).trans hL.kl;have t1:(upd H L.tl (.lst ((L.ns.map λn=>i! n.ta)++[.ref ta]))) L.tl=A? (.lst ((L.ns.map λn=>i! n.ta)++[.ref ta])):=ad
   have g1:∀b,(upd H L.tl (.lst ((L.ns.map λn=>i! n.ta)++[.ref ta]))) b=B?->H b=none:=λb e=>by
    by_cases z:b=L.tl
    .rw[z,ad]at e;cases e
    .rw[af z]at e;exact e
   generalize(upd H L.tl (.lst ((L.ns.map λn=>i! n.ta)++[.ref ta])))=H1 at f1 x1 a1 k1 t1 g1 |-;refine⟨_,D?,L.x,T.e_Level,L.dx,_,_,D?,x1,T.cl_Level,T.na_Level_asked,pJ _ _ _,.inl ⟨D?,_,n! a1⟩,λaa D9=>⟨L.al,_,_,D?,D?,(aj D9 _) _ _ a1,lbE (by lia),?_⟩⟩;have Sd:=g1 _ D9;have q1:L.tl≠aa:=λz=>by rw[<-z,t1]at D9;cases D9
   have q2:L.al≠aa:=λz=>by rw[<-z,a1]at D9;cases D9
   have q3:L.kl≠aa:=λz=>by rw[<-z,k1]at D9;cases D9
   have q4:L.x≠aa:=λz=>by rw[<-z,x1]at D9;cases D9
   have f2:FrB [L.tl,L.al,L.kl] H (upd (upd H1 aa (.dK [])) L.al (.lst ((L.ns.map λn=>i! n.aa)++[.ref aa]))):=f1.trans ((FrB.of (aj D9 _)).trans (FrB.set (WT _ (W4 ..))));have x2:(upd (upd H1 aa (.dK [])) L.al (.lst ((L.ns.map λn=>i! n.aa)++[.ref aa]))) L.x=_:=(af Vl).trans ((af q4).trans x1);have k2:(upd (upd H1 aa (.dK [])) L.al (.lst ((L.ns.map λn=>i! n.aa)++[.ref aa]))) L.kl=_:=(af hL.n3.symm).trans ((af q3).trans k1);have t2:(upd (upd H1 aa (.dK [])) L.al (.lst ((L.ns.map λn=>i! n.aa)++[.ref aa]))) L.tl=_:=(af hL.n1).trans ((af q1).trans t1);have a2:(upd (upd H1 aa (.dK [])) L.al (.lst ((L.ns.map λn=>i! n.aa)++[.ref aa]))) L.al=_:=ad;have d2:(upd (upd H1 aa (.dK [])) L.al (.lst ((L.ns.map λn=>i! n.aa)++[.ref aa]))) aa=A? (.dK []):=(af q2.symm).trans ad
   have g2:∀b,(upd (upd H1 aa (.dK [])) L.al (.lst ((L.ns.map λn=>i! n.aa)++[.ref aa]))) b=B?->H b=none:=λb e=>by
    by_cases z:b=L.al
    .rw[z,ad]at e;cases e
    .rw[af z]at e;by_cases z2:b=aa
     .rw[z2,ad]at e;cases e
     .rw[af z2]at e;exact g1 _ e
   generalize(upd (upd H1 aa (.dK [])) L.al (.lst ((L.ns.map λn=>i! n.aa)++[.ref aa])))=H2 at f2 x2 k2 t2 a2 d2 g2 |-;refine⟨_,D?,L.x,T.e_Level,L.dx,_,_,D?,x2,T.cl_Level,T.na_Level_kid_spots,uJ _ _ _,.inl ⟨D?,_,n! k2⟩,λka AB=>⟨L.kl,_,_,D?,D?,(aj AB _) _ _ k2,lbE (by lia),?_⟩⟩;have Se:=g2 _ AB;have r1:L.tl≠ka:=λz=>by rw[<-z,t2]at AB;cases AB
   have r2:L.al≠ka:=λz=>by rw[<-z,a2]at AB;cases AB
   have r3:L.kl≠ka:=λz=>by rw[<-z,k2]at AB;cases AB
   have r4:aa≠ka:=λz=>by rw[<-z,d2]at AB;cases AB
   have f3:FrB [L.tl,L.al,L.kl] H (upd (upd H2 ka (.dK [])) L.kl (.lst ((L.ns.map λn=>i! n.ka)++[.ref ka]))):=f2.trans ((FrB.of (aj AB _)).trans (FrB.set (WT _ (WT _ (W4 ..)))));have Gb:=hL.add f3 Sd Se r4 hA Cs ((af hL.n2).trans ((af r1).trans t2)) ((af hL.n3).trans ((af r2).trans a2)) ad ((af q3.symm).trans ((af r4).trans d2)) ((af r3.symm).trans ad);exact hk _ _ ⟨rfl,_,Gb,.inr ⟨aa,ka,Sd,Se,rfl⟩,by show t∈(L.ns++[_]).map _;simp,Gb.tr ⟨t,ta,aa,ka,[],[]⟩ (Xu _ (W0.mpr rfl)),f3⟩
  .obtain⟨rfl,hb⟩:=hb;have CL:t∈L.ns.map (·.t):=Classical.byContradiction λz=>by cases hb.mpr z
   exact hk _ _ ⟨rfl,L,hL,.inl rfl,CL,hA,FrB.refl⟩
 rintro Ae H' ⟨rfl,L',Gb,Ek,CL,Vm,hf⟩;walk_at"aa";obtain⟨n,hn,Gd⟩:=Xn.mp CL;obtain⟨j,hj⟩:=Xg.mp hn;refine kZ ?_;have hx:L'.x=L.x:=by rcases Ek with rfl|⟨_,_,_,_,rfl⟩ <;> rfl
 have Cn:L'.ns.length<=100000/\∀u∈L'.ns.map (·.t),u.tall<=140:=by
  rcases Ek with rfl|⟨aa,ka,_,_,rfl⟩
  .exact⟨by lia,AD⟩
  .refine⟨by show(L.ns++[_]).length<=_;rw[W7,YE];lia,λu hu=>?_⟩;have B8:u∈(L.ns++[(⟨t,ta,aa,ka,[],[]⟩:Nd)]).map (λn:Nd=>n.t):=hu;rw[W8]at B8;rcases Xd.mp B8 with h|h
   .exact AD u h
   .have:u=t:=by simpa using h
    rw[this];exact Ap
 have Fo:((L'.ns.map (·.t)).map J!)[j]?=A? t.dv:=by rw[W3,W3,hj,<-Gd];rfl
 have Vn:=nw Ga Gb.un;exact⟨_,D?,L.x,T.e_Level,L'.dx,_,_,D?,by rw[<-hx];exact Gb.ins,T.cl_Level,T.na_Level_trees,ny _ _ _,.inl ⟨D?,_,n! Gb.tl⟩,_,D?,L'.tl,_,_,_,_,j,D?,D?,n! Gb.tl,At.dv Vm,Gb.dats,Xh (fy Cn.2) (by decide),Fo,λi hi e=>g! (kG Vn e Fo) (by lia),by rw[WO,WO];exact Cn.1,k L' j n H' Gb Ek hj Gd hf⟩
inductive gH(P:Xe)(w:Xv)(K:WY)(mg:Xk->Option WV)(base:X5)(vs:List V)(H:Hp)(Q:VK)(_E:XK):Prop
 |mk (b f:WS) (ins outs:List (Xk×Int)) (head:Th) (rows:List (List Th)) (CV:Sp) (Dp:DP) (ok:Th->Prop):vs=[.ref b,.ref f]->Bk H ins outs head rows b->aH ins->rows.length<=100->(∀row∈rows,row.length=ins.length/\∀p∈row,ok p)->FvOk P w K mg base CX0 4 f CV->wB Dp CV ok->(∀(td:WS)(H':Hp),j! H H'->DgTab Dp H' ins rows td->Q (.ref td) H')->gH P w K mg base vs H Q _E
theorem l4:FnOk P w K mg base CX0 5 T.g_27.f T.g_27.d ["book","digest"] (gH P w K mg base):=by
 refine T.g_27.F.okA ce λAk A outer s H vs Q E hr h=>?_;obtain⟨b,f,ins,outs,head,rows,CV,Dp,ok,rfl,hB,gi,D0,AI,Jq,D1,k⟩:=h;walk_at"aa";obtain⟨ia,oa,ha,ra,Av,AA,Aw,hB⟩:=hB;refine kZ ?_
 refine⟨_,(ag (ao 2 ce.nd fT)
  (ag (bx Xw rfl (rA rfl T.n_1 (pcF T.g_21 (eg T) hr (ac (pv 0) ae))) (bw rfl (au (pgN 3 ce.nd) (au (pgN 4 ce.nd) aY))) (am (bx Xw rfl (yf rfl T.n_10 (ac (pcF T.g_18 (eT T) hr (ac (pv 0) ae)) (ac (pv 4) ae))) (bw rfl (au (pgN 5 ce.nd) (au (pgN 6 ce.nd) aY))) (am (fj (di hr) (pv 2) (aQ (ac (pv 3) (ac (aw aA (pv 5) ai (λ_ _=>rfl)) ae))) (iA (k:=4) (i:=1) rfl (Or.inl rfl) (hr.mono (by first|decide|lia)) cP (ac (pv 6) ae)) rfl)))))
  (am (ay (pv 2))))),?_⟩
 try dsimp only[Ax,Ai]
 intro td MK;dsimp only[az];refine gU MK λH1 s1 e1=>?_;have Vo:rows.length=Aw.length:=Xa hB.rw;have Vp:ins.length=Av.length:=Xa hB.inK;refine⟨_,D?,b,_,_,_,_,D?,s1 _ _ hB.bk,ra,D?,⟨_,l! (s1 _ _ hB.rl)⟩,?_⟩
 refine uC (K:=K) (a:=ra) (xs:=Aw.map i!) (λi Y H3=>Ex5 λ(c3 c4 c5 c6:Option V)(tk:List (List Key×V))=>An5 (Y=[A? (.ref b),A? (.ref f),A? (.ref td),c3,c4,c5,c6]) (j! H H3) (H3 td=A? (.dT tk)) (tk.length<=8 * i) (y4 Dp td H3 ins rows tk i 0))
  ⟨B?,B?,B?,B?,[],rfl,s1,e1,Xr _,λs c row p kd h=>by rcases h with h|⟨_,h⟩ <;> cases h⟩ (λi Y H3 _⟨_,_,_,_,_,_,s3,_,_,_⟩=>l! (s3 _ _ hB.rl)) ?_ ?_
 .rintro i x pr Y H3 hx B4 ⟨c3,c4,c5,c6,tk,rfl,s3,HR,hlen,Ag⟩;walk_at"aa";obtain⟨rwa,rfl,PF⟩:=aN hx;obtain⟨row,Aj,as,Sf,Ce⟩:=z! hB.rw PF;have Br:i<100:=by have:=(glE Aj);lia
  obtain⟨Vq,hok⟩:=AI row (WR Aj);refine kZ ?_;have Vr:=Ce.length;refine gU B4 λH4 s4 e4=>?_;have GU:=s3.trans s4;refine⟨pr,_,D?,l! e4,D?,_,_,D?,_,_,D?,D?,?_⟩;dsimp only[az];refine⟨_,D?,b,_,_,_,_,D?,GU _ _ hB.bk,_,D?,ia,rwa,D?,⟨_,l! (GU _ _ hB.inE)⟩,⟨_,l! (GU _ _ Sf)⟩,?_⟩
  refine we (K:=K) (a:=ia) (b:=rwa) (xs:=Av.map i!) (ys:=as.map i!) (by rw[WO,WO];lia) (λj Y H5=>Ex3 λ(c5 c6:Option V)(tk:List (List Key×V))=>An5 (Y=[A? (.ref b),A? (.ref f),A? (.ref td),A? (.int ((i:Nat):Int)),A? (.ref rwa),c5,c6]) (j! H H5) (H5 td=A? (.dT tk)) (tk.length<=8 * i+j) (y4 Dp td H5 ins rows tk i j))
   ⟨_,_,tk,rfl,GU,s4 _ _ HR,hlen,λs c row p kd h h1 h2 h3=>by
    obtain⟨da,a1,a2⟩:=Ag s c row p kd h h1 h2 h3;exact⟨da,a1,a2.same s4⟩⟩ (λj Y H5 _⟨_,_,_,_,s5,_,_,_⟩=>⟨l! (s5 _ _ hB.inE),l! (s5 _ _ Sf)⟩) ?_ ?_
  .rintro j x y p2 Y H5 hx hy CN ⟨c5,c6,tk,rfl,s5,Jo,hlen,Ag⟩;walk_at"aa";obtain⟨ka,rfl,AB⟩:=aN hx;obtain⟨pa,rfl,EN⟩:=aN hy;obtain⟨⟨nm,cn⟩,hk,ek⟩:=z! hB.inK AB;obtain⟨p,hp,B9⟩:=Ce.get EN;refine kZ ?_;have hj8:j<8:=by have:=(glE hk);have:=gi.le;lia
   refine gU CN λH6 s6 e6=>?_;have MO:=s5.trans s6;refine⟨p2,_,D?,l! e6,D?,_,_,D?,_,_,D?,D?,?_⟩;dsimp only[az];refine⟨f,CV,D?,Jq,_,D?,D1 H6 p pa _ (B9.mono (k! MO)) (hok p (WR hp)) λr d own kvs H7 s7 hd er ed Io=>?_⟩;have ML:=s6 _ _ Jo;have Vs:=s7 _ _ ML;have hdt:d≠td:=λz=>by rw[z,ML]at hd;cases hd
   have Vt:H7 ka=A? (.tup [.str nm,.int cn]):=(MO.trans s7) _ _ ek;refine⟨_,D?,_,D?,_,D?,ka,_,0,.str nm,D?,D?,l! Vt,at0,lnE rfl,λkp FZ=>?_⟩;refine gU FZ λH8 s8 e8=>?_;have e8:H8 kp=A? (.tup ((kn2 i nm).map kV)):=e8;have PH:=s8 _ _ Vs;refine⟨td,_,D?,DPut.t PH e8 (br (by lia)),?_⟩;have D':=(s6.trans s7).trans s8;refine⟨_,_,_,D?,aE (s5.trans D') MK,ad,?_,λs c EG p' kd h h1 h2 h3=>?_⟩
   .have:=bG tk (kn2 i nm) (.ref r);lia
   .rw[dq];by_cases CA:kn2 s kd.1=kn2 i nm
    .obtain⟨rfl,hn⟩:=vT CA;rw[b! CA];have Vu:=gi.nd _ _ _ _ h3 hk hn;subst Vu;rw[Aj]at h1;cases h1;rw[hp]at h2;cases h2;exact⟨r,D?,DgN.upd ⟨d,own,kvs,hdt,s8 _ _ er,s8 _ _ ed,Io⟩ PH⟩
    .rw[a! CA]
     have h':s<i\/(s=i/\c<j):=by
      rcases h with h|⟨h,hc⟩
      .exact .inl h
      .refine .inr ⟨h,?_⟩;rcases YV.mp hc with z|z
       .exact z
       .refine g! ?_ CA;rw[z,hk]at h3;cases h3;rw[h]
     obtain⟨da,a1,a2⟩:=Ag s c EG p' kd h' h1 h2 h3;exact⟨da,a1,(a2.same D').upd PH⟩
  .rintro Y H5 ⟨c5,c6,tk,rfl,s5,Jo,hlen,Ag⟩;rw[WO]at hlen Ag;have HV:=gi.le;refine⟨_,_,_,_,tk,D?,s5,Jo,by lia,λs c EG p' kd h h1 h2 h3=>Ag s c EG p' kd ?_ h1 h2 h3⟩;rcases h with h|⟨_,h⟩
   .rcases YV.mp h with z|z
    .exact .inl z
    .refine .inr ⟨z,?_⟩;have:=(glE h3);lia
   .cases h
 .rintro Y H3 ⟨c3,c4,c5,c6,tk,rfl,s3,HR,hlen,Ag⟩;rw[WO]at Ag;refine⟨_,D?,k td H3 s3 ⟨tk,HR,λs c row p kd h1 h2 h3=>?_⟩⟩;obtain⟨da,a1,a2⟩:=Ag s c row p kd (.inl (by have:=(glE h1);lia)) h1 h2 h3;exact⟨da,a1,a2.at⟩
inductive kH(C:WS)(vs:List V)(H:Hp)(Q:VK)(_E:XK):Prop
 |mk (td:WS) (L B:Lv) (i:Nat) (n:Nd) (Dp:DP) (ins:List (Xk×Int)) (rows:List (List Th)) (head:Th) (ok:Th->Prop) (W:List Th):vs=[.ref td,.ref L.x,.int (i:Nat),.ref B.x]->DgTab Dp H ins rows td->(∀p own d kvs,Dp p own d kvs->nA p kvs)->HandC C H L i n B->n.sp=[]->(∀kv∈n.ask,∃s p da,AskE Dp ins rows head H n.t kv s p da/\∀c∈callsOf (p.pl []),∃p' h,Step ins rows c.2.1 c.2.2 n.t.kids p' h/\ok h)->(∀m∈B.ns,GoodNd Dp ins rows head ok H m)->(∀h,ok h->h.tall<=140/\h∈W)->W.length<=40000->rows.length<=100->n.t.kids.length<=100->(∃nm ks,n.t=.knot nm ks)->(∀(B':Lv)(sp:List (Key×V))(H':Hp),HandI C Dp ins rows head ok H L i n B H' B' sp->(∀kv∈n.ask,EDone Dp ins rows head H n.t sp B'.ns kv)->Q .non H')->kH C vs H Q _E
theorem qq:FnOk P w K mg base CX0 3 T.g_28.f T.g_28.d ["digests","level","number","beneath"] (kH T.e_Level):=by
 refine T.g_28.F.okA cq λAk A outer s H vs Q E hr h=>?_;obtain⟨td,L,B,i,n,Dp,ins,rows,head,ok,W,rfl,hT,Io,hc,PJ,Ip,Lj,hW,hWl,D0,AK,⟨nm,ks,Gd⟩,k⟩:=h;have ni:=WR hc.hi;have ilt:=(Xx.mp hc.hi).1;have eta:=hc.lv.tr n ni;rw[Gd,At]at eta;walk_at"aa";obtain⟨_,AH,eta,Bv⟩:=eta;obtain⟨tk,Vv,BO⟩:=hT;refine kZ ?_
 refine⟨_,(ag (ao 4 cq.nd (aw aT (cB (pv 1) rfl) (pv 2) (λ_ _=>rfl)))
  (ag (ao 5 cq.nd (aw aT (cB (pv 1) rfl) (pv 2) (λ_ _=>rfl)))
  (am (j1 (bx Xw rfl (tj (aw aT (cB (pv 1) rfl) (pv 2) (λ_ _=>rfl))) (bw rfl (au (pgN 6 cq.nd) (au (pgN 7 cq.nd) aY))) (am (j1 (bx Xw rfl (vW (pv 7)) (bw rfl (au (pgN 8 cq.nd) (au (pgN 9 cq.nd) aY))) (ag (ao 10 cq.nd (aw aA (pv 4) (av bz (pv 9) ai) (λ_ _=>rfl)))
  (ag (cN (xO (sj (di hr) (pv 9) (pv 5))) (am (fj (di hr) (pv 5) (pv 9) (oo (pv 3) T.cl_Level T.g_26.me (eS T) (hr.mono (by first|decide|lia)) T.g_26.b .nil cP (ac (pv 10) ae)) rfl)) bR)
  (am (fj (di hr) (aw aT (cB (pv 3) rfl) (gw (di hr) (pv 5) (pv 9) (λ_ _=>rfl)) (λ_ _=>rfl)) (pv 8) (gw (di hr) (pv 0) (aQ (ac (pv 8) (ac (aw aA (pv 10) ai (λ_ _=>rfl)) ae))) (λ_ _=>rfl)) rfl)))))))))))),?_⟩
 try dsimp only[Ax,Ai]
 refine⟨_,D?,L.x,T.e_Level,L.dx,_,_,D?,hc.lv.ins,T.cl_Level,T.na_Level_trees,ny _ _ _,_,D?,L.tl,_,_,.ref n.ta,D?,D?,n! hc.lv.tl,bo (by rw[W3,hc.hi];rfl),?_⟩;dsimp only[az];refine⟨_,D?,L.x,T.e_Level,L.dx,_,_,D?,hc.lv.ins,T.cl_Level,T.na_Level_kid_spots,uJ _ _ _,_,D?,L.kl,_,_,.ref n.ka,D?,D?,n! hc.lv.kl,bo (by rw[W3,hc.hi];rfl),?_⟩;dsimp only[az];refine⟨_,D?,L.x,T.e_Level,L.dx,_,_,D?,hc.lv.ins,T.cl_Level,T.na_Level_asked,pJ _ _ _,_,D?,L.al,_,_,.ref n.aa,D?,D?,n! hc.lv.al,bo (by rw[W3,hc.hi];rfl),n.aa,n.ask,D?,hc.lv.ak n ni,λo1=>?_⟩
 refine qk (a:=n.aa) (o:=o1) (kvs:=n.ask) (λe Y H3=>Ex8 λ(c6 c7 c8 c9 Du:Option V)(Hg:Hp)(B':Lv)(sp:List (Key×V))=>An5 (Y=[A? (.ref td),A? (.ref L.x),A? (.int ((i:Nat):Int)),A? (.ref B.x),A? (.ref n.ta),A? (.ref n.ka),c6,c7,c8,c9,Du]) ((∀b,b≠n.aa->H3 b=Hg b)) (H3 n.aa=A? (.frz o1 (.dK n.ask))) (HandI T.e_Level Dp ins rows head ok H L i n B Hg B' sp) (∀(e':Nat)(kv:Key×V),e'<e->n.ask[e']?=A? kv->EDone Dp ins rows head H n.t sp B'.ns kv))
  ⟨B?,B?,B?,B?,B?,H,B,[],rfl,λb hb=>af hb,ad,hc.start PJ Lj,λe' kv h=>by cases h⟩ (λe Y H3 _⟨_,_,_,_,_,_,_,_,_,_,h,_,_⟩=>h) ?_ ?_
 .rintro e kv Y H3 Ao ⟨c6,c7,c8,c9,Du,Hg,B1,sp,rfl,eq3,Jw,I,Bh⟩;walk_at"aa";obtain⟨s0,p,da,hE,Dw⟩:=Ip kv (WR Ao);obtain⟨d,own,kvs,Vw,ed,Iq⟩:=hE.dg;obtain⟨Vx,Vy⟩:=Io p own d kvs Iq;refine kZ ?_;have Sg:=I.ktd.tup _ _ Vw;have gd:=I.ktd.dct _ _ ed;have PK:=I.aa hc;have PL:H3 da=A? (.tup [own,.ref d]):=(eq3 _ (aF Sg PK (λz=>nomatch z))).trans Sg;have BW:d≠n.aa:=aF gd PK (λz=>nomatch z);have Sh:H3 d=A? (.dT kvs):=(eq3 _ BW).trans gd;rw[hE.v];refine⟨da,_,D?,l! PL,D?,_,_,D?,_,_,D?,D?,?_⟩;dsimp only[az];refine⟨_,D?,d,kvs,D?,Sh,λo2=>?_⟩
  refine uE (a:=d) (o:=o2) (kvs:=kvs) (λf Y H4=>Ex6 λ(c8 c9 Du:Option V)(Hg:Hp)(B':Lv)(sp:List (Key×V))=>An5 (Y=[A? (.ref td),A? (.ref L.x),A? (.int ((i:Nat):Int)),A? (.ref B.x),A? (.ref n.ta),A? (.ref n.ka),A? own,A? (.ref d),c8,c9,Du]) (Fz2 n.aa d o1 o2 n.ask kvs Hg H4) (HandI T.e_Level Dp ins rows head ok H L i n B Hg B' sp) ((∀(e':Nat)(kv:Key×V),e'<e->n.ask[e']?=A? kv->EDone Dp ins rows head H n.t sp B'.ns kv)) (∀(f':Nat)(kv:List Key×V)(c:Int×Int),f'<f->kvs[f']?=A? kv->kv.1=ky c->CDone sp n.t B'.ns c))
   ⟨_,_,_,Hg,B1,sp,rfl,⟨λb h1 h2=>by rw[af h2];exact eq3 b h1,by rw[af BW.symm];exact Jw,ad,PK,gd⟩,I,Bh,λf' kv c h=>by cases h⟩ (λf Y H4 _⟨_,_,_,_,_,_,_,z,_,_,_⟩=>z.fd) ?_ ?_
  .rintro f M1 b Y H4 C0 eb ⟨c8,c9,Du,Hg,B1,sp,rfl,z,I,Bh,Bw⟩;walk_at"aa";obtain⟨c,HH,DX⟩:=Vx M1 (WR C0);obtain⟨pl,s',kid⟩:=c;obtain⟨p',h,st,hok⟩:=Dw _ HH;refine kZ ?_;rw[DX]at eb;have Vz:H4 b=A? (.tup [.int s',.int kid]):=eb;refine⟨b,_,D?,l! Vz,D?,_,_,D?,_,_,D?,D?,?_⟩;dsimp only[az];walk_at"aa";obtain⟨PM,k0,Dx,m,hs,cc,j0,row,hm,F4,Aj,BA⟩:=id st;refine kZ ?_;simp only at PM k0 Dx Aj
   have M3:∀b' xs,H b'=A? (.tup xs)->H4 b'=A? (.tup xs):=λb' xs Ir=>by
    have g:=I.ktd.tup _ _ Ir;rw[z.eq b' (aF g z.ga (λz=>nomatch z)) (aF g z.gd (λz=>nomatch z))];exact g
   have PN:H4 n.ta=_:=M3 _ _ eta;have Lk:=Bv.mono M3;rw[Gd]at Dx;obtain⟨pa,EN,VA⟩:=Lk.get' Dx;refine⟨_,D?,_,D?,_,_,D?,D?,n.ta,_,kid+1,.ref pa,D?,D?,l! PN,at_nonneg (by lia) (by rw[show(kid+1).toNat=kid.toNat+1 by lia,List.getElem?_cons_succ,W3,EN];rfl),?_⟩;dsimp only[az];have PQ:H4 n.ka=A? (.dK sp):=(z.eq _ (iY hc.lv.nd hc.hi).symm (aF (I.ka hc) z.gd (λz=>nomatch z))).trans (I.ka hc);refine bS (λAe H5=>Ex5 λ(Hg:Hp)(B':Lv)(sp:List (Key×V))(j:Nat)(mj:Nd)=>An8 (Ae=[A? (.ref td),A? (.ref L.x),A? (.int ((i:Nat):Int)),A? (.ref B.x),A? (.ref n.ta),A? (.ref n.ka),A? own,A? (.ref d),A? (.int s'),A? (.int kid),A? (.ref pa)]) (Fz2 n.aa d o1 o2 n.ask kvs Hg H5) (HandI T.e_Level Dp ins rows head ok H L i n B Hg B' sp) ((∀(e':Nat)(kv:Key×V),e'<e->n.ask[e']?=A? kv->EDone Dp ins rows head H n.t sp B'.ns kv)) ((∀(f':Nat)(kv:List Key×V)(c:Int×Int),f'<f->kvs[f']?=A? kv->kv.1=ky c->CDone sp n.t B'.ns c)) (aM sp (Xs kid)=A? (.int (j:Nat))) (B'.ns[j]?=A? mj) (mj.t=h)) (λkk hk=>?_) ?_
   .refine cR (λbb H'=>An2 (H4=H') (bb=!(aM sp (Xs kid)).isSome)) (λk2 AX=>?_) (λH' hb=>?_) (λH' hb=>?_)
    .exact⟨_,D?,_,D?,n.ka,_,D?,DGet.k (k:=Xs kid) PQ,_,D?,AX _ _ ⟨D?,D?⟩⟩
    .obtain⟨rfl,hb⟩:=hb
     have Cs:aM sp (Xs kid)=none:=by
      cases hv:aM sp (Xs kid)with
      |none=>rfl
      |some v=>rw[hv]at hb;cases hb
     have hx:=I.bn.ins;rw[I.gr.x]at hx;have VB:H4 B.x=_:=(z.eq _ (aF hx z.ga (λz=>nomatch z)) (aF hx z.gd (λz=>nomatch z))).trans hx
     have VC:LvSh T.e_Level H4 B1:=by
      refine I.bn.keep (λb' xs Ir=>?_) (λb' AV o eo=>?_)
      .rw[z.eq b' (aF Ir z.ga (λz=>nomatch z)) (aF Ir z.gd (λz=>nomatch z))];exact Ir
      .have h1:b'≠n.aa:=λy=>I.dis hc _ (fA ni) (y ▸ AV)
       have h2:b'≠d:=λy=>by
        obtain⟨o',e',_,h2,_⟩:=cC I.bn AV;rw[y,z.gd]at e';exact h2 _ (Xl e').symm
       rw[z.eq b' h1 h2];exact eo
     have hlen:B1.ns.length<=50000:=by
      have:=dN (m:=W) I.bn.un λu hu=>by
       obtain⟨m',Cz,rfl⟩:=Xn.mp hu;exact(hW _ (I.good m' Cz).ok).2
      rw[WO]at this;lia
     have VD:=I.gr.x;refine⟨_,D?,B.x,_,_,D?,VB,vc _ _ _ (by decide +kernel) (by decide +kernel) (by decide +kernel),_,D?,B1,pa,h,by rw[VD];rfl,VC,VA,(hW h hok).1,λm' Cz=>(hW _ (I.good m' Cz).ok).1,hlen,λB2 j mj H5 VE Ek hj Ll fr=>?_⟩;have MJ:n.t.kids[kid.toNat]?=A? h:=by rw[Gd];exact Dx
     obtain⟨ME,z',I'⟩:=I.spot hc z VE Ek hj Ll fr MJ k0 Cs hok;have Lm:=I.spk.len I.spn;refine⟨_,D?,_,D?,n.ka,_,D?,DPut.k (k:=Xs kid) ME (br (by lia)),?_⟩
     have g2:Grow B1 B2:=by
      rcases Ek with rfl|⟨_,_,_,_,rfl⟩
      .exact Grow.refl
      .exact Grow.add
     have G9:∀(k:Key)(v:V),aM sp k=A? v->aM (putK sp (Xs kid) (.int ((j:Nat):Int))) k=A? v:=λk v hv=>by
      rw[dq,a! (λy=>by rw[y,Cs]at hv;cases hv)];exact hv
     exact hk _ _ ⟨_,B2,_,j,mj,rfl,z',I',λe' kv h1 h2=>(Bh e' kv h1 h2).grow g2 G9,λf' kv c h1 h2 h3=>(Bw f' kv c h1 h2 h3).mono g2 G9,by rw[dq,b! rfl],hj,Ll⟩
    .obtain⟨rfl,hb⟩:=hb;cases hv:aM sp (Xs kid)with
     |none=>rw[hv]at hb;cases hb
     | some v =>
       walk_at"aa";obtain⟨Ea,j,mj,he,hj,_,EJ⟩:=I.spk _ (iX hv);refine kZ ?_;injection he with PR NO;injection PR with PR;subst PR;rw[Gd]at EJ;rw[NO]at hv;exact hk _ _ ⟨Hg,B1,sp,j,mj,rfl,z,I,Bh,Bw,hv,hj,Xl (EJ.symm.trans Dx)⟩
   rintro Ae H5 ⟨Hg,B1,sp,j,mj,rfl,z,I,Bh,Bw,Si,hj,Ll⟩
   have M3:∀b' xs,H b'=A? (.tup xs)->H5 b'=A? (.tup xs):=λb' xs Ir=>by
    have g:=I.ktd.tup _ _ Ir;rw[z.eq b' (aF g z.ga (λz=>nomatch z)) (aF g z.gd (λz=>nomatch z))];exact g
   obtain⟨Jt,PU,Ln⟩:=(Bv.mono M3).get' Dx;have B3:Jt=pa:=Xl (PU.symm.trans EN);subst B3;rw[hm,At]at Ln;walk_at"aa";obtain⟨_,has,PV,_⟩:=Ln;obtain⟨PX,PY,PZ⟩:=BO s'.toNat j0 row p' (m,cc) Aj BA F4;refine kZ ?_;refine⟨_,D?,_,D?,_,D?,Jt,_,0,.str m,D?,D?,l! PV,at0,lnE rfl,λkp FZ=>?_⟩;have s7:j! H5 (upd H5 kp (.tup [.int s',.str m])):=aj FZ _
   have e7:(upd H5 kp (.tup [.int s',.str m])) kp=A? (.tup ((kn2 s'.toNat m).map kV)):=by
    rw[ad];show _=A? (HO.tup [.int ((s'.toNat:Nat):Int),.str m]);rw[YC PM]
   generalize(upd H5 kp (.tup [.int s',.str m]))=H7 at s7 e7 |-;have P0:=I.ktd.dct _ _ Vv
   have VF:Rd H7 td (.dT tk):=by
    by_cases y:td=d
    .refine .inr ⟨o2,?_⟩
     have:kvs=tk:=by
      have g:=z.gd;rw[<-y,P0]at g;cases g;rfl
     rw[y,<-this];exact s7 _ _ z.fd
    .exact .inl (s7 _ _ ((z.eq td (aF P0 z.ga (λz=>nomatch z)) y).trans P0))
   obtain⟨OJ,z',I'⟩:=I.ask hc z s7 hj PM (by rw[Ll];exact st.pat) (PZ.mono I.ktd);have hx:=I.bn.ins;have AO:=I.bn.al;rw[I.gr.x,I.gr.tl,I.gr.al,I.gr.kl,I.gr.dx]at hx;rw[I.gr.al]at AO;have VG:H7 B.x=_:=s7 _ _ ((z.eq _ (aF hx z.ga (λz=>nomatch z)) (aF hx z.gd (λz=>nomatch z))).trans hx);have P1:H7 B.al=_:=s7 _ _ ((z.eq _ (aF AO z.ga (λz=>nomatch z)) (aF AO z.gd (λz=>nomatch z))).trans AO);have P4:H7 n.ka=A? (.dK sp):=s7 _ _ ((z.eq _ (iY hc.lv.nd hc.hi).symm (aF (I.ka hc) z.gd (λz=>nomatch z))).trans (I.ka hc));have gk:DGet H7 n.ka (.int kid) (A? (.int ((j:Nat):Int))):=by have:=DGet.k (k:=Xs kid) P4;rw[Si]at this;exact this
   have Sj:=I.good mj (WR hj);have Ge:=Sj.ask.len Sj.nd;refine⟨td,.ref PX,D?,.inr ⟨tk,kn2 s'.toNat m,kp,VF,D?,e7,PY.symm⟩,_,D?,B.x,T.e_Level,B.dx,_,_,D?,VG,T.cl_Level,T.na_Level_asked,pJ _ _ _,_,D?,_,D?,n.ka,_,D?,gk,B.al,_,_,.ref mj.aa,D?,D?,n! P1,bo (gmE hj),_,D?,mj.aa,_,D?,DPut.k (k:=Xs s') OJ (br (by lia)),?_⟩;have g2:Grow B1 (B1.setAsk j mj (putK mj.ask (Xs s') (.ref PX))):=Grow.setAsk hj;refine⟨_,_,_,_,_,_,D?,z',I',λe' kv h1 h2=>(Bh e' kv h1 h2).grow g2 (λ_ _ h=>h),λf' kv c h1 h2 h3=>?_⟩;rcases YV.mp h1 with h4|h4
   .exact(Bw f' kv c h4 h2 h3).mono g2 (λ_ _ h=>h)
   .rw[h4,C0]at h2;cases h2;have:=ju (DX.symm.trans h3);subst this;refine⟨j,{mj with ask:=putK mj.ask (Xs s') (.ref PX)},Si,Yn (glE hj),?_,?_⟩
    .rw[Gd];exact Dx.trans (h! A? Ll.symm)
    .show(aM (putK _ _ _) _).isSome=C?;rw[dq,b! rfl];rfl
  .rintro Y H4 ⟨c8,c9,Du,Hg,B1,sp,rfl,z,I,Bh,Bw⟩;refine⟨λb=>if b=d then A? (.dT kvs)else H4 b,λb=>?_,?_⟩
   .by_cases hb:b=d
    .refine .inr ⟨o2,.dT kvs,by rw[hb];exact z.fd,by rw[hb];exact Sh,b! hb⟩
    .exact .inl (a! hb)
   .refine⟨_,_,_,_,_,Hg,B1,sp,D?,λb hb=>?_,(a! BW.symm).trans z.fa,I,λe' P5 h1 h2=>?_⟩
    .dsimp only;by_cases M4:b=d
     .rw[b! M4,M4,z.gd]
     .rw[a! M4];exact z.eq b hb M4
    .rcases YV.mp h1 with h4|h4
     .exact Bh e' P5 h4 h2
     .rw[h4,Ao]at h2;cases h2;refine⟨s0,p,da,hE,λc HH=>?_⟩;walk_at"aa";obtain⟨VH,P6,EJ⟩:=Vy c HH;obtain⟨f',Dm⟩:=Xg.mp P6;refine kZ ?_;exact Bw f' VH c.2 (Xx.mp Dm).1 Dm EJ
 .rintro Y H3 ⟨c6,c7,c8,c9,Du,Hg,B1,sp,rfl,eq3,Jw,I,Bh⟩;refine⟨Hg,λb=>?_,?_⟩
  .by_cases hb:b=n.aa
   .refine .inr ⟨o1,.dK n.ask,by rw[hb];exact Jw,by rw[hb];exact hc.lv.ak n ni,by rw[hb];exact I.aa hc⟩
   .exact .inl (eq3 b hb).symm
  .refine k B1 sp Hg I λkv Ao=>?_;obtain⟨e',Lo⟩:=Xg.mp Ao;exact Bh e' kv (Xx.mp Lo).1 Lo
inductive iN(C:WS)(vs:List V)(H:Hp)(Q:VK)(_E:XK):Prop
 |mk (td BW ta:WS) (t:Th) (Dp:DP) (ins:List (Xk×Int)) (rows:List (List Th)) (head:Th) (W:List Th):vs=[.ref td,.ref BW,.ref ta]->DgTab Dp H ins rows td->DgAt Dp H head BW->(∀p own d kvs,Dp p own d kvs->nA p kvs)->At H t ta->t.Fit ins->t.tall<=100->t∈W->iP ins rows head W->(∀c∈callsOf (head.pl []),∃p',Step ins rows c.2.1 c.2.2 [t] p' t)->(∀(r:WS)(Ls:List Lv)(H':Hp),j! H H'->H' r=A? (.lst (Ls.map λL=>i! L.x))->Chain C Dp ins rows head H' Ls []->tY t Ls->Ls.length<=150->(∀M∈Ls,∀n∈M.ns,InW W t n.t)->Q (.ref r) H')->iN C vs H Q _E
theorem n6:FnOk P w K mg base CX0 4 T.g_29.f T.g_29.d ["digests","head","tree"] (iN T.e_Level):=by
 refine T.g_29.F.okA bW λAk A outer s H vs Q E hr h=>?_;obtain⟨td,BW,ta,t,Dp,ins,rows,head,W,rfl,hT,Kn,Io,hA,Ah,Ap,P7,TO,E4,k⟩:=h
 refine⟨_,(ag (ao 3 bW.nd (lA ⟨T.mi_Level.1,T.g_25.me.1,T.g_25.me.2,T.mi_Level.2⟩ (gM T) (hr.mono (by first|decide|lia)) rfl T.x_Level T.g_25.b .nil cP))
  (ag (ao 4 bW.nd (oo (pv 3) T.cl_Level T.g_26.me (eS T) (hr.mono (by first|decide|lia)) T.g_26.b .nil cP (ac (pcF T.g_23 (lW T) hr (ac (pv 2) ae)) ae)))
  (ag (fj (di hr) (aw aT (cB (pv 3) rfl) (pv 4) (λ_ _=>rfl)) (bP (v:=.int (-1)) rfl T.c_HEAD.choose_spec ⟨_,D?⟩) (pv 1) rfl)
  (ag (ao 5 bW.nd (aL ae))
  (ag (dk Xw (bJ (cB (pv 3) rfl) (λ_=>rfl)) (ag (aS (bC Xb Xq Xp aK (pv 5) (ac (pv 3) ae)))
  (ag (ao 6 bW.nd (lA ⟨T.mi_Level.1,T.g_25.me.1,T.g_25.me.2,T.mi_Level.2⟩ (gM T) (hr.mono (by first|decide|lia)) rfl T.x_Level T.g_25.b .nil cP))
  (ag (bx Xw rfl (b9 rfl T.n_6 (ac (aD aB rfl T.n_3 XE (ac (cB (pv 3) rfl) ae)) ae)) (pgN 7 bW.nd) (am (aS (pcF T.g_28 (qq T) hr (ac (pv 0) (ac (pv 3) (ac (pv 7) (ac (pv 6) ae))))))))
  (am (ao 3 bW.nd (pv 6)))))))
  (am (ay (pv 5)))))))),?_⟩
 try dsimp only[Ax,Ai]
 intro x dx hx GI Ay;refine⟨x,dx,D?,ad,λtl al kl H1 sb Iu AO AK n1 n2 n3 ex e1 e2 e3=>⟨D?,?_⟩⟩;dsimp only[az];obtain⟨s1,Jl,G0⟩:=rs hx GI Ay sb Iu AO AK n1 n2 n3 ex e1 e2 e3;refine⟨_,D?,x,_,_,D?,Jl.ins,vc _ _ _ (by decide +kernel) (by decide +kernel) (by decide +kernel),_,D?,.ref ta,D?,λap Sk=>?_⟩;refine gU Sk λH2 s2 Et=>?_
 have VI:At H2 (.knot Yy [t]) ap:=by
  rw[At];exact⟨by decide +kernel,[ta],Et,.cons (hA.mono (k! (s1.trans s2))) .nil⟩
 have AD:(w! Yy [t]).tall=t.tall+1:=by rw[q!,ax,ax];lia
 have VJ:H ap=none:=s1.free Sk;refine⟨⟨x,dx,tl,al,kl,[]⟩,ap,.knot Yy [t],D?,Jl.keep (k! s2) (λb _ o e=>s2 b o e),VI,by lia,λn hn=>(by cases hn),by show 0<=50000;decide,λL1 j n H3 Hf Ek hj Gd fr=>?_⟩;dsimp only[az];rcases Ek with rfl|⟨aa,ka,D9,AB,rfl⟩
 .cases hj
 have Rc:j=0/\n=⟨.knot Yy [t],ap,aa,ka,[],[]⟩:=by
  cases j with
  |zero=>exact⟨D?,(Xl hj).symm⟩
  |succ j=>cases hj
 obtain⟨rfl,rfl⟩:=Rc;have Sl:=Hf.ak _ (WR hj);refine⟨_,D?,_,D?,x,T.e_Level,dx,_,_,D?,Hf.ins,T.cl_Level,T.na_Level_asked,pJ _ _ _,_,D?,al,_,_,.ref aa,D?,D?,n! Hf.al,bo (j:=0) rfl,aa,_,D?,DPut.k (k:=Xs (-1)) Sl (br (by show 0<=1000000;decide)),?_⟩;have f3:j! H H3:=λb o e=>fr b o (λz=>by rw[G0 b (cO (L:=⟨x,dx,tl,al,kl,[]⟩) b z)]at e;cases e) (s2 _ _ (s1 _ _ e));have Lp:H aa=none:=(s1.trans s2).free D9;have P8:H ka=none:=(s1.trans s2).free AB;have s4:j! H (upd H3 aa (.dK (putK [] (Xs (-1)) (.ref BW)))):=aE f3 Lp;have Sm:(upd H3 aa (.dK (putK [] (Xs (-1)) (.ref BW)))) aa=A? (.dK (putK [] (Xs (-1)) (.ref BW))):=ad;have M5:=Hf.setAsk (ask:=putK [] (Xs (-1)) (.ref BW)) hj (λb xs e=>by rw[af (aF e Sl (λz=>nomatch z))];exact e) (λb _ hb o e=>by rw[af hb];exact e) Sm;generalize(upd H3 aa (.dK (putK [] (Xs (-1)) (.ref BW))))=H4 at s4 Sm M5 |-;refine⟨lnE rfl,λlv Jx=>?_⟩;dsimp only[az];refine gU Jx λH5 s5 e5=>?_;have F7:=s4.trans s5;have P9:H lv=none:=s4.free Jx;generalize P':(Lv.add ⟨x,dx,tl,al,kl,[]⟩ (.knot Yy [t]) ap aa ka).setAsk 0 ⟨.knot Yy [t],ap,aa,ka,[],[]⟩ (putK [] (Xs (-1)) (.ref BW))=L at M5;have Gf:L.ns=[⟨.knot Yy [t],ap,aa,ka,[(Xs (-1),.ref BW)],[]⟩]:=by rw[<-P'];rfl
 have VL:L.x=x:=by rw[<-P'];rfl
 have Lq:∀b∈L.own,H b=none:=λb hb=>by
  have AV:b∈(Lv.mk x dx tl al kl []).own\/b=aa\/b=ka:=by
   rw[<-P']at hb;have:b=x\/b=tl\/b=al\/b=kl\/b=aa\/b=ka:=by simpa[Lv.own,Lv.setAsk,Lv.add,dcts]using hb
   rcases this with h|h|h|h|h|h
   .exact .inl (by rw[h];simp[Lv.own])
   .exact .inl (by rw[h];simp[Lv.own])
   .exact .inl (by rw[h];simp[Lv.own])
   .exact .inl (by rw[h];simp[Lv.own])
   .exact .inr (.inl h)
   .exact .inr (.inr h)
  rcases AV with h|rfl|rfl
  .exact G0 b h
  .exact Lp
  .exact P8
 have VM:LvSh T.e_Level H5 L:=M5.keep (k! s5) (λb _ o e=>s5 b o e)
 have Qa:lv∉L.own:=λz=>by
  obtain⟨o,e,_⟩:=cC M5 z;rw[Jx]at e;cases e
 have I0:LoopI T.e_Level Dp ins rows head W t H lv (t.tall+1) H5 [] L:=by
  refine⟨F7,e5,⟨λM hM=>(by cases hM),λk M hk=>(by cases hk)⟩,VM,λn hn=>?_,λM hM=>(by cases hM),⟨Qa,λM hM=>(by cases hM)⟩,⟨P9,Lq,λM hM=>(by cases hM)⟩,⟨L,_,rfl,Gf,rfl,?_⟩,by show 0+_<=_;lia,by rw[Gf];show 1<=50000;decide,λM hM=>(by cases hM),λn hn=>(by rw[Gf]at hn;rw[W0.mp hn];exact .inr rfl)⟩
  .rw[Gf]at hn;rw[W0.mp hn];refine⟨D?,by simp,λkv Ao=>?_,⟨_,_,D?⟩,by show 1<=100;decide,by show(w! Yy [t]).tall<=_;lia⟩;have Dr:kv=(Xs (-1),.ref BW):=W0.mp Ao;subst Dr;refine⟨-1,head,BW,⟨D?,D?,.inl ⟨D?,D?,t,D?⟩,Kn.mono (KTD.of F7)⟩,λc hc=>?_⟩;obtain⟨p',st⟩:=E4 c hc;exact⟨p',t,st,by lia,P7,Ah⟩
  .show(aM [((Xs (-1):Key),i! BW)] (Xs (-1))).isSome=C?;rw[bq rfl];rfl
 have Fp:x=L.x:=VL.symm;rw[Fp];refine⟨λmz Y H6=>Ex5 λ(Ls:List Lv)(L:Lv)(c4 c6 c7:Option V)=>An2 (Y=[A? (.ref td),A? (.ref BW),A? (.ref ta),A? (.ref L.x),c4,A? (.ref lv),c6,c7]) (LoopI T.e_Level Dp ins rows head W t H lv mz H6 Ls L),⟨_,[],L,_,_,_,D?,I0⟩,?_⟩;rintro mz Y H6 ⟨Ls,L,c4,c6,c7,rfl,I⟩;refine⟨_,D?,L.x,T.e_Level,L.dx,_,_,D?,I.cur.ins,T.cl_Level,T.na_Level_trees,ny _ _ _,!(L.ns.map λn=>i! n.ta).isEmpty,?_,?_⟩
 .exact .inl ⟨_,n! I.cur.tl,rfl⟩
 refine dA (λcc=>?_) (λcc=>?_)
 .have Ay:L.ns≠[]:=λz=>by rw[z]at cc;cases cc
  refine⟨λAe H'=>∃m',m'<mz/\Ex5 λ(Ls:List Lv)(L:Lv)(c4 c6 c7:Option V)=>An2 (Ae=[A? (.ref td),A? (.ref BW),A? (.ref ta),A? (.ref L.x),c4,A? (.ref lv),c6,c7]) (LoopI T.e_Level Dp ins rows head W t H lv m' H' Ls L),λAe H' h=>h,?_⟩;have Fq:=I.len;refine⟨_,D?,.inl ⟨D?,_,n! I.ls⟩,_,D?,lv,_,_,D?,D?,I.ls,lbE (by lia),?_⟩
  have VN:(upd H6 lv (.lst ((Ls.map λL=>i! L.x)++[.ref L.x]))) L.x=A? (.ins T.e_Level L.dx (lvF L.tl L.al L.kl)):=by
   rw[af (aF I.cur.ins I.ls (λz=>nomatch z))];exact I.cur.ins
  have Qb:LvSh T.e_Level (upd H6 lv (.lst ((Ls.map λL=>i! L.x)++[.ref L.x]))) L:=I.cur.keep (aU I.ls) (λb hb o e=>by rw[af (show b≠lv fromλz=>I.lvn.1 (z ▸ hb))];exact e);have k7:KTD H6 (upd H6 lv (.lst ((Ls.map λL=>i! L.x)++[.ref L.x]))):=⟨aU I.ls,λb xs e=>by rw[af (aF e I.ls (λz=>nomatch z))];exact e⟩;generalize VO:(upd H6 lv (.lst ((Ls.map λL=>i! L.x)++[.ref L.x])))=H7 at VN Qb k7 |-;intro x dx hx GI FH;refine⟨x,dx,D?,ad,λtl al kl H8 sb Iu AO AK n1 n2 n3 ex e1 e2 e3=>⟨D?,?_⟩⟩;dsimp only[az];obtain⟨s8,hB,FI⟩:=rs hx GI FH sb Iu AO AK n1 n2 n3 ex e1 e2 e3;have Iv:LvSh T.e_Level H8 L:=Qb.keep (k! s8) (λb _ o e=>s8 b o e)
  have Lr:∀b∈L.own,b∉(Lv.mk x dx tl al kl []).own:=λb hb hz=>by
   obtain⟨o,e,_⟩:=cC Qb hb;rw[FI b hz]at e;cases e
  have VP:KTD H H8:=((KTD.of I.same).trans k7).trans (KTD.of s8);refine⟨_,D?,L.x,T.e_Level,L.dx,_,_,D?,Iv.ins,T.cl_Level,T.na_Level_trees,ny _ _ _,L.tl,_,D?,.inl (n! Iv.tl),_,D?,?_⟩;have hlen:((L.ns.map λn=>i! n.ta).length:Int).toNat=L.ns.length:=by rw[WO,Yl]
  have VQ:=I.cnt;refine⟨by rw[WO];lia,by rw[WO];lia,?_⟩;rw[hlen]
  refine cy (λi Y H9=>Ex3 λ(c7:Option V)(L' B':Lv)=>An2 (Y=[A? (.ref td),A? (.ref BW),A? (.ref ta),A? (.ref L.x),c4,A? (.ref lv),A? (.ref x),c7]) (RunI T.e_Level Dp ins rows head (Okd W ins (mz - 1)) H8 L ⟨x,dx,tl,al,kl,[]⟩ i H9 L' B'))
   ⟨_,L,⟨x,dx,tl,al,kl,[]⟩,rfl,RunI.start Iv hB rfl⟩ ?_ ?_
  .rintro i Y H9 hi ⟨c7,L',B',rfl,R⟩;dsimp only[az];obtain⟨n,hn⟩:∃n,L.ns[i]?=A? n:=⟨_,WQ hi⟩;have Mj:L'.ns[i]?=A? n:=(R.todo i (WX _)).trans hn;have M6:=(I.rd n (WR hn)).mono ((k7.trans (KTD.of s8)).trans R.ktd);have hC:=R.handC Iv Lr Mj;have Qc:L'.x=L.x:=R.up.x;have Qd:B'.x=x:=R.gr.x;have ei:(0:Int)+((i:Nat):Int)=((i:Nat):Int):=by lia
   refine⟨_,D?,_,D?,_,D?,_,D?,td,L',B',i,n,Dp,ins,rows,head,Okd W ins (mz - 1),W,by rw[Qc,Qd,ei];rfl,hT.mono (VP.trans R.ktd),Io,hC,M6.sp,M6.ask,R.good,λh ho=>⟨?_,ho.mem⟩,TO.wl,TO.rl,M6.kids,M6.knot,λB2 sp Ex I2 hd=>?_⟩
   .have:=ho.tall;have:=I.len;lia
   .exact⟨_,_,_,D?,R.step Mj I2 hd⟩
  .rintro Y H9 ⟨c7,L',B',rfl,R⟩;have Qd:B'.x=x:=R.gr.x;subst VO;obtain⟨Al,I'⟩:=I.step TO Ay s8 FI R;exact⟨_,D?,mz - 1,Al,_,B',_,_,_,by rw[Qd];rfl,I'⟩
 .have CJ:L.ns=[]:=by
   cases hL:L.ns with
   |nil=>rfl
   |cons a as=>rw[hL]at cc;exact g! rfl cc
  have EY:tY t Ls:=by
   obtain⟨L0,n0,h1,h2,h3,h4⟩:=I.top;cases Ls with
   |cons M Ms=>exact⟨L0,n0,h1,h2,h3,h4⟩
   | nil =>
     have Jl:L=L0:=Xl h1;rw[<-Jl,CJ]at h2;cases h2
  have C1:=I.ch;rw[CJ]at C1;exact⟨_,D?,k lv Ls H6 I.same I.ls C1 EY (by have:=I.len;lia) I.mem⟩
def WsAt(H:Hp)(bl:WS)(ws:List (WS×List (Key×V))):Prop:=H bl=A? (.lst (ws.map λw=>i! w.1))/\∀w∈ws,H w.1=A? (.dK w.2)/\(w.2.map (·.1)).Nodup/\∀kv∈w.2,∃s:Int,kv.1=Xs s
inductive gL(vs:List V)(H:Hp)(Q:VK)(_E:XK):Prop
 |mk (ka bl:WS) (sp:List (Key×V)) (ws:List (WS×List (Key×V))):vs=[.ref ka,.ref bl]->H ka=A? (.dK sp)->(sp.map (·.1)).Nodup->sp.length<=100->WsAt H bl ws->(∀w∈ws,w.1≠ka/\w.2.length<=101)->(∀kv∈sp,∃(kid:Int)(j:Nat)(w:WS×List (Key×V)),kv=(Xs kid,.int (j:Nat))/\ws[j]?=A? w)->(∀(r:WS)(AN:List (List Key×V))(H':Hp),j! H H'->H r=B?->H' r=A? (.dT AN)->(∀(kid:Int)(j:Nat)(w:WS×List (Key×V))(s:Int)(v:V),aM sp (Xs kid)=A? (.int (j:Nat))->ws[j]?=A? w->aM w.2 (Xs s)=A? v->aM AN (ky (s,kid))=A? v)->Q (.ref r) H')->gL  vs H Q _E
theorem mh:FnOk P w K mg base CX0 1 T.g_30.f T.g_30.d ["spots","beneath"] gL:=by
 refine T.g_30.F.okA cf λAk A outer s H vs Q E hr h=>?_;obtain⟨ka,bl,sp,ws,rfl,AW,F2,Lm,⟨Sn,AR⟩,VS,B7,k⟩:=h
 refine⟨_,(ag (ao 2 cf.nd fT)
  (ag (j1 (bx Xw rfl (lw (pv 0)) (bw rfl (au (pgN 3 cf.nd) (au (pgN 4 cf.nd) aY))) (am (j1 (bx Xw rfl (lw (aw aT (pv 1) (pv 4) (λ_ _=>rfl))) (bw rfl (au (pgN 5 cf.nd) (au (pgN 6 cf.nd) aY))) (am (fj (di hr) (pv 2) (aQ (ac (pv 5) (ac (pv 3) ae))) (pv 6) rfl)))))))
  (am (ay (pv 2))))),?_⟩
 try dsimp only[Ax,Ai]
 intro r M7;dsimp only[az];refine gU M7 λH1 s1 e1=>?_;have Jy:ka≠r:=aq AW M7;refine⟨_,D?,ka,sp,D?,s1 _ _ AW,λo1=>?_⟩
 refine mq (a:=ka) (o:=o1) (kvs:=sp) (λe Y H3=>Ex5 λ(c3 c4 c5 c6:Option V)(AN:List (List Key×V))=>An6 (Y=[A? (.ref ka),A? (.ref bl),A? (.ref r),c3,c4,c5,c6]) ((∀b u,b≠ka->H b=A? u->H3 b=A? u)) (H3 ka=A? (.frz o1 (.dK sp))) (H3 r=A? (.dT AN)) (AN.length<=101 * e) (∀(e':Nat)(kid:Int)(j:Nat)(w:WS×List (Key×V))(s:Int)(v:V),e'<e->sp[e']?=A? (Xs kid,.int (j:Nat))->ws[j]?=A? w->aM w.2 (Xs s)=A? v->aM AN (ky (s,kid))=A? v))
  ⟨B?,B?,B?,B?,[],rfl,λb u hb e=>by rw[af hb];exact s1 _ _ e,ad,by rw[af Jy.symm];exact e1,Xr _,λe' kid j w s v h=>by cases h⟩ (λe Y H3 _⟨_,_,_,_,_,_,_,h,_,_,_⟩=>h) ?_ ?_
 .rintro e kv p Y H3 Ao hp ⟨c3,c4,c5,c6,AN,rfl,Gs,Qe,BF,hlen,Ag⟩;walk_at"aa";obtain⟨kid,j,w,rfl,hw⟩:=B7 kv (WR Ao);have wm:=WR hw;obtain⟨ew,VT,VU⟩:=AR w wm;obtain⟨Iw,DR⟩:=VS w wm;refine kZ ?_;have Fl:e<100:=by have:=(glE Ao);lia
  dsimp only;refine gU hp λH4 s4 e4=>?_;have e4:H4 p=A? (.tup [.int kid,.int ((j:Nat):Int)]):=e4;refine⟨p,_,D?,l! e4,D?,_,_,D?,_,_,D?,D?,?_⟩;dsimp only[az];have Qf:=s4 _ _ (Gs _ _ (aF Sn AW (λz=>nomatch z)) Sn);have Iy:=s4 _ _ (Gs _ _ Iw ew);have Jr:=s4 _ _ BF;have Qg:w.1≠r:=aF Iy Jr (λz=>nomatch z);refine⟨_,D?,_,D?,bl,_,_,.ref w.1,D?,D?,n! Qf,bo (gmE hw),w.1,w.2,D?,Iy,λo2=>?_⟩
  refine mq (a:=w.1) (o:=o2) (kvs:=w.2) (λf Y H5=>Ex3 λ(c5 c6:Option V)(AN:List (List Key×V))=>An7 (Y=[A? (.ref ka),A? (.ref bl),A? (.ref r),A? (.int kid),A? (.int ((j:Nat):Int)),c5,c6]) ((∀b u,b≠w.1->b≠r->H4 b=A? u->H5 b=A? u)) (H5 w.1=A? (.frz o2 (.dK w.2))) (H5 r=A? (.dT AN)) (AN.length<=101 * e+f) ((∀(e':Nat)(kid:Int)(j:Nat)(w:WS×List (Key×V))(s:Int)(v:V),e'<e->sp[e']?=A? (Xs kid,.int (j:Nat))->ws[j]?=A? w->aM w.2 (Xs s)=A? v->aM AN (ky (s,kid))=A? v)) (∀(f':Nat)(s:Int)(v:V),f'<f->w.2[f']?=A? (Xs s,v)->aM AN (ky (s,kid))=A? v))
   ⟨_,_,AN,rfl,λb u hb _ eb=>by rw[af hb];exact eb,ad,by rw[af Qg.symm];exact Jr,by lia,Ag,λf' s v h=>by cases h⟩ (λf Y H5 _⟨_,_,_,_,_,h,_,_,_,_⟩=>h) ?_ ?_
  .rintro f M1 p2 Y H5 C0 CN ⟨c5,c6,AN,rfl,Fx,Eb,Cm,hlen,Ag,Ge⟩;obtain⟨s',Fn⟩:=VU M1 (WR C0);obtain⟨k2,v2⟩:=M1;simp only at Fn;subst Fn;have Qh:f<101:=by have:=(glE C0);lia
   dsimp only;refine gU CN λH6 s6 e6=>?_;have e6:H6 p2=A? (.tup [.int s',v2]):=e6;refine⟨p2,_,D?,l! e6,D?,_,_,D?,_,_,D?,D?,?_⟩;dsimp only[az];refine⟨_,D?,_,D?,_,D?,_,D?,lnE rfl,λkp FZ=>?_⟩;refine gU FZ λH7 s7 e7=>?_;have e7:H7 kp=A? (.tup ((ky (s',kid)).map kV)):=e7;have G1:=s6.trans s7;have KR:=G1 _ _ Cm;refine⟨r,_,D?,DPut.t KR e7 (br (by lia)),?_⟩;refine⟨_,_,_,D?,λb u hb So eb=>by rw[af So];exact G1 _ _ (Fx b u hb So eb),by rw[af Qg];exact G1 _ _ Eb,ad,?_,λe' Ea j' w' s v he h1 h2 h3=>?_,λf' s v hf h1=>?_⟩
   .have:=bG AN (ky (s',kid)) v2;lia
   .rw[dq];by_cases hk:ky (s,Ea)=ky (s',kid)
    .have CA:Ea=kid:=h! Prod.snd (ju hk);rw[CA]at h1;exact g! (kG F2 (i:=e') (j:=e) (x:=Xs kid) (gmE h1) (gmE Ao)) (by lia)
    .rw[a! hk];exact Ag e' Ea j' w' s v he h1 h2 h3
   .rw[dq];by_cases hk:ky (s,kid)=ky (s',kid)
    .rw[b! hk];have Qi:s=s':=h! Prod.fst (ju hk);rw[Qi]at h1;have M8:=kG VT (i:=f') (j:=f) (x:=Xs s') (gmE h1) (gmE C0);rw[M8,C0]at h1;cases h1;rfl
    .rw[a! hk];rcases YV.mp hf with h4|h4
     .exact Ge f' s v h4 h1
     .rw[h4,C0]at h1;cases h1;exact g! rfl hk
  .rintro Y H5 ⟨c5,c6,AN,rfl,Fx,Eb,Cm,hlen,Ag,Ge⟩;refine⟨upd H5 w.1 (.dK w.2),λb=>?_,?_⟩
   .by_cases hb:b=w.1
    .rw[hb];exact .inr ⟨o2,_,Eb,Iy,ad⟩
    .exact .inl (af hb)
   .refine⟨_,_,_,_,AN,D?,λb u hb eb=>?_,?_,by rw[af Qg.symm];exact Cm,by lia,λe' Ea j' w' s v he h1 h2 h3=>?_⟩
    .by_cases M9:b=w.1
     .rw[M9,ew]at eb;cases eb;rw[M9,ad]
     .rw[af M9];exact Fx b u M9 (aq eb M7) (s4 _ _ (Gs b u hb eb))
    .rw[af Iw.symm];exact Fx _ _ Iw.symm Jy (s4 _ _ Qe)
    .rcases YV.mp he with h4|h4
     .exact Ag e' Ea j' w' s v h4 h1 h2 h3
     .rw[h4,Ao]at h1;cases h1;rw[hw]at h2;cases h2;obtain⟨f',Dm⟩:=Xg.mp (iX h3);exact Ge f' s v (Xx.mp Dm).1 Dm
 .rintro Y H3 ⟨c3,c4,c5,c6,AN,rfl,Gs,Qe,BF,hlen,Ag⟩;refine⟨upd H3 ka (.dK sp),λb=>?_,?_⟩
  .by_cases hb:b=ka
   .rw[hb];exact .inr ⟨o1,_,Qe,s1 _ _ AW,ad⟩
   .exact .inl (af hb)
  .refine⟨_,D?,k r AN _ (λb u eb=>?_) M7 (by rw[af Jy.symm];exact BF) λkid j w s v h1 h2 h3=>?_⟩
   .by_cases hb:b=ka
    .rw[hb,AW]at eb;cases eb;rw[hb,ad]
    .rw[af hb];exact Gs b u hb eb
   .obtain⟨e',Lo⟩:=Xg.mp (iX h1);exact Ag e' kid j w s v (Xx.mp Lo).1 Lo h2 h3
theorem iI:∀(prs acc:List (Key×V)),((acc++prs).map (·.1)).Nodup->eZ acc prs=acc++prs
 | [],acc,_=>by rw[Ye];rfl
 | pr::prs,acc,h=>by
   have e:acc++pr::prs=(acc++[pr])++prs:=by rw[YN];rfl
   rw[e]at h |-
   have hv:aM acc pr.1=none:=by
    cases hv:aM acc pr.1 with
    |none=>rfl
    | some v =>
      rw[W8,W8,YN,Y5]at h;exact g! rfl (h.2.2 _ (Xn.mpr ⟨_,iX hv,rfl⟩) pr.1 (XA _ (by simp)))
   show eZ (putK acc pr.1 pr.2) prs=_;rw[la _ hv];exact iI prs _ h
def fOf(AN:List (List Key×V))(s k:Int):Int:=match aM AN (ky (s,k))with
 |some (.int v)=>v
 |_=>0
structure Ws1(VR:Int->Th->Int->Prop)(Hl:Hp)(m:Nd)(w:WS×List (Key×V)):Prop where
 new:Hl w.1=B?
 len:w.2.length<=101
 val:∀s,(aM m.ask (Xs s)).isSome=C?->∃v,aM w.2 (Xs s)=A? (.int v)/\VR s m.t v
structure zB(VR:Int->Th->Int->Prop)(Hl H:Hp)(bl:WS)(ns:List Nd)(ws:List (WS×List (Key×V))):Prop where
 «at»:WsAt H bl ws
 len:ws.length=ns.length
 one:∀(j:Nat)(m:Nd)(w:WS×List (Key×V)),ns[j]?=A? m->ws[j]?=A? w->Ws1 VR Hl m w
theorem WsAt.same{bl:WS}{ws:List (WS×List (Key×V))}(h:WsAt H bl ws)(s:j! H H'):WsAt H' bl ws:=⟨s _ _ h.1,λw hw=>⟨s _ _ (h.2 w hw).1,(h.2 w hw).2⟩⟩
def WSp(Dp:DP)(Jz:Sp)(Wv:Th->(Int->Int->Int)->Int->Prop):Prop:=∀(H1:Hp)(p:Th)(da ca:WS)(AN:List (List Key×V))(f:Int->Int->Int)(R:VK),DgN Dp ca H1 p da->H1 ca=A? (.dT AN)->(∀c∈callsOf (p.pl []),aM AN (ky c.2)=A? (.int (f c.2.1 c.2.2)))->(∀(v:Int)(H2:Hp),j! H1 H2->Wv p f v->R (.int v) H2)->Jz [.ref da,.ref ca] H1 R E0
inductive mM(P:Xe)(w:Xv)(K:WY)(mg:Xk->Option WV)(base:X5)(vs:List V)(H:Hp)(Q:VK)(_E:XK):Prop
 |mk (b hd ta f g:WS) (ins outs:List (Xk×Int)) (AY head t:Th) (rows:List (List Th)) (CV Jz:Sp) (Dp:DP) (Lu:Th->Prop) (Wv:Th->(Int->Int->Int)->Int->Prop) (W:List Th) (VR:Int->Th->Int->Prop):vs=[.ref b,.ref hd,.ref ta,.ref f,.ref g]->Bk H ins outs AY rows b->aH ins->(∀row∈rows,row.length=ins.length/\∀p∈row,Lu p)->At H head hd->Lu head->FvOk P w K mg base CX0 4 f CV->wB Dp CV Lu->(∀p own d kvs,Dp p own d kvs->nA p kvs)->At H t ta->t.Fit ins->t.tall<=100->t∈W->iP ins rows head W->(∀c∈callsOf (head.pl []),∃p',Step ins rows c.2.1 c.2.2 [t] p' t)->FvOk P w K mg base CX0 2 g Jz->WSp Dp Jz Wv->(∀(s:Int)(u p:Th)(f:Int->Int->Int)(v:Int),jw ins rows head s u p->(∀c∈callsOf (p.pl []),∀h,u.kids[c.2.2.toNat]?=A? h->VR c.2.1 h (f c.2.1 c.2.2))->Wv p f v->VR s u v)->(∀(v:Int)(H':Hp),j! H H'->VR (-1) (.knot Yy [t]) v->Q (.int v) H')->mM P w K mg base vs H Q _E
theorem mR:FnOk P w K mg base CX0 6 T.g_31.f T.g_31.d ["book","head","tree","digest","worth"] (mM P w K mg base):=by
 refine T.g_31.F.okA cM λAk A outer s H vs Q E hr h=>?_;obtain⟨b,hd,ta,f,g,ins,outs,AY,head,t,rows,CV,Jz,Dp,Lu,Wv,W,VR,rfl,hB,gi,AI,VV,Qj,Jq,D1,Io,VX,Ah,Ap,P7,TO,E4,VY,Qk,HQ,k⟩:=h
 refine⟨_,(ag (ao 5 cM.nd (aL ae))
  (ag (bx Xw rfl (tV rfl T.n_7 (pcF T.g_29 (n6 T) hr (ac (pcF T.g_27 (l4 T) hr (ac (pv 0) (ac (pv 3) ae))) (ac (iA (k:=4) (i:=3) rfl (Or.inl rfl) (hr.mono (by first|decide|lia)) cP (ac (pv 1) ae)) (ac (pv 2) ae))))) (pgN 6 cM.nd) (ag (ao 7 cM.nd (aL ae))
  (ag (bx Xw rfl (wb rfl T.n_10 (ac (cB (pv 6) rfl) (ac (cB (pv 6) rfl) ae))) (bw rfl (au (pgN 8 cM.nd) (au (pgN 9 cM.nd) aY))) (ag (ao 10 cM.nd (pcF T.g_30 (mh T) hr (ac (pv 9) (ac (pv 5) ae))))
  (am (aS (bC Xb Xq Xp aK (pv 7) (ac (bj (jY (wn hr) rfl) rfl T.n_0 PyProof.Rows.boot_dict (ac (nT (bv (N:=["state","pair","worth","kids"]) (js:=[B?,B?,A? 4,A? 10]) (g:=(qp K 2 (fP (az 0) (fP (az 1) qD)))) (tt:=bf) (te:=(tK (ba (aZ 0) (ba (uZ P w K mg base CX0 2 2 E0 (ba (aZ 1) (ba (aZ 3) d7))) d7)))) rfl (bU rfl (by decide +kernel) (by decide +kernel) rfl rfl rfl) (lw (pv 8)) (λ_ _ _ _ _ _=>(bw rfl (au (pgN 0 xl) (au (pgN 1 xl) aY)))) (ld (cZ bL (aO rfl) (cZ bL (aO rfl) kT))) (λ_ _ _ _ _ _=>bt) (λ_ _ _ _ _ _=>(aQ (ac (pv 0) (ac (iA (k:=2) (i:=2) rfl (by first|exact Or.inl rfl|exact Or.inr (Or.inl rfl)|exact Or.inr (Or.inr rfl)) (hr.mono (by first|decide|lia)) cP (ac (pv 1) (ac (pv 3) ae))) ae)))))) ae)) ae))))))
  (am (ao 5 cM.nd (pv 7))))))
  (am (ay (gw (di hr) (aw aT (pv 5) ai (λ_ _=>rfl)) (bP (v:=.int (-1)) rfl T.c_HEAD.choose_spec ⟨_,D?⟩) (λ_ _=>rfl)))))),?_⟩
 try dsimp only[Ax,Ai]
 refine⟨lnE rfl,λbl BL=>?_⟩;dsimp only[az];refine gU BL λH1 s1 e1=>?_
 have VZ:Bk H1 ins outs AY rows b:=by
  obtain⟨ia,oa,ha,ra,Av,AA,Aw,hB⟩:=hB;exact⟨ia,oa,ha,ra,Av,AA,Aw,hB.mono (k! s1)⟩
 refine⟨_,D?,_,D?,b,f,ins,outs,AY,rows,CV,Dp,Lu,D?,VZ,gi,TO.rl,AI,Jq,D1,λtd H2 s2 Ql=>?_⟩;refine⟨f,CV,D?,Jq,_,D?,D1 H2 head hd _ (VV.mono (k! (s1.trans s2))) Qj λr d own kvs H3 s3 Fm er ed Iq=>?_⟩;refine⟨_,D?,td,r,ta,t,Dp,ins,rows,head,W,D?,Ql.mono (KTD.of s3),⟨d,own,kvs,er,ed,Iq⟩,Io,VX.mono (k! ((s1.trans s2).trans s3)),Ah,Ap,P7,TO,E4,λlr Ls H4 s4 Sq C1 EY hlen _=>?_⟩;have GU:=((s1.trans s2).trans s3).trans s4;refine⟨lr,_,D?,n! Sq,?_⟩
 refine rT (K:=K) (a:=lr) (xs:=Ls.map λL=>i! L.x) (λi Y H5=>Ex7 λ(c6 c7 c8 c9 Du:Option V)(bl:WS)(ws:List (WS×List (Key×V)))=>An3 (Y=[A? (.ref b),A? (.ref hd),A? (.ref ta),A? (.ref f),A? (.ref g),A? (.ref bl),c6,c7,c8,c9,Du]) (j! H4 H5) (zB VR H4 H5 bl (nxt Ls (Ls.length - i) []) ws))
  ⟨B?,B?,B?,B?,B?,bl,[],rfl,.refl _,⟨⟨((s2.trans s3).trans s4) _ _ e1,λw hw=>by cases hw⟩,by unfold nxt;rw[Nat.sub_zero,XU (WX _)];rfl,λj m w _ hw=>by cases hw⟩⟩ (λi Y H5 _⟨_,_,_,_,_,_,_,_,s5,_⟩=>n! (s5 _ _ Sq)) ?_ ?_
 .rintro i x Y H5 hi hx ⟨c6,c7,c8,c9,Du,bl,ws,rfl,s5,AR⟩;rw[WO]at hi hx;rw[W3]at hx
  obtain⟨L,hL,rfl⟩:∃L,Ls[Ls.length - 1 - i]?=A? L/\i! L.x=x:=by
   cases h:Ls[Ls.length - 1 - i]? with
   |none=>rw[h]at hx;cases hx
   |some L=>rw[h]at hx;exact⟨L,D?,Xl hx⟩
  have Bx:=C1.sh L (WR hL);have AF:=C1.cl _ L hL;rw[show Ls.length - 1 - i+1=Ls.length - i by lia]at AF;dsimp only[az];refine⟨lnE rfl,λtl Ap=>?_⟩;dsimp only[az];refine gU Ap λH6 s6 e6=>?_;have Iz:=s5.trans s6;have E5:H4 tl=none:=s5.free Ap;refine⟨_,D?,L.x,T.e_Level,L.dx,_,_,D?,Iz _ _ Bx.ins,T.cl_Level,T.na_Level_asked,pJ _ _ _,_,D?,L.x,T.e_Level,L.dx,_,_,D?,Iz _ _ Bx.ins,T.cl_Level,T.na_Level_kid_spots,uJ _ _ _,L.al,L.kl,D?,⟨_,n! (Iz _ _ Bx.al)⟩,⟨_,n! (Iz _ _ Bx.kl)⟩,?_⟩
  refine ul (K:=K) (a:=L.al) (b:=L.kl) (xs:=L.ns.map λn=>i! n.aa) (ys:=L.ns.map λn=>i! n.ka) (by rw[WO,WO]) (λq Y H7=>Ex4 λ(c8 c9 Du:Option V)(us:List (WS×List (Key×V)))=>An3 (Y=[A? (.ref b),A? (.ref hd),A? (.ref ta),A? (.ref f),A? (.ref g),A? (.ref bl),A? (.ref L.x),A? (.ref tl),c8,c9,Du]) (SameB tl H6 H7) (zB VR H4 H7 tl (L.ns.take q) us))
   ⟨_,_,_,[],rfl,SameB.refl,⟨⟨e6,λw hw=>by cases hw⟩,by rw[ZF];rfl,λj m w _ hw=>by cases hw⟩⟩ (λq Y H7 _⟨_,_,_,_,_,s7,_⟩=>⟨n! (s7 _ _ (λz=>by rw[<-z,Bx.al]at E5;cases E5) (Iz _ _ Bx.al)),n! (s7 _ _ (λz=>by rw[<-z,Bx.kl]at E5;cases E5) (Iz _ _ Bx.kl))⟩) ?_ ?_
  .rintro q x y pz Y H7 hx hy M' ⟨c8,c9,Du,us,rfl,s7,DQ⟩;rw[W3]at hx hy
   obtain⟨n,hn,rfl⟩:∃n,L.ns[q]?=A? n/\i! n.aa=x:=by
    cases h:L.ns[q]? with
    |none=>rw[h]at hx;cases hx
    |some n=>rw[h]at hx;exact⟨n,D?,Xl hx⟩
   rw[hn]at hy;have De:i! n.ka=y:=Xl hy;subst De;have Ec:=WR hn;refine gU M' λH8 s8 e8=>?_;have D':j! H5 H8:=λc o e=>s8 _ _ (s7 c o (λz=>by rw[z,Ap]at e;cases e) (s6 _ _ e));have JA:=s5.trans D';refine⟨pz,_,D?,l! e8,D?,_,_,D?,_,_,D?,D?,?_⟩;dsimp only[az];have B7:=AF.sp n Ec;have Lm:=B7.len (AF.sn n Ec);have DW:=AF.kd n Ec;have DR:=AR.len
   have V0:∀(j:Nat)(w':WS×List (Key×V)),ws[j]?=A? w'->∃m,(nxt Ls (Ls.length - i) [])[j]?=A? m/\Ws1 VR H4 m w':=λj w' BN=>by
    obtain⟨m,hm⟩:∃m,(nxt Ls (Ls.length - i) [])[j]?=A? m:=⟨_,WQ (by rw[<-DR];exact(Xx.mp BN).1)⟩;exact⟨m,hm,AR.one j m w' hm BN⟩
   refine⟨_,D?,_,D?,n.ka,bl,n.sp,ws,D?,JA _ _ (Bx.sp n Ec),AF.sn n Ec,by lia,AR.at.same D',λw' BN=>?_,λkv Ao=>?_,λca AN H9 s9 B6 Fu V1=>?_⟩
   .walk_at"aa";obtain⟨j,hj⟩:=Xg.mp BN;obtain⟨m,hm,hW⟩:=V0 j w' hj;refine kZ ?_;exact⟨λz=>(by have:=hW.new;rw[z,Bx.sp n Ec]at this;cases this),hW.len⟩
   .walk_at"aa";obtain⟨kid,j,m,h1,h2,_⟩:=B7 kv Ao;obtain⟨w',BN⟩:∃w',ws[j]?=A? w':=⟨_,WQ (by rw[DR];exact(glE h2))⟩;refine kZ ?_;exact⟨kid,j,w',h1,BN⟩
   dsimp only[az];have Qm:=JA.trans s9;have Lw:=s9 _ _ (s8 _ _ DQ.at.1);have Lx:=Qm _ _ (Bx.ak n Ec)
   have Ip:AskOk Dp ins rows head H4 n.t n.ask:=λkv Ao=>by
    obtain⟨s,p,da,h,_⟩:=AF.ed n Ec kv Ao;exact⟨s,p,da,h⟩
   have AO:=Ip.len (AF.an n Ec);have D0:=TO.rl;refine⟨_,D?,.inl ⟨D?,_,n! Lw⟩,?_⟩;change lF _ _ _ _;refine oY (aa:=n.aa) (ask:=n.ask) (VW:=λkv v=>∃s,kv.1=Xs s/\VR s n.t v) (λR hR=>⟨_,rfl,hR⟩) Lx (by lia) (λe kv p H2 R Ao sb ep hR=>?_) (λD ps prs H2 s2 eD C6 Ba Dk=>?_)
   .walk_at"aa";obtain⟨s0,p0,da,hE,Dw⟩:=AF.ed n Ec kv (WR Ao);refine kZ ?_;rw[hE.k,hE.v]at ep;refine⟨p,_,D?,l! ep,D?,_,_,D?,_,_,D?,D?,?_⟩;dsimp only[az];walk_at"aa";obtain⟨d,own,kvs,g1,g2,g3⟩:=hE.dg;refine kZ ?_;have kp:∀c o,H4 c=A? o->c≠n.aa->H2 c=A? o:=λc o e hc=>sb c o hc (Qm _ _ e);have Hs:d≠ca:=λz=>by rw[z]at g2;rw[JA _ _ g2]at B6;cases B6
    have V2:DgN Dp ca H2 p0 da:=⟨d,own,kvs,Hs,kp _ _ g1 (aF g1 (Bx.ak n Ec) (λz=>nomatch z)),kp _ _ g2 (aF g2 (Bx.ak n Ec) (λz=>nomatch z)),g3⟩;have Qn:H2 ca=A? (.dT AN):=sb _ _ (aF Fu Lx (λz=>nomatch z)) Fu
    have Sr:∀c∈callsOf (p0.pl []),∃(v:Int)(m:Nd),aM AN (ky c.2)=A? (.int v)/\n.t.kids[c.2.2.toNat]?=A? m.t/\VR c.2.1 m.t v:=λc hc=>by
     obtain⟨j,m,h1,h2,h3,h4⟩:=Dw c hc;obtain⟨w',BN⟩:∃w',ws[j]?=A? w':=⟨_,WQ (by rw[DR];exact(glE h2))⟩;obtain⟨v,Qo,Na⟩:=(AR.one j m w' h2 BN).val _ h4;exact⟨v,m,V1 _ j w' _ _ h1 BN Qo,h3,Na⟩
    have M8:∀c∈callsOf (p0.pl []),∀v,aM AN (ky c.2)=A? (.int v)->fOf AN c.2.1 c.2.2=v:=λc _ v h=>by
     unfold fOf;rw[show ky (c.2.1,c.2.2)=ky c.2 from rfl,h]
    refine⟨_,D?,g,Jz,D?,VY,_,D?,_,D?,Qk H2 p0 da ca AN (fOf AN) _ V2 Qn (λc hc=>?_) λv H3 s3 V3=>?_⟩
    .walk_at"aa";obtain⟨v,m,h1,_,_⟩:=Sr c hc;refine kZ ?_;rw[M8 c hc v h1];exact h1
    .refine⟨lnE rfl,λpr B4=>?_⟩;refine hR v pr _ (s3.trans (aj B4 _)) (by rw[hE.k];exact ad) ⟨s0,hE.k,HQ s0 n.t p0 (fOf AN) v hE.pat (λc hc h hh=>?_) V3⟩;walk_at"aa";obtain⟨v',m,h1,h2,h3⟩:=Sr c hc;refine kZ ?_;rw[h2]at hh;cases hh;rw[M8 c hc v' h1];exact h3
   .have AZ:=Xa C6;have AK:=h! Ze Ba;rw[WO,WO]at AK;refine⟨D,ps,prs,D?,eD,C6,by lia,λwd Ss=>?_⟩;have F2:(prs.map (·.1)).Nodup:=by rw[Ba];exact AF.an n Ec
    rw[iI prs [] F2,List.nil_append];refine gU Ss λH3 s3 e3=>?_;have Su:=s2.trans s3;have Ly:=Su _ _ Lw;have V4:=DQ.len;rw[XB]at V4;have hql:=(glE hn);have hln:=AF.ln;refine⟨tl,_,_,D?,D?,Ly,lbE (by lia),?_⟩;have OT:wd≠tl:=aF e3 Ly (λz=>nomatch z);have Sv:j! H7 H3:=(s8.trans s9).trans Su;refine⟨_,_,_,us++[(wd,prs)],D?,λc o hc e=>by rw[af hc];exact Sv _ _ (s7 c o hc e),⟨⟨by rw[ad,W8];exact rfl,λw' BN=>?_⟩,by rw[W7,XB,YE];lia,λj m w' hm BN=>?_⟩⟩
    .rcases Xd.mp BN with h|h
     .obtain⟨h1,h2⟩:=DQ.at.2 w' h;exact⟨by rw[af (aF h1 DQ.at.1 (λz=>nomatch z))];exact Sv _ _ h1,h2⟩
     .rw[W0.mp h];refine⟨by rw[af OT];exact e3,F2,λkv Ao=>?_⟩;walk_at"aa";obtain⟨v,_,P5,_,h1,s,h2,_⟩:=Dk kv Ao;refine kZ ?_;exact⟨s,h1.symm.trans h2⟩
    .by_cases V5:j<q
     .rw[XJ (by lia)]at BN;refine DQ.one j m w' ?_ BN;rw[List.getElem?_take,b! (by lia)]at hm;rw[List.getElem?_take,b! V5];exact hm
     .have Mt:=(Xx.mp BN).1;rw[W7,YE]at Mt;have Qp:j=q:=by lia
      subst Qp;rw[X2 (by lia),show j - us.length=0 by lia]at BN;have Jn:(wd,prs)=w':=Xl BN;rw[List.getElem?_take,b! (by lia),hn]at hm;cases hm;rw[<-Jn];refine⟨(Qm.trans s2).free Ss,by show prs.length<=101;lia,λs Lz=>?_⟩;walk_at"aa";obtain⟨u,hu⟩:=Option.isSome_iff_exists.mp Lz;have CL:(Xs s:Key)∈prs.map (·.1):=by rw[Ba];exact Xn.mpr ⟨_,iX hu,rfl⟩
      obtain⟨pr,B4,Fv⟩:=Xn.mp CL;obtain⟨v,h1,P5,_,h2,s',h3,h4⟩:=Dk pr B4;refine kZ ?_;have Qi:s'=s:=Zt (h3.symm.trans (h2.trans Fv));have:=wL F2 B4;rw[Fv,h1]at this;exact⟨v,this,Qi ▸ h4⟩
  .rintro Y H7 ⟨c8,c9,Du,us,rfl,s7,DQ⟩;rw[WO,YA]at DQ;refine⟨_,D?,_,_,_,_,_,tl,us,D?,λc o e=>s7 c o (λz=>by rw[z,E5]at e;cases e) (Iz _ _ e),?_⟩
   have e2:nxt Ls (Ls.length - (i+1)) []=L.ns:=by
    unfold nxt;rw[show Ls.length - (i+1)=Ls.length - 1 - i by lia,hL]
   rw[e2];exact DQ
 .rintro Y H5 ⟨c6,c7,c8,c9,Du,bl,ws,rfl,s5,AR⟩;rw[WO,Nat.sub_self]at AR;walk_at"aa";obtain⟨L0,n0,h1,h2,h3,h4⟩:=EY
  have e2:nxt Ls 0 []=[n0]:=by
   unfold nxt;rw[h1];exact h2
  rw[e2]at AR
  obtain⟨w0,Qq⟩:∃w0,ws[0]?=A? w0:=by
   have:=AR.len;exact⟨_,WQ (by rw[this];exact Nat.zero_lt_one)⟩
  obtain⟨v,Qo,Na⟩:=(AR.one 0 n0 w0 rfl Qq).val (-1) h4;refine kZ ?_;rw[h3]at Na;have gk:DGet H5 w0.1 (.int (-1)) (A? (.int v)):=by have:=DGet.k (k:=Xs (-1)) ((AR.at.2 w0 (WR Qq)).1);rw[Qo]at this;exact this
  exact⟨_,D?,bl,_,_,.ref w0.1,D?,D?,n! AR.at.1,bo (j:=0) (gmE Qq),w0.1,_,D?,gk,k v H5 (GU.trans s5) Na⟩
def vL:DP:=λp own _ kvs=>∃es:CLs,own=.int (p.kn:Nat)/\kvs=dE es/\TimesE (callsOf (p.pl [])) es/\(callsOf (p.pl [])).length<=10000
def vK:DP:=λp own _ kvs=>∃es:CLs,own=.int (p.tall:Nat)/\kvs=dE es/\DepthE (callsOf (p.pl [])) es/\(callsOf (p.pl [])).length<=10000
structure PatS(p:Th):Prop where
 size:p.size<=10000
 tall:p.tall<=150
 kn:(p.walk.filter C!).length=p.kn
theorem PatS.calls(h:PatS p):(callsOf (p.pl [])).length<=10000:=by
 have h1:=eJ (p.pl []);have h2:=Th.pl_len [] p;have h3:=h.size;lia
theorem dgS:wB vL fV PatS:=λH1 p pa R hA ok hR=>⟨pa,p,rfl,hA,ok.size,ok.tall,λr d es H' s hd er ed hT=>hR r d _ _ H' s hd er ed ⟨es,by rw[ok.kn],rfl,hT,ok.calls⟩⟩
theorem dgT:wB vK fM PatS:=λH1 p pa R hA ok hR=>⟨pa,p,rfl,hA,ok.size,ok.tall,λr d es H' s hd er ed hT=>hR r d _ _ H' s hd er ed ⟨es,rfl,rfl,hT,ok.calls⟩⟩
theorem zQ(p:Th)(own:V)(d:WS)(kvs:List (List Key×V))(h:vL p own d kvs):nA p kvs:=by
 obtain⟨es,_,rfl,h,_⟩:=h;exact qe h.toCallsE
theorem aaq(p:Th)(own:V)(d:WS)(kvs:List (List Key×V))(h:vK p own d kvs):nA p kvs:=by
 obtain⟨es,_,rfl,h,_⟩:=h;exact qe h.toCallsE
theorem wS:WSp vL dZ Wvs:=λH1 p da ca AN f R hd Fu hv hR=>by
 walk_at"aa";obtain⟨d,own,kvs,h0,h1,h2,es,rfl,rfl,hT,hl⟩:=hd;refine kZ ?_;have Bb:=hT.toCallsE.len;refine⟨da,d,ca,_,es,AN,f,D?,h1,h2,Fu,h0,by lia,λe he=>?_,λH' s=>hR _ H' s ?_⟩
 .walk_at"aa";obtain⟨p1,p2⟩:=hT.pos e he;obtain⟨c,hc,e2⟩:=hT.of e he;refine kZ ?_;have:=hv c hc;rw[e2]at this;exact⟨p1,by lia,this⟩
 .unfold Wvs;rw[hT.sum f]
theorem wT:WSp vK dw Wvt:=λH1 p da ca AN f R hd Fu hv hR=>by
 walk_at"aa";obtain⟨d,own,kvs,h0,h1,h2,es,rfl,rfl,hT,hl⟩:=hd;refine kZ ?_;have Bb:=hT.toCallsE.len;refine⟨da,d,ca,_,es,AN,f,D?,h1,h2,Fu,h0,by lia,λe he=>?_,λH' M s hm ha=>hR _ H' s (sr hT hm ha)⟩;obtain⟨c,hc,e2⟩:=hT.of e he;have:=hv c hc;rw[e2]at this;exact this
structure CntI(H:Hp)(ins outs:List (Xk×Int))(S:Int)(dp:Nat)(head:Th)(rows:List (List Th))(t:Th)(b ta:WS):Prop where
 bk:Bk H ins outs head rows b
 gi:aH ins
 ok0:∃h0,BookOk ins outs S dp h0 rows
 hdf:head.FitS outs S 1
 le:S<=100
 pat:∀row∈rows,∀p∈row,PatS p
 hd:PatS head
 tr:At H t ta
 fit:t.Fit ins
 tall:t.tall<=100
 size:t.size<=40000
inductive jQ(vs:List V)(H:Hp)(Q:VK)(_E:XK):Prop
 |mk (b ta:WS) (ins outs:List (Xk×Int)) (S:Int) (dp:Nat) (head:Th) (rows:List (List Th)) (t:Th):vs=[.ref b,.ref ta]->CntI H ins outs S dp head rows t b ta->(∀(v:Int)(H':Hp),j! H H'->VRs ins rows head (-1) (.knot Yy [t]) v->Q (.int v) H')->jQ  vs H Q _E
inductive iC(vs:List V)(H:Hp)(Q:VK)(_E:XK):Prop
 |mk (b ta:WS) (ins outs:List (Xk×Int)) (S:Int) (dp:Nat) (head:Th) (rows:List (List Th)) (t:Th):vs=[.ref b,.ref ta]->CntI H ins outs S dp head rows t b ta->(∀(v:Int)(H':Hp),j! H H'->VRt ins rows head (-1) (.knot Yy [t]) v->Q (.int v) H')->iC  vs H Q _E
theorem CntI.head{dp:Nat}{hd head:Th}{rows:List (List Th)}{t:Th}(h:CntI H ins outs S dp hd rows t b ta)(hf:head.FitS outs S 1):∀c∈callsOf (head.pl []),∃p',Step ins rows c.2.1 c.2.2 [t] p' t:=λc hc=>by
 walk_at"aa";obtain⟨a1,a2,a3,a4⟩:=i9 head [] hf c hc;obtain⟨h0,ok⟩:=h.ok0;obtain⟨p',u,st⟩:=my ok (ks:=[t]) a1 a2 a3 (by simpa using a4) (λu hu=>by rw[W0.mp hu];exact h.fit);refine kZ ?_;have hu:=st.2.2.1;have e:c.2.2.toNat=0:=by lia
 rw[e]at hu;have:t=u:=Xl hu;subst this;exact⟨p',st⟩
theorem pB:FnOk P w K mg base CX0 7 T.g_36.f T.g_36.d ["book","tree"] jQ:=by
 refine T.g_36.F.okA pD λAk A outer s H vs Q E hr h=>?_;obtain⟨b,ta,ins,outs,S,dp,head,rows,t,rfl,I,k⟩:=h;refine⟨_,(am (ay (pcF T.g_31 (mR T) hr (ac (pv 0) (ac (pcF T.g_20 (d6 T) hr (ac (pv 0) ae)) (ac (pv 1) (ac (bP (v:=.ref T.g_32.f) rfl T.g_32.m rfl) (ac (bP (v:=.ref T.g_33.f) rfl T.g_33.m rfl) ae)))))))),?_⟩
 try dsimp only[Ax,Ai]
 walk_at"aa";obtain⟨ia,oa,ha,ra,Av,AA,Aw,hB⟩:=I.bk;obtain⟨h0,ok⟩:=I.ok0;refine kZ ?_;exact⟨_,D?,_,D?,b,_,_,_,_,D?,hB.bk,_,D?,b,ha,ta,T.g_32.f,T.g_33.f,ins,outs,head,head,t,rows,_,_,vL,PatS,Wvs,t.walk,VRs ins rows head,D?,I.bk,I.gi,λrow hr=>⟨(ok.row row hr).len,I.pat row hr⟩,hB.hd,I.hd,FvOk.of (qd T) T.g_32.F T.g_32.b,dgS,zQ,I.tr,I.fit,I.tall,by rw[Th.walk_eq];exact W4 ..,rg I.gi ok I.le I.size,I.head I.hdf,FvOk.of (kN T) T.g_33.F T.g_33.b,wS,yl I.gi,k⟩
theorem oh:FnOk P w K mg base CX0 7 T.g_37.f T.g_37.d ["book","tree"] iC:=by
 refine T.g_37.F.okA oA λAk A outer s H vs Q E hr h=>?_;obtain⟨b,ta,ins,outs,S,dp,head,rows,t,rfl,I,k⟩:=h;refine⟨_,(am (ay (pcF T.g_31 (mR T) hr (ac (pv 0) (ac (pcF T.g_20 (d6 T) hr (ac (pv 0) ae)) (ac (pv 1) (ac (bP (v:=.ref T.g_34.f) rfl T.g_34.m rfl) (ac (bP (v:=.ref T.g_35.f) rfl T.g_35.m rfl) ae)))))))),?_⟩
 try dsimp only[Ax,Ai]
 walk_at"aa";obtain⟨ia,oa,ha,ra,Av,AA,Aw,hB⟩:=I.bk;obtain⟨h0,ok⟩:=I.ok0;refine kZ ?_;exact⟨_,D?,_,D?,b,_,_,_,_,D?,hB.bk,_,D?,b,ha,ta,T.g_34.f,T.g_35.f,ins,outs,head,head,t,rows,_,_,vK,PatS,Wvt,t.walk,VRt ins rows head,D?,I.bk,I.gi,λrow hr=>⟨(ok.row row hr).len,I.pat row hr⟩,hB.hd,I.hd,FvOk.of (oz T) T.g_34.F T.g_34.b,dgT,aaq,I.tr,I.fit,I.tall,by rw[Th.walk_eq];exact W4 ..,rg I.gi ok I.le I.size,I.head I.hdf,FvOk.of (jW T) T.g_35.F T.g_35.b,wT,xN I.gi,k⟩
theorem qb{ks:List (Xk×Int)}(g:aH ks):∀n:Nat,(∀t:Th,t.size<=n->t.FitS ks S C->(t.walk.filter C!).length=t.kn)/\(∀ts:List Th,ar ts<=n->FitSs ks S C ts->((walks ts).filter C!).length=kns ts):=by
 intro n;induction n with
 | zero =>
   refine⟨λt h=>?_,λts h _=>?_⟩
   .have:=size_pos t;lia
   .cases ts with
    |nil=>rw[walks,kns];rfl
    | cons t ts =>
      rw[ar]at h;have:=size_pos t;lia
 | succ n ih =>
   have one:∀t:Th,t.size<=n+1->t.FitS ks S C->(t.walk.filter C!).length=t.kn:=λt hn h=>by
    cases t with
    |call s k=>rw[Th.walk,Th.kn];rfl
    | knot nm ts =>
      rw[p!]at h;rw[t!]at hn;have hs:nm≠star:=ud (g.low _ h.1).1
      have e:(w! nm ts).isKnot=true:=by
       show(!false && !(decide (nm=star/\ts=[])))=C?;rw[c! (λz=>hs z.1)];rfl
      rw[Th.walk,List.filter_cons,b! e,Xf,ih.2 ts (by lia) h.2,Th.kn]
   refine⟨one,λts=>?_⟩;induction ts with
   |nil=>intro _ _;rw[walks,kns];rfl
   | cons t ts V6 =>
     intro h hf;rw[ar]at h;rw[FitSs]at hf;rw[walks,kns,List.filter_append,W7,one t (by lia) hf.1,V6 (by lia) hf.2]
theorem vV{ks:List (Xk×Int)}(g:aH ks)(h:p.FitS ks S C)(hz:p.size<=10000)(ht:p.tall<=150):PatS p:=⟨hz,ht,(qb g _).1 p (WX _) h⟩
theorem CntI.same{dp:Nat}{head:Th}{rows:List (List Th)}{t:Th}(h:CntI H ins outs S dp head rows t b ta)(k:j! H H'):CntI H' ins outs S dp head rows t b ta:=by
 walk_at"aa";obtain⟨ia,oa,ha,ra,Av,AA,Aw,hB⟩:=h.bk;refine kZ ?_;exact⟨⟨ia,oa,ha,ra,Av,AA,Aw,hB.mono (k! k)⟩,h.gi,h.ok0,h.hdf,h.le,h.pat,h.hd,h.tr.mono (k! k),h.fit,h.tall,h.size⟩
inductive iT(K:WY)(vs:List V)(H:Hp)(Q:VK)(_E:XK):Prop
 |mk (a:WS) (ns:List Int) (k:Int):vs=[.ref a,.int k]->SqL K H a (ns.map o!)->0<=k->(∀c:Int,Q (.int c) H)->iT K vs H Q _E
theorem fq:FnOk P w K mg base CX0 1 T.g_43.f T.g_43.d ["script","k"] (iT K):=by
 refine T.g_43.F.okA nL λAk A outer s H vs Q E hr h=>?_;obtain⟨a,ns,k,rfl,hS,h0,q⟩:=h
 refine⟨_,(ag (cN (aV uM (pv 1) (aD aB rfl T.n_3 XE (ac (pv 0) ae)) (aP _)) (am (ay (aw aT (pv 0) (pv 1) (λ_ _=>rfl)))) bR)
  (am (ay ai))),?_⟩
 try dsimp only[Ax,Ai]
 refine⟨_,D?,_,D?,a,_,D?,.inl hS,_,_,D?,D?,_,D?,?_⟩;refine dA (λc=>?_) (λc=>q 0);have c':k<(((ns.map o!).length:Nat):Int):=e! c;rw[WO]at c';exact⟨_,D?,_,D?,a,_,k,_,D?,D?,hS,int_at h0 c',q _⟩
inductive iD(vs:List V)(H:Hp)(Q:VK)(_E:XK):Prop
 |mk (c k:Int):vs=[.int c,.int k]->0<=k->k<=100000->(∀r:Int,0<=r->r<2147483629->Q (.int r) H)->iD  vs H Q _E
theorem bH:FnOk P w K mg base CX0 1 T.g_44.f T.g_44.d ["cell","k"] iD:=by
 refine T.g_44.F.okA fB λAk A outer s H vs Q E hr h=>?_;obtain⟨c,k,rfl,h0,h1,q⟩:=h
 refine⟨_,(ag (ao 2 fB.nd (av bB (av bz (av bz (av bz (pv 0) (av dY (av dY ai (pv 1)) (pv 1))) (av dY ai (pv 1))) ai) ai))
  (ag (ao 2 fB.nd (av bB (av dY (pv 2) (pv 2)) ai))
  (am (ay (av bB (av dY (av bz (pv 2) (av dY ai (av bz (pv 1) ai))) ai) ai))))),?_⟩
 try dsimp only[Ax,Ai]
 refine⟨_,D?,_,D?,_,_,D?,D?,.inl ⟨by decide,by decide⟩,_,D?,_,_,D?,D?,.inr ⟨by lia,by lia⟩,_,_,D?,D?,_,D?,_,_,D?,D?,.inl ⟨by decide,by decide⟩,_,_,D?,D?,_,_,D?,D?,_,_,D?,D?,(by show(0:Int)<2147483647;decide),?_⟩;have n0:=XN (c+977 * k * k+31 * k+1) (show(2147483647:Int)≠0 by decide);have n1:=XI (c+977 * k * k+31 * k+1) (show(0:Int)<2147483647 by decide);dsimp only;generalize(c+977 * k * k+31 * k+1)%2147483647=near at n0 n1;refine⟨_,D?,_,D?,_,_,D?,D?,.inl ⟨by lia,by lia⟩,_,_,D?,D?,(by show(0:Int)<2147483647;decide),?_⟩;dsimp only;generalize near * near%2147483647=far;refine⟨_,D?,_,D?,_,_,D?,D?,_,_,D?,D?,.inl ⟨by decide,by decide⟩,_,_,D?,D?,_,_,D?,D?,.inr ⟨by decide,by decide⟩,_,_,D?,D?,(by show(0:Int)<2147483629;decide),q _ (XN _ (by decide)) (XI _ (by decide))⟩
inductive iL(vs:List V)(H:Hp)(Q:VK)(_E:XK):Prop
 |mk (kr:WS) (AH:List WS) (ks:List (Xk×Int)) (cell:Int):vs=[.ref kr,.int cell]->H kr=A? (.tup (AH.map i!))->KsAt H ks AH->aH ks->(∀(k0:Xk×Int)(ka:WS)(H':Hp),j! H H'->k0∈ks->k0.2=0->KAt H' k0 ka->Q (.ref ka) H')->iL  vs H Q _E
theorem iB:∀{ks:List (Xk×Int)}{as:List WS},KsAt H ks as->∀z∈ks.zip as,z.1∈ks/\KAt H z.1 z.2
 |_,_,.nil,z,hz=>by simp at hz
 | _,_,.cons (a:=k) (b:=a) r t,z,hz=>by
   rw[List.zip_cons_cons]at hz;rcases W6.mp hz with rfl|hz
   .exact⟨W4 ..,r⟩
   .obtain⟨h1,h2⟩:=iB t z hz;exact⟨WT _ h1,h2⟩
theorem ku{kr:WS}{AH:List WS}{ks:List (Xk×Int)}(p:Xk×Int->Bool)(e:H kr=A? (.tup (AH.map i!)))(Ba:KsAt H ks AH)(hl:ks.length<=1000)(hp:∃k∈ks,p k=C?)
 (FC:∀(z:Xk×Int)(ka:WS)(H2:Hp)(R:Bool->Hp->Prop),j! H H2->KAt H2 z ka->R (p z) H2->tt ((cσ js Y).set 0 (A? (.ref ka))) H2 R)
 (FD:∀(ka:WS)(H2:Hp)(R:VK),R (.ref ka) H2->te ((cσ js Y).set 0 (A? (.ref ka))) H2 R)
 (q:∀(D:WS)(bs:List ((Xk×Int)×WS))(H':Hp),H D=B?->H'=upd H D (.lst (bs.map λz=>i! z.2))->1<=bs.length->bs.length<=ks.length->(∀z∈bs,z.1∈ks/\p z.1=C?/\KAt H z.1 z.2)->fin D H') :
 ∀D,H D=B?->∃(n:Nat)(W:Nat->Hp->Prop),W 0 (upd H D (.lst []))/\fN js (az 0) tt te Y (Itt K kr) D n W λH'=>fin D H':=by
 have AK:ks.length=AH.length:=Xa Ba;have EZ:(ks.zip AH).length=ks.length:=by rw[List.length_zip];lia
 have EI:∀(i:Nat)(x:V)(z:(Xk×Int)×WS),(AH.map i!)[i]?=A? x->(ks.zip AH)[i]?=A? z->x=.ref z.2:=λi x z hx hz=>by
  obtain⟨ka,rfl,AB⟩:=aN hx;obtain⟨h1,h2⟩:=YQ.mp hz;rw[AB]at h2;cases h2;rfl
 refine jH (ks.zip AH) (λz=>p z.1) (λz=>.ref z.2) (l! e) (by rw[EZ,WO];exact AK) (by rw[WO];lia) (λi x z H2 R hx hz sm r=>?_) (λi x z H2 R hx hz _ sm r=>?_) (λD hD=>?_)
 .rw[EI i x z hx hz];have:=(iB Ba z (WR hz)).2;exact FC z.1 z.2 H2 R sm (sm _ _ this) r
 .rw[EI i x z hx hz];exact FD z.2 H2 R r
 .refine q D _ _ hD rfl ?_ ?_ ?_
  .obtain⟨k,hk,Fv⟩:=hp;obtain⟨i,hi,rfl⟩:=List.getElem_of_mem hk;have hz:(ks.zip AH)[i]'(by lia)∈(ks.zip AH).filter λz=>p z.1:=List.mem_filter.mpr ⟨Zh _,by rw[List.getElem_zip];exact Fv⟩;exact List.length_pos_of_mem hz
  .exact Xh (List.length_filter_le _ _) (by lia)
  .intro z hz;obtain⟨h1,h2⟩:=List.mem_filter.mp hz;obtain⟨h3,h4⟩:=iB Ba z h1;exact⟨h3,h2,h4⟩
theorem fE:FnOk P w K mg base CX0 1 T.g_46.f T.g_46.d ["kinds","cell"] iL:=by
 refine T.g_46.F.okA iy λAk A outer s H vs Q E hr h=>?_;obtain⟨kr,AH,ks,cell,rfl,ek,Ba,g,k⟩:=h
 refine⟨_,(ag (gB (i:=2) (N:=["kind"]) (js:=[B?]) (g:=(az 0)) (tt:=(pN (tOp (rEq) (tOp (ii K) (aZ 0) (tC (.int 1))) (tC (.int 0))))) (te:=(aZ 0)) iy.nd rfl (Or.inl rfl) rfl (bU rfl (by decide +kernel) (by decide +kernel) rfl rfl rfl) (dB (pv 0)) (λ_ _ _ _ _ _=>(pgN 0 uw)) (aO rfl) (λ_ _ _ _ _ _=>gA (aV fR (aw aA (pv 0) ai (λ_ _=>rfl)) ai (aP _))) (λ_ _ _ _ _ _=>(pv 0)))
  (am (ay (aw aT (pv 2) (av bB (pv 1) (aD aB rfl T.n_3 XE (ac (pv 2) ae))) (λ_ _=>rfl))))),?_⟩
 try dsimp only[Ax,Ai]
 have Sw:=g.le;obtain⟨kz,MU,IC⟩:=g.zero;refine⟨_,D?,kr,D?,⟨_,l! ek⟩,ku (K:=K) (λk=>decide (o! k.2=o! 0)) ek Ba (by lia) ⟨kz,MU,by rw[IC];rfl⟩ (λz ka H2 R sm hz r=>?_) (λka H2 R r=>⟨_,D?,r⟩) (λD bs H' hD e' hb1 Sx AQ=>?_)⟩
 .exact⟨_,D?,ka,_,1,_,D?,D?,l! hz,at1,D?,_,D?,r⟩
 subst e';have Ij:0<((bs.map λz=>i! z.2).length:Int):=by rw[WO];lia
 have CS:=XN cell (Int.ne_of_gt Ij);have C5:=XI cell Ij;walk_at"aa";obtain⟨z,hz⟩:∃z,bs[(cell%((bs.map λz=>i! z.2).length:Int)).toNat]?=A? z:=⟨_,WQ (by rw[WO]at CS C5 |-;lia)⟩;obtain⟨g1,g2,g3⟩:=AQ z (WR hz);refine kZ ?_;refine⟨_,D?,_,D?,_,D?,D,_,D?,.inl (n! ad),_,_,D?,D?,Ij,D,_,_,.ref z.2,D?,D?,n! ad,at_nonneg CS (gmE hz),?_⟩;exact k z.1 z.2 _ (aj hD _) g1 (V.int.inj (e! g2)) (aj hD _ _ _ g3)
inductive gP(vs:List V)(H:Hp)(Q:VK)(_E:XK):Prop
 |mk (cell:Int) (lt:Xk):vs=[.int cell,.str lt]->mx lt->(∀(r:WS)(as:List WS)(ks:List (Xk×Int))(H':Hp),j! H H'->H' r=A? (.tup (as.map i!))->KsAt H' ks as->aH ks->Q (.ref r) H')->gP  vs H Q _E
theorem yF{a':Nat}{L:List Nat}(hs:stem.length<=7)(ha:a'<=stem.length){p:Nat}(hp:p<8):(lb begun c0 stem (a':Int) L p).length<=8:=by
 unfold lb;cases begun with
 | true =>
   simp only[if_true];rw[iW];lia
 | false =>
   simp only[X6,if_false];have h1:=(jv (z:=stem) ha).2
   have h2:(cI stem (A? (a':Int)) B?).length=stem.length - a':=by
    show(cI stem (A? (a':Int)) B?).cps.size=_;rw[<-Xo];show((jV stem.cps.toList (A? (a':Int)) B?).toArray.toList).length=_;rw[List.toList_toArray];unfold jV;have hz:stem.cps.toList.length=stem.length:=Xo;rw[B!,I!,hz,Nat.min_eq_left ha,XB,XX,hz];lia
   rw[strLen_append,strLen_append,h1,h2];show a'+1+(stem.length - a')<=8;lia
theorem uu{x:Int}(h0:0<=x)(h1:x<4):1<=1+x/\1+x<=8:=by lia
theorem rF{x:Int}(h0:0<=x)(h1:x<4):1<=5+x/\5+x<=8:=by lia
theorem xQ{i:Nat}{t:Int}(hi:i<4)(hj:j<4)(h:(3 * (i:Int)+t)%4=(3 * (j:Int)+t)%4):i=j:=by lia
theorem yc{i:Nat}{t:Int}(hi:i<8)(hj:j<8)(h:(3 * (i:Int)+t)%8=(3 * (j:Int)+t)%8):i=j:=by lia
theorem rP{x:Int}(h0:0<=x)(h1:x<(m:Int)):x.toNat<m:=by lia
def KInv(nm:Nat->Xk)(turn leaf:Int)(m:Nat)(ks:List (Xk×Int)):Prop :=
 ∀(j:Nat)(k:Xk×Int),ks[j]?=A? k->k.1=nm ((3 * (j:Int)+turn)%(m:Int)).toNat/\0<=k.2/\k.2<=3/\((j:Int)=leaf->k.2=0)
theorem KInv.good{nm:Nat->Xk}{turn leaf:Int}{ks:List (Xk×Int)}(h:KInv nm turn leaf m ks)(h1:1<=ks.length)(hm:(m=4/\ks.length<=4)\/(m=8/\ks.length<=8))(ht:0<=turn)(Dy:0<=leaf/\leaf<(ks.length:Int))
 (E6:∀p,p<m->Low (nm p)/\(nm p).length<=8) (Ga:∀p r,p<m->r<m->nm p=nm r->p=r):aH ks:=by
 have Cd:(0:Int)<(m:Int):=by rcases hm with⟨rfl,_⟩|⟨rfl,_⟩ <;> decide
 have hb:∀j:Nat,((3 * (j:Int)+turn)%(m:Int)).toNat<m:=λj=>by
  exact rP (XN _ (Int.ne_of_gt Cd)) (XI _ Cd)
 refine⟨h1,(by rcases hm with⟨_,h⟩|⟨_,h⟩;exact Xh h (by decide);exact h),λk hk=>?_,λk hk=>?_,?_,λi j k l hk hl e=>?_⟩
 .obtain⟨i,hi⟩:=Xg.mp hk;rw[(h i k hi).1];exact E6 _ (hb i)
 .obtain⟨i,hi⟩:=Xg.mp hk;exact⟨(h i k hi).2.1,(h i k hi).2.2.1⟩
 .have hl:leaf.toNat<ks.length:=rP Dy.1 Dy.2;exact⟨ks[leaf.toNat],Zh hl,(h leaf.toNat _ (WQ hl)).2.2.2 (YC Dy.1)⟩
 .have B0:i<ks.length:=(glE hk);have Be:j<ks.length:=(glE hl);rw[(h i k hk).1,(h j l hl).1]at e;have e2:=Ga _ _ (hb i) (hb j) e;have e3:(3 * (i:Int)+turn)%(m:Int)=(3 * (j:Int)+turn)%(m:Int):=by rw[<-YC (XN (3 * (i:Int)+turn) (Int.ne_of_gt Cd)),e2,YC (XN (3 * (j:Int)+turn) (Int.ne_of_gt Cd))]
  rcases hm with⟨rfl,hm⟩|⟨rfl,hm⟩
  .exact xQ (Xz B0 hm) (Xz Be hm) e3
  .exact yc (Xz B0 hm) (Xz Be hm) e3
theorem l3:FnOk P w K mg base CX0 2 T.g_45.f T.g_45.d ["cell","letters"] gP:=by
 refine T.g_45.F.okA aG λAk A outer s H vs Q E hr h=>?_;obtain⟨cell,lt,rfl,pk,q⟩:=h
 refine⟨_,(ag (ao 2 aG.nd (pcF T.g_44 (bH T) hr (ac (pv 0) (ac ai ae))))
  (ag (ao 3 aG.nd (av bz ai (av bB (pv 2) ai)))
  (ag (cN (aV fR (av bB (av bQ (pv 2) ai) ai) ai (aP _)) (am (ao 3 aG.nd (av bz ai (av bB (av bQ (pv 2) ai) ai)))) bR)
  (ag (ao 4 aG.nd (bD oG (av g8 (pv 1) eM) bX (bO (av bz ai (av dY ai (bj ji rfl T.n_2 PyProof.Rows.boot_int (ac (cV d4 (pv 3) ai (aP _)) ae)))))))
  (ag (ao 5 aG.nd (bD oG eM bX (bO (av bB (av bQ (pv 2) ai) ai))))
  (ag (ao 6 aG.nd (av bB (av bQ (pv 2) ai) (av bz (aD ip rfl T.n_3 XE (ac (pv 5) ae)) ai)))
  (ag (ao 7 aG.nd (av bB (av bQ (pv 2) ai) (pv 3)))
  (ag (ao 8 aG.nd (av bB (av bQ (pv 2) ai) ai))
  (ag (ao 9 aG.nd (cV fR (av bB (av bQ (pv 2) ai) ai) ai (aP _)))
  (ag (ao 10 aG.nd (aL ae))
  (ag (bx Xw rfl (b9 rfl T.n_6 (ac (pv 3) ae)) (pgN 11 aG.nd) (ag (ao 2 aG.nd (pcF T.g_44 (bH T) hr (ac (pv 2) (ac (av bz (pv 11) ai) ae))))
  (ag (ao 12 aG.nd (av dY (aw aT (aL (ac ai (ac ai (ac ai (ac ai (ac ai ae)))))) (av bB (pv 2) ai) (λ_ _=>rfl)) (bj ji rfl T.n_2 PyProof.Rows.boot_int (ac (cV zn (pv 11) (pv 7) (aP _)) ae))))
  (ag (ao 13 aG.nd (av bB (av bz (av dY ai (pv 11)) (pv 8)) (aD ip rfl T.n_3 XE (ac (pv 4) ae))))
  (ag (ao 14 aG.nd (av g8 (av g8 (bD oG (pv 5) bX (bO (pv 6))) (aw uD (pv 4) (pv 13) (λ_ _=>rfl))) (bD oG (pv 5) (bO (pv 6)) bX)))
  (ag (cN (bJ (pv 9) (λ_=>rfl)) (am (ao 14 aG.nd (av vO (aw uD (pv 1) ai (λ_ _=>rfl)) (av bz ai (pv 13))))) bR)
  (am (aS (bC Xb Xq Xp aK (pv 10) (ac (aQ (ac (pv 14) (ac (pv 12) ae))) ae))))))))))
  (am (ay (bj aX rfl T.n_9 X4 (ac (pv 10) ae))))))))))))))),?_⟩
 try dsimp only[Ax,Ai]
 refine⟨_,D?,_,_,D?,by decide,by decide,λrest r0 r1=>?_⟩;have z0:=XN rest (show(4:Int)≠0 by decide);have z1:=XI rest (show(0:Int)<4 by decide);refine⟨_,D?,_,_,D?,D?,(by show(0:Int)<4;decide),_,_,D?,D?,?_⟩;dsimp only[az];refine bS (λAe H'=>An2 (H=H') (Ex1 λ(size:Int)=>An3 (1<=size) (size<=8) (Ae=[A? (.int cell),A? (.str lt),A? (.int rest),A? (.int size),B?,B?,B?,B?,B?,B?,B?,B?,B?,B?,B?]))) (λkk hk=>?_) ?_
 .refine⟨_,D?,_,_,D?,D?,⟨by decide,by decide⟩,_,_,D?,D?,(by show(0:Int)<4;decide),D?,_,D?,?_⟩;refine dA (λ_=>?_) (λ_=>hk _ _ ⟨rfl,_,(uu z0 z1).1,(uu z0 z1).2,rfl⟩);have y0:=XN (rest / 55296) (show(4:Int)≠0 by decide);have y1:=XI (rest / 55296) (show(0:Int)<4 by decide);exact⟨_,D?,_,_,D?,D?,⟨by decide,by decide⟩,_,_,D?,D?,(by show(0:Int)<4;decide),_,_,D?,D?,hk _ _ ⟨D?,_,(rF y0 y1).1,(rF y0 y1).2,D?⟩⟩
 rintro Ae H' ⟨rfl,size,V7,V8,rfl⟩
 have Sy:=pk.len;have Iv:(lt++dG).length=8:=by rw[strLen_append,Sy];rfl
 have ID:(0:Int)<size:=V7
 obtain⟨m,hm,V9⟩:∃m:Nat,(4+4 * (if decide ((4:Int)<size)then 1 else 0):Int)=(m:Int)/\((m=4/\size<=4)\/(m=8/\size<=8)):=by
  by_cases c:(4:Int)<size
  .exact⟨8,by rw[d! c];rfl,.inr ⟨D?,V8⟩⟩
  .exact⟨4,by rw[c! c];rfl,.inl ⟨D?,Int.not_lt.mp c⟩⟩
 refine⟨_,D?,_,_,D?,D?,bi (by rw[Sy];decide +kernel),_,D?,_,_,D?,D?,.inr ⟨_,D?,?_⟩⟩;refine⟨_,_,D?,D?,.inl ⟨by decide,by decide⟩,_,_,D?,D?,_,D?,_,D?,bi (by show(lt++dG).length<=1000000;rw[Iv];decide),?_⟩;have Sz:m<=(lt++dG).length:=by rw[Iv];rcases V9 with⟨rfl,_⟩|⟨rfl,_⟩ <;> decide
 generalize(4+4 * (if decide ((4:Int)<size)=C? then 1 else 0):Int)=x4 at hm |-;subst hm;obtain⟨cl,cn⟩:(cI (lt++W5 "aeio") B? (A? (m:Int))).cps.toList=(lt++dG).cps.toList.take m/\(cI (lt++W5 "aeio") B? (A? (m:Int))).length=m:=jv (z:=lt++dG) (n:=m) Sz
 have G2:∀p:Nat,p<m->(lt++dG).cps.toList[p]?=A? ((lt++dG).cps.toList.getD p 0)/\(cI (lt++W5 "aeio") B? (A? (m:Int))).cps.toList[p]?=A? ((lt++dG).cps.toList.getD p 0):=λp hp=>by
  have AZ:p<(lt++dG).cps.toList.length:=by rw[Xo];exact Xz hp Sz
  have h1:(lt++dG).cps.toList[p]?=A? ((lt++dG).cps.toList.getD p 0):=by rw[ZS,WQ AZ];rfl
  refine⟨h1,?_⟩;rw[cl,List.getElem?_take_of_lt hp];exact h1
 generalize cI (lt++W5 "aeio") B? (A? (m:Int))=more at cn G2 cl |-
 have y0:=XN (rest / 4) (show(8:Int)≠0 by decide);have y1:=XI (rest / 4) (show(0:Int)<8 by decide);refine⟨_,D?,_,_,D?,D?,⟨by decide,by decide⟩,_,_,D?,D?,(by show(0:Int)<8;decide),_,D?,_,D?,bi (by decide +kernel),?_⟩;generalize rest / 4%8=x8 at y0 y1 |-;obtain⟨sn,rfl⟩:∃n:Nat,x8=(n:Int):=⟨_,(YC y0).symm⟩
 have MM:(cI (W5 "gumleafs") B? (A? (sn:Int))).length<=7:=by
  show(cI gum B? (A? (sn:Int))).length<=7;rw[(jv (z:=gum) (n:=sn) (by show sn<=8;lia)).2];lia
 have Mo:Low (cI (W5 "gumleafs") B? (A? (sn:Int))):=nK vU _ _;generalize cI (W5 "gumleafs") B? (A? (sn:Int))=stem at MM Mo |-
 have IE:(0:Int)<(stem.length:Int)+1:=Int.lt_add_one_of_le (Int.natCast_nonneg _);have x0:=XN (rest / 32) (Int.ne_of_gt IE);have x1:=XI (rest / 32) IE;refine⟨_,D?,_,_,D?,D?,⟨by decide,by decide⟩,_,D?,_,D?,bi (Xh MM (by decide)),_,_,D?,D?,_,_,D?,D?,IE,?_⟩;generalize rest / 32%((stem.length:Int)+1)=xa at x0 x1 |-;obtain⟨a',rfl⟩:∃n:Nat,xa=(n:Int):=⟨_,(YC x0).symm⟩;have Qr:a'<=stem.length:=by lia
 have l0:=XN (rest / 288) (Int.ne_of_gt ID);have l1:=XI (rest / 288) ID;refine⟨_,D?,_,_,D?,D?,⟨by decide,by decide⟩,_,D?,_,_,D?,D?,ID,?_⟩;generalize rest / 288%size=leaf at l0 l1 |-;have t0:=XN (rest / 1152) (show(4:Int)≠0 by decide);refine⟨_,D?,_,_,D?,D?,⟨by decide,by decide⟩,_,_,D?,D?,(by show(0:Int)<4;decide),?_⟩;generalize rest / 1152%4=turn at t0 |-;refine⟨_,D?,_,_,D?,D?,⟨by decide,by decide⟩,_,_,D?,D?,(by show(0:Int)<3;decide),D?,?_⟩;generalize decide (o! (rest / 4608%3)=o! 1)=bg;refine⟨lnE rfl,λkl AK=>?_⟩;obtain⟨c0,SD⟩:∃c0,lt.cps.toList[0]?=A? c0:=⟨_,WQ (by rw[Xo];show 0<lt.length;lia)⟩
 have Qs:97<=c0/\c0<=122:=pk.low c0 (by
  show c0∈(lt.cps++dG.cps).toList;rw[Zz];exact XA _ (WR SD))
 refine⟨_,D?,size,D?,by lia,by lia,?_⟩
 refine cy (n:=size.toNat) (λi Y H2=>Ex7 λ(E7:Int)(kv mv pv nv:Option V)(as:List WS)(ks:List (Xk×Int))=>An6 (Y=[A? (.int cell),A? (.str lt),A? (.int E7),A? (.int size),A? (.str more),A? (.str stem),A? (.int (a':Int)),A? (.int leaf),A? (.int turn),A? (.bl bg),A? (.ref kl),kv,mv,pv,nv]) (j! H H2) (H2 kl=A? (.lst (as.map i!))) (KsAt H2 ks as) (ks.length=i) (KInv (lb bg c0 stem (a':Int) (lt++dG).cps.toList) turn leaf m ks))
  ⟨rest,B?,B?,B?,B?,[],[],rfl,aj AK _,ad,.nil,rfl,λj k hj=>by simp at hj⟩ ?_ ?_
 .rintro i Y H2 hi ⟨E7,kv,mv,pv,nv,as,ks,rfl,sm,e,hp,LA,hinv⟩;have HV:i<size.toNat:=hi;have hl:ks.length=as.length:=Xa hp;refine⟨_,D?,_,D?,_,_,D?,D?,_,_,D?,by lia,by lia,λBi _ _=>?_⟩;have v0:=XN Bi (show(5:Int)≠0 by decide);have v1:=XI Bi (show(0:Int)<5 by decide);walk_at"aa"
  obtain⟨v,hv,V',Wa⟩:∃v:Int,atI [o! 0,o! 2,o! 1,o! 3,o! 2] (Bi%5)=A? (.int v)/\0<=v/\v<=3:=by
   rcases(by lia:Bi%5=0\/Bi%5=1\/Bi%5=2\/Bi%5=3\/Bi%5=4)with z|z|z|z|z <;> rw[z]
   .exact⟨0,D?,by decide,by decide⟩
   .exact⟨2,D?,by decide,by decide⟩
   .exact⟨1,D?,by decide,by decide⟩
   .exact⟨3,D?,by decide,by decide⟩
   .exact⟨2,D?,by decide,by decide⟩
  refine kZ ?_;refine⟨lnE rfl,λll Fq=>?_⟩;refine⟨_,D?,_,_,D?,D?,(by show(0:Int)<5;decide),ll,_,_,.int v,D?,D?,n! ad,hv,_,D?,_,D?,D?,.inr ⟨_,D?,_,_,D?,D?,.inl ⟨by lia,by lia⟩,?_⟩⟩;refine gU Fq λH3 s3 _=>?_;have e3:=s3 _ _ e;have Pa:=hp.mono (k! s3);have SE:=sm.trans s3
  have LB:0<=(v * (if(!decide (o! (0+(i:Int))=o! leaf))=C? then 1 else 0):Int)/\(v * (if(!decide (o! (0+(i:Int))=o! leaf))=C? then 1 else 0):Int)<=3/\((i:Int)=leaf->(v * (if(!decide (o! (0+(i:Int))=o! leaf))=C? then 1 else 0):Int)=0):=by
   by_cases c:(i:Int)=leaf
   .have:(!decide (o! (0+(i:Int))=o! leaf))=false:=by rw[Int.zero_add,c,d! rfl];rfl
    rw[this];simp
   .have:(!decide (o! (0+(i:Int))=o! leaf))=true:=by
     rw[Int.zero_add,c! (λz=>c (V.int.inj z))];rfl
    rw[this];simp;exact⟨V',Wa,λz=>g! z c⟩
  generalize(v * (if(!decide (o! (0+(i:Int))=o! leaf))=C? then 1 else 0):Int)=Qt at LB |-;obtain⟨Cd,Wb,Wc⟩:=LB;have p0:=XN (3 * (0+(i:Int))+turn) (show(more.length:Int)≠0 by lia);have p1:=XI (3 * (0+(i:Int))+turn) (show(0:Int)<(more.length:Int)by lia);refine⟨_,D?,_,_,D?,D?,.inl ⟨by decide,by decide⟩,_,D?,_,_,D?,D?,_,D?,_,D?,bi (by lia),_,_,D?,D?,(by show(0:Int)<(more.length:Int);lia),?_⟩;generalize Wd:(3 * (0+(i:Int))+turn)%(more.length:Int)=xp at p0 p1 |-;obtain⟨pc,rfl⟩:∃n:Nat,xp=(n:Int):=⟨_,(YC p0).symm⟩
  have Qu:((3 * (i:Int)+turn)%(m:Int)).toNat=pc:=by
   rw[cn,Int.zero_add]at Wd;lia
  have We:pc<m:=by lia
  obtain⟨Hf,NP⟩:=G2 pc We;have hc1:=(gb stem B? (A? (a':Int)));have DC:=(gb stem (A? (a':Int)) B?);refine⟨_,D?,_,D?,_,D?,_,D?,bi (by lia),_,D?,_,D?,_,_,_,D?,D?,bi (by lia),bo NP,_,_,D?,D?,bi (by show(cI stem B? (A? (a':Int))).length+1<=1000000;lia),_,D?,_,D?,_,D?,_,D?,bi (by lia),_,_,D?,D?,bi (by rw[strLen_append];show(cI stem B? (A? (a':Int))).length+1+(cI stem (A? (a':Int)) B?).length<=1000000;lia),?_⟩;dsimp only[az];refine bS (λAe H'=>An2 (H3=H') (Ae=[A? (.int cell),A? (.str lt),A? (.int Bi),A? (.int size),A? (.str more),A? (.str stem),A? (.int (a':Int)),A? (.int leaf),A? (.int turn),A? (.bl bg),A? (.ref kl),A? (.int (0+(i:Int))),A? (.int Qt),A? (.int (pc:Int)),A? (.str (lb bg c0 stem (a':Int) (lt++dG).cps.toList pc))])) (λkk hk=>?_) ?_
  .refine⟨_,D?,bg,D?,?_⟩;cases bg with
   |false=>exact qg (hk _ _ ⟨rfl,rfl⟩)
   | true =>
     refine qx ⟨_,rfl,_,_,c0,rfl,rfl,bi (by lia),bo (j:=0) SD,_,rfl,_,_,rfl,rfl,c0,_,rfl,rfl,by lia,by lia,hk _ _ ⟨rfl,?_⟩⟩;have:(1+(pc:Int)).toNat=1+pc:=by lia
     rw[this];rfl
  rintro Ae H' ⟨rfl,rfl⟩;refine⟨_,D?,.inl ⟨D?,_,n! e3⟩,_,D?,_,D?,lnE rfl,λp BA=>?_⟩;have Fv:kl≠p:=aq e3 BA;refine⟨kl,_,_,D?,D?,by rw[af Fv];exact e3,lbE (by lia),?_⟩;refine⟨Bi,_,_,_,_,as++[p],ks++[(lb bg c0 stem (a':Int) (lt++dG).cps.toList pc,Qt)],D?,aE (aE SE (SE.free BA)) AK,?_,?_,?_,?_⟩
  .rw[ad,W8];rfl
  .have kt:KT H3 (upd (upd H3 p (.tup [.str (lb bg c0 stem (a':Int) (lt++dG).cps.toList pc),.int Qt])) kl (.lst (as.map i!++[.ref p]))):=(eK BA).trans (aU (xs:=as.map i!) (by rw[af Fv];exact e3));refine r! (Pa.mono kt) (.cons ?_ .nil);show(upd (upd H3 p _) kl _) p=_;rw[af Fv.symm,ad]
  .rw[W7,LA];rfl
  .intro j k hj;by_cases Fo:j<ks.length
   .rw[XJ Fo]at hj;exact hinv j k hj
   .rw[X2 (by lia)]at hj
    have HZ:j - ks.length=0:=by
     have:=(glE hj);simp at this;lia
    rw[HZ]at hj;cases hj;have Qv:j=i:=by lia
    subst Qv;exact⟨by rw[Qu],Cd,Wb,Wc⟩
 .rintro Y H2 ⟨E7,kv,mv,pv,nv,as,ks,rfl,sm,e,hp,LA,hinv⟩;refine⟨_,D?,kl,_,D?,.inl ⟨n! e,λtp B5=>?_⟩⟩;have s3:=aj B5 (.tup (as.map i!));refine q tp as ks _ (sm.trans s3) ad (hp.mono (k! s3)) ?_;refine hinv.good (by lia) (by lia) t0 ⟨l0,by lia⟩ (λp BA=>⟨xS Qs Mo (λc hc=>pk.low c hc) (by rw[Xo];show p<(lt++dG).length;lia),yF MM Qr (by lia)⟩) (λp r BA CC e'=>yg (λp r c h1 h2=>pk.inj p r c h1 h2) (by rw[Xo];show p<(lt++dG).length;lia) (by rw[Xo];show r<(lt++dG).length;lia) e')
inductive gR(vs:List V)(H:Hp)(Q:VK)(_E:XK):Prop
 |mk (l:WS) (x m:Int):vs=[.ref l,.int m]->H l=A? (.lst [.int x])->0<m->m<1000000->(∀d x':Int,0<=d->d<m->Q (.int d) (upd H l (.lst [.int x'])))->gR  vs H Q _E
theorem db:FnOk P w K mg base CX0 1 T.g_48.f T.g_48.d ["left","many"] gR:=by
 refine T.g_48.F.okA gN λAk A outer s H vs Q E hr h=>?_;obtain⟨l,x,m,rfl,e,h0,h1,q⟩:=h
 refine⟨_,(ag (ao 2 gN.nd (av bB (aw aT (pv 0) ai (λ_ _=>rfl)) (pv 1)))
  (ag (fo (av bQ (aw aT (pv 0) ai (λ_ _=>rfl)) (pv 1)) (xX (pv 0) ai set_list))
  (am (ay (pv 2))))),?_⟩
 try dsimp only[Ax,Ai]
 refine⟨_,D?,l,_,0,.int x,D?,D?,n! e,at0,_,D?,_,_,D?,D?,h0,?_⟩;refine⟨_,D?,l,_,0,.int x,D?,D?,n! e,at0,_,D?,_,_,D?,D?,⟨h0,by lia⟩,?_⟩;refine⟨_,D?,l,_,0,0,D?,D?,e,D?,?_⟩;exact⟨_,D?,q _ _ (XN _ (by lia)) (XI _ h0)⟩
inductive fO(n:Nat)(vs:List V)(H:Hp)(Q:VK)(_E:XK):Prop
 |mk (cell:Int) (oa:WS) (AA:List WS) (outs:List (Xk×Int)) (S C deep:Int):vs=[.int cell,.ref oa,.int S,.int C,.int deep]->H oa=A? (.tup (AA.map i!))->KsAt H outs AA->aH outs->0<=deep->deep<(n:Int)->(∀(t:Th)(r:WS)(H':Hp),j! H H'->At H' t r->t.FitS outs S C->t.tall<=deep.toNat+1->Q (.ref r) H')->fO n vs H Q _E
theorem dz:∀n:Nat,FnOk P w K mg base CX0 (n+2) T.g_47.f T.g_47.d ["cell","outs","states","kids","deep"] (fO n)
 |0=>⟨λ_ _ _ _ h=>by obtain⟨_,_,_,_,_,_,_,_,_,_,_,h1,h2,_⟩:=h;lia,λ_ _ _ _ _ _ _ _ _ _ _ _ _ h=>by obtain⟨_,_,_,_,_,_,_,_,_,_,_,h1,h2,_⟩:=h;lia⟩
 | n+1=>by
   have ih:=dz n;refine T.g_47.F.okA bF λAk A outer s H vs Q E hr h=>?_;obtain⟨cell,oa,AA,outs,S,C,deep,rfl,eo,Ba,g,d0,d1,q⟩:=h
   refine⟨_,(ag (ao 5 bF.nd (pcF T.g_44 (bH T) hr (ac (pv 0) (ac ai ae))))
    (ag (cN (PW.pt (jh (aV d4 (pv 2) ai (aP _)) (jh (aV d4 (pv 3) ai (aP _)) (j7 (aV uM (av bB (pv 5) ai) ai (aP _)))))) (am (ay (aQ (ac eM (ac (av bB (av bQ (pv 5) ai) (pv 2)) (ac (av bB (av bQ (pv 5) ai) (pv 3)) ae)))))) bR)
    (ag (ao 6 bF.nd (aw aA (pv 1) (av bB (av bQ (pv 5) ai) (aD aB rfl T.n_3 XE (ac (pv 1) ae))) (λ_ _=>rfl)))
    (ag (cN (PW.pt (jh (aV fR (pv 4) ai (aP _)) (j7 (aV d4 (aw aA (pv 6) ai (λ_ _=>rfl)) ai (aP _))))) (am (ao 6 bF.nd (pcF T.g_46 (fE T) hr (ac (pv 1) (ac (av bQ (pv 5) ai) ae))))) bR)
    (ag (ao 7 bF.nd (aL ae))
    (ag (bx Xw rfl (b9 rfl T.n_6 (ac (aw aA (pv 6) ai (λ_ _=>rfl)) ae)) (pgN 8 bF.nd) (am (aS (bC Xb Xq Xp aK (pv 7) (ac (de (ih) (hr.mono (WX _)) rfl T.g_47.m T.g_47.F.kp T.g_47.b .nil cP (ac (pcF T.g_44 (bH T) hr (ac (pv 5) (ac (av bz (pv 8) ai) ae))) (ac (pv 1) (ac (pv 2) (ac (pv 3) (ac (av jx (pv 4) ai) ae)))))) ae)))))
    (am (ay (av io (aQ (ac (aw aA (pv 6) ai (λ_ _=>rfl)) ae)) (bj aX rfl T.n_9 X4 (ac (pv 7) ae))))))))))),?_⟩
   try dsimp only[Ax,Ai]
   have AK:outs.length=AA.length:=Xa Ba;have Sw:=g.le;have Fs:=g.ne;refine⟨_,D?,_,_,D?,by decide,by decide,λrest r0 r1=>?_⟩;dsimp only[az];refine bS (λAe H'=>An2 (H=H') (Ae=[A? (.int cell),A? (.ref oa),A? (.int S),A? (.int C),A? (.int deep),A? (.int rest),B?,B?,B?])) (λkk hk=>?_) ?_
   .refine cR (λb H'=>An2 (H=H') ((b=C?->0<S/\0<C))) (λk2 AX=>?_) (λH' hb=>?_) (λH' hb=>?_)
    .refine⟨_,D?,_,_,D?,D?,_,D?,?_⟩;refine dA (λc1=>?_) (λc1=>AX _ _ ⟨rfl,λz=>by cases z⟩);refine⟨_,D?,_,_,D?,D?,_,D?,?_⟩;refine dA (λc2=>?_) (λc2=>AX _ _ ⟨rfl,λz=>by cases z⟩);exact⟨_,D?,_,_,D?,D?,(by show(0:Int)<5;decide),_,_,D?,D?,_,D?,AX _ _ ⟨D?,λ_=>⟨e! c1,e! c2⟩⟩⟩
    .obtain⟨rfl,hb⟩:=hb;obtain⟨hS,hC⟩:=hb rfl;refine⟨_,D?,_,_,D?,D?,⟨by decide,by decide⟩,_,D?,_,_,D?,D?,hS,_,D?,_,_,D?,D?,⟨by decide,by decide⟩,_,D?,_,_,D?,D?,hC,lnE rfl,λca B6=>?_⟩;refine q (.call (rest / 5%S) (rest / 97%C)) ca _ (aj B6 _) ?_ ?_ ?_
     .rw[At];exact ad
     .rw[p!];exact⟨XN _ (by lia),XI _ hS,XN _ (by lia),XI _ hC⟩
     .rw[q!];lia
    .obtain⟨rfl,_⟩:=hb;exact hk _ _ ⟨rfl,rfl⟩
   rintro Ae H' ⟨rfl,rfl⟩;have m0:=XN (rest / 5) (show((AA.map i!).length:Int)≠0 by rw[WO];lia);have m1:=XI (rest / 5) (show(0:Int)<((AA.map i!).length:Int)by rw[WO];lia);walk_at"aa";obtain⟨k0,Ca⟩:∃k0,outs[(rest / 5%((AA.map i!).length:Int)).toNat]?=A? k0:=⟨_,WQ (by rw[WO]at m0 m1 |-;lia)⟩;obtain⟨ka,AB,AW⟩:=A! Ba Ca;refine kZ ?_;refine⟨_,D?,_,D?,_,_,D?,D?,⟨by decide,by decide⟩,_,D?,oa,_,D?,.inr (l! eo),_,_,D?,D?,(by show(0:Int)<((AA.map i!).length:Int);rw[WO];lia),oa,_,_,.ref ka,D?,D?,l! eo,at_nonneg m0 (gmE AB),?_⟩;dsimp only[az];refine bS (λAe H'=>Ex2 λ(k0:Xk×Int)(ka:WS)=>An5 (k0∈outs) (KAt H' k0 ka) ((deep=0->k0.2=0)) (j! H H') (Ae=[A? (.int cell),A? (.ref oa),A? (.int S),A? (.int C),A? (.int deep),A? (.int rest),A? (.ref ka),B?,B?])) (λkk hk=>?_) ?_
   .refine cR (λb H'=>An2 (H=H') ((b=CG->deep=0->k0.2=0))) (λk2 AX=>?_) (λH' hb=>?_) (λH' hb=>?_)
    .refine⟨_,D?,D?,_,D?,?_⟩;refine dA (λc1=>?_) (λc1=>AX _ _ ⟨rfl,λ_ z=>g! (d! (h! o! z)) c1⟩);refine⟨_,D?,ka,_,1,_,D?,D?,l! AW,at1,_,_,D?,D?,_,D?,AX _ _ ⟨D?,λz _=>?_⟩⟩;have z':¬0<k0.2:=of_decide_eq_false z;have:=(g.num k0 (WR Ca)).1;lia
    .obtain⟨rfl,_⟩:=hb;refine⟨_,D?,_,D?,_,_,D?,D?,⟨by decide,by decide⟩,oa,AA,outs,_,D?,eo,Ba,g,λk1 GS H1 s1 Nb HX e1=>?_⟩;exact hk _ _ ⟨k1,GS,Nb,e1,λ_=>HX,s1,rfl⟩
    .obtain⟨rfl,hb⟩:=hb;exact hk _ _ ⟨k0,ka,WR Ca,AW,hb rfl,.refl _,rfl⟩
   rintro Ae H1 ⟨k0,ka,Bu,AW,hz,s1,rfl⟩;have E8:=g.num k0 Bu;refine⟨lnE rfl,λpl AZ=>?_⟩;refine gU AZ λH2 s2 e2=>?_;have LC:=s2 _ _ AW;refine⟨_,D?,ka,_,1,_,D?,D?,l! LC,at1,k0.2,D?,by lia,by lia,?_⟩
   refine cy (n:=k0.2.toNat) (λi Y H3=>Ex3 λ(kv:Option V)(bs:List WS)(ts:List Th)=>An6 (Y=[A? (.int cell),A? (.ref oa),A? (.int S),A? (.int C),A? (.int deep),A? (.int rest),A? (.ref ka),A? (.ref pl),kv]) ((∀b o,b≠pl->H2 b=A? o->H3 b=A? o)) (H3 pl=A? (.lst (bs.map i!))) (Ats H3 ts bs) (ts.length=i) (∀t∈ts,t.FitS outs S C/\t.tall<=(deep - 1).toNat+1))
    ⟨B?,[],[],rfl,λ_ _ _ e=>e,e2,.nil,rfl,λt ht=>by cases ht⟩ ?_ ?_
   .rintro i Y H3 hi ⟨kv,bs,ts,rfl,s3,e3,BD,Ap,Ag⟩;have K5:i<k0.2.toNat:=hi;have sB:∀b o,H b=A? o->H3 b=A? o:=λb o e=>s3 b o (aq (s1 _ _ e) AZ) (s2 _ _ (s1 _ _ e))
    have LD:1<=deep:=by
     by_cases z:deep=0
     .have:=hz z;lia
     .lia
    refine⟨_,D?,.inl ⟨D?,_,n! e3⟩,_,D?,_,D?,_,_,D?,D?,_,_,D?,by lia,by lia,λr2 _ _=>?_⟩;refine⟨_,D?,_,D?,_,D?,_,D?,_,_,D?,D?,r2,oa,AA,outs,S,C,deep - 1,D?,sB _ _ eo,Ba.mono (λb ys e=>sB b _ e),g,by lia,by lia,λt r H4 s4 BE Ah AD=>?_⟩;have e4:=s4 _ _ e3;have BL:bs.length=ts.length:=BD.length;refine⟨pl,_,_,D?,D?,e4,lbE (by lia),?_⟩;have kt:KT H4 (upd H4 pl (.lst (bs.map i!++[.ref r]))):=aU e4;refine⟨_,bs++[r],ts++[t],D?,λb o hb e=>?_,?_,?_,?_,?_⟩
    .rw[af hb];exact s4 _ _ (s3 b o hb e)
    .rw[ad,W8];rfl
    .exact(BD.mono ((k! s4).trans kt)).append (.cons (BE.mono kt) .nil)
    .rw[W7,Ap];rfl
    .intro u hu;rcases Xd.mp hu with hu|hu
     .exact Ag u hu
     .rw[W0.mp hu];exact⟨Ah,AD⟩
   .rintro Y H3 ⟨kv,bs,ts,rfl,s3,e3,BD,Ap,Ag⟩;have sH:j! H H3:=λb o e=>s3 b o (aq (s1 _ _ e) AZ) (s2 _ _ (s1 _ _ e));have Cg:H3 ka=A? (.tup [.str k0.1,.int k0.2]):=s3 ka _ (aq AW AZ) LC;have BL:bs.length=ts.length:=BD.length;refine⟨_,D?,ka,_,0,.str k0.1,D?,D?,l! Cg,at0,lnE rfl,λp1 GX=>?_⟩;refine gU GX λH4 s4 e4=>?_;refine⟨_,D?,pl,_,D?,.inl ⟨n! (s4 _ _ e3),λtp B5=>?_⟩⟩;refine gU B5 λH5 s5 e5=>?_;refine vz (s5 _ _ e4) e5 (by rw[WO];show 1+bs.length<=1000000;lia) λp H6 s6 e6=>?_;have E6:=(g.low k0 Bu).1;refine q (.knot k0.1 ts) p H6 (sH.trans (s4.trans (s5.trans s6))) ?_ ?_ ?_
    .rw[At];exact⟨mB E6,bs,e6,BD.mono (k! (s4.trans (s5.trans s6)))⟩
    .rw[p!];refine⟨?_,FitSs.of λt ht=>(Ag t ht).1⟩
     have:(k0.1,(ts.length:Int))=k0:=by
      rw[Ap];exact Prod.ext rfl (by show((k0.2.toNat:Nat):Int)=k0.2;lia)
     rw[this];exact Bu
    .rw[q!];by_cases z:deep=0
     .have AX:=hz z;have:ts=[]:=Yx.mp (by lia);subst this;rw[ax];lia
     .have:=jm (n:=(deep - 1).toNat+1) λt ht=>(Ag t ht).2;lia
inductive eE(n:Nat)(vs:List V)(H:Hp)(Q:VK)(_E:XK):Prop
 |mk (l:WS) (x:Int) (oa:WS) (AA:List WS) (outs:List (Xk×Int)) (S C deep:Int):vs=[.ref l,.ref oa,.int S,.int C,.int deep]->H l=A? (.lst [.int x])->H oa=A? (.tup (AA.map i!))->KsAt H outs AA->aH outs->S<1000000->C<1000000->0<=deep->deep<(n:Int)->(∀(t:Th)(r:WS)(x':Int)(H':Hp),SameB l H H'->H' l=A? (.lst [.int x'])->At H' t r->t.FitS outs S C->t.tall<=deep.toNat+1->Q (.ref r) H')->eE n vs H Q _E
theorem cT:∀n:Nat,FnOk P w K mg base CX0 (n+2) T.g_49.f T.g_49.d ["left","outs","states","kids","deep"] (eE n)
 |0=>⟨λ_ _ _ _ h=>by obtain⟨_,_,_,_,_,_,_,_,_,_,_,_,_,_,_,h1,h2,_⟩:=h;lia,λ_ _ _ _ _ _ _ _ _ _ _ _ _ h=>by obtain⟨_,_,_,_,_,_,_,_,_,_,_,_,_,_,_,h1,h2,_⟩:=h;lia⟩
 | n+1=>by
   have ih:=cT n;refine T.g_49.F.okA bu λAk A outer s H vs Q E hr h=>?_;obtain⟨l,x,oa,AA,outs,S,C,deep,rfl,el,eo,Ba,g,SF,SG,d0,d1,q⟩:=h
   refine⟨_,(ag (cN (PW.pt (jh (aV d4 (pv 2) ai (aP _)) (jh (aV d4 (pv 3) ai (aP _)) (j7 (aV fR (pcF T.g_48 (db T) hr (ac (pv 0) (ac ai ae))) ai (aP _)))))) (ag (ao 5 bu.nd (pcF T.g_48 (db T) hr (ac (pv 0) (ac (pv 2) ae))))
    (am (ay (aQ (ac eM (ac (pv 5) (ac (pcF T.g_48 (db T) hr (ac (pv 0) (ac (pv 3) ae))) ae))))))) bR)
    (ag (gB (i:=6) (N:=["kind","deep"]) (js:=[B?,A? 4]) (g:=(az 0)) (tt:=(tOr (pN (tOp (rEq) (tOp (ii K) (aZ 0) (tC (.int 1))) (tC (.int 0)))) (pN (tOp (rI0 λi j=>.bl (decide (j<i))) (aZ 1) (tC (.int 0)))))) (te:=(aZ 0)) bu.nd rfl (Or.inl rfl) rfl (bU rfl (by decide +kernel) (by decide +kernel) rfl rfl rfl) (dB (pv 1)) (λ_ _ _ _ _ _=>(pgN 0 zc)) (aO rfl) (λ_ _ _ _ _ _=>gA (PW.pt (xg (aV fR (aw aA (pv 0) ai (λ_ _=>rfl)) ai (aP _)) (tZ (aV d4 (pv 1) ai (aP _)))))) (λ_ _ _ _ _ _=>(pv 0)))
    (ag (ao 7 bu.nd (aw aT (pv 6) (pcF T.g_48 (db T) hr (ac (pv 0) (ac (aD aB rfl T.n_3 XE (ac (pv 6) ae)) ae))) (λ_ _=>rfl)))
    (ag (ao 8 bu.nd (aL ae))
    (ag (bx Xw rfl (b9 rfl T.n_6 (ac (aw aA (pv 7) ai (λ_ _=>rfl)) ae)) (pgN 9 bu.nd) (am (aS (bC Xb Xq Xp aK (pv 8) (ac (de (ih) (hr.mono (WX _)) rfl T.g_49.m T.g_49.F.kp T.g_49.b .nil cP (ac (pv 0) (ac (pv 1) (ac (pv 2) (ac (pv 3) (ac (av jx (pv 4) ai) ae)))))) ae)))))
    (am (ay (av io (aQ (ac (aw aA (pv 7) ai (λ_ _=>rfl)) ae)) (bj aX rfl T.n_9 X4 (ac (pv 8) ae)))))))))),?_⟩
   try dsimp only[Ax,Ai]
   have AK:outs.length=AA.length:=Xa Ba;have Sw:=g.le;have Fs:=g.ne;refine bS (λAe H'=>(∃x',SameB l H H'/\H' l=A? (.lst [.int x']))/\Ae=[A? (.ref l),A? (.ref oa),A? (.int S),A? (.int C),A? (.int deep),B?,B?,B?,B?,B?]) (λkk hk=>?_) ?_
   .refine cR (λb H'=>(∃x',SameB l H H'/\H' l=A? (.lst [.int x']))/\(b=C?->0<S/\0<C)) (λk2 AX=>?_) (λH' hb=>?_) (λH' hb=>?_)
    .refine⟨_,D?,_,_,D?,D?,_,D?,?_⟩;refine dA (λc1=>?_) (λc1=>AX _ _ ⟨⟨x,.refl,el⟩,λz=>by cases z⟩);refine⟨_,D?,_,_,D?,D?,_,D?,?_⟩;refine dA (λc2=>?_) (λc2=>AX _ _ ⟨⟨x,.refl,el⟩,λz=>by cases z⟩);exact⟨_,D?,l,x,_,D?,el,by decide,by decide,λd x' _ _=>⟨D?,_,D?,AX _ _ ⟨⟨x',.set,ad⟩,λ_=>⟨e! c1,e! c2⟩⟩⟩⟩
    .walk_at"aa";obtain⟨⟨x1,s1,e1⟩,hb⟩:=hb;obtain⟨hS,hC⟩:=hb rfl;refine kZ ?_;refine⟨_,D?,_,D?,l,x1,_,D?,e1,hS,SF,λd x2 Qw Qx=>?_⟩;refine⟨_,D?,_,D?,_,D?,l,x2,_,D?,ad,hC,SG,λc x3 Wf NW=>?_⟩;refine⟨lnE rfl,λca B6=>?_⟩;have AF:l≠ca:=λz=>by rw[<-z,ad]at B6;cases B6
     refine q (.call d c) ca x3 _ (s1.trans (SameB.set.trans (SameB.set.trans (.of (aj B6 _))))) (by rw[af AF];exact ad) ?_ ?_ ?_
     .rw[At];exact ad
     .rw[p!];exact⟨Qw,Qx,Wf,NW⟩
     .rw[q!];lia
    .obtain⟨h1,_⟩:=hb;exact hk _ _ ⟨h1,rfl⟩
   rintro Ae H1 ⟨⟨x1,s1,e1⟩,rfl⟩;have Qy:H1 oa=A? (.tup (AA.map i!)):=s1 _ _ (aF eo el (by intro z;cases z)) eo;have Wg:KT H H1:=s1.kt el;have LF:=Ba.mono Wg;obtain⟨kz,MU,IC⟩:=g.zero;refine⟨_,D?,oa,D?,⟨_,l! Qy⟩,ku (K:=K) (λk=>decide (o! k.2=o! 0) ||decide (0<deep)) Qy LF (by lia) ⟨kz,MU,by rw[IC];rfl⟩ (λz ka H2 R sm hz r=>?_) (λka H2 R r=>⟨_,D?,r⟩) (λD bs H2 hD e' hb1 Sx AQ=>?_)⟩
   .refine⟨_,D?,ka,_,1,_,D?,D?,l! hz,at1,D?,_,D?,?_⟩;refine dA (λc=>?_) (λc=>?_)
    .rw[c]at r;exact r
    .rw[Bool.eq_false_iff.mpr c]at r;exact⟨_,D?,_,_,D?,D?,_,D?,r⟩
   have s2:j! H1 H2:=by rw[e'];exact aj hD _
   have eD:H2 D=A? (.lst (bs.map λz=>i! z.2)):=by rw[e'];exact ad
   have Wh:D≠l:=λz=>by rw[z,e1]at hD;cases hD
   have SH:=s2 _ _ e1;clear e';have Ij:0<((bs.map λz=>i! z.2).length:Int):=by rw[WO];lia
   refine⟨_,D?,_,D?,_,D?,D,_,D?,.inl (n! eD),l,x1,_,D?,SH,Ij,(by rw[WO];lia),λd x2 Qw Qx=>?_⟩;have s3:SameB l H2 (upd H2 l (.lst [.int x2])):=.set;have Fw:(upd H2 l (.lst [.int x2])) l=A? (.lst [.int x2]):=ad;generalize(upd H2 l (.lst [.int x2]))=H3 at s3 Fw |-;walk_at"aa";obtain⟨z,hz⟩:∃z,bs[d.toNat]?=A? z:=⟨_,WQ (by rw[WO]at Qx;lia)⟩;obtain⟨Bu,gp,AW⟩:=AQ z (WR hz);obtain⟨k0,ka⟩:=z;refine kZ ?_;dsimp only at Bu gp AW hz;have Qz:KT H2 H3:=s3.kt SH;have Cg:H3 ka=A? (.tup [.str k0.1,.int k0.2]):=Qz _ _ (s2 _ _ AW);have E3:SameB l H H3:=s1.trans ((SameB.of s2).trans s3);have Wi:H3 oa=A? (.tup (AA.map i!)):=Qz _ _ (s2 _ _ Qy);have QA:=LF.mono ((k! s2).trans Qz)
   have Fj:deep=0->k0.2=0:=λz=>by
    rw[z]at gp;have:decide (o! k0.2=o! 0)=true:=by simpa using gp
    exact V.int.inj (e! this)
   refine⟨D,_,d,.ref ka,D?,D?,n! (s3 _ _ Wh eD),at_nonneg Qw (gmE hz),?_⟩;have E8:=g.num k0 Bu;refine⟨lnE rfl,λpl AZ=>?_⟩;have LG:pl≠l:=λz=>by rw[z,Fw]at AZ;cases AZ
   refine gU AZ λH4 s4 e4=>?_;have LH:=s4 _ _ Cg;have Lb:=s4 _ _ Fw;have Wj:=s4 _ _ Wi;refine⟨_,D?,ka,_,1,_,D?,D?,l! LH,at1,k0.2,D?,by lia,by lia,?_⟩
   refine cy (n:=k0.2.toNat) (λi Y H5=>Ex4 λ(kv:Option V)(bs:List WS)(ts:List Th)(x':Int)=>An7 (Y=[A? (.ref l),A? (.ref oa),A? (.int S),A? (.int C),A? (.int deep),B?,A? (.ref D),A? (.ref ka),A? (.ref pl),kv]) ((∀b o,b≠pl->b≠l->H4 b=A? o->H5 b=A? o)) (H5 l=A? (.lst [.int x'])) (H5 pl=A? (.lst (bs.map i!))) (Ats H5 ts bs) (ts.length=i) (∀t∈ts,t.FitS outs S C/\t.tall<=(deep - 1).toNat+1))
    ⟨B?,[],[],x2,rfl,λ_ _ _ _ e=>e,Lb,e4,.nil,rfl,λt ht=>by cases ht⟩ ?_ ?_
   .rintro i Y H5 hi ⟨kv,ET,ts,x',rfl,s5,Gg,e5,BD,Ap,Ag⟩;have K5:i<k0.2.toNat:=hi;have En:KT H4 H5:=λb ys e=>s5 b _ (aF e e4 (by intro z;cases z)) (aF e Lb (by intro z;cases z)) e
    have LD:1<=deep:=by
     by_cases z:deep=0
     .have:=Fj z;lia
     .lia
    refine⟨_,D?,.inl ⟨D?,_,n! e5⟩,_,D?,_,D?,_,D?,_,D?,_,D?,_,_,D?,D?,l,x',oa,AA,outs,S,C,deep - 1,D?,Gg,En _ _ Wj,QA.mono ((k! s4).trans En),g,SF,SG,by lia,by lia,λt r x6 H6 s6 Nc BE Ah AD=>?_⟩;have e6:=s6 _ _ LG e5;have DG:KT H5 H6:=s6.kt Gg;have BL:ET.length=ts.length:=BD.length;refine⟨pl,_,_,D?,D?,e6,lbE (by lia),?_⟩;have kt:KT H6 (upd H6 pl (.lst (ET.map i!++[.ref r]))):=aU e6;refine⟨_,ET++[r],ts++[t],x6,D?,λb o hb hb2 e=>?_,?_,?_,?_,?_,?_⟩
    .rw[af hb];exact s6 _ _ hb2 (s5 b o hb hb2 e)
    .rw[af LG.symm];exact Nc
    .rw[ad,W8];rfl
    .exact(BD.mono (DG.trans kt)).append (.cons (BE.mono kt) .nil)
    .rw[W7,Ap];rfl
    .intro u hu;rcases Xd.mp hu with hu|hu
     .exact Ag u hu
     .rw[W0.mp hu];exact⟨Ah,AD⟩
   .rintro Y H5 ⟨kv,ET,ts,x',rfl,s5,Gg,e5,BD,Ap,Ag⟩;have Wk:H pl=none:=E3.free Fw AZ;have sH:SameB l H H5:=λb o hb e=>s5 b o (aq e Wk) hb (s4 _ _ (E3 b o hb e));have En:KT H4 H5:=λb ys e=>s5 b _ (aF e e4 (by intro z;cases z)) (aF e Lb (by intro z;cases z)) e;have QB:H5 ka=A? (.tup [.str k0.1,.int k0.2]):=En _ _ LH;have BL:ET.length=ts.length:=BD.length;refine⟨_,D?,ka,_,0,.str k0.1,D?,D?,l! QB,at0,lnE rfl,λp1 GX=>?_⟩;refine gU GX λH6 s6 e6=>?_;refine⟨_,D?,pl,_,D?,.inl ⟨n! (s6 _ _ e5),λtp B5=>?_⟩⟩;refine gU B5 λH7 s7 e7=>?_;refine vz (s7 _ _ e6) e7 (by rw[WO];show 1+ET.length<=1000000;lia) λp H8 s8 e8=>?_;have D':=s6.trans (s7.trans s8);have E6:=(g.low k0 Bu).1;refine q (.knot k0.1 ts) p x' H8 (sH.trans (.of D')) (D' _ _ Gg) ?_ ?_ ?_
    .rw[At];exact⟨mB E6,ET,e8,BD.mono (k! D')⟩
    .rw[p!];refine⟨?_,FitSs.of λt ht=>(Ag t ht).1⟩
     have:(k0.1,(ts.length:Int))=k0:=by
      rw[Ap];exact Prod.ext rfl (by show((k0.2.toNat:Nat):Int)=k0.2;lia)
     rw[this];exact Bu
    .rw[q!];by_cases z:deep=0
     .have AX:=Fj z;have:ts=[]:=Yx.mp (by lia);subst this;rw[ax];lia
     .have:=jm (n:=(deep - 1).toNat+1) λt ht=>(Ag t ht).2;lia
inductive cW(vs:List V)(H:Hp)(Q:VK)(_E:XK):Prop
 |mk (cell:Int) (ia:WS) (Av:List WS) (ins:List (Xk×Int)) (oa:WS) (AA:List WS) (outs:List (Xk×Int)) (S deep:Int):vs=[.int cell,.ref ia,.ref oa,.int S,.int deep]->H ia=A? (.tup (Av.map i!))->KsAt H ins Av->aH ins->H oa=A? (.tup (AA.map i!))->KsAt H outs AA->aH outs->0<=S->S<=1000->0<=deep->deep<5->(∀(r ha ra:WS)(Aw:List WS)(head:Th)(rows:List (List Th))(H':Hp),j! H H'->BookAt H' ins outs head rows r ia oa ha ra Av AA Aw->BookOk ins outs S deep.toNat head rows->Q (.ref r) H')->cW  vs H Q _E
theorem fI:FnOk P w K mg base CX0 8 T.g_50.f T.g_50.d ["cell","ins","outs","states","deep"] cW:=by
 refine T.g_50.F.okA aW λAk A outer s H vs Q E hr h=>?_;obtain⟨cell,ia,Av,ins,oa,AA,outs,S,deep,rfl,ei,Ed,gi,eo,G3,go,Nf,KU,d0,d1,q⟩:=h
 refine⟨_,(ag (ao 5 aW.nd (aL (ac (pv 0) ae)))
  (ag (ao 6 aW.nd (aL ae))
  (ag (bx Xw rfl (b9 rfl T.n_6 (ac (pv 3) ae)) (pgN 7 aW.nd) (ag (ao 8 aW.nd (aL ae))
  (ag (bx Xw rfl (b9 rfl T.n_6 (ac (aD aB rfl T.n_3 XE (ac (pv 1) ae)) ae)) (pgN 9 aW.nd) (am (aS (bC Xb Xq Xp aK (pv 8) (ac (pcF T.g_49 (cT T 5) hr (ac (pv 5) (ac (pv 2) (ac (pv 3) (ac (aw aA (aw aA (pv 1) (pv 9) (λ_ _=>rfl)) ai (λ_ _=>rfl)) (ac (pv 4) ae)))))) ae)))))
  (am (aS (bC Xb Xq Xp aK (pv 6) (ac (bj aX rfl T.n_9 X4 (ac (pv 8) ae)) ae)))))))
  (am (ay (aQ (ac (pv 1) (ac (pv 2) (ac (pcF T.g_49 (cT T 5) hr (ac (pv 5) (ac (pv 2) (ac (pv 3) (ac ai (ac ai ae)))))) (ac (bj aX rfl T.n_9 X4 (ac (pv 6) ae)) ae)))))))))),?_⟩
 try dsimp only[Ax,Ai]
 have Br:ins.length=Av.length:=Xa Ed;have HV:=gi.le;have D0:((Av.map i!).length:Int)=(ins.length:Int):=by rw[WO,Br]
 refine⟨_,D?,lnE rfl,λlf Dy=>?_⟩;refine⟨lnE rfl,λrl Gh=>?_⟩;have Gi:rl≠lf:=λz=>by rw[z,ad]at Gh;cases Gh
 have D3:H rl=none:=(aj Dy _).free Gh;have GY:j! H (upd (upd H lf (.lst [.int cell])) rl (.lst [])):=(aj Dy _).trans (aj Gh _);have SI:(upd (upd H lf (.lst [.int cell])) rl (.lst [])) lf=A? (.lst [.int cell]):=by rw[af Gi.symm,ad]
 have Ng:(upd (upd H lf (.lst [.int cell])) rl (.lst [])) rl=A? (.lst []):=ad;generalize(upd (upd H lf (.lst [.int cell])) rl (.lst []))=H1 at GY SI Ng |-;refine⟨_,D?,S,D?,by lia,by lia,?_⟩
 refine cy (n:=S.toNat) (λi Y H3=>Ex6 λ(sv rv kv:Option V)(Aw:List WS)(rows:List (List Th))(x:Int)=>An7 (Y=[A? (.int cell),A? (.ref ia),A? (.ref oa),A? (.int S),A? (.int deep),A? (.ref lf),A? (.ref rl),sv,rv,kv]) (j! H H3) (H3 lf=A? (.lst [.int x])) (H3 rl=A? (.lst (Aw.map i!))) (XH (RowAt H3) rows Aw) (rows.length=i) (∀row∈rows,uk ins outs S deep.toNat row))
  ⟨B?,B?,B?,[],[],cell,rfl,GY,SI,Ng,.nil,rfl,λt ht=>by cases ht⟩ ?_ ?_
 .rintro i Y H3 hi ⟨sv,rv,kv,Aw,rows,x,rfl,s3,Fw,BF,AI,F1,Ag⟩;have K5:i<S.toNat:=hi;have E9:rows.length=Aw.length:=Xa AI;refine⟨lnE rfl,λAJ C9=>?_⟩;have IF:H AJ=none:=s3.free C9;have IG:AJ≠rl:=λz=>by rw[z,BF]at C9;cases C9
  have LI:AJ≠lf:=λz=>by rw[z,Fw]at C9;cases C9
  refine gU C9 λH4 s4 Iy=>?_;refine⟨_,D?,ia,_,D?,.inr (l! (s4 _ _ (s3 _ _ ei))),_,D?,by lia,by lia,?_⟩
  refine cy (n:=((Av.map i!).length:Int).toNat) (λj Y H5=>Ex4 λ(kv:Option V)(bs:List WS)(ts:List Th)(x:Int)=>An9 (Y=[A? (.int cell),A? (.ref ia),A? (.ref oa),A? (.int S),A? (.int deep),A? (.ref lf),A? (.ref rl),A? (.int (0+(i:Int))),A? (.ref AJ),kv]) (j! H H5) (H5 lf=A? (.lst [.int x])) (H5 rl=A? (.lst (Aw.map i!))) (KT H4 H5) (H5 AJ=A? (.lst (bs.map i!))) (Ats H5 ts bs) (ts.length=j) (∀(j:Nat)(t:Th)(k:Xk×Int),ts[j]?=A? t->ins[j]?=A? k->t.FitS outs S k.2/\t.tall<=deep.toNat+1))
   ⟨kv,[],[],x,rfl,s3.trans s4,s4 _ _ Fw,s4 _ _ BF,λ_ _ e=>e,Iy,.nil,rfl,λj t k h=>by simp at h⟩ ?_ ?_
  .rintro j Y H5 hj ⟨kv,bs,ts,x5,rfl,s5,Gg,Cm,En,Eb,BD,Ap,BY⟩
   have QC:j<ins.length:=by
    have:j<((Av.map i!).length:Int).toNat:=hj;lia
   walk_at"aa";obtain⟨k0,Ca⟩:∃k0,ins[j]?=A? k0:=⟨_,WQ QC⟩;obtain⟨ka,AB,AW⟩:=A! Ed Ca;refine kZ ?_;have E8:=gi.num k0 (WR Ca);have BE:atI (Av.map i!) (0+(j:Int))=A? (.ref ka):=at_nonneg (by lia) (by rw[show(0+(j:Int)).toNat=j by lia,W3,AB];rfl);refine⟨_,D?,.inl ⟨D?,_,n! Eb⟩,_,D?,_,D?,_,D?,_,D?,_,D?,ia,_,_,.ref ka,D?,D?,l! (s5 _ _ ei),BE,ka,_,1,_,D?,D?,l! (s5 _ _ AW),at1,_,D?,lf,x5,oa,AA,outs,S,k0.2,deep,D?,Gg,s5 _ _ eo,G3.mono (k! s5),go,by lia,by lia,d0,by lia,λt r x6 H6 s6 Nc BE Ah AD=>?_⟩;have LK:=s6 _ _ LI Eb;have CB:=s6 _ _ Gi Cm;have DG:KT H5 H6:=s6.kt Gg;have IH:j! H H6:=λb o e=>s6 b o (aq e Dy) (s5 b o e);have BL:bs.length=ts.length:=BD.length;refine⟨AJ,_,_,D?,D?,LK,lbE (by lia),?_⟩;have kt:KT H6 (upd H6 AJ (.lst (bs.map i!++[.ref r]))):=aU LK;refine⟨_,bs++[r],ts++[t],x6,D?,aE IH IF,by rw[af LI.symm];exact Nc,by rw[af IG.symm];exact CB,En.trans (DG.trans kt),?_,?_,?_,?_⟩
   .rw[ad,W8];rfl
   .exact(BD.mono (DG.trans kt)).append (.cons (BE.mono kt) .nil)
   .rw[W7,Ap];rfl
   .intro j' t' k' Ee AG;by_cases Fo:j'<ts.length
    .rw[XJ Fo]at Ee;exact BY j' t' k' Ee AG
    .rw[X2 (by lia)]at Ee
     have HZ:j' - ts.length=0:=by
      have:=(Xx.mp Ee).1;simp at this;lia
     rw[HZ]at Ee;cases Ee;have:j'=j:=by lia
     subst this;rw[Ca]at AG;cases AG;exact⟨Ah,AD⟩
  .rintro Y H5 ⟨kv,bs,ts,x5,rfl,s5,Gg,Cm,En,Eb,BD,Ap,BY⟩;refine⟨_,D?,.inl ⟨D?,_,n! Cm⟩,_,D?,AJ,_,D?,.inl ⟨n! Eb,λtp B5=>?_⟩⟩;refine gU B5 λH6 s6 e6=>?_;have CB:=s6 _ _ Cm;refine⟨rl,_,_,D?,D?,CB,lbE (by lia),?_⟩;have kt:KT H6 (upd H6 rl (.lst (Aw.map i!++[.ref tp]))):=aU CB;have QD:KT H3 (upd H6 rl (.lst (Aw.map i!++[.ref tp]))):=(k! s4).trans (En.trans ((k! s6).trans kt));refine⟨_,_,_,Aw++[tp],rows++[ts],x5,D?,aE (s5.trans s6) D3,by rw[af Gi.symm];exact s6 _ _ Gg,?_,?_,?_,?_⟩
   .rw[ad,W8];rfl
   .exact r! (v! (λ_ _ e=>H! QD e) AI) (.cons ⟨bs,kt _ _ e6,BD.mono ((k! s6).trans kt)⟩ .nil)
   .rw[W7,F1];rfl
   .intro row Aj;rcases Xd.mp Aj with Aj|Aj
    .exact Ag row Aj
    .rw[W0.mp Aj];exact⟨by rw[Ap];lia,BY⟩
 .rintro Y H3 ⟨sv,rv,kv,Aw,rows,x,rfl,s3,Fw,BF,AI,F1,Ag⟩;have E9:rows.length=Aw.length:=Xa AI;refine⟨_,D?,_,D?,_,D?,_,D?,_,D?,lf,x,oa,AA,outs,S,1,1,D?,Fw,s3 _ _ eo,G3.mono (k! s3),go,by lia,by decide,by decide,by decide,λt ha x6 H6 s6 Nc BE Ah AD=>?_⟩;have CB:=s6 _ _ Gi BF;have DG:KT H3 H6:=s6.kt Fw;have IH:j! H H6:=λb o e=>s6 b o (aq e Dy) (s3 b o e);refine⟨_,D?,rl,_,D?,.inl ⟨n! CB,λra QE=>?_⟩⟩;refine gU QE λH7 s7 e7=>?_;refine⟨lnE rfl,λr CC=>?_⟩;have s8:j! H7 (upd H7 r (.tup [.ref ia,.ref oa,.ref ha,.ref ra])):=aj CC _;have sA:=IH.trans (s7.trans s8);refine q r ha ra Aw t rows _ sA ⟨ad,sA _ _ ei,Ed.mono (k! sA),sA _ _ eo,G3.mono (k! sA),BE.mono (k! (s7.trans s8)),s8 _ _ e7,v! (λ_ _ e=>H! (DG.trans (k! (s7.trans s8))) e) AI⟩ ⟨by rw[F1];lia,Ag,Ah,AD⟩
inductive iR(vs:List V)(H:Hp)(Q:VK)(_E:XK):Prop
 |mk (cell:Int) (ia:WS) (Av:List WS) (ins:List (Xk×Int)) (oa:WS) (AA:List WS) (outs:List (Xk×Int)) (S deep:Int):vs=[.int cell,.ref ia,.ref oa,.int S,.int deep]->H ia=A? (.tup (Av.map i!))->KsAt H ins Av->aH ins->H oa=A? (.tup (AA.map i!))->KsAt H outs AA->aH outs->0<=S->S<=1000->0<=deep->deep<5->(∀(r ha ra:WS)(Aw:List WS)(head:Th)(rows:List (List Th))(H':Hp),j! H H'->BookAt H' ins outs head rows r ia oa ha ra Av AA Aw->BookOk ins outs S deep.toNat head rows->Q (.ref r) H')->iR  vs H Q _E
theorem iF:FnOk P w K mg base CX0 9 T.g_51.f T.g_51.d ["cell","ins","outs","states","deep"] iR:=by
 refine T.g_51.F.okA cU λAk A outer s H vs Q E hr h=>?_;obtain⟨cell,ia,Av,ins,oa,AA,outs,S,deep,rfl,ei,Ed,gi,eo,G3,go,Nf,KU,d0,d1,q⟩:=h
 refine⟨_,(ag (cN (aV zt (pv 0) ai (aP _)) (am (ay (pcF T.g_50 (fI T) hr (ac (av um (pv 0) ai) (ac (pv 1) (ac (pv 2) (ac (pv 3) (ac (pv 4) ae)))))))) bR)
  (ag (ao 5 cU.nd (aL ae))
  (ag (bx Xw rfl (b9 rfl T.n_6 (ac (pv 3) ae)) (pgN 6 cU.nd) (ag (ao 7 cU.nd (aL ae))
  (ag (bx Xw rfl (b9 rfl T.n_6 (ac (aD aB rfl T.n_3 XE (ac (pv 1) ae)) ae)) (pgN 8 cU.nd) (am (aS (bC Xb Xq Xp aK (pv 7) (ac (pcF T.g_47 (dz T 5) hr (ac (pcF T.g_44 (bH T) hr (ac (pv 0) (ac (av bz (av bz (av dY ai (pv 6)) (pv 8)) ai) ae))) (ac (pv 2) (ac (pv 3) (ac (aw aA (aw aA (pv 1) (pv 8) (λ_ _=>rfl)) ai (λ_ _=>rfl)) (ac (pv 4) ae)))))) ae)))))
  (am (aS (bC Xb Xq Xp aK (pv 5) (ac (bj aX rfl T.n_9 X4 (ac (pv 7) ae)) ae)))))))
  (am (ay (aQ (ac (pv 1) (ac (pv 2) (ac (pcF T.g_47 (dz T 5) hr (ac (pcF T.g_44 (bH T) hr (ac (pv 0) (ac ai ae))) (ac (pv 2) (ac (pv 3) (ac ai (ac ai ae)))))) (ac (bj aX rfl T.n_9 X4 (ac (pv 5) ae)) ae)))))))))),?_⟩
 try dsimp only[Ax,Ai]
 have Br:ins.length=Av.length:=Xa Ed;have HV:=gi.le;have D0:((Av.map i!).length:Int)=(ins.length:Int):=by rw[WO,Br]
 refine bS (λAe H'=>An2 (H=H') (Ae=[A? (.int cell),A? (.ref ia),A? (.ref oa),A? (.int S),A? (.int deep),B?,B?,B?,B?])) (λkk hk=>?_) ?_
 .refine⟨_,D?,_,_,D?,D?,_,D?,?_⟩;refine dA (λc1=>?_) (λc1=>hk _ _ ⟨rfl,rfl⟩);exact⟨_,D?,_,_,D?,D?,⟨by decide,by decide⟩,_,D?,_,D?,_,D?,_,D?,_,ia,Av,ins,oa,AA,outs,S,deep,D?,ei,Ed,gi,eo,G3,go,Nf,KU,d0,d1,λr ha ra Aw head rows H' s1 b1 b2=>q r ha ra Aw head rows H' s1 b1 b2⟩
 rintro Ae H' ⟨rfl,rfl⟩;refine⟨lnE rfl,λrl D3=>?_⟩;refine gU D3 λH1 GY Ng=>?_;refine⟨_,D?,S,D?,by lia,by lia,?_⟩
 refine cy (n:=S.toNat) (λi Y H3=>Ex5 λ(sv rv kv:Option V)(Aw:List WS)(rows:List (List Th))=>An6 (Y=[A? (.int cell),A? (.ref ia),A? (.ref oa),A? (.int S),A? (.int deep),A? (.ref rl),sv,rv,kv]) (j! H H3) (H3 rl=A? (.lst (Aw.map i!))) (XH (RowAt H3) rows Aw) (rows.length=i) (∀row∈rows,uk ins outs S deep.toNat row))
  ⟨B?,B?,B?,[],[],rfl,GY,Ng,.nil,rfl,λt ht=>by cases ht⟩ ?_ ?_
 .rintro i Y H3 hi ⟨sv,rv,kv,Aw,rows,rfl,s3,BF,AI,F1,Ag⟩;have K5:i<S.toNat:=hi;have E9:rows.length=Aw.length:=Xa AI;refine⟨lnE rfl,λAJ C9=>?_⟩;have IF:H AJ=none:=s3.free C9;have IG:AJ≠rl:=λz=>by rw[z,BF]at C9;cases C9
  refine gU C9 λH4 s4 Iy=>?_;refine⟨_,D?,ia,_,D?,.inr (l! (s4 _ _ (s3 _ _ ei))),_,D?,by lia,by lia,?_⟩
  refine cy (n:=((Av.map i!).length:Int).toNat) (λj Y H5=>Ex3 λ(kv:Option V)(bs:List WS)(ts:List Th)=>An8 (Y=[A? (.int cell),A? (.ref ia),A? (.ref oa),A? (.int S),A? (.int deep),A? (.ref rl),A? (.int (0+(i:Int))),A? (.ref AJ),kv]) (j! H H5) (H5 rl=A? (.lst (Aw.map i!))) (KT H4 H5) (H5 AJ=A? (.lst (bs.map i!))) (Ats H5 ts bs) (ts.length=j) (∀(j:Nat)(t:Th)(k:Xk×Int),ts[j]?=A? t->ins[j]?=A? k->t.FitS outs S k.2/\t.tall<=deep.toNat+1))
   ⟨kv,[],[],rfl,s3.trans s4,s4 _ _ BF,λ_ _ e=>e,Iy,.nil,rfl,λj t k h=>by simp at h⟩ ?_ ?_
  .rintro j Y H5 hj ⟨kv,bs,ts,rfl,s5,Cm,En,Eb,BD,Ap,BY⟩
   have QC:j<ins.length:=by
    have:j<((Av.map i!).length:Int).toNat:=hj;lia
   walk_at"aa";obtain⟨k0,Ca⟩:∃k0,ins[j]?=A? k0:=⟨_,WQ QC⟩;obtain⟨ka,AB,AW⟩:=A! Ed Ca;refine kZ ?_;have E8:=gi.num k0 (WR Ca);have BE:atI (Av.map i!) (0+(j:Int))=A? (.ref ka):=at_nonneg (by lia) (by rw[show(0+(j:Int)).toNat=j by lia,W3,AB];rfl);refine⟨_,D?,.inl ⟨D?,_,n! Eb⟩,_,D?,_,D?,_,_,D?,D?,.inl ⟨by decide,by decide⟩,_,D?,_,_,D?,D?,_,_,D?,D?,_,_,D?,by lia,by lia,λr2 _ _=>?_⟩;refine⟨_,D?,_,D?,_,D?,_,D?,ia,_,_,.ref ka,D?,D?,l! (s5 _ _ ei),BE,ka,_,1,_,D?,D?,l! (s5 _ _ AW),at1,_,D?,r2,oa,AA,outs,S,k0.2,deep,D?,s5 _ _ eo,G3.mono (k! s5),go,d0,by lia,λt r H6 s6 BE Ah AD=>?_⟩;have LK:=s6 _ _ Eb;have CB:=s6 _ _ Cm;have DG:KT H5 H6:=k! s6;have IH:j! H H6:=s5.trans s6;have BL:bs.length=ts.length:=BD.length;refine⟨AJ,_,_,D?,D?,LK,lbE (by lia),?_⟩;have kt:KT H6 (upd H6 AJ (.lst (bs.map i!++[.ref r]))):=aU LK;refine⟨_,bs++[r],ts++[t],D?,aE IH IF,by rw[af IG.symm];exact CB,En.trans (DG.trans kt),?_,?_,?_,?_⟩
   .rw[ad,W8];rfl
   .exact(BD.mono (DG.trans kt)).append (.cons (BE.mono kt) .nil)
   .rw[W7,Ap];rfl
   .intro j' t' k' Ee AG;by_cases Fo:j'<ts.length
    .rw[XJ Fo]at Ee;exact BY j' t' k' Ee AG
    .rw[X2 (by lia)]at Ee
     have HZ:j' - ts.length=0:=by
      have:=(Xx.mp Ee).1;simp at this;lia
     rw[HZ]at Ee;cases Ee;have:j'=j:=by lia
     subst this;rw[Ca]at AG;cases AG;exact⟨Ah,AD⟩
  .rintro Y H5 ⟨kv,bs,ts,rfl,s5,Cm,En,Eb,BD,Ap,BY⟩;refine⟨_,D?,.inl ⟨D?,_,n! Cm⟩,_,D?,AJ,_,D?,.inl ⟨n! Eb,λtp B5=>?_⟩⟩;refine gU B5 λH6 s6 e6=>?_;have CB:=s6 _ _ Cm;refine⟨rl,_,_,D?,D?,CB,lbE (by lia),?_⟩;have kt:KT H6 (upd H6 rl (.lst (Aw.map i!++[.ref tp]))):=aU CB;have QD:KT H3 (upd H6 rl (.lst (Aw.map i!++[.ref tp]))):=(k! s4).trans (En.trans ((k! s6).trans kt));refine⟨_,_,_,Aw++[tp],rows++[ts],D?,aE (s5.trans s6) D3,?_,?_,?_,?_⟩
   .rw[ad,W8];rfl
   .exact r! (v! (λ_ _ e=>H! QD e) AI) (.cons ⟨bs,kt _ _ e6,BD.mono ((k! s6).trans kt)⟩ .nil)
   .rw[W7,F1];rfl
   .intro row Aj;rcases Xd.mp Aj with Aj|Aj
    .exact Ag row Aj
    .rw[W0.mp Aj];exact⟨by rw[Ap];lia,BY⟩
 .rintro Y H3 ⟨sv,rv,kv,Aw,rows,rfl,s3,BF,AI,F1,Ag⟩;have E9:rows.length=Aw.length:=Xa AI;refine⟨_,D?,_,D?,_,D?,_,_,D?,by decide,by decide,λr2 _ _=>?_⟩;refine⟨_,D?,_,D?,r2,oa,AA,outs,S,1,1,D?,s3 _ _ eo,G3.mono (k! s3),go,by decide,by decide,λt ha H6 s6 BE Ah AD=>?_⟩;have CB:=s6 _ _ BF;have DG:KT H3 H6:=k! s6;have IH:j! H H6:=s3.trans s6;refine⟨_,D?,rl,_,D?,.inl ⟨n! CB,λra QE=>?_⟩⟩;refine gU QE λH7 s7 e7=>?_;refine⟨lnE rfl,λr CC=>?_⟩;have s8:j! H7 (upd H7 r (.tup [.ref ia,.ref oa,.ref ha,.ref ra])):=aj CC _;have sA:=IH.trans (s7.trans s8);refine q r ha ra Aw t rows _ sA ⟨ad,sA _ _ ei,Ed.mono (k! sA),sA _ _ eo,G3.mono (k! sA),BE.mono (k! (s7.trans s8)),s8 _ _ e7,v! (λ_ _ e=>H! (DG.trans (k! (s7.trans s8))) e) AI⟩ ⟨by rw[F1];lia,Ag,Ah,AD⟩
theorem vJ:mx (W5 "tvcj"):=kY (by decide +kernel) (by decide +kernel) (by decide +kernel)
def KdAt(H:Hp)(ks:List (Xk×Int))(a:WS):Prop:=∃as:List WS,H a=A? (.tup (as.map i!))/\KsAt H ks as
theorem KdAt.mono(k:KT H H'){ks:List (Xk×Int)}(h:KdAt H ks a):KdAt H' ks a:=by
 obtain⟨as,e,h⟩:=h;exact⟨as,k _ _ e,h.mono k⟩
inductive dD(K:WY)(vs:List V)(H:Hp)(Q:VK)(_E:XK):Prop
 |mk (a:WS) (ns:List Int):vs=[.ref a]->SqL K H a (ns.map o!)->(∀(r:WS)(xs:List WS)(Eo:List (List (Xk×Int)))(H':Hp),j! H H'->H' r=A? (.lst (xs.map i!))->XH (KdAt H') Eo xs->Eo.length=3->(∀ks∈Eo,aH ks)->Q (.ref r) H')->dD K vs H Q _E
theorem gF:FnOk P w K mg base CX0 9 T.g_57.f T.g_57.d ["script"] (dD K):=by
 refine T.g_57.F.okA cA λAk A outer s H vs Q E hr h=>?_;obtain⟨a,ns,rfl,hS,q⟩:=h
 refine⟨_,(ag (ao 1 cA.nd (aL ae))
  (ag (bx Xw rfl (b9 rfl T.n_6 (ac ai ae)) (pgN 2 cA.nd) (am (aS (bC Xb Xq Xp aK (pv 1) (ac (pcF T.g_45 (l3 T) hr (ac (pcF T.g_43 (fq T) hr (ac (pv 0) (ac (pv 2) ae))) (ac (aw aT (aL (ac eM (ac eM (ac eM ae)))) (av bB (av bz (pv 2) (av bQ (pcF T.g_43 (fq T) hr (ac (pv 0) (ac ai ae))) ai)) ai) (λ_ _=>rfl)) ae))) ae)))))
  (am (ay (pv 1))))),?_⟩
 try dsimp only[Ax,Ai]
 refine⟨lnE rfl,λfl Qh=>?_⟩;refine gU Qh λH1 s1 e1=>?_;have e1:H1 fl=A? (.lst (([]:List WS).map i!)):=e1;refine⟨3,D?,by decide,by decide,?_⟩;refine cy (n:=3) (λi Y H2=>Ex3 λ(kv:Option V)(xs:List WS)(Eo:List (List (Xk×Int)))=>An6 (Y=[A? (.ref a),A? (.ref fl),kv]) (j! H H2) (H2 fl=A? (.lst (xs.map i!))) (XH (KdAt H2) Eo xs) (Eo.length=i) (∀ks∈Eo,aH ks)) ⟨B?,[],[],rfl,s1,e1,.nil,rfl,λks h=>by cases h⟩ ?_ ?_
 .rintro i Y H2 hi ⟨kv,xs,Eo,rfl,s2,e2,AX,hl,hg⟩;have MI:=Xa AX;refine⟨_,D?,.inl ⟨D?,_,n! e2⟩,_,D?,_,D?,a,ns,_,D?,s2.seq hS,by lia,λc=>?_⟩;refine⟨lnE rfl,λll Fq=>?_⟩;refine gU Fq λH3 s3 e3=>?_;have CD:=s2.trans s3;refine⟨_,D?,_,D?,a,ns,0,D?,CD.seq hS,by decide,λc0=>⟨_,_,D?,D?,⟨by decide,by decide⟩,_,_,D?,D?,_,_,D?,D?,by decide,?_⟩⟩;generalize hz:(0+(i:Int)+c0 / 7)%3=z;have Fj:0<=z:=by rw[<-hz];exact XN _ (by decide)
  have HX:z<3:=by rw[<-hz];exact XI _ (by decide)
  obtain⟨lt,Al,Fv⟩:∃lt,atI [G! (W5 "bdhk"),.str (W5 "npwz"),.str (W5 "tvcj")] z=A? (.str lt)/\mx lt:=by
   have h3:z=0\/z=1\/z=2:=by lia
   rcases h3 with rfl|rfl|rfl
   .exact⟨_,at0,vI⟩
   .exact⟨_,at1,ww⟩
   .exact⟨_,at2,vJ⟩
  refine⟨ll,_,_,_,D?,D?,n! e3,Al,?_⟩;refine⟨c,lt,D?,Fv,λka AH ks H4 s4 ek Ba gk=>?_⟩;have e4:=(s3.trans s4) _ _ e2;refine⟨fl,_,_,D?,D?,e4,br (by rw[WO];have:i<3:=hi;lia),?_⟩;have k5:KT H4 (upd H4 fl (.lst (xs.map i!++[.ref ka]))):=aU e4;refine⟨_,xs++[ka],Eo++[ks],D?,aE (CD.trans s4) Qh,uAE,r! (v! (λ_ _ e=>KdAt.mono ((k! (s3.trans s4)).trans k5) e) AX) (.cons ⟨AH,k5 _ _ ek,Ba.mono k5⟩ .nil),by rw[W7,hl];rfl,λx hx=>(Xd.mp hx).elim (hg x) λh=>by rw[W0.mp h];exact gk⟩
 .rintro Y H2 ⟨kv,xs,Eo,rfl,s2,e2,AX,hl,hg⟩;exact⟨_,D?,q fl xs Eo H2 s2 e2 AX hl hg⟩
def EH(H:Hp)(t:Th)(a:WS):Prop:=∃ta,H a=A? (.tup [.ref ta,.int (t.tall:Nat)])/\At H t ta
theorem EH.mono(k:KT H H'){t:Th}(h:EH H t a):EH H' t a:=by
 obtain⟨ta,h1,h2⟩:=h;exact⟨ta,k _ _ h1,h2.mono k⟩
theorem o5:∀{ts:List Th}{es:List WS},XH (EH H) ts es->∃BK:List WS,Ats H ts BK/\BK.length=es.length/\∀(i:Nat)(e:WS),es[i]?=A? e->∃ta t,BK[i]?=A? ta/\ts[i]?=A? t/\H e=A? (.tup [.ref ta,.int (t.tall:Nat)])
 |_,_,.nil=>⟨[],.nil,rfl,λi e h=>by simp at h⟩
 | _,_,.cons (a:=t) (b:=e) r h=>by
   walk_at"aa";obtain⟨ta,h1,h2⟩:=r;obtain⟨BK,g1,g2,g3⟩:=o5 h;refine kZ ?_;refine⟨ta::BK,.cons h2 g1,by rw[Xf,Xf,g2],λi e' he=>?_⟩;cases i with
   | zero =>
     simp at he;subst he;exact⟨ta,t,D?,D?,h1⟩
   | succ i =>
     walk_at"aa";obtain⟨Wl,t',q1,q2,q3⟩:=g3 i e' (by simpa using he);refine kZ ?_;exact⟨Wl,t',by simpa using q1,by simpa using q2,q3⟩
theorem lB{M:Int}(h1:M∈(ts.map λt:Th=>((t.tall:Nat):Int))++[0])(h2:∀a∈(ts.map λt:Th=>((t.tall:Nat):Int))++[0],a<=M):M=((ax ts:Nat):Int):=by
 by_cases h:ts=[]
 .subst h;have:M=0:=by simpa using h1
  rw[this,ax];rfl
 .have h0:=h2 0 (by simp);obtain⟨t,ht,he⟩:=m8 h;have h3:=h2 _ (XA _ (List.mem_map_of_mem (f:=λt:Th=>((t.tall:Nat):Int)) ht));rcases Xd.mp h1 with h1|h1
  .obtain⟨u,hu,e⟩:=Xn.mp h1;have:=b8 hu;lia
  .have h4:M=0:=W0.mp h1;have h5:t.tall=0:=by lia
   cases t with
   |knot n ks=>rw[q!]at h5;lia
   |call a b=>rw[q!]at h5;lia
inductive ix(vs:List V)(H:Hp)(Q:VK)(_E:XK):Prop
 |mk (ka kl:WS) (k0:Xk×Int) (es:List WS) (ts:List Th):vs=[.ref ka,.ref kl]->KAt H k0 ka->k0.1≠q->H kl=A? (.lst (es.map i!))->XH (EH H) ts es->ts.length<=1000->(∀(r:WS)(H':Hp),j! H H'->EH H' (.knot k0.1 ts) r->Q (.ref r) H')->ix  vs H Q _E
theorem dI:FnOk P w K mg base CX0 1 T.g_52.f T.g_52.d ["kind","kids"] ix:=by
 refine T.g_52.F.okA iJ λAk A outer s H vs Q E hr h=>?_;obtain⟨ka,kl,k0,es,ts,rfl,AW,hq,Gj,AS,hlen,q⟩:=h
 refine⟨_,(ag (ao 2 iJ.nd (av bz ai (aD (je rfl) rfl T.n_5 YT (ac (av hX (bv (N:=["kid"]) (js:=[B?]) (g:=(az 0)) (tt:=bf) (te:=(tOp (ii K) (aZ 0) (tC (.int 1)))) rfl (bU rfl (by decide +kernel) (by decide +kernel) rfl rfl rfl) (cj (pv 1)) (λ_ _ _ _ _ _=>(pgN 0 xk)) (aO rfl) (λ_ _ _ _ _ _=>bt) (λ_ _ _ _ _ _=>(aw aA (pv 0) ai (λ_ _=>rfl)))) (aL (ac ai ae))) ae))))
  (am (ay (aQ (ac (av io (aQ (ac (aw aA (pv 0) ai (λ_ _=>rfl)) ae)) (bj aX rfl T.n_9 X4 (ac (bv (N:=["kid"]) (js:=[B?]) (g:=(az 0)) (tt:=bf) (te:=(tOp (ii K) (aZ 0) (tC (.int 0)))) rfl (bU rfl (by decide +kernel) (by decide +kernel) rfl rfl rfl) (cj (pv 1)) (λ_ _ _ _ _ _=>(pgN 0 xk)) (aO rfl) (λ_ _ _ _ _ _=>bt) (λ_ _ _ _ _ _=>(aw aA (pv 0) ai (λ_ _=>rfl)))) ae))) (ac (pv 2) ae)))))),?_⟩
 try dsimp only[Ax,Ai]
 have Fl:ts.length=es.length:=Xa AS;refine⟨_,D?,kl,D?,⟨_,n! Gj⟩,dJ ts (λt:Th=>o! (t.tall:Nat)) (n! Gj) (by rw[WO];exact Fl) (by rw[WO];lia) (λi x z H2 R W' hx hz s2 hR=>?_) (λD H1 hD s1 e1=>?_)⟩
 .walk_at"aa";obtain⟨e,rfl,he⟩:=aN hx;obtain⟨t,ht,ta,h1,_⟩:=z! AS he;refine kZ ?_;rw[hz]at ht;cases ht;exact⟨_,D?,e,_,1,.int (z.tall:Nat),D?,D?,l! (s2 _ _ h1),at1,hR H2 (.refl _)⟩
 refine⟨lnE rfl,λzl EZ=>?_⟩;have s2:=aj EZ (.lst [.int 0]);refine⟨D,zl,_,_,D?,D?,s2 _ _ e1,ad,bi (by rw[WO];show ts.length+1<=1000000;lia),λcl AF=>?_⟩;have s3:j! H _:=s1.trans (s2.trans (aj AF (.lst (ts.map (λt:Th=>o! (t.tall:Nat))++[.int 0]))))
 have e3:(upd (upd H1 zl (.lst [.int 0])) cl (.lst (ts.map (λt:Th=>o! (t.tall:Nat))++[.int 0]))) cl=A? (.lst (((ts.map λt:Th=>((t.tall:Nat):Int))++[0]).map o!)):=by
  rw[ad,W8,Zc];rfl
 generalize(upd (upd H1 zl (.lst [.int 0])) cl (.lst (ts.map (λt:Th=>o! (t.tall:Nat))++[.int 0])))=H3 at s3 e3 |-;refine⟨cl,(ts.map λt:Th=>((t.tall:Nat):Int))++[0],D?,n! e3,by simp,λM hM II=>⟨_,_,D?,D?,?_⟩⟩;have QF:=lB hM II;subst QF;have Cg:=s3 _ _ AW;refine⟨_,D?,ka,_,0,.str k0.1,D?,D?,l! Cg,at0,lnE rfl,λp1 GX=>?_⟩;have s4:=s3.trans (aj GX (.tup [.str k0.1]));have e4:(upd H3 p1 (.tup [.str k0.1])) p1=A? (.tup [.str k0.1]):=ad;generalize(upd H3 p1 (.tup [.str k0.1]))=H4 at s4 e4 |-;walk_at"aa";obtain⟨BK,Ce,Ap,QG⟩:=o5 (v! (λ_ _ e=>EH.mono (k! s4) e) AS);refine kZ ?_;have LL:=s4 _ _ Gj;refine⟨_,D?,kl,D?,⟨_,n! LL⟩,dJ BK i! (n! LL) (by rw[WO];exact Ap) (by rw[WO];lia) (λi x z H5 R W' hx hz s5 hR=>?_) (λD5 H5 Nh s5 e5=>?_)⟩
 .walk_at"aa";obtain⟨e,rfl,he⟩:=aN hx;obtain⟨ta,t,g1,_,g3⟩:=QG i e he;refine kZ ?_;rw[hz]at g1;cases g1;exact⟨_,D?,e,_,0,.ref z,D?,D?,l! (s5 _ _ g3),at0,hR H5 (.refl _)⟩
 refine⟨D5,_,D?,.inl ⟨n! e5,λtp B5=>?_⟩⟩;refine gU B5 λH6 s6 e6=>?_;refine vz (s6 _ _ (s5 _ _ e4)) e6 (by rw[WO];show 1+BK.length<=1000000;lia) λp H7 s7 e7=>?_;refine⟨_,D?,lnE rfl,λr CC=>?_⟩;have s8:=aj CC (.tup [.ref p,.int (1+((ax ts:Nat):Int))]);have JA:=s5.trans (s6.trans (s7.trans s8));refine q r _ (s4.trans JA) ⟨p,?_,?_⟩
 .rw[ad,q!];congr 4;simp;lia
 .rw[At];exact⟨hq,BK,s8 _ _ e7,Ce.mono (k! JA)⟩
theorem ve{c:TT}{K:Bool->Hp->Prop}(R:Bool->Hp->Prop)(h1:∀k:Bool->Hp->Prop,(∀b H',R b H'->k b H')->c Y H k)(h2:∀b H',R b H'->K b H'):c Y H K:=h1 K h2
theorem pq{kr:WS}{AH:List WS}{ks:List (Xk×Int)}(p:Xk×Int->Bool)(e:H kr=A? (.tup (AH.map i!)))(Ba:KsAt H ks AH)(hl:ks.length<=1000)
 (FC:∀(z:Xk×Int)(ka:WS)(H2:Hp)(R:Bool->Hp->Prop),j! H H2->KAt H2 z ka->R (p z) H2->tt ((cσ js Y).set 0 (A? (.ref ka))) H2 R)
 (FD:∀(ka:WS)(H2:Hp)(R:VK),R (.ref ka) H2->te ((cσ js Y).set 0 (A? (.ref ka))) H2 R)
 (q:∀(D:WS)(bs:List ((Xk×Int)×WS))(H':Hp),H D=B?->H'=upd H D (.lst (bs.map λz=>i! z.2))->bs.length<=ks.length->(∀z∈bs,z.1∈ks/\p z.1=C?/\KAt H z.1 z.2)->fin D H') :
 ∀D,H D=B?->∃(n:Nat)(W:Nat->Hp->Prop),W 0 (upd H D (.lst []))/\fN js (az 0) tt te Y (Itt K kr) D n W λH'=>fin D H':=by
 have AK:ks.length=AH.length:=Xa Ba;have EZ:(ks.zip AH).length=ks.length:=by rw[List.length_zip];lia
 have EI:∀(i:Nat)(x:V)(z:(Xk×Int)×WS),(AH.map i!)[i]?=A? x->(ks.zip AH)[i]?=A? z->x=.ref z.2:=λi x z hx hz=>by
  obtain⟨ka,rfl,AB⟩:=aN hx;obtain⟨h1,h2⟩:=YQ.mp hz;rw[AB]at h2;cases h2;rfl
 refine jH (ks.zip AH) (λz=>p z.1) (λz=>.ref z.2) (l! e) (by rw[EZ,WO];exact AK) (by rw[WO];lia) (λi x z H2 R hx hz sm r=>?_) (λi x z H2 R hx hz _ sm r=>?_) (λD hD=>?_)
 .rw[EI i x z hx hz];have:=(iB Ba z (WR hz)).2;exact FC z.1 z.2 H2 R sm (sm _ _ this) r
 .rw[EI i x z hx hz];exact FD z.2 H2 R r
 .refine q D _ _ hD rfl ?_ ?_
  .exact Xh (List.length_filter_le _ _) (by lia)
  .intro z hz;obtain⟨h1,h2⟩:=List.mem_filter.mp hz;obtain⟨h3,h4⟩:=iB Ba z h1;exact⟨h3,h2,h4⟩
theorem j2(h:n<=xs.length):cJ xs B? (A? (n:Int))=xs.take n:=by
 unfold cJ;rw[B!,I!,Nat.min_eq_left h,Nat.sub_zero,Y1]
theorem nb(n:Nat)(ts:List Th):ar (ts.take n)+ar (ts.drop n)=ar ts:=by rw[<-aR,List.take_append_drop]
inductive ik(K:WY)(vs:List V)(H:Hp)(Q:VK)(_E:XK):Prop
 |mk (cl ia:WS) (xs:List V) (Av:List WS) (ins:List (Xk×Int)):vs=[.ref cl,.ref ia]->H cl=A? (.lst xs)->(∀v∈xs,∃z,v=.int z)->xs.length<=60->H ia=A? (.tup (Av.map i!))->KsAt H ins Av->aH ins->(∀(t:Th)(r:WS)(H':Hp),j! H H'->At H' t r->t.Fit ins->t.tall<=79->t.size<=300->Q (.ref r) H')->ik K vs H Q _E
theorem oi:FnOk P w K mg base CX0 2 T.g_53.f T.g_53.d ["cells","ins"] (ik K):=by
 refine T.g_53.F.okA bh λAk A outer s H vs Q E hr h=>?_;obtain⟨cl,ia,xs,Av,ins,rfl,SJ,hint,MI,ei,Ed,gi,q⟩:=h
 refine⟨_,(ag (ao 2 bh.nd (pcF T.g_52 (dI T) hr (ac (pcF T.g_46 (fE T) hr (ac (pv 1) (ac (aD aB rfl T.n_3 XE (ac (pv 0) ae)) ae))) (ac (aL ae) ae))))
  (ag (gB (i:=3) (N:=["kind"]) (js:=[B?]) (g:=(az 0)) (tt:=(pN (tOp (rI0 λi j=>.bl (decide (j<i))) (tOp (ii K) (aZ 0) (tC (.int 1))) (tC (.int 1))))) (te:=(aZ 0)) bh.nd rfl (Or.inl rfl) rfl (bU rfl (by decide +kernel) (by decide +kernel) rfl rfl rfl) (dB (pv 1)) (λ_ _ _ _ _ _=>(pgN 0 uw)) (aO rfl) (λ_ _ _ _ _ _=>gA (aV d4 (aw aA (pv 0) ai (λ_ _=>rfl)) ai (aP _))) (λ_ _ _ _ _ _=>(pv 0)))
  (ag (ao 4 bh.nd (aL ae))
  (ag (bx Xw rfl (cj (bD gz (pv 0) bX (bO ai))) (pgN 5 bh.nd) (ag (ao 6 bh.nd (pcF T.g_44 (bH T) hr (ac (pv 5) (ac (aD aB rfl T.n_3 XE (ac (pv 4) ae)) ae))))
  (ag (ao 7 bh.nd (aw aA (pv 1) (av bB (pv 6) (aD aB rfl T.n_3 XE (ac (pv 1) ae))) (λ_ _=>rfl)))
  (ag (ao 8 bh.nd (pcF T.g_52 (dI T) hr (ac (pv 7) (ac (av yo (bD gz (pv 4) (bO (aD (gE rfl) rfl T.n_5 YT (ac ai (ac (av jx (aD aB rfl T.n_3 XE (ac (pv 4) ae)) (aw aA (pv 7) ai (λ_ _=>rfl))) ae)))) bX) (bj ji rfl T.n_2 PyProof.Rows.boot_int (ac (cV d4 (aw aA (pv 7) ai (λ_ _=>rfl)) ai (aP _)) ae))) ae))))
  (am (cN (PW.pt (xg (aV d4 (aw aA (pv 7) ai (λ_ _=>rfl)) (aD aB rfl T.n_3 XE (ac (pv 4) ae)) (aP _)) (tZ (aV d4 (aw aA (pv 8) ai (λ_ _=>rfl)) ai (aP _))))) (am (aS (bC Xb Xq Xp aK (pv 4) (ac (pcF T.g_52 (dI T) hr (ac (pcF T.g_46 (fE T) hr (ac (pv 1) (ac (av bQ (pv 6) ai) ae))) (ac (aL ae) ae))) ae)))) (am (ao 4 bh.nd (av hX (bD gz (pv 4) bX (bO (av jx (aD aB rfl T.n_3 XE (ac (pv 4) ae)) (aw aA (pv 7) ai (λ_ _=>rfl))))) (aL (ac (pv 8) ae)))))))))))
  (ag (dk Xw (PW.pt (jh (aV d4 (aD aB rfl T.n_3 XE (ac (pv 4) ae)) ai (aP _)) (j7 (aV d4 (aD aB rfl T.n_3 XE (ac (pv 3) ae)) ai (aP _))))) (ag (ao 7 bh.nd (aw aT (pv 3) (av bB (aD aB rfl T.n_3 XE (ac (pv 4) ae)) (aD aB rfl T.n_3 XE (ac (pv 3) ae))) (λ_ _=>rfl)))
  (am (ao 4 bh.nd (av hX (bD gz (pv 4) (bO (aw aA (pv 7) ai (λ_ _=>rfl))) bX) (aL (ac (pcF T.g_52 (dI T) hr (ac (pv 7) (ac (bD gz (av hX (pv 4) (aL (ac (pv 2) (ac (pv 2) ae)))) bX (bO (aw aA (pv 7) ai (λ_ _=>rfl)))) ae))) ae)))))))
  (am (ay (aw aA (aw aT (av hX (pv 4) (aL (ac (pv 2) ae))) (aD (gE rfl) rfl T.n_5 YT (ac ai (ac (av jx (aD aB rfl T.n_3 XE (ac (pv 4) ae)) ai) ae))) (λ_ _=>rfl)) ai (λ_ _=>rfl))))))))),?_⟩
 try dsimp only[Ax,Ai]
 have Br:ins.length=Av.length:=Xa Ed;have HV:=gi.le;have hi1:=gi.ne
 have DH:∀k0:Xk×Int,k0∈ins->k0.2=0->(w! k0.1 []).Fit ins:=λk0 hm hz=>by
  rw[y!,Fits];refine⟨?_,trivial⟩;have:(k0.1,((([]:List Th).length:Nat):Int))=k0:=Prod.ext rfl hz.symm;rw[this];exact hm
 refine⟨_,D?,_,D?,cl,_,D?,.inl (n! SJ),ia,Av,ins,_,D?,ei,Ed,gi,λk0 ka H1 s1 Cd Fj AW=>?_⟩;refine⟨lnE rfl,λel Fl=>?_⟩;have s2:=s1.trans (aj Fl (.lst []));refine⟨ka,el,k0,[],[],D?,aj Fl _ _ _ AW,mB (gi.low k0 Cd).1,ad,.nil,Xr _,λlf H2 SK Dy=>?_⟩;have Ni:j! H H2:=s2.trans SK;have E':=DH k0 Cd Fj;have QH:(w! k0.1 []).tall<=1:=by rw[q!,ax];exact WX _
 have QI:(w! k0.1 []).size<=1:=by rw[t!,ar];exact WX _
 generalize w! k0.1 []=CF at Dy E' QH QI;clear s2 SK AW Cd Fj s1 Fl
 have QJ:=Ni _ _ ei;have LM:=Ed.mono (k! Ni);refine⟨_,D?,ia,D?,⟨_,l! QJ⟩,pq (K:=K) (λk=>decide (1<k.2)) QJ LM (by lia) (λz ka H2 R sm hz r=>⟨_,D?,ka,_,1,_,D?,D?,l! hz,at1,_,_,D?,D?,_,D?,r⟩) (λka H2 R r=>⟨_,D?,r⟩) (λwd bs H3 hD e' Sx AQ=>?_)⟩;have s3:j! H2 H3:=by rw[e'];exact aj hD _
 have Wm:H3 wd=A? (.lst (bs.map λz=>i! z.2)):=by rw[e'];exact ad
 clear e';refine⟨lnE rfl,λG4 LN=>?_⟩;have QK:=s3 _ _ (Ni _ _ SJ);have s4:j! H3 (upd H3 G4 (.lst [])):=aj LN _;refine⟨_,D?,_,D?,cl,_,D?,n! (s4 _ _ QK),λcc C2=>?_⟩;have SM:G4≠cc:=λz=>by rw[<-z,ad]at C2;cases C2
 have s5:j! H3 (upd (upd H3 G4 (.lst [])) cc (.lst (cJ xs B? (A? 96)))):=s4.trans (aj C2 _);have Cm:(upd (upd H3 G4 (.lst [])) cc (.lst (cJ xs B? (A? 96)))) G4=A? (.lst []):=by rw[af SM,ad]
 have Nj:(upd (upd H3 G4 (.lst [])) cc (.lst (cJ xs B? (A? 96)))) cc=A? (.lst (cJ xs B? (A? 96))):=ad;generalize(upd (upd H3 G4 (.lst [])) cc (.lst (cJ xs B? (A? 96))))=H5 at s5 Cm Nj |-;have G5:∀v∈cJ xs B? (A? 96),∃z,v=.int z:=λv hv=>hint v (Zu (YZ hv));have AF:=ej xs B? (A? 96);generalize cJ xs B? (A? 96)=ys at Nj G5 AF |-;have QL:=Dy.mono (k! s3);have sb:j! H H3:=Ni.trans s3;have SN:=sb _ _ ei;have LO:=Ed.mono (k! sb)
 have QM:∀z∈bs,z.1∈ins/\1<z.1.2/\KAt H3 z.1 z.2:=λz hz=>by
  obtain⟨h1,h2,h3⟩:=AQ z hz;exact⟨h1,e! h2,s3 _ _ h3⟩
 clear AQ Dy LM QJ s4;refine⟨cc,D?,⟨_,n! Nj⟩,?_⟩
 refine dS (K:=K) (a:=cc) (xs:=ys) (λi Y H6=>Ex7 λ(AJ:WS)(es:List WS)(ts:List Th)(c5 c6 c7 c8:Option V)=>yW (Y=[A? (.ref cl),A? (.ref ia),A? (.ref lf),A? (.ref wd),A? (.ref AJ),c5,c6,c7,c8]) (j! H3 H6) (H3 AJ=B?) (AJ≠cc) (H6 cc=A? (.lst ys)) (H6 AJ=A? (.lst (es.map i!))) (XH (EH H6) ts es) ((∀t∈ts,t.Fit ins)) ((∀t∈ts,t.tall<=20)) (ts.length<=i) (ar ts<=i))
  ⟨G4,[],[],B?,B?,B?,B?,rfl,s5,LN,SM,Nj,Cm,.nil,(λt ht=>by cases ht),(λt ht=>by cases ht),WX _,WX _⟩ (λi Y H6 _⟨_,_,_,_,_,_,_,_,_,_,_,h,_,_,_,_,_,_⟩=>n! h) ?_ ?_
 .rintro i x Y H6 hx ⟨AJ,es,ts,c5,c6,c7,c8,rfl,s6,C9,Gk,Il,erw,AS,Ah,Jp,SO,hsz⟩;obtain⟨c,rfl⟩:=G5 x (WR hx);have SQ:i<ys.length:=(glE hx);have Fl:ts.length=es.length:=Xa AS;have QN:((es.map i!).length:Int)=(es.length:Int):=by rw[WO]
  refine⟨_,D?,_,D?,AJ,_,D?,.inl (n! erw),_,_,D?,by lia,by lia,λrest r0 r1=>?_⟩;have SR:=s6 _ _ SN;have m0:=XN rest (show((Av.map i!).length:Int)≠0 by rw[WO];lia);have m1:=XI rest (show(0:Int)<((Av.map i!).length:Int)by rw[WO];lia);walk_at"aa";obtain⟨k0,Ca⟩:∃k0,ins[(rest%((Av.map i!).length:Int)).toNat]?=A? k0:=⟨_,WQ (by rw[WO]at m0 m1 |-;lia)⟩;obtain⟨ka,AB,Cg⟩:=A! LO Ca;refine kZ ?_;have Cd:=WR Ca;have E8:=gi.num k0 Cd;have AW:=s6 _ _ Cg;refine⟨_,D?,_,D?,_,D?,ia,_,D?,.inr (l! SR),_,_,D?,D?,(by show(0:Int)<((Av.map i!).length:Int);rw[WO];lia),ia,_,_,.ref ka,D?,D?,l! SR,at_nonneg m0 (gmE AB),?_⟩
  obtain⟨lo,Rb,Wn⟩:∃lo:Nat,(if((es.map i!).length:Int) - k0.2 > 0 then((es.map i!).length:Int) - k0.2 else 0)=(lo:Int)/\lo=es.length - k0.2.toNat:=by
   refine⟨es.length - k0.2.toNat,?_,D?⟩;rw[QN];split <;> lia
  have Ef:cJ (es.map i!) (A? (lo:Int)) B?=(es.drop lo).map i!:=by rw[jt (by rw[WO];lia),List.map_drop]
  refine⟨_,D?,_,D?,_,D?,AJ,_,D?,.inl (n! erw),_,D?,ka,_,1,_,D?,D?,l! AW,at1,_,_,D?,D?,_,_,D?,_,D?,AJ,_,D?,n! erw,λWo Hj=>?_⟩;dsimp only;rw[Rb,Ef];refine gU Hj λH7 sA eA=>?_
  have QO:(XY (if decide ((0:Int)<k0.2)=C? then(1:Int)else 0).toNat ((es.drop lo).map i!)).flatten=(es.drop lo).map i!:=by
   by_cases hc:(0:Int)<k0.2
   .rw[d! hc];simp
   .have:es.drop lo=[]:=List.drop_eq_nil_of_le (by lia);rw[this];simp
  have QP:(if decide ((0:Int)<k0.2)=C? then(1:Int)else 0)=0\/(if decide ((0:Int)<k0.2)=C? then(1:Int)else 0)=1:=by split <;> simp
  refine⟨_,D?,ka,_,1,_,D?,D?,l! (sA _ _ AW),at1,_,_,D?,D?,.inr ⟨_,D?,Wo,_,_,D?,D?,eA,by lia,by lia,bi ?_,λrp Wq=>?_⟩⟩
  .have:((es.drop lo).map i!).length<=1000:=by rw[WO,XX];lia
   rcases QP with z|z <;> rw[z] <;> simp <;> lia
  dsimp only;rw[QO];have sB:=sA.trans (aj Wq (.lst ((es.drop lo).map i!)));have eB:(upd H7 rp (.lst ((es.drop lo).map i!))) rp=A? (.lst ((es.drop lo).map i!)):=ad;generalize(upd H7 rp (.lst ((es.drop lo).map i!)))=H8 at sB eB |-;refine⟨ka,rp,k0,es.drop lo,ts.drop lo,D?,sB _ _ AW,mB (gi.low k0 Cd).1,eB,v! (λ_ _ e=>EH.mono (k! sB) e) (P2.drop lo AS),by rw[XX];lia,λmd H9 s9 GH=>?_⟩;have LP:j! H6 H9:=sB.trans s9;have Eg:=LP _ _ erw;have IJ:=LP _ _ Il;have LQ:=LP _ _ AW;have Gm:=v! (λ_ _ e=>EH.mono (k! LP) e) AS;have LR:=s6.trans LP;obtain⟨mta,Wr,hmA⟩:=id GH;dsimp only[az];refine cR (λb H'=>An2 (H9=H') ((b=CG->k0.2<=(es.length:Int)/\(w! k0.1 (ts.drop lo)).tall<=20))) (λk2 AX=>?_) (λH' hb=>?_) (λH' hb=>?_)
  .refine⟨_,D?,ka,_,1,_,D?,D?,l! LQ,at1,_,D?,AJ,_,D?,.inl (n! Eg),_,_,D?,D?,_,D?,?_⟩;refine dA (λc1=>AX _ _ ⟨rfl,λz=>by cases z⟩) (λc1=>?_);refine⟨_,D?,md,_,1,_,D?,D?,l! Wr,at1,_,_,D?,D?,_,D?,AX _ _ ⟨D?,λz2=>⟨?_,?_⟩⟩⟩
   .have:¬((es.map i!).length:Int)<k0.2:=λz=>c1 (d! z);lia
   .have:=of_decide_eq_false z2;lia
  .obtain⟨rfl,_⟩:=hb;refine⟨_,D?,.inl ⟨D?,_,n! Eg⟩,_,D?,_,D?,_,_,D?,D?,⟨by decide,by decide⟩,ia,Av,ins,_,D?,LR _ _ SN,LO.mono (k! LR),gi,λk1 GS Ex Ew Nb HX QQ=>?_⟩;refine⟨lnE rfl,λel LS=>?_⟩;refine⟨GS,el,k1,[],[],D?,aj LS _ _ _ QQ,mB (gi.low k1 Nb).1,ad,.nil,Xr _,λl2 Mn Hd Bb=>?_⟩;have sC:j! H9 Mn:=Ew.trans ((aj LS _).trans Hd);refine⟨AJ,_,_,D?,D?,sC _ _ Eg,lbE (by lia),?_⟩;have kt:KT Mn (upd Mn AJ (.lst (es.map i!++[.ref l2]))):=aU (sC _ _ Eg);refine⟨AJ,es++[l2],ts++[.knot k1.1 []],_,_,_,_,D?,aE (LR.trans sC) C9,C9,Gk,by rw[af Gk.symm];exact sC _ _ IJ,uAE,r! (v! (λ_ _ e=>EH.mono ((k! sC).trans kt) e) Gm) (.cons (Bb.mono kt) .nil),λt ht=>?_,λt ht=>?_,by rw[W7];show ts.length+1<=i+1;lia,by rw[aR,ar,ar,t!,ar];lia⟩
   rotate_left
   .rcases Xd.mp ht with ht|ht
    .exact Jp t ht
    .rw[W0.mp ht,q!,ax];decide
   rcases Xd.mp ht with ht|ht
   .exact Ah t ht
   .rw[W0.mp ht];exact DH k1 Nb HX
  .obtain⟨rfl,hb⟩:=hb;obtain⟨hle,DF⟩:=hb rfl;have hn:(((es.map i!).length:Int) - k0.2)=(lo:Int):=by rw[QN];lia
   refine⟨_,D?,_,D?,AJ,_,D?,.inl (n! Eg),_,D?,ka,_,1,_,D?,D?,l! LQ,at1,_,_,D?,D?,_,D?,AJ,_,D?,n! Eg,λWs G9=>?_⟩;dsimp only;rw[hn,j2 (by rw[WO];lia)];refine gU G9 λEx sC eC=>?_;refine⟨_,D?,lnE rfl,λQR Gn=>?_⟩;have sD:=sC.trans (aj Gn (.lst [.ref md]));refine⟨Ws,QR,_,_,D?,D?,aj Gn _ _ _ eC,ad,bi (by rw[XB,WO];show min lo es.length+1<=1000000;lia),λnr Nk=>?_⟩;have sE:=sD.trans (aj Nk (.lst ((es.map i!).take lo++[.ref md])));have IK:H9 nr=none:=sD.free Nk;refine⟨nr,es.take lo++[md],ts.take lo++[.knot k0.1 (ts.drop lo)],_,_,_,_,D?,LR.trans sE,LR.free IK,(λz=>by rw[z,IJ]at IK;cases IK),sE _ _ IJ,by rw[ad,W8,List.map_take];rfl,r! (v! (λ_ _ e=>EH.mono (k! sE) e) (P2.take lo Gm)) (.cons (GH.mono (k! sE)) .nil),λt ht=>?_,λt ht=>?_,by rw[W7,XB];show min lo ts.length+1<=i+1;lia,by rw[aR,ar,ar,t!];have:=nb lo ts;lia⟩
   rotate_left
   .rcases Xd.mp ht with ht|ht
    .exact Jp t (YZ ht)
    .rw[W0.mp ht];exact DF
   rcases Xd.mp ht with ht|ht
   .exact Ah t (YZ ht)
   .rw[W0.mp ht,y!];refine⟨?_,Fits.of λu hu=>Ah u (Zu hu)⟩;have:(k0.1,((ts.drop lo).length:Int))=k0:=Prod.ext rfl (by show(((ts.drop lo).length:Nat):Int)=k0.2;rw[XX];lia);rw[this];exact Cd
 .rintro Y H6 ⟨AJ,es,ts,c5,c6,c7,c8,rfl,s6,C9,Gk,Il,erw,AS,Ah,Jp,SO,hsz⟩;have IL:ts.length<=1000:=by lia
  have QS:ts.length=es.length:=Xa AS
  have JB:∀t∈ts,t.tall+es.length<=80:=λt ht=>by
   have:=Jp t ht;lia
  have Fb:es.length<=60:=by lia
  have CQ:ar ts+3 * es.length<=260:=by lia
  clear SO Il Gk Jp QS;refine⟨λm Y H6=>Ex7 λ(AJ:WS)(es:List WS)(ts:List Th)(c5 c6 c7 c8:Option V)=>uR (Y=[A? (.ref cl),A? (.ref ia),A? (.ref lf),A? (.ref wd),A? (.ref AJ),c5,c6,c7,c8]) (j! H3 H6) (H6 AJ=A? (.lst (es.map i!))) (XH (EH H6) ts es) ((∀t∈ts,t.Fit ins)) ((∀t∈ts,t.tall+es.length<=80)) (es.length<=60) (ts.length<=1000) (ar ts+3 * es.length<=260) (m=es.length),⟨_,AJ,es,ts,c5,c6,c7,c8,D?,s6,erw,AS,Ah,JB,Fb,IL,CQ,D?⟩,?_⟩;clear s6 C9 erw AS Ah IL JB Fb CQ hsz;rintro m Y H6 ⟨AJ,es,ts,c5,c6,c7,c8,rfl,s6,erw,AS,Ah,JB,Fb,IL,CQ,rfl⟩;have Fl:ts.length=es.length:=Xa AS;have QN:((es.map i!).length:Int)=(es.length:Int):=by rw[WO]
  have IM:=s6 _ _ Wm;have DR:((bs.map λz=>i! z.2).length:Int)=(bs.length:Int):=by rw[WO]
  have Dy:=QL;refine ve (λb H'=>An2 (H6=H') ((b=C?->(1:Int)<((es.map i!).length:Int)/\(0:Int)<((bs.map λz=>i! z.2).length:Int)))) (λk2 AX=>?_) (λb H' hb=>?_)
  .refine⟨_,D?,AJ,_,D?,.inl (n! erw),_,_,D?,D?,_,D?,?_⟩;refine dA (λc1=>?_) (λc1=>AX _ _ ⟨rfl,λz=>g! z Xm⟩);exact⟨_,D?,wd,_,D?,.inl (n! IM),_,_,D?,D?,_,D?,AX _ _ ⟨D?,λz=>⟨e! c1,e! z⟩⟩⟩
  obtain⟨rfl,hb⟩:=hb;cases b with
  | true =>
    obtain⟨NW,SS⟩:=hb rfl;refine qx ?_;refine⟨λAe H'=>∃m',m'<es.length/\Ex7 λ(AJ:WS)(es:List WS)(ts:List Th)(c5 c6 c7 c8:Option V)=>uR (Ae=[A? (.ref cl),A? (.ref ia),A? (.ref lf),A? (.ref wd),A? (.ref AJ),c5,c6,c7,c8]) (j! H3 H') (H' AJ=A? (.lst (es.map i!))) (XH (EH H') ts es) ((∀t∈ts,t.Fit ins)) ((∀t∈ts,t.tall+es.length<=80)) (es.length<=60) (ts.length<=1000) (ar ts+3 * es.length<=260) (m'=es.length),λAe H' h=>h,?_⟩;have m0:=XN ((es.map i!).length:Int) (show((bs.map λz=>i! z.2).length:Int)≠0 by lia);have m1:=XI ((es.map i!).length:Int) SS;walk_at"aa";obtain⟨z,hz⟩:∃z,bs[(((es.map i!).length:Int)%((bs.map λz=>i! z.2).length:Int)).toNat]?=A? z:=⟨_,WQ (by lia)⟩;obtain⟨Cd,Fs,Cg⟩:=QM z (WR hz);obtain⟨k0,ka⟩:=z;refine kZ ?_;dsimp only at Cd Fs Cg hz;have E8:=gi.num k0 Cd;have AW:=s6 _ _ Cg;refine⟨_,D?,_,D?,AJ,_,D?,.inl (n! erw),_,D?,wd,_,D?,.inl (n! IM),_,_,D?,D?,SS,wd,_,_,.ref ka,D?,D?,n! IM,at_nonneg m0 (gmE hz),?_⟩;obtain⟨kn,LA⟩:∃kn:Nat,k0.2=(kn:Int):=⟨k0.2.toNat,by lia⟩
    have Ef:cJ (es.map i!) (A? (kn:Int)) B?=(es.drop kn).map i!:=by
     by_cases hc:kn<=es.length
     .rw[jt (by rw[WO];exact hc),List.map_drop]
     .have h1:es.drop kn=[]:=List.drop_eq_nil_of_le (by lia);have h2:u! (es.map i!).length 0 (A? (kn:Int))=(es.map i!).length:=by rw[B!,WO];lia
      unfold cJ;rw[h1,h2,List.drop_length];simp
    refine⟨_,D?,_,D?,ka,_,1,_,D?,D?,l! AW,at1,_,D?,AJ,_,D?,n! erw,λdl hdl=>?_⟩;dsimp only;rw[LA,Ef];refine gU hdl λH7 sA eA=>?_;refine⟨_,D?,_,D?,_,D?,_,D?,lnE rfl,λll Fq=>?_⟩;have SU:=aj Fq (.lst [.ref lf,.ref lf]);have sB:=sA.trans SU;refine⟨AJ,ll,_,_,D?,D?,sB _ _ erw,ad,bi (by rw[WO];show es.length+2<=1000000;lia),λNl DS=>?_⟩;have QT:=SU.trans (aj DS (.lst (es.map i!++[.ref lf,.ref lf])));have eC:(upd (upd H7 ll (.lst [.ref lf,.ref lf])) Nl (.lst (es.map i!++[.ref lf,.ref lf]))) Nl=A? (.lst ((es++[lf,lf]).map i!)):=by rw[ad,W8];exact rfl
    generalize(upd (upd H7 ll (.lst [.ref lf,.ref lf])) Nl (.lst (es.map i!++[.ref lf,.ref lf])))=H8 at QT eC |-;have sC:=sA.trans QT;refine⟨_,D?,ka,_,1,_,D?,D?,l! (sC _ _ AW),at1,_,D?,Nl,_,D?,n! eC,λtl Ap=>?_⟩;have Wt:(es++[lf,lf]).length=es.length+2:=by rw[W7];rfl
    dsimp only;rw[LA,j2 (by rw[WO];lia),<-List.map_take];have QU:=QT.trans (aj Ap (.lst (((es++[lf,lf]).take kn).map i!)));have eD:(upd H8 tl (.lst (((es++[lf,lf]).take kn).map i!))) tl=A? (.lst (((es++[lf,lf]).take kn).map i!)):=ad;generalize(upd H8 tl (.lst (((es++[lf,lf]).take kn).map i!)))=H9 at QU eD |-;have sD:=sA.trans QU;have LU:=Dy.mono (k! (s6.trans sD));have Gm:XH (EH H9) (ts++[CF,CF]) (es++[lf,lf]):=r! (v! (λ_ _ e=>EH.mono (k! sD) e) AS) (.cons LU (.cons LU .nil));refine⟨ka,tl,k0,(es++[lf,lf]).take kn,(ts++[CF,CF]).take kn,D?,sD _ _ AW,mB (gi.low k0 Cd).1,eD,P2.take kn Gm,by rw[XB,W7];show min kn (ts.length+2)<=1000;lia,λmd Ex Ew GH=>?_⟩;have sE:=sD.trans Ew;have QV:=Ew _ _ (QU _ _ eA);refine⟨lnE rfl,λQR Gn=>?_⟩;have sF:=aj Gn (.lst [.ref md]);refine⟨dl,QR,_,_,D?,D?,sF _ _ QV,ad,bi (by rw[WO,XX];show es.length - kn+1<=1000000;lia),λnr Nk=>?_⟩;have sG:=sF.trans (aj Nk (.lst ((es.drop kn).map i!++[.ref md])));have sH:=sE.trans sG;refine⟨(es.drop kn++[md]).length,?_,nr,es.drop kn++[md],ts.drop kn++[.knot k0.1 ((ts++[CF,CF]).take kn)],_,_,_,_,D?,s6.trans sH,uAE,r! (v! (λ_ _ e=>EH.mono (k! sH) e) (P2.drop kn AS)) (.cons (GH.mono (k! sG)) .nil),λt ht=>?_,λt ht=>?_,by rw[W7,XX];show es.length - kn+1<=60;lia,by rw[W7,XX];show ts.length - kn+1<=1000;lia,?_,D?⟩
    .rw[W7,XX];show es.length - kn+1<es.length;lia
    rotate_left 2
    .have Bb:(es.drop kn++[md]).length=es.length - kn+1:=by rw[W7,XX];rfl
     rw[Bb,aR,ar,ar,t!,List.take_append,aR];have h1:=nb kn ts;have h2:=lL (kn - ts.length) [CF,CF];have h3:ar [CF,CF]<=2:=by rw[ar,ar,ar];lia
     lia
    rotate_left
    .have Bb:(es.drop kn++[md]).length=es.length - kn+1:=by rw[W7,XX];rfl
     rw[Bb];rcases Xd.mp ht with ht|ht
     .have:=JB t (Zu ht);lia
     .rw[W0.mp ht,q!]
      have h1:ax ((ts++[CF,CF]).take kn)<=80 - es.length:=jm λu hu=>by
       rcases Xd.mp (YZ hu)with hu|hu
       .have:=JB u hu;lia
       .have:u=CF:=by
         rcases W6.mp hu with h|h
         .exact h
         .exact W0.mp h
        rw[this];lia
      lia
    .rcases Xd.mp ht with ht|ht
     .exact Ah t (Zu ht)
     .rw[W0.mp ht,y!];refine⟨?_,Fits.of λu hu=>?_⟩
      .have:(k0.1,(((ts++[CF,CF]).take kn).length:Int))=k0:=Prod.ext rfl (by
        show((((ts++[CF,CF]).take kn).length:Nat):Int)=k0.2;rw[XB,W7];show((min kn (ts.length+2):Nat):Int)=k0.2;lia)
       rw[this];exact Cd
      .rcases Xd.mp (YZ hu)with hu|hu
       .exact Ah u hu
       .have:u=CF:=by
         rcases W6.mp hu with h|h
         .exact h
         .exact W0.mp h
        rw[this];exact E'
  | false =>
    refine qg ?_;refine⟨_,D?,_,D?,lnE rfl,λl1 Ck=>?_⟩;have s7:=aj Ck (.lst [.ref lf]);refine⟨AJ,l1,_,_,D?,D?,s7 _ _ erw,ad,bi (by rw[WO];show es.length+1<=1000000;lia),λcr Ot=>?_⟩;have s8:=s7.trans (aj Ot (.lst (es.map i!++[.ref lf])));have QW:=s8 _ _ erw;walk_at"aa"
    obtain⟨e0,t0,Jd,QX,Wu,Ww,Wx⟩:∃e0 t0,(es++[lf])[es.length - 1]?=A? e0/\EH H6 t0 e0/\t0.Fit ins/\t0.tall<=79/\t0.size<=300:=by
     by_cases hz:es.length=0
     .refine⟨lf,_,?_,Dy.mono (k! s6),E',by lia,by lia⟩;rw[Yx.mp hz];rfl
     .obtain⟨e0,Jd⟩:∃e0,es[es.length - 1]?=A? e0:=⟨_,WQ (by lia)⟩;obtain⟨t0,Jh,QX⟩:=z! AS Jd;exact⟨e0,t0,by rw[XJ (by lia)];exact Jd,QX,Ah t0 (WR Jh),by have:=JB t0 (WR Jh);lia,by have:=cY (WR Jh);lia⟩
    obtain⟨SV,Wy,HJ⟩:=QX;refine kZ ?_
    have SQ:atI (es.map i!++[.ref lf]) (if((es.map i!).length:Int) - 1 > 0 then((es.map i!).length:Int) - 1 else 0)=A? (.ref e0):=by
     have hi:(if((es.map i!).length:Int) - 1 > 0 then((es.map i!).length:Int) - 1 else 0)=((es.length - 1:Nat):Int):=by
      rw[WO];split <;> lia
     rw[hi];refine bo ?_;have:es.map i!++[i! lf]=(es++[lf]).map i!:=by rw[W8];rfl
     rw[this,W3,Jd];rfl
    refine⟨_,D?,AJ,_,D?,.inl (n! QW),_,_,D?,D?,_,_,D?,cr,_,_,.ref e0,D?,D?,n! ad,SQ,e0,_,0,.ref SV,D?,D?,l! (s8 _ _ Wy),at0,?_⟩;exact q t0 SV _ ((sb.trans s6).trans s8) (HJ.mono (k! s8)) Wu Ww Wx
def sX(H:Hp)(o:Th)(r:WS):Prop:=H r=A? (.tup [.int (o.size:Nat),.int (o.tall:Nat)])
def fF:Nat->Sp
 |0=>λ_ _ _ _=>False
 |n+1=>λvs H Q _=>∃(sb pa kl:WS)(ins outs:List (Xk×Int))(rows:List (List Th))(S C:Int)(p:Th)(nm:Xk)(ks:List Th)(AH:List WS)(o:Th),vs=[.ref sb,.ref pa,.ref kl]/\At H p pa/\H kl=A? (.lst (AH.map i!))/\XH (SzAt H ins rows) ks AH/\Out ins rows p (.knot nm ks) o/\p.tall<=n+1/\p.FitS outs S C/\aH outs/\∀(r:WS)(H':Hp),j! H H'->sX H' o r->Q (.ref r) H'
theorem fH:∀n:Nat,FnOk P w K mg base CX0 n T.g_54.f T.g_54.d ["second","own","sizes"] (fF n)
 |0=>⟨λ_ _ _ _ h=>h.elim,λ_ _ _ _ _ _ _ _ _ _ _ _ _ h=>h.elim⟩
 | n+1=>by
   have ih:=fH n;refine T.g_54.F.ok iH (λvs H Q E h=>?_) (λAk A outer s H vs Q E hr h=>?_)
   .obtain⟨sb,pa,kl,ins,outs,rows,S,C,p,nm,ks,AH,o,rfl,_⟩:=h;rfl
   obtain⟨sb,pa,kl,ins,outs,rows,S,C,p,nm,ks,AH,o,rfl,hA,Gj,Ba,Cb,Ap,Ah,go,k⟩:=h
   refine⟨_,(ag (cN (aV fR (aw aA (pv 1) ai (λ_ _=>rfl)) eM (aP _)) (am (ay (aw aT (aw aT (pv 2) (aw aA (pv 1) ai (λ_ _=>rfl)) (λ_ _=>rfl)) (aw aA (pv 1) ai (λ_ _=>rfl)) (λ_ _=>rfl)))) bR)
    (ag (gB (i:=3) (N:=["part","second","sizes"]) (js:=[B?,A? 0,A? 2]) (g:=(az 0)) (tt:=bf) (te:=(d3 (fF _) [] E0 (ba (aZ 1) (ba (aZ 0) (ba (aZ 2) d7))))) iH.nd rfl (Or.inl rfl) rfl (bU rfl (by decide +kernel) (by decide +kernel) rfl rfl rfl) (dB (bD kF (pv 1) (bO ai) bX)) (λ_ _ _ _ _ _=>(pgN 0 y2)) (aO rfl) (λ_ _ _ _ _ _=>bt) (λ_ _ _ _ _ _=>(de (ih) (hr.mono (WX _)) rfl T.g_54.m T.g_54.F.kp T.g_54.b .nil cP (ac (pv 1) (ac (pv 0) (ac (pv 2) ae))))))
    (am (ay (aQ (ac (av bz ai (aD (oS rfl) rfl T.n_8 PyProof.Rows.boot_sum (ac (bv (N:=["size"]) (js:=[B?]) (g:=(az 0)) (tt:=bf) (te:=(tOp (ii K) (aZ 0) (tC (.int 0)))) rfl (bU rfl (by decide +kernel) (by decide +kernel) rfl rfl rfl) (cj (pv 3)) (λ_ _ _ _ _ _=>(pgN 0 wZ)) (aO rfl) (λ_ _ _ _ _ _=>bt) (λ_ _ _ _ _ _=>(aw aA (pv 0) ai (λ_ _=>rfl)))) ae))) (ac (av bz ai (aD (je rfl) rfl T.n_5 YT (ac (av hX (bv (N:=["size"]) (js:=[B?]) (g:=(az 0)) (tt:=bf) (te:=(tOp (ii K) (aZ 0) (tC (.int 1)))) rfl (bU rfl (by decide +kernel) (by decide +kernel) rfl rfl rfl) (cj (pv 3)) (λ_ _ _ _ _ _=>(pgN 0 wZ)) (aO rfl) (λ_ _ _ _ _ _=>bt) (λ_ _ _ _ _ _=>(aw aA (pv 0) ai (λ_ _=>rfl)))) (aL (ac ai ae))) ae))) ae))))))),?_⟩
   try dsimp only[Ax,Ai]
   cases p with
   | call sn cn =>
     rw[At]at hA;walk_at"aa";obtain⟨p',h,st,ho⟩:=Cb.unstep;obtain⟨s0,c0,DX,_⟩:=id st;obtain⟨ka,AB,es,QY,_,AS⟩:=A! Ba DX;obtain⟨e,he,ee⟩:=AS sn o (Out.step (pQ st) ho);refine kZ ?_;refine⟨_,D?,pa,_,0,.str q,D?,D?,l! hA,at0,D?,_,D?,?_⟩;refine dA (λ_=>?_) (λc=>g! (d! rfl) c);exact⟨_,D?,_,D?,pa,_,2,.int cn,D?,D?,l! hA,at2,kl,_,cn,.ref ka,D?,D?,n! Gj,at_nonneg c0 (gmE AB),_,D?,pa,_,1,.int sn,D?,D?,l! hA,at1,ka,_,sn,.ref e,D?,D?,n! QY,at_nonneg s0 (gmE he),k e H (.refl _) ee⟩
   | knot m ts =>
     walk_at"aa";obtain⟨os,rfl,Bz⟩:=Cb.unknot;have SW:=Bz.length;rw[q!]at Ap;rw[p!]at Ah
     have hw:ts.length<=3:=by
      have:=(go.num _ Ah.1).2;have h2:((ts.length:Nat):Int)<=3:=this;lia
     rw[At]at hA;obtain⟨Nm,BK,ea,C7⟩:=hA;refine kZ ?_;have Wz:BK.length=ts.length:=C7.length;refine⟨_,D?,pa,_,0,.str m,D?,D?,l! ea,at0,D?,_,D?,?_⟩;refine dA (λc=>g! (e! c) (λz=>Nm (V.str.inj z))) (λ_=>?_);refine⟨_,D?,1,D?,pa,_,D?,l! ea,?_,λp2 CN=>?_⟩
     .rintro⟨z,_⟩;rw[Xf,show(1:Int)=((1:Nat):Int)by rfl,B!]at z;lia
     dsimp only;rw[iq];refine gU CN λH1 s1 e1=>?_;refine⟨p2,D?,⟨_,l! e1⟩,j3 (F:=sX) (xs:=BK.map i!) os (λH1 H2 z p kt h=>kt _ _ h) (by rw[WO];lia) (by rw[WO];lia) (λi Hx sx hi=>⟨_,_,l! (sx _ _ e1),WQ hi⟩) (λHx sx=>⟨_,l! (sx _ _ e1),WX _⟩) (λi Hx x Hy sx hi hy=>⟨hy.1,hy.2 _ (l! (sx _ _ e1))⟩) (λi x z Hx R W' hx CZ sx hR=>?_) (λD H2 as hD s2 eD EO=>?_)⟩
     .obtain⟨ua,rfl,EW⟩:=aN hx;obtain⟨u,hu,F5⟩:=C7.get EW;have Cc:u∈ts:=WR hu;have SX:=b8 Cc;have QZ:=s1.trans sx;cases n with
      | zero =>
        have:=u.tall_eq;lia
      |succ n =>
      refine⟨_,D?,_,D?,_,D?,sb,ua,kl,ins,outs,rows,S,C,u,nm,ks,AH,z,D?,F5.mono (k! QZ),QZ _ _ Gj,v! (λ_ _ e=>e.same QZ) Ba,Bz.get i hu CZ,by lia,i6 Ah.2 u Cc,go,λr H3 s3 KH=>?_⟩;exact hR H3 r s3 KH
     have AO:os.length=as.length:=Xa EO;have WA:=s1.trans s2;refine⟨_,D?,D,D?,⟨_,n! eD⟩,dJ os (λo:Th=>o! (o.size:Nat)) (n! eD) (by rw[WO];exact AO) (by rw[WO];lia) (λi x z Hx R W' hx hz sx hR=>?_) (λD2 H3 hD2 s3 e3=>?_)⟩
     .obtain⟨e,rfl,he⟩:=aN hx;obtain⟨t,ht,h1⟩:=z! EO he;rw[hz]at ht;cases ht;exact⟨_,D?,e,_,0,.int (z.size:Nat),D?,D?,l! (sx _ _ h1),at0,hR Hx (.refl _)⟩
     refine⟨D2,os.map (λo=>((o.size:Nat):Int)),D?,n! (by rw[<-ints_map];exact e3),⟨_,_,D?,D?,?_⟩⟩;rw[mZ];have SY:=s3 _ _ eD;have Q0:XH (sX H3) os as:=v! (λ_ _ e=>s3 _ _ e) EO;refine⟨_,D?,D,D?,⟨_,n! SY⟩,dJ os (λo:Th=>o! (o.tall:Nat)) (n! SY) (by rw[WO];exact AO) (by rw[WO];lia) (λi x z Hx R W' hx hz sx hR=>?_) (λD4 H4 hD4 s4 e4=>?_)⟩
     .obtain⟨e,rfl,he⟩:=aN hx;obtain⟨t,ht,h1⟩:=z! Q0 he;rw[hz]at ht;cases ht;exact⟨_,D?,e,_,1,.int (z.tall:Nat),D?,D?,l! (sx _ _ h1),at1,hR Hx (.refl _)⟩
     refine⟨lnE rfl,λzl EZ=>?_⟩;have s5:=aj EZ (.lst [.int 0]);refine⟨D4,zl,_,_,D?,D?,s5 _ _ e4,ad,bi (by rw[WO];show os.length+1<=1000000;lia),λcl AF=>?_⟩;have s6:j! H _:=WA.trans (s3.trans (s4.trans (s5.trans (aj AF (.lst (os.map (λt:Th=>o! (t.tall:Nat))++[.int 0]))))))
     have e6:(upd (upd H4 zl (.lst [.int 0])) cl (.lst (os.map (λt:Th=>o! (t.tall:Nat))++[.int 0]))) cl=A? (.lst (((os.map λt:Th=>((t.tall:Nat):Int))++[0]).map o!)):=by
      rw[ad,W8,Zc];rfl
     generalize(upd (upd H4 zl (.lst [.int 0])) cl (.lst (os.map (λt:Th=>o! (t.tall:Nat))++[.int 0])))=H6 at s6 e6 |-;refine⟨cl,(os.map λt:Th=>((t.tall:Nat):Int))++[0],D?,n! e6,by simp,λM hM II=>⟨_,_,D?,D?,?_⟩⟩;have QF:=lB hM II;subst QF;refine⟨lnE rfl,λr CC=>?_⟩;refine k r _ (s6.trans (aj CC _)) ?_;unfold sX;rw[ad,t!,q!];congr 4
     .simp;lia
     .simp;lia
def f8:Nat->Sp
 |0=>λ_ _ _ _=>False
 |n+1=>λvs H Q _=>∃(b pa kl:WS)(AE ins outs:List (Xk×Int))(rows0:List (List Th))(head:Th)(rows:List (List Th))(S C S0:Int)(d:Nat)(p:Th)(nm:Xk)(ks:List Th)(Fc:List WS)(t:Th)(Ok:WS->Prop),vs=[.ref b,.ref pa,.ref kl]/\Bk H ins outs head rows b/\aH ins/\aH outs/\BookOk ins outs S d head rows/\d<=18/\S<=1000/\At H p pa/\H kl=A? (.lst (Fc.map i!))/\(∀b,Ok b->∃o,H b=A? o)/\XH (PzAt Ok H AE rows0 ins rows) ks Fc/\Out AE rows0 p (.knot nm ks) t/\p.tall<=n+1/\p.FitS ins S0 C/\t.Fit ins/\∀(r:WS)(H':Hp),j! H H'->(H r=B?\/Ok r)->SzAt H' ins rows t r->Q (.ref r) H'
theorem fW:∀n:Nat,FnOk P w K mg base CX0 (21+n) T.g_55.f T.g_55.d ["second","pattern","kids"] (f8 n)
 |0=>⟨λ_ _ _ _ h=>h.elim,λ_ _ _ _ _ _ _ _ _ _ _ _ _ h=>h.elim⟩
 | n+1=>by
   have ih:=fW n;refine T.g_55.F.ok gg (λvs H Q E h=>?_) (λAk A outer s H vs Q E hr h=>?_)
   .obtain⟨b,pa,kl,AE,ins,outs,rows0,head,rows,S,C,S0,d,p,nm,ks,Fc,t,Ok,rfl,_⟩:=h;rfl
   obtain⟨b,pa,kl,AE,ins,outs,rows0,head,rows,S,C,S0,d,p,nm,ks,Fc,t,Ok,rfl,hb,gi,go,ok,hd,hS,hA,Gj,S3,Ba,S4,Ap,DI,Ah,k⟩:=h
   refine⟨_,(ag (cN (aV fR (aw aA (pv 1) ai (λ_ _=>rfl)) eM (aP _)) (am (ay (aw aT (aw aT (pv 2) (aw aA (pv 1) ai (λ_ _=>rfl)) (λ_ _=>rfl)) (aw aA (pv 1) ai (λ_ _=>rfl)) (λ_ _=>rfl)))) bR)
    (ag (ao 3 gg.nd (bv (N:=["part","second","kids"]) (js:=[B?,A? 0,A? 2]) (g:=(az 0)) (tt:=bf) (te:=(d3 (f8 _) [] E0 (ba (aZ 1) (ba (aZ 0) (ba (aZ 2) d7))))) rfl (bU rfl (by decide +kernel) (by decide +kernel) rfl rfl rfl) (dB (bD kF (pv 1) (bO ai) bX)) (λ_ _ _ _ _ _=>(pgN 0 zh)) (aO rfl) (λ_ _ _ _ _ _=>bt) (λ_ _ _ _ _ _=>(de (ih) (hr.mono (WX _)) rfl T.g_55.m T.g_55.F.kp T.g_55.b .nil cP (ac (pv 1) (ac (pv 0) (ac (pv 2) ae)))))))
    (ag (ao 4 gg.nd (bv (N:=["kind"]) (js:=[B?]) (g:=(az 0)) (tt:=bf) (te:=(tOp (ii K) (aZ 0) (tC (.int 0)))) rfl (bU rfl (by decide +kernel) (by decide +kernel) rfl rfl rfl) (dB (aw aA (pv 0) ai (λ_ _=>rfl))) (λ_ _ _ _ _ _=>(pgN 0 uw)) (aO rfl) (λ_ _ _ _ _ _=>bt) (λ_ _ _ _ _ _=>(aw aA (pv 0) ai (λ_ _=>rfl)))))
    (am (ay (bv (N:=["row","second","sizes","names","pattern"]) (js:=[B?,A? 0,A? 3,A? 4,A? 1]) (g:=(az 0)) (tt:=bf) (te:=(d3 (fF _) [] E0 (ba (aZ 1) (ba (tOp (ii K) (aZ 0) (tBM K "list" (oJ K) (aZ 3) (ba (tOp (ii K) (aZ 4) (tC (.int 0))) d7))) (ba (aZ 2) d7))))) rfl (bU rfl (by decide +kernel) (by decide +kernel) rfl rfl rfl) (dB (aw aA (pv 0) ai (λ_ _=>rfl))) (λ_ _ _ _ _ _=>(pgN 0 yV)) (aO rfl) (λ_ _ _ _ _ _=>bt) (λ_ _ _ _ _ _=>(de (fH T 20) (hr.mono (Xh (by decide:20<=21) (Yz 21 n))) rfl T.g_54.m T.g_54.F.kp T.g_54.b .nil cP (ac (pv 1) (ac (aw aA (pv 0) (bC Xb Y4 PySem.F.type_list_index i8 (pv 3) (ac (aw aA (pv 4) ai (λ_ _=>rfl)) ae)) (λ_ _=>rfl)) (ac (pv 2) ae))))))))))),?_⟩
   try dsimp only[Ax,Ai]
   walk_at"aa";obtain⟨ia,oa,BW,ra,Av,AA,Aw,bk⟩:=id hb;refine kZ ?_;have Br:ins.length=Av.length:=Xa bk.inK;have HV:=gi.le;have D0:rows.length=Aw.length:=Xa bk.rw;have WB:=ok.len;cases p with
   | call sn cn =>
     rw[At]at hA;walk_at"aa";obtain⟨p',h,st,ho⟩:=S4.unstep;obtain⟨s0,c0,DX,_⟩:=id st;obtain⟨ka,AB,es,QY,_,Ag,AS⟩:=A! Ba DX;obtain⟨e,he,ee⟩:=AS sn t (Out.step (pQ st) ho);refine kZ ?_;refine⟨_,D?,pa,_,0,.str q,D?,D?,l! hA,at0,D?,_,D?,?_⟩;refine dA (λ_=>?_) (λc=>g! (d! rfl) c);exact⟨_,D?,_,D?,pa,_,2,.int cn,D?,D?,l! hA,at2,kl,_,cn,.ref ka,D?,D?,n! Gj,at_nonneg c0 (gmE AB),_,D?,pa,_,1,.int sn,D?,D?,l! hA,at1,ka,_,sn,.ref e,D?,D?,n! QY,at_nonneg s0 (gmE he),k e H (.refl _) (.inr (Ag e (WR he))) ee⟩
   |knot m ps =>
   walk_at"aa";obtain⟨hs,rfl,LV⟩:=S4.unknot;have AZ:=LV.length;have LW:=Ah;rw[y!]at Ah;rw[p!]at DI;rw[q!]at Ap;obtain⟨j,hj⟩:=Xg.mp Ah.1;rw[At]at hA;obtain⟨Nm,has,ea,LX⟩:=hA;refine kZ ?_;have WC:has.length=ps.length:=LX.length
   have hw:hs.length<=3:=by
    have:=(gi.num _ Ah.1).2;have h2:((hs.length:Nat):Int)<=3:=this;lia
   refine⟨_,D?,pa,_,0,.str m,D?,D?,l! ea,at0,D?,_,D?,?_⟩;refine dA (λc=>g! (e! c) (λz=>Nm (V.str.inj z))) (λ_=>?_)
   refine⟨_,D?,1,D?,pa,_,D?,l! ea,?_,λp2 CN=>?_⟩
   .rintro⟨z,_⟩;rw[Xf,show(1:Int)=((1:Nat):Int)by rfl,B!]at z;lia
   dsimp only;rw[iq];refine gU CN λH2 s2 e2=>?_;refine⟨p2,D?,⟨_,l! e2⟩,oy (F:=λD H h a=>SzAt H ins rows h a/\a≠D) (xs:=has.map i!) hs (λD H1 H2 z p kt hk h=>⟨h.1.keep kt λo ho=>hk _ _ h.2 ho,h.2⟩) (by rw[WO];lia) (by rw[WO];lia) (λi Hx sx hi=>⟨_,_,l! (sx _ _ e2),WQ hi⟩) (λHx sx=>⟨_,l! (sx _ _ e2),WX _⟩) (λi Hx x Hy sx hi hy=>⟨hy.1,hy.2 _ (l! (sx _ _ e2))⟩) (λD i x z Hx R W' hD LY hx CZ sx hR=>?_) (λkd H3 AH DW s3 IP Fd=>?_)⟩
   .obtain⟨ua,rfl,EW⟩:=aN hx;obtain⟨u,hu,F5⟩:=LX.get EW;have Cc:u∈ps:=WR hu;have SX:=b8 Cc;have DJ:=s2.trans sx;cases n with
    | zero =>
      have:=u.tall_eq;lia
    |succ n =>
    obtain⟨oD,JC⟩:=LY;refine⟨_,D?,_,D?,_,D?,b,ua,kl,AE,ins,outs,rows0,head,rows,S,C,S0,d,u,nm,ks,Fc,z,Ok,D?,hb.mono (k! DJ),gi,go,ok,hd,hS,F5.mono (k! DJ),DJ _ _ Gj,(λb hb=>by obtain⟨o,ho⟩:=S3 b hb;exact⟨o,DJ _ _ ho⟩),v! (λ_ _ e=>e.same DJ) Ba,LV.get i hu CZ,by lia,i6 DI.2 u Cc,cD Ah.2 z (WR CZ),λr H4 s4 nr K6=>?_⟩;refine hR H4 r s4 ⟨K6,λz=>?_⟩;rcases nr with nr|nr
    .rw[z,JC]at nr;cases nr
    .obtain⟨o,ho⟩:=S3 r nr;rw[z]at ho;rw[s2.free hD]at ho;cases ho
   have Bv:XH (λh a=>SzAt H3 ins rows h a) hs AH:=v! (λ_ _ e=>e.1) Fd;have Dz:=s2.trans s3;have bk:=bk.mono (k! Dz);have ea:=Dz _ _ ea;refine⟨_,D?,b,_,0,.ref ia,D?,D?,l! bk.bk,at0,ia,D?,⟨_,l! bk.inE⟩,f7 ins (λk=>G! k.1) (l! bk.inE) (by rw[WO];exact Br) (by rw[WO];lia) (λi x z H2 R W' hx hz s2 hR=>?_) (λDN HN WD sN e1=>?_)⟩
   .obtain⟨ka,rfl,AB⟩:=aN hx;obtain⟨z',CO,ez⟩:=z! bk.inK AB;rw[hz]at CO;cases CO;exact⟨_,D?,ka,_,0,.str z.1,D?,D?,l! (s2 _ _ ez),at0,hR H2 (.refl _)⟩
   have en:ins.map (λk=>G! k.1)=(ins.map (·.1)).map G!:=by rw[Zc];rfl
   rw[en]at e1;have CD:=Dz.trans sN;have IP:=sN _ _ IP;have ea:=sN _ _ ea;have Bv:XH (λh a=>SzAt HN ins rows h a) hs AH:=v! (λ_ _ e=>e.same sN) Bv;have Eh:=bk.mono (k! sN)
   obtain⟨os,SW,Bz⟩:∃os:List Th,os.length=rows.length/\∀(i:Nat)(row:List Th)(o:Th),rows[i]?=A? row->os[i]?=A? o->∃p,row[j]?=A? p/\Out ins rows p (.knot m hs) o/\p.FitS outs S (hs.length:Int)/\p.tall<=d+1:=by
    refine nJ rows λrow Aj=>?_;have GA:=ok.row row Aj;have Bs:=(glE hj);obtain⟨p,hp⟩:∃p,row[j]?=A? p:=⟨_,WQ (by rw[GA.len];exact Bs)⟩;obtain⟨h1,h2⟩:=GA.fit j p _ hp hj;obtain⟨o,g1,_⟩:=nZ ok _ m hs (WX _) (cD Ah.2) _ p (WX _) h1;exact⟨o,p,hp,g1,h1,h2⟩
   refine⟨_,D?,b,_,3,.ref ra,D?,D?,l! Eh.bk,bo (j:=3) rfl,ra,D?,⟨_,l! Eh.rl⟩,j3 (F:=sX) (xs:=Aw.map i!) os (λH1 H2 z p kt h=>kt _ _ h) (by rw[WO];lia) (by rw[WO];lia) (λi Hx sx hi=>⟨_,_,l! (sx _ _ Eh.rl),WQ hi⟩) (λHx sx=>⟨_,l! (sx _ _ Eh.rl),WX _⟩) (λi Hx x Hy sx hi hy=>⟨hy.1,hy.2 _ (l! (sx _ _ Eh.rl))⟩) (λi x z Hx R W' hx CZ sx hR=>?_) (λD5 H5 as Nh s5 e5 JD=>?_)⟩
   .walk_at"aa";obtain⟨Bq,rfl,BX⟩:=aN hx;obtain⟨row,Aj,BK,Cw,Cf⟩:=z! Eh.rw BX;obtain⟨p,hp,Cb,Kz,K0⟩:=Bz i row z Aj CZ;have Bb:=Cf.length;have Q1:=(glE hp);obtain⟨EX,Ff⟩:∃a,BK[j]?=A? a:=⟨_,WQ (by lia)⟩;obtain⟨t2,LZ,IQ⟩:=Cf.get Ff;refine kZ ?_;rw[hp]at LZ;cases LZ;have DJ:=CD.trans sx;have L3:=sx _ _ e1;refine⟨_,D?,_,D?,_,D?,.inl ⟨D?,_,n! L3⟩,_,D?,pa,_,0,.str m,D?,D?,l! (sx _ _ ea),at0,?_⟩;refine⟨DN,ins.map (·.1),m,j,D?,D?,n! L3,by rw[W3,hj];rfl,λi hi hz=>?_,by rw[WO];lia,?_⟩
    .rw[W3]at hz;obtain⟨k',AG,e⟩:=Yi.mp hz;have:=gi.nd i j k' _ AG hj e;lia
    refine⟨Bq,_,(j:Int),.ref EX,D?,D?,l! (sx _ _ Cw),bo (gmE Ff),?_⟩;refine⟨_,D?,b,EX,kd,ins,outs,rows,S,(hs.length:Int),p,m,hs,AH,z,D?,IQ.mono (k! sx),sx _ _ IP,v! (λ_ _ e=>e.same sx) Bv,Cb,(by show p.tall<=20;lia),Kz,go,λr H6 s6 Q2=>?_⟩;exact hR H6 r s6 Q2
   .have AO:=Xa JD;refine k D5 H5 (CD.trans s5) (.inl (CD.free Nh)) ⟨as,e5,by lia,λst o ho=>?_⟩;walk_at"aa";obtain⟨p,h,Q3,BG⟩:=ho.unstep;obtain⟨s0,_,L4,m',Fn,c',j',row,rfl,Be,Aj,hp⟩:=Q3;refine kZ ?_;simp at L4;obtain⟨rfl,rfl⟩:=L4;have Ky:=gi.nd j j' _ _ hj Be rfl;subst Ky;have Al:=(glE Aj);walk_at"aa";obtain⟨z,hz⟩:∃z,os[st.toNat]?=A? z:=⟨_,WQ (by lia)⟩;obtain⟨p',BA,Fg,_⟩:=Bz _ row z Aj hz;refine kZ ?_;rw[hp]at BA;cases BA;have:=j4 gi BG Fg;subst this;obtain⟨e,he,Q4⟩:=A! JD hz;exact⟨e,he,Q4⟩
def dU:Nat->Sp
 |0=>λ_ _ _ _=>False
 |n+1=>λvs H Q _=>∃(fb b ta:WS)(AE ins outs:List (Xk×Int))(AY:Th)(rows0:List (List Th))(head:Th)(rows:List (List Th))(S0 S:Int)(d0 d:Nat)(t:Th),vs=[.ref fb,.ref b,.ref ta]/\Bk H AE ins AY rows0 fb/\aH AE/\BookOk AE ins S0 d0 AY rows0/\d0<=18/\S0<=1000/\Bk H ins outs head rows b/\aH ins/\aH outs/\BookOk ins outs S d head rows/\d<=18/\S<=1000/\At H t ta/\t.Fit AE/\t.tall<=n+1/\∀(r:WS)(H':Hp),j! H H'->H r=B?->PzAt (λe=>H e=B?/\∃o,H' e=A? o) H' AE rows0 ins rows t r->Q (.ref r) H'
theorem d8:∀n:Nat,FnOk P w K mg base CX0 (42+n) T.g_56.f T.g_56.d ["first","second","tree"] (dU n)
 |0=>⟨λ_ _ _ _ h=>h.elim,λ_ _ _ _ _ _ _ _ _ _ _ _ _ h=>h.elim⟩
 | n+1=>by
   have ih:=d8 n;refine T.g_56.F.ok cG (λvs H Q E h=>?_) (λAk A outer s H vs Q E hr h=>?_)
   .obtain⟨fb,b,ta,AE,ins,outs,AY,rows0,head,rows,S0,S,d0,d,t,rfl,_⟩:=h;rfl
   obtain⟨fb,b,ta,AE,ins,outs,AY,rows0,head,rows,S0,S,d0,d,t,rfl,S5,g0,ok0,Fm,Nf,hb,gi,go,ok,hd,hS,hA,Ah,Ap,k⟩:=h
   refine⟨_,(ag (ao 3 cG.nd (bv (N:=["kid","first","second"]) (js:=[B?,A? 0,A? 1]) (g:=(az 0)) (tt:=bf) (te:=(d3 (dU _) [] E0 (ba (aZ 1) (ba (aZ 2) (ba (aZ 0) d7))))) rfl (bU rfl (by decide +kernel) (by decide +kernel) rfl rfl rfl) (dB (bD kF (pv 2) (bO ai) bX)) (λ_ _ _ _ _ _=>(pgN 0 yL)) (aO rfl) (λ_ _ _ _ _ _=>bt) (λ_ _ _ _ _ _=>(de (ih) (hr.mono (WX _)) rfl T.g_56.m T.g_56.F.kp T.g_56.b .nil cP (ac (pv 1) (ac (pv 2) (ac (pv 0) ae)))))))
    (ag (ao 4 cG.nd (bv (N:=["kind"]) (js:=[B?]) (g:=(az 0)) (tt:=bf) (te:=(tOp (ii K) (aZ 0) (tC (.int 0)))) rfl (bU rfl (by decide +kernel) (by decide +kernel) rfl rfl rfl) (dB (aw aA (pv 0) ai (λ_ _=>rfl))) (λ_ _ _ _ _ _=>(pgN 0 uw)) (aO rfl) (λ_ _ _ _ _ _=>bt) (λ_ _ _ _ _ _=>(aw aA (pv 0) ai (λ_ _=>rfl)))))
    (am (ay (bv (N:=["row","second","kids","names","tree"]) (js:=[B?,A? 1,A? 3,A? 4,A? 2]) (g:=(az 0)) (tt:=bf) (te:=(d3 (f8 _) [] E0 (ba (aZ 1) (ba (tOp (ii K) (aZ 0) (tBM K "list" (oJ K) (aZ 3) (ba (tOp (ii K) (aZ 4) (tC (.int 0))) d7))) (ba (aZ 2) d7))))) rfl (bU rfl (by decide +kernel) (by decide +kernel) rfl rfl rfl) (dB (aw aA (pv 0) ai (λ_ _=>rfl))) (λ_ _ _ _ _ _=>(pgN 0 yY)) (aO rfl) (λ_ _ _ _ _ _=>bt) (λ_ _ _ _ _ _=>(de (fW T 20) (hr.mono (Xh (by decide:41<=42) (Yz 42 n))) rfl T.g_55.m T.g_55.F.kp T.g_55.b .nil cP (ac (pv 1) (ac (aw aA (pv 0) (bC Xb Y4 PySem.F.type_list_index i8 (pv 3) (ac (aw aA (pv 4) ai (λ_ _=>rfl)) ae)) (λ_ _=>rfl)) (ac (pv 2) ae)))))))))),?_⟩
   try dsimp only[Ax,Ai]
   walk_at"aa";obtain⟨ia,oa,BW,ra,Av,AA,Aw,bk⟩:=id S5;refine kZ ?_;have Br:AE.length=Av.length:=Xa bk.inK;have HV:=g0.le;have D0:rows0.length=Aw.length:=Xa bk.rw;have WB:=ok0.len;cases t with
   |call a b=>rw[y!]at Ah;exact Ah.elim
   |knot m hs =>
   have LW:=Ah;rw[y!]at Ah;walk_at"aa";obtain⟨j,hj⟩:=Xg.mp Ah.1;rw[At]at hA;obtain⟨Nm,has,ea,LX⟩:=hA;refine kZ ?_;have WC:has.length=hs.length:=LX.length
   have hw:hs.length<=3:=by
    have:=(g0.num _ Ah.1).2;have h2:((hs.length:Nat):Int)<=3:=this;lia
   rw[q!]at Ap
   refine⟨_,D?,1,D?,ta,_,D?,l! ea,?_,λp2 CN=>?_⟩
   .rintro⟨z,_⟩;rw[Xf,show(1:Int)=((1:Nat):Int)by rfl,B!]at z;lia
   dsimp only;rw[iq];refine gU CN λH2 s2 e2=>?_;refine⟨p2,D?,⟨_,l! e2⟩,oy (F:=λD Hy h a=>PzAt (λe=>H e=B?/\e≠D/\∃o,Hy e=A? o) Hy AE rows0 ins rows h a/\a≠D) (xs:=has.map i!) hs (λD H1 H2 z p kt hk h=>⟨h.1.keep kt (λo ho=>hk _ _ h.2 ho) λe he=>⟨⟨he.1,he.2.1,by obtain⟨o,ho⟩:=he.2.2;exact⟨o,hk _ _ he.2.1 ho⟩⟩,λo ho=>hk _ _ he.2.1 ho⟩,h.2⟩) (by rw[WO];lia) (by rw[WO];lia) (λi Hx sx hi=>⟨_,_,l! (sx _ _ e2),WQ hi⟩) (λHx sx=>⟨_,l! (sx _ _ e2),WX _⟩) (λi Hx x Hy sx hi hy=>⟨hy.1,hy.2 _ (l! (sx _ _ e2))⟩) (λD i x z Hx R W' hD LY hx CZ sx hR=>?_) (λkd H3 AH DW s3 IP Fd=>?_)⟩
   .obtain⟨ua,rfl,EW⟩:=aN hx;obtain⟨u,hu,F5⟩:=LX.get EW;rw[CZ]at hu;cases hu;have Cc:z∈hs:=WR CZ;have SX:=b8 Cc;have DJ:=s2.trans sx;cases n with
    | zero =>
      have:=z.tall_eq;lia
    |succ n =>
    obtain⟨oD,JC⟩:=LY;refine⟨_,D?,_,D?,_,D?,fb,b,ua,AE,ins,outs,AY,rows0,head,rows,S0,S,d0,d,z,D?,S5.mono (k! DJ),g0,ok0,Fm,Nf,hb.mono (k! DJ),gi,go,ok,hd,hS,F5.mono (k! DJ),cD Ah.2 z Cc,by lia,λr H4 s4 nr K6=>?_⟩;refine hR H4 r s4 ⟨K6.keep (λ_ _ e=>e) (λo ho=>ho) λe he=>⟨⟨DJ.free he.1,λz=>?_,he.2⟩,λo ho=>ho⟩,λz=>?_⟩
    .have:=he.1;rw[z,JC]at this;cases this
    .rw[z,JC]at nr;cases nr
   have Dz:=s2.trans s3;have Bv:XH (PzAt (λe=>H e=B?/\∃o,H3 e=A? o) H3 AE rows0 ins rows) hs AH:=v! (λ_ _ e=>e.1.keep (λ_ _ e=>e) (λo ho=>ho) λe he=>⟨⟨he.1,he.2.2⟩,λo ho=>ho⟩) Fd;have bk:=bk.mono (k! Dz);have ea:=Dz _ _ ea
   refine⟨_,D?,fb,_,0,.ref ia,D?,D?,l! bk.bk,at0,ia,D?,⟨_,l! bk.inE⟩,f7 AE (λk=>G! k.1) (l! bk.inE) (by rw[WO];exact Br) (by rw[WO];lia) (λi x z H2 R W' hx hz s2 hR=>?_) (λDN HN WD sN e1=>?_)⟩
   .obtain⟨ka,rfl,AB⟩:=aN hx;obtain⟨z',CO,ez⟩:=z! bk.inK AB;rw[hz]at CO;cases CO;exact⟨_,D?,ka,_,0,.str z.1,D?,D?,l! (s2 _ _ ez),at0,hR H2 (.refl _)⟩
   have en:AE.map (λk=>G! k.1)=(AE.map (·.1)).map G!:=by rw[Zc];rfl
   rw[en]at e1;have CD:=Dz.trans sN;have IP:=sN _ _ IP;have ea:=sN _ _ ea;have Bv:XH (PzAt (λe=>H e=B?/\∃o,H3 e=A? o) HN AE rows0 ins rows) hs AH:=v! (λ_ _ e=>e.same sN) Bv;have Eh:=bk.mono (k! sN)
   obtain⟨os,SW,Bz⟩:∃os:List Th,os.length=rows0.length/\∀(i:Nat)(row:List Th)(o:Th),rows0[i]?=A? row->os[i]?=A? o->∃p,row[j]?=A? p/\Out AE rows0 p (.knot m hs) o/\p.FitS ins S0 (hs.length:Int)/\p.tall<=d0+1/\o.Fit ins:=by
    refine nJ rows0 λrow Aj=>?_;have GA:=ok0.row row Aj;have Bs:=(glE hj);obtain⟨p,hp⟩:∃p,row[j]?=A? p:=⟨_,WQ (by rw[GA.len];exact Bs)⟩;obtain⟨h1,h2⟩:=GA.fit j p _ hp hj;obtain⟨o,g1,g2⟩:=nZ ok0 _ m hs (WX _) (cD Ah.2) _ p (WX _) h1;exact⟨o,p,hp,g1,h1,h2,g2⟩
   refine⟨_,D?,fb,_,3,.ref ra,D?,D?,l! Eh.bk,bo (j:=3) rfl,ra,D?,⟨_,l! Eh.rl⟩,oy (F:=λD Hy z a=>SzAt Hy ins rows z a/\a≠D/\H a=B?) (xs:=Aw.map i!) os (λD H1 H2 z p kt hk h=>⟨h.1.keep kt λo ho=>hk _ _ h.2.1 ho,h.2⟩) (by rw[WO];lia) (by rw[WO];lia) (λi Hx sx hi=>⟨_,_,l! (sx _ _ Eh.rl),WQ hi⟩) (λHx sx=>⟨_,l! (sx _ _ Eh.rl),WX _⟩) (λi Hx x Hy sx hi hy=>⟨hy.1,hy.2 _ (l! (sx _ _ Eh.rl))⟩) (λD i x z Hx R W' hD LY hx CZ sx hR=>?_) (λD5 H5 as Nh s5 e5 JD=>?_)⟩
   .walk_at"aa";obtain⟨Bq,rfl,BX⟩:=aN hx;obtain⟨row,Aj,BK,Cw,Cf⟩:=z! Eh.rw BX;obtain⟨p,hp,Cb,Kz,K0,WE⟩:=Bz i row z Aj CZ;have Bb:=Cf.length;have Q1:=(glE hp);obtain⟨EX,Ff⟩:∃a,BK[j]?=A? a:=⟨_,WQ (by lia)⟩;obtain⟨t2,LZ,IQ⟩:=Cf.get Ff;rw[hp]at LZ;cases LZ;have DJ:=CD.trans sx;have L3:=sx _ _ e1;obtain⟨oD,JC⟩:=LY;refine kZ ?_;refine⟨_,D?,_,D?,_,D?,.inl ⟨D?,_,n! L3⟩,_,D?,ta,_,0,.str m,D?,D?,l! (sx _ _ ea),at0,?_⟩;refine⟨DN,AE.map (·.1),m,j,D?,D?,n! L3,by rw[W3,hj];rfl,λi hi hz=>?_,by rw[WO];lia,?_⟩
    .rw[W3]at hz;obtain⟨k',AG,e⟩:=Yi.mp hz;have:=g0.nd i j k' _ AG hj e;lia
    refine⟨Bq,_,(j:Int),.ref EX,D?,D?,l! (sx _ _ Cw),bo (gmE Ff),?_⟩;refine⟨_,D?,b,EX,kd,AE,ins,outs,rows0,head,rows,S,(hs.length:Int),S0,d,p,m,hs,AH,z,(λe=>H e=B?/\∃o,H3 e=A? o),D?,hb.mono (k! DJ),gi,go,ok,hd,hS,IQ.mono (k! sx),sx _ _ IP,(λb hb=>by obtain⟨o,ho⟩:=hb.2;exact⟨o,(sN.trans sx) _ _ ho⟩),v! (λ_ _ e=>e.same sx) Bv,Cb,(by show p.tall<=20;lia),Kz,WE,λr H6 s6 nr Q2=>?_⟩;refine hR H6 r s6 ⟨Q2,λz=>?_,?_⟩
    .rcases nr with nr|nr
     .rw[z,JC]at nr;cases nr
     .obtain⟨o,ho⟩:=nr.2;rw[z,sN.free hD]at ho;cases ho
    .rcases nr with nr|nr
     .exact DJ.free nr
     .exact nr.1
   .have AO:=Xa JD;refine k D5 H5 (CD.trans s5) (CD.free Nh) ⟨as,e5,by lia,λe he=>?_,λst o ho=>?_⟩
    .walk_at"aa";obtain⟨i,hi⟩:=Xg.mp he;obtain⟨z,hz,hq,_,hn⟩:=z! JD hi;obtain⟨es,AS,_⟩:=hq;refine kZ ?_;exact⟨hn,_,AS⟩
    walk_at"aa";obtain⟨p,h,Q3,BG⟩:=ho.unstep;obtain⟨s0,_,L4,m',Fn,c',j',row,rfl,Be,Aj,hp⟩:=Q3;refine kZ ?_;simp at L4;obtain⟨rfl,rfl⟩:=L4;have Ky:=g0.nd j j' _ _ hj Be rfl;subst Ky;have Al:=(glE Aj);walk_at"aa";obtain⟨z,hz⟩:∃z,os[st.toNat]?=A? z:=⟨_,WQ (by lia)⟩;obtain⟨p',BA,Fg,_⟩:=Bz _ row z Aj hz;refine kZ ?_;rw[hp]at BA;cases BA;have:=j4 g0 BG Fg;subst this;walk_at"aa";obtain⟨e,he,Q4,_⟩:=A! JD hz;refine kZ ?_;exact⟨e,he,Q4⟩
theorem three{l:List α}(h:l.length=3):∃a b c,l=[a,b,c]:=by
 match l,h with
 | [a,b,c],_=>exact⟨a,b,c,D?⟩
theorem yj{S2:Int}{Ac Ad:Th}(g0:aH ins)(g1:aH mid)(g2:aH outs)(o1:BookOk ins mid S1 2 Ac Ab)(o2:BookOk mid outs S2 1 Ad Aa)(hm:S1 * S2<=20)(hs:S1<=1000) :
 JoinOk ins mid outs S1 S2 Ac Ad Ab Aa/\LimK ins mid S1 Ac Ab 3 3 2 2/\LimK mid outs S2 Ad Aa 2 2 2 2 :=
 ⟨joinOk_of (o1.limK g0 g1) (o2.limK g1 g2) hm hs (by decide) (by decide) (by decide) (by decide) (by decide) (by decide) (by decide),o1.limK g0 g1,o2.limK g1 g2⟩
theorem cnt_join{head:Th}{rows:List (List Th)}{t:Th}(L:LimK ins outs S head rows 4 3 4 3)(hS:S<=100)(hb:Bk H ins outs head rows b)(hA:At H t ta)(hF:t.Fit ins)(hT:t.tall<=79)(hZ:t.size<=300):CntI H ins outs S 4 head rows t b ta:=by
 have sz:∀(p:Th){C:Int},p.FitS outs S C->p.tall<=4->PatS p:=λp C hf ht=>by
  have h3:=(gv L.go p hf).1;have h4:3 ^ p.tall<=3 ^ 4:=YX (by decide) ht;have h5:3 ^ 4=81:=rfl;exact vV L.go hf (by lia) (by lia)
 refine⟨hb,L.gi,L.bookOk,L.hdf,hS,λrow hr p hp=>?_,sz _ L.hdf L.hdl.1,hA,hF,by lia,by lia⟩;obtain⟨j,hj⟩:=Xg.mp hp;obtain⟨h1,h2⟩:=L.fit.row row hr;have Bs:=(glE hj);exact sz p (h2 j p _ hj (WQ (by lia))) (L.lim row hr p hp).1
inductive ql(K:WY)(tp:WS)(vs:List V)(H:Hp)(Q:VK)(_E:XK):Prop
 |mk (a:WS) (ns:List Int):vs=[.ref a]->SqL K H a (ns.map o!)->ns.length<=63->H tp=A? (.tbl #[])->(∀H',Q (.bl C?) H')->ql K tp vs H Q _E
theorem xY(L:Lam mg base T.g_42.tc T.g_42.tp):FnOk P w K mg base CX0 140 T.g_58.f T.g_58.d ["script"] (ql K T.g_42.tp):=by
 refine T.g_58.F.okA fD λAk A outer s H vs Q E hr h=>?_;obtain⟨a,ns,rfl,hS,CJ,B5,q⟩:=h
 refine⟨_,(ag (ao 1 fD.nd (pcF T.g_57 (gF T) hr (ac (pv 0) ae)))
  (ag (ao 2 fD.nd (pcF T.g_43 (fq T) hr (ac (pv 0) (ac ai ae))))
  (ag (ao 3 fD.nd (pcF T.g_51 (iF T) hr (ac (pv 2) (ac (aw aT (pv 1) ai (λ_ _=>rfl)) (ac (aw aT (pv 1) ai (λ_ _=>rfl)) (ac (av bB (av bQ (pv 2) ai) ai) (ac ai ae)))))))
  (ag (ao 4 fD.nd (pcF T.g_51 (iF T) hr (ac (aD (gE rfl) rfl T.n_5 YT (ac (av ue (pv 2) (av yd ai ai)) (ac (pcF T.g_44 (bH T) hr (ac (pv 2) (ac ai ae))) ae))) (ac (aw aT (pv 1) ai (λ_ _=>rfl)) (ac (aw aT (pv 1) ai (λ_ _=>rfl)) (ac (av bB (av bQ (pv 2) ai) ai) (ac ai ae)))))))
  (ag (ao 5 fD.nd (pcF T.g_53 (oi T) hr (ac (bD gz (pv 0) (bO ai) bX) (ac (aw aT (pv 1) ai (λ_ _=>rfl)) ae))))
  (ag (ao 6 fD.nd (pcF T.g_55 (fW T 20) hr (ac (pv 4) (ac (aw aA (pv 3) ai (λ_ _=>rfl)) (ac (aL (ac (pcF T.g_56 (d8 T 80) hr (ac (pv 3) (ac (pv 4) (ac (pv 5) ae)))) ae)) ae)))))
  (ag (ao 7 fD.nd (pcF T.g_54 (fH T 20) hr (ac (pv 4) (ac (aw aA (pv 4) ai (λ_ _=>rfl)) (ac (aL (ac (pv 6) ae)) ae)))))
  (ag (ao 8 fD.nd (pcF T.g_42.1 (G.ok_joined T L) hr (ac (pv 3) (ac (pv 4) ae))))
  (am (ay (og (cV fR (pcF T.g_36 (pB T) hr (ac (pv 8) (ac (pv 5) ae))) (aw aA (pv 7) ai (λ_ _=>rfl)) (aP _)) (qN (cV fR (pcF T.g_37 (oh T) hr (ac (pv 8) (ac (pv 5) ae))) (aw aA (pv 7) ai (λ_ _=>rfl)) (aP _)))))))))))))),?_⟩
 try dsimp only[Ax,Ai]
 refine⟨_,D?,a,ns,D?,hS,λkr xs Eo H1 s1 Ik hk hl hg=>?_⟩;walk_at"aa";obtain⟨k0,k1,k2,rfl⟩:=three hl;obtain⟨x0,x1,x2,rfl⟩:=three ((Xa hk).symm.trans hl);have g0:=hg k0 (by simp);have g1:=hg k1 (by simp);have g2:=hg k2 (by simp);obtain⟨Nn,e0,Ca⟩:KdAt H1 k0 x0:=by cases hk;assumption
 obtain⟨Np,e1,Fs⟩:KdAt H1 k1 x1:=by cases hk with|cons _ h=>cases h;assumption
 obtain⟨GP,e2,AX⟩:KdAt H1 k2 x2:=by cases hk with|cons _ h=>cases h with|cons _ h=>cases h;assumption
 refine kZ ?_;dsimp only[az];refine⟨_,D?,a,ns,3,D?,s1.seq hS,by decide,λcell=>?_⟩;have m1:=XN (cell / 3) (show(4:Int)≠0 by decide);have m2:=XI (cell / 3) (show(0:Int)<4 by decide);have m3:=XN (cell / 13) (show(4:Int)≠0 by decide);have m4:=XI (cell / 13) (show(0:Int)<4 by decide)
 refine⟨_,D?,_,D?,kr,_,0,.ref x0,D?,D?,n! Ik,at0,_,D?,kr,_,1,.ref x1,D?,D?,n! Ik,at1,_,D?,_,_,D?,D?,⟨by decide,by decide⟩,_,_,D?,D?,(by show(0:Int)<4;decide),?_⟩;refine⟨cell,x0,Nn,k0,x1,Np,k1,_,2,D?,e0,Ca,g0,e1,Fs,g1,m1,by lia,by decide,by decide,λb1 GV K8 E1 Ac Ab H2 s2 Em IS=>?_⟩;have IT:=s2 _ _ Ik
 refine⟨_,D?,_,_,D?,D?,⟨by decide,by decide,by decide⟩,_,_,D?,D?,⟨by decide +kernel,by decide +kernel⟩,_,D?,cell,77,D?,by decide,by decide,λrt _ _=>?_⟩;refine⟨_,_,D?,?_⟩;refine⟨_,D?,kr,_,1,.ref x1,D?,D?,n! IT,at1,_,D?,kr,_,2,.ref x2,D?,D?,n! IT,at2,_,D?,_,_,D?,D?,⟨by decide,by decide⟩,_,_,D?,D?,(by show(0:Int)<4;decide),?_⟩;have Ft:=k! s2;refine⟨_,x1,Np,k1,x2,GP,k2,_,1,D?,Ft _ _ e1,Fs.mono Ft,g1,Ft _ _ e2,AX.mono Ft,g2,m3,by lia,by decide,by decide,λb2 GW K' E2 Ad Aa H3 s3 D7 G6=>?_⟩;have L5:=Em.mono (k! s3);have hm:cell / 3%4 * (cell / 13%4)<=3 * 3:=Int.mul_le_mul (by lia) (by lia) m3 (by decide);obtain⟨J,L1,S6⟩:=yj g0 g1 g2 IS G6 (by lia) (by lia);generalize cell / 3%4=S1 at m1 m2 IS J L1 hm;generalize cell / 13%4=S2 at m3 m4 G6 J S6 hm;have E3:=s2.trans s3;have CD:=s1.trans E3;have L6:=E3 _ _ Ik;have S7:=E3 _ _ e0;have L7:=Ca.mono (k! E3);clear Ft Ik IT e0 e1 e2 Ca Fs AX E3 Em s2 s3
 refine⟨_,D?,_,D?,a,_,D?,CD.seq hS,λsc S8=>?_⟩;have s4:=aj S8 (.lst (cJ (ns.map o!) (A? 4) B?))
 have Ef:(cJ (ns.map o!) (A? 4) B?).length<=60:=by
  by_cases h3:4<=ns.length
  .rw[show(A? (4:Int))=A? ((4:Nat):Int)from rfl,jt (by rw[WO];exact h3),XX,WO];lia
  .have AF:=ej (ns.map o!) (A? 4) B?;rw[WO]at AF;lia
 refine⟨_,D?,kr,_,0,.ref x0,D?,D?,n! (s4 _ _ L6),at0,?_⟩;refine⟨sc,x0,_,Nn,k0,D?,ad,(λv hv=>?_),Ef,s4 _ _ S7,L7.mono (k! s4),g0,λt ta H5 s5 hA hF hT hZ=>?_⟩
 .obtain⟨z,_,rfl⟩:=Xn.mp (Zu (YZ hv));exact⟨z,D?⟩
 have Dt:=s4.trans s5;have Fh:=L5.mono (k! Dt);have Ei:=D7.mono (k! Dt);have L8:TabSt H5 T.g_42.tp (G.ndPos G.nd_joined) G.ndQ:=.inl ((CD.trans Dt) _ _ B5);clear s4 s5 Dt CD Ef S8 S7 L7 L6 L5 D7 hS B5;have WG:=IS.hdt;have WH:=G6.hdt;have DI:∀h∈[t],h.Fit k0:=λh hh=>by rw[W0.mp hh];exact hF
 walk_at"aa";obtain⟨u,hu,hU⟩:=nZ IS _ Yy [t] (WX _) DI _ Ac (WX _) IS.hdf;have L9:∀h∈[u],h.Fit k1:=λh hh=>by rw[W0.mp hh];exact hU
 obtain⟨o,ho,hO⟩:=nZ G6 _ Yy [u] (WX _) L9 _ Ad (WX _) G6.hdf;refine kZ ?_
 refine⟨_,D?,_,D?,b1,_,2,.ref GV,D?,D?,l! Fh.bk,at2,_,D?,_,D?,_,D?,?_⟩;refine⟨b1,b2,ta,k0,k1,k2,Ac,Ab,Ad,Aa,S1,S2,2,1,t,D?,⟨_,_,_,_,_,_,_,Fh⟩,g0,IS,by decide,by lia,⟨_,_,_,_,_,_,_,Ei⟩,g1,g2,G6,by decide,by lia,hA,hF,(by show t.tall<=80;lia),λpz H6 s6 WI M'=>?_⟩;refine⟨lnE rfl,λl1 Ck=>?_⟩;have s7:=aj Ck (.lst [.ref pz]);have G1:=s6.trans s7;refine⟨b2,GV,l1,k0,k1,k2,Ab,Ad,Aa,S2,1,S1,1,Ac,Yy,[t],[pz],u,(λe=>H5 e=B?/\∃o,H6 e=A? o),D?,⟨_,_,_,_,_,_,_,Ei.mono (k! G1)⟩,g1,g2,G6,by decide,by lia,Fh.hd.mono (k! G1),ad,(λb hb=>by obtain⟨o,ho⟩:=hb.2;exact⟨o,s7 _ _ ho⟩),.cons (M'.same s7) .nil,hu,(by show Ac.tall<=20;lia),IS.hdf,hU,λsz H8 s8 _ hsz=>?_⟩;have D':=G1.trans s8
 refine⟨_,D?,_,D?,b2,_,2,.ref GW,D?,D?,l! (D' _ _ Ei.bk),at2,_,D?,lnE rfl,λl2 Bb=>?_⟩;have s9:=aj Bb (.lst [.ref sz]);have Q5:=D'.trans s9;refine⟨b2,GW,l2,k1,k2,Aa,S2,1,Ad,Yy,[u],[sz],o,D?,Ei.hd.mono (k! Q5),ad,.cons (hsz.same s9) .nil,ho,(by show Ad.tall<=20;lia),G6.hdf,g2,λpr Ex Ew B4=>?_⟩;have sA:=Q5.trans Ew;have Ma:=Fh.mono (k! sA);have Mb:=Ei.mono (k! sA);have WJ:=hA.mono (k! sA);have Mc:=L8.mono sA;unfold sX at B4;clear s6 s7 G1 s8 D' s9 Q5 Ew sA Fh Ei hA L8 M' hsz Ck Bb WI
 refine⟨_,D?,_,D?,b1,b2,x0,x1,GV,K8,x1,x2,GW,K',Nn,Np,E1,Np,GP,E2,k0,k1,k2,S1,S2,Ac,Ad,Ab,Aa,D?,Ma,Mb,J,Mc,λf fh fr frs HB WK WL ef FQ WM My=>?_⟩;have kB:KT Ex HB:=Mc.kt WK;have Md:=Ma.mono kB;have Me:=Mb.mono kB;have LJ:=sk J L1 S6 (by decide) (by decide) (by decide);have hJ:=qE (n3:=Yy) g0 g1 J LJ.fit LJ.hdf hF hU hu ho;have hlen:=J.len;have fkB:BookAt HB k0 k2 (qv (joR k1 Aa Ab) (joH k1 Aa Ad Ac)) (jZ (joR k1 Aa Ab) (joH k1 Aa Ad Ac)) f x0 x2 fh fr Nn GP frs:=⟨ef,Md.inE,Md.inK,Me.outE,Me.outK,FQ,WM,My⟩;have I:=cnt_join LJ (by lia) ⟨_,_,_,_,_,_,_,fkB⟩ (WJ.mono kB) hF hT hZ;have Mf:=kB _ _ B4;refine⟨_,D?,_,D?,f,ta,k0,k2,_,4,_,_,t,D?,I,λv HC sC hv=>?_⟩;have e1:=hv _ o (.inl ⟨rfl,rfl,t,rfl⟩) hJ;subst e1;refine⟨_,D?,pr,_,0,_,D?,D?,l! (sC _ _ Mf),at0,D?,?_⟩;refine⟨_,D?,?_⟩;rw[b! (d! rfl)];refine⟨_,D?,_,D?,f,ta,k0,k2,_,4,_,_,t,D?,I.same sC,λv HD sD hv=>?_⟩;have e1:=hv _ o (.inl ⟨rfl,rfl,t,rfl⟩) hJ;subst e1;refine⟨_,D?,pr,_,1,_,D?,D?,l! (sD _ _ (sC _ _ Mf)),at1,D?,?_⟩;have e:decide (o! ((o.tall:Nat):Int)=o! ((o.tall:Nat):Int))=true:=d! rfl;show Q (V.bl (decide (o! ((o.tall:Nat):Int)=o! ((o.tall:Nat):Int)))) HD;rw[e];exact q HD
end
theorem walk{l:PySem.W.OpenLaw}{q:Xe}{d dt:DefRec}{K:Params->WY}(hn:l.most=A? 63)(hdf:d.params.defaults=[])(hd:d.name="law")(hq:(PyProof.Rows.recsOf q).find? (λe=>e.name == ("joined":Xk))=A? dt)(hY:∀(w:Xv)(h:X5),YP w h->(K w.params).In h)
 (F:∀(w:Xv)(mg:Xk->Option WV)(h:X5),(K w.params).In h->h.Ns X8 mg->TX (K w.params) mg):PySem.W.WalkO q loose XP YP l.row.toRowW d [] (λf vs=>PySem.call f vs) :=
 L2.uG (n:=63) (k:=140) (x:="script") (tn:="joined") (CX:=λ_=>CX0) (sp:=λw T=>ql (K w.params) T) hn (by decide) hdf ⟨rfl,by decide,by decide⟩ hq hY (λw mg fa h KX G hm=>by
  have T:=F w mg h KX G;obtain⟨_,_,_,_,_,_,_,_,_,e,_⟩:=T.g_58.F.ex;rw[hd]at hm;have e2:T.g_58.f=fa:=(Value.ref.inj (Xl (hm.symm.trans T.g_58.m))).symm;subst e2;exact⟨_,_,_,λs v=>by rw[e];exact .of_eq rfl,T.g_42.t,T.g_42.u,λbase _ _ L=>xY T L⟩) (λ_ _ _ a ns hl hS hT=>⟨a,ns,rfl,hS,hl,hT,λ_=>rfl⟩) λ_ _ _ _ _ z=>z
end LAW
open PySem PySem.W PyProof.Rows
set_option maxRecDepth 100000 in
theorem PySem.Challenge.cw_boughbook_k45_joined_books_count_holds : PySem.Challenge.rw_boughbook_k45_joined_books_count.Holds := by
 w_on;(refine holds_law LAW.ws λaa0=>?_);(refine holds_open (q:=LAW.vw) (N:=90000) (loose:=[]) (XP:=XL LAW.vw []) (Yf:=Hook.obs (kHook LAW.d0.heap_1 LAW.ks LAW.ke)) (Ya:=Hook.val (kHook LAW.d0.heap_1 LAW.ks LAW.ke)) (YP:=Hook.says (kHook LAW.d0.heap_1 LAW.ks LAW.ke)) (Xt:=LAW.xt) (HD.sf (by kernel_rfl) (by kernel_rfl) (λ_=>by kernel_rfl) LAW.lk0 LAW.lk1 LAW.lk2 LAW.lk3 LAW.lk4 LAW.lk5 (HD.Pc.k LAW.kp)) (Hook.of (kHook LAW.d0.heap_1 LAW.ks LAW.ke)) (Hook.keeps (kHook LAW.d0.heap_1 LAW.ks LAW.ke)) (λs e=>xl_of s (Bool.and_eq_true_iff.mp e).1) XL.keeps (by rfl) (by rfl) (by rfl) (λs e=>recFacts_of (Bool.and_eq_true_iff.mp e).2) (by rfl) (by assumption) (by decide +kernel) ⟨rfl,rfl,rfl,rfl,rfl,by decide +kernel⟩ ?_ ?_);w_witness2
 k_fill
 exact LAW.walk (l:=PySem.Challenge.rw_boughbook_k45_joined_books_count) rfl rfl rfl (by rfl) (λw h Y=>PySem.W.kIn_of Y) λw mg h x g=>by constructor <;> first|exact LAW.fx x g|exact LAW.bn x g|exact LAW.ci x g|exact LAW.na|exact LAW.fm|exact LAW.gn x g|exact⟨by k_is,by k_is,by k_is,by k_is⟩|exact⟨by k_is,by k_is⟩|exact LAW.cs x g|exact LAW.ck1 x g|exact LAW.ft x g
