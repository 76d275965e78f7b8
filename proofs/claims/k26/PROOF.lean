import PyProof.Rows.All
import Wide.All
import OpenK.AllK
import Wide.FinOn
import Lean
import PyProof.EqAt
import PyProof.EqKinds
import PyProof.TupleCall
import KE.KRevIter
import PyProof.ListNew
import PyProof.Draws
import PyProof.EnumMake
import PyProof.Rows.EnumRows
import PyProof.ZipIter
import PyProof.ConsumeWalk
import KE.LcSums
import PyProof.AttrMissHeap
import KE.KDictOf
import PyProof.DictWalks
import PyProof.ListMulRoad
import PyProof.FactsAll.tuple
import PyProof.NeKinds
import KE.RegKTryMore
import KE.RegKIsAll
import PyProof.StrWalks
import PyProof.Rows.SetFrom
import PyProof.FString5
import Wide.Txt
import PyProof.Rows.SeqMore
import PyProof.StrOps2
import KE.KEqDict
import PyProof.CollectIter
import PyProof.JoinWalk
import PyProof.CallStr
import PyProof.DictRoadsH
import PyProof.MeetsDictList
import PyProof.DictTruth
import PyProof.StrLawsChain
import PyProof.StrCalls6
import PyProof.ToksMono
import PyProof.StrCalls2
import KE.KWords
import PyProof.MeetsStr2
import KE.KLam
import KE.KDictLaws
import PyProof.DictItems
import PyProof.DictValues
import PyProof.DictItemsLoops
import PySem.Challenge.RW_boughbook_k26_outcomes_shared
set_option maxHeartbeats 0
set_option Elab.async false
set_option linter.all false
set_option maxRecDepth 100000
set_option genInjectivity false
set_option genSizeOf false
local macro_rules | `(tactic| omega) => `(tactic| lia)
open PySem renaming wpAny_bind->WN,Addr->WT,Value->WW,wpAny_pure->W0,Shared->W3,wpAny->Xd,sizeLine->Xh,Str->Xk,Program->Xm,mainGlobals->Xv,model->Xx,Paired->Xz,World->XD,starEach->XJ,Around->XN,boot_len->XQ,wpAny_newObj_type->XW,Expr->XY,wpAny_callSpecial?_slot->X0,wpAny_field->X3,Heap->X4,wpAny_call_entry->X7,mem_of_lookup->Yc,wpAny_holding->Yl,wpAny_Call_Name_kw->Yu,Stmt->YA,wpAny_mono->YB,sysModules->YC,Obj->YF,wpAny_seqItems->YM,FuncData->YO,eval->YW,wpAny_setField_rec->Y5,rawInt->Y6,wpAny_dictEntries->Zb,NameKind->Zj,Builtin->Zp,strLen_append->Zq,sizeLine_eq->Zr,cLine->Zs,backTo->ZD,IsPair->ZE,wpAny_typeOf->ZH,Scope->ZN,wpAny_typeNameOfWhole_itemiter->ZP,compareOp->ZQ,wpAny_typeNameOfWhole_keyiter->ZY,wpAny_pyIter_tuple->Z4,tupleKind_room_in1->Z5,pyNext->Z6,codeAny->Z7,wpAny_passesOwn->Z9
open List renaming length_map->WO,mem_cons_of_mem->WQ,mem_of_getElem?->WR,getElem?_eq_getElem->WS,mem_cons_self->WY,mem_singleton->WZ,length_append->W6,mem_append->W7,length_cons->W8,map_append->W9,size_toArray->Xa,mem_cons->Xb,mem_iff_getElem?->Xe,mem_append_left->Xi,getElem?_map->Xj,mem_append_right->Xl,mem_map->Xq,replicate->Xr,getElem?_eq_some_iff->Xw,getElem?_append_left->XA,map_cons->XH,length_take->XI,length_drop->XR,getElem?_append_right->XX,getElem?_set_self->X2,append_assoc->X6,reverse_cons->X9,nodup_cons->Yg,range->Yn,take_add_one->Yp,getElem?_set_ne->Yq,take_of_length_le->Yr,replicate_succ->Yv,getElem?_eq_none->Yw,length_eq_zero_iff->Yy,append_nil->Yz,getElem?_zip_eq_some->YD,reverse_append->YE,nodup_append->YG,nodup_nil->YT,map_map->YU,length_reverse->YV,length_replicate->YX,lookup_cons->YZ,cons_append->Y0,mem_of_mem_take->Y4,lookup->Zd,length->Ze,take_length->Zg,drop_zero->Zk,length_singleton->Zn,reverse_reverse->Zy,mem_of_mem_drop->Zz,map_nil->ZA,eq_of_mem_replicate->ZC,filterMap_cons->ZG,not_mem_nil->ZJ,mem_range->ZK,reverse_singleton->ZO,nil_append->ZS,mem_zipIdx_iff_getElem?->ZT,mem_filter->ZU,dropLast_concat_getLast->ZV,singleton_append->ZW,flatten_cons->Z2
open PySem.Str renaming ofString->WU,empty->YI
open PySem.Heap renaming get?_push_of_some->WV,get?_push_size->W4,lt_size->Xc,SameBut->X5,size_push->Yk,get?_update_self->YL,get?_update_other->Zo
open PySem.W renaming Frag->WX,findIn->XT,nsIn->XU,mg_none_of->X1,keepIn->YJ,kia_one->YK,fnOf->YR,emptyDict->YS,kitOne->Y3,mg_of->Zc,kla_obj->Zt,instObj->Zu,boot_heap->Zw
open Nat renaming le_refl->W2,lt_of_lt_of_le->Xy,zero_le->XB,ne_of_lt->XG,le_trans->XS,lt_irrefl->Yo,le_add_right->YN,lt_succ_iff_lt_or_eq->Y2,le_of_lt->Za,pow_le_pow_right->Zx
open PySem.Paired renaming length->W5
open Option.some renaming inj->Xf
open PySem.F renaming plainAttrs_list->Xg,type_list_append->Xs,slot_list_append->Xu,slot_dict_itemiterator_next->Ys,slot_dict_keyiterator_next->Zh,slot_list_index->ZI,slot_dict_itemiterator_iter->Z3
open Bool renaming false_ne_true->Xn,false_eq_true->Y1
open Sum renaming inl->Xo,inr->Z1
open Array renaming length_toList->Xp,toList_append->Ym,getElem?_toList->ZX
open PyProof.Rows renaming boot_tuple->XC,slot_tuple_getitem->XZ,callWith_type1->YQ,boot_max->Zl,boot_isinstance->ZR,envOfC->Z0
open PySem.PassesOwn renaming never->XE
open Int renaming emod_lt_of_pos->XF,emod_nonneg->XM,toNat_of_nonneg->Yd,toNat_natCast->YH
open PySem.Value renaming ref->XO,none->Yj,bool->ZM
open PySem.Builtin.SmallTypes renaming nextOf->X8,ownedTupleIsFree->Yb
open False renaming elim->Ye
open PySem.NameKind renaming free->Yh
open Option renaming map_eq_some_iff->Yi
open PySem.Builtin.Slice renaming slicePlaces->Yt,sliceAdjust->ZF
open PySem.Builtin.Tuple renaming tupleExact->Yx
open PySem.Heap.SameBut renaming update->YY
open True renaming intro->Y7
open PySem.Builtin.List renaming listTooLong->Y8
open PySem.AutoSeq1 renaming wpAny_loadPart'->Y9
open PySem.Obj renaming mapSeq->Zf
open PySem.Builtin.Dict_items renaming ownsTuple->Zi
open Ne renaming symm->Zm
open ForInStep renaming yield->Zv
open PySem.Around renaming under_plainId->ZL
open PySem.Calls renaming spliced_cons->Z8
variable{w:XD}{h base h':X4}{α β κ:Type}{a f b l it c ta C dx sl d z tp l1 l2 i1 i2 ea c' td:WT}{loose N ps:List Xk}{K:WX}{e tg iter elt:XY}{i t' j n id c0 ep:Nat}{x qual name stem:Xk}{us its:List WW}{u oc vl vu:WW}{F:α->β->Prop}{P prog:Xm}{ch fp:List WT}{M:Model}{A:XN}{E Q:WW->W3->Prop}{s' s:W3}{pos pos':Pos}{pins:List (WT×YF)}{op:CmpOp}{st:YA}{body:List YA}{R:Result->W3->Prop}{lo hi:Option Int}{tk:Tok}{kw:List (Xk×WW)}{env:Env}{mg:Xk->Option WW}{fd:YO}{kindOf:Xk->Option Zj}{sc scope:ZN}{params:Arguments}{od:Option WT}{items ys:Array WW}{XP:(Xk->Option WW)->X4->Prop}{YP:XD->X4->Prop}{js:List (Option Nat)}{cl:List (Xk×WT)}{ifs elts:List XY}{cs:List (List Int×Int×Int)}{oe:YF}{S:Int}{ins outs:List (Xk×Int)}{begun:Bool}{vs:List (κ×WW)}
def a!:=@if_neg
def b!:=@if_pos
def c!:=@decide_eq_false
def d!:=@decide_eq_true
def e!:=@of_decide_eq_true
def g!:=@absurd
def h!:=@congrArg
namespace HD
open PySem PySem.W PySem.Calls PyProof.Rows
def j4(tb:String->Option Zp)(p:Xm)(w:XD)(m:Nat)(ann:Option WW):Nat->SharedT->Thread->Option SharedT
 |0,_,_=>none
 | n+1,s,t=>match through t with
   |true=>some s
   | false=>match stepOk m ann t with
     |false=>none
     | true=>match stepT (denote tb) p w s t with
       |some (s',t')=>j4 tb p w m ann n s' t'
       |none=>none
theorem lF{tb:String->Option Zp}{p:Xm}{m:Nat}{ann:Option WW}:∀{n:Nat}{s s':SharedT}{t:Thread},j4 tb p w m ann n s t=some s'->topRun tb p w m ann n s.abs t=some s'.abs
 |0,_,_,_,h=>by cases h
 | n+1,s,s',t,h=>by
   unfold j4 at h;unfold topRun;cases he:through t with
   |true=>rw[he]at h;cases h;rfl
   | false =>
     rw[he]at h;cases hk:stepOk m ann t with
     |false=>rw[hk]at h;cases h
     | true =>
       rw[hk]at h;cases hs:stepT (denote tb) p w s t with
       |none=>rw[hs]at h;cases h
       | some r =>
         obtain⟨s2,t2⟩:=r;rw[hs]at h;rw[stepT_spec hs];exact lF h
def ul:List YF->Nat->BT->BT
 | [],_,t=>t
 |o::l,n,t=>ul l (n+1) (t.ins n o)
def wE:List YF->Nat->BT->Bool
 | [],_,_=>true
 |o::l,n,t=>((t.ins n o).get n).isSome && wE l (n+1) (t.ins n o)
theorem m7:∀(l:List YF)(n:Nat)(t:BT),wE l n t=true->(ul l n t).list (n+l.length)=t.list n++l
 | [],n,t,_=>by rw[Yz];rfl
 | o::l,n,t,h=>by
   obtain⟨h1,h2⟩:=Bool.and_eq_true_iff.mp h;have e:=absHeap_ins (life:=default) h1
   have e2:(t.ins n o).list (n+1)=t.list n++[o]:=by
    have:=h! (λx:X4=>x.objs.toList) e;simpa[absHeap,Heap.push]using this
   have ih:=m7 l (n+1) (t.ins n o) h2;rw[e2,X6]at ih;rw[W8,show n+(l.length+1)=n+1+l.length by omega];exact ih
theorem yn(ok:wE h.objs.toList 0 .nil=true):absHeap (ul h.objs.toList 0 .nil) h.objs.size h.life=h:=by
 have e:=m7 _ _ _ ok;rw[Nat.zero_add]at e;unfold absHeap;rw[<-Xp,e];rfl
noncomputable abbrev n9(p:Xm)(N:Nat)(w:XD)(os:OsState):Option SharedT :=
 j4 treeTable p w 11 (some (.ref 6)) N ⟨ul (Zw w.params).objs.toList 0 .nil,11,(Zw w.params).life,Array.mk [],boot_drawn,boot_toks,os⟩ (topStub p)
theorem vA(P:Params):(wE (Zw P).objs.toList 0 .nil,(Zw P).isNs Xv,(Zw P).objs.size,(Zw P).nsMap Xv "__annotations__")=(true,true,11,some (.ref 6)):=by kernel_rfl
theorem map_some{o:Option α}{a:α}{f:α->β}{b:β}(h:o=some a)(e:o.map f=some b):f a=b:=by rw[h]at e;exact Xf e
abbrev Tr0(p q:Xm)(loose:List Xk)(Xt:W3->Bool)(N:Nat)(g0:Bool):Prop:=∀(w:XD)(os:OsState),((n9 p N w os).map λs=>(staticsOk (importedModules p.main.body) (Zw w.params) s.abs.heap && namesBound p s.abs.heap && gensDone s.abs && laidKept (Zw w.params) s.abs.heap,s.abs.heap.bltView,pinSeenD q (drecsOf q) s.abs,plainSeenD q loose s.abs,clsSeenW q loose s.abs,(s.abs.heap.accountedOkI (importedModules p.main.body),s.abs.heap.isNs Xv,s.abs.heap.isNs builtinsNs,tablesOk q s.abs.heap,Xt s.abs,(if g0 then s.abs.gens.size == 0 else !leftWithCleanup s.abs.gens))))=some (true,bltViewBooted,pinGoodD (drecsOf q),plainGoodD q loose,clsGoodW q loose,(true,true,true,true,true,true))
abbrev Tr1(p q:Xm)(N:Nat):Prop:=∀(w:XD)(os:OsState),((n9 p N w os).map λs=>seen ((recsOf q).map (·.name)) (ownsOf q) [] {s.abs with gens:=#[]})=some (expectedOf q)
abbrev Tr2(p q:Xm)(loose:List Xk)(N:Nat):Prop:=∀(w:XD)(os:OsState),((n9 p N w os).map λs=>s.abs.heap.keysOk (looseW q loose) ((recsOf q).map (·.name)) ((litsOf q).map (·.1)) ((clssOf q (looseW q loose)).map (·.name)))=some true
abbrev Tr3(p q:Xm)(N:Nat):Prop:=∀(w:XD)(os:OsState),((n9 p N w os).map λs=>tabsOk q s.abs)=some true
abbrev Tr4(p q:Xm)(loose:List Xk)(N:Nat):Prop:=∀(w:XD)(os:OsState),((n9 p N w os).map λs=>plainSeenE q (looseW q loose) s.abs)=some (plainGoodE q (looseW q loose))
abbrev Tr5(p q:Xm)(N:Nat):Prop:=∀(w:XD)(os:OsState),((n9 p N w os).map λs=>wideSeen q s.abs)=some (wideGood q)
theorem sM{p q:Xm}{Xt:W3->Bool}{Yf:W3->α}{Ya:XD->α}{N:Nat}{g0:Bool}
 (e:opening p=plainProg p.main.scope.names) (hN:Nat.ble 600 N=true) (f:∀s,fenceModules? p s=some s)
 (r0:Tr0 p q loose Xt N g0)
 (r1:Tr1 p q N)
 (r2:Tr2 p q loose N)
 (r3:Tr3 p q N)
 (r4:Tr4 p q loose N)
 (r5:Tr5 p q N)
 (rY:∀(w:XD)(os:OsState),((n9 p N w os).map λs=>Yf s.abs)=some (Ya w)) :
 LeftO p q loose Xt Yf Ya N g0:=λw=>by
 obtain⟨⟨h,gs,d,k,os⟩,e1,e'⟩:=Yi.mp (boot_open e hN f w);obtain⟨rfl,rfl,rfl,rfl⟩:h=Zw w.params/\gs=Array.mk []/\d=boot_drawn/\k=boot_toks:=by simpa using e'
 have Mu:=vA w.params;have z0:=h! Prod.fst Mu;have z1:=h! (λx=>x.2.1) Mu;have z2:=h! (λx=>x.2.2.1) Mu;have z3:=h! (λx=>x.2.2.2) Mu;dsimp only at z0 z1 z2 z3;obtain⟨s1,G4,hY⟩:=Yi.mp (rY w os);have q0:=map_some G4 (r0 w os);have q1:=map_some G4 (r1 w os);have q2:=map_some G4 (r2 w os);have q3:=map_some G4 (r3 w os);have q4:=map_some G4 (r4 w os);have q5:=map_some G4 (r5 w os);have rr:=lF G4
 have ND:SharedT.abs ⟨ul (Zw w.params).objs.toList 0 .nil,11,(Zw w.params).life,Array.mk [],boot_drawn,boot_toks,os⟩=⟨Zw w.params,Array.mk [],boot_drawn,boot_toks,os⟩:=by
  unfold SharedT.abs;dsimp only;rw[<-z2,yn z0]
 rw[ND]at rr;have a0:=h! Prod.fst q0;have a1:=h! (λx=>x.2.1) q0;have a2:=h! (λx=>x.2.2.1) q0;have a3:=h! (λx=>x.2.2.2.1) q0;have a4:=h! (λx=>x.2.2.2.2.1) q0;have b0:=h! (λx=>x.2.2.2.2.2.1) q0;have b1:=h! (λx=>x.2.2.2.2.2.2.1) q0;have b2:=h! (λx=>x.2.2.2.2.2.2.2.1) q0;have b3:=h! (λx=>x.2.2.2.2.2.2.2.2.1) q0;have b4:=h! (λx=>x.2.2.2.2.2.2.2.2.2.1) q0;have b5:=h! (λx=>x.2.2.2.2.2.2.2.2.2.2) q0;dsimp only at a0 a1 a2 a3 a4 b0 b1 b2 b3 b4 b5
 have l2:openSeen q loose (importedModules p.main.body) Xt g0 s1.abs=openGood q loose:=by
  unfold openSeen openGood;rw[q1,a1,q2,b0,b1,b2,b3,b4,b5,q3,a2,q4,a3,q5,a4];rfl
 have t:topFrom treeTable p w N ⟨Zw w.params,Array.mk [],boot_drawn,boot_toks,os⟩=some s1.abs:=by
  unfold topFrom;dsimp only;rw[z1,z2,z3,rr];show(match staticsOk (importedModules p.main.body) (Zw w.params) s1.abs.heap && namesBound p s1.abs.heap && gensDone s1.abs && laidKept (Zw w.params) s1.abs.heap with|true=>_|false=>_)=_;rw[a0]
 unfold openEnds;rw[e1];show(topFrom treeTable p w N _).map _=_;rw[t];exact h! some (Prod.ext l2 hY)
def p0:Params:={strHash:=λ_=>0,shareClass:=λ_=>0,mergeTok:=λt=>t,idOf:=λ_=>0,idOfShared:=λ_ _=>0,followText:=λ_=>false,idOfImm:=λ_=>0}
structure Pc(p:Xm)(N:Nat)(as:List WT)(vs:XD->List (Option YF)):Prop where
 out:∀(w:XD)(os:OsState),((n9 p N w os).map λs=>as.map s.abs.heap.get?)=some (vs w)
theorem Pc.k{p:Xm}{N:Nat}{as:List WT}{K:Params->Frag}{e:∀P,as=(K P).map (·.1)}(h:Pc p N as λw=>(K w.params).map λp=>some p.2):∀(w:XD)(os:OsState),((n9 p N w os).map λs=>(kHook K as e).obs s.abs)=some ((kHook K as e).val w):=h.out
end HD
section
open PySem PySem.W PyProof.Rows
def LAW.vw:Xm:=PySem.W.view PySem.Challenge.pw_boughbook_k26_outcomes_shared [1,2,3,5,6,7,8,9,11,12,13,14,16,17,18,20,21,22,24,25,26,27,28,29,31,32,33,35,36,37,38,40,41,42,43,44,45,46,47,48,49,50,51,52,53,54,55,56,57,58]
def LAW.xt(s:W3):Bool:=xlAt LAW.vw [] s && recOk (RowW.records (OpenRow.toRowW (OpenLaw.row PySem.Challenge.rw_boughbook_k26_outcomes_shared))) s
theorem LAW.lk0:HD.Tr0 PySem.Challenge.pw_boughbook_k26_outcomes_shared LAW.vw [] LAW.xt 90000 true:=λ_ _=>by kernel_rfl
theorem LAW.lk1:HD.Tr1 PySem.Challenge.pw_boughbook_k26_outcomes_shared LAW.vw 90000:=λ_ _=>by kernel_rfl
theorem LAW.lk2:HD.Tr2 PySem.Challenge.pw_boughbook_k26_outcomes_shared LAW.vw [] 90000:=λ_ _=>by kernel_rfl
theorem LAW.lk3:HD.Tr3 PySem.Challenge.pw_boughbook_k26_outcomes_shared LAW.vw 90000:=λ_ _=>by kernel_rfl
theorem LAW.lk4:HD.Tr4 PySem.Challenge.pw_boughbook_k26_outcomes_shared LAW.vw [] 90000:=λ_ _=>by kernel_rfl
theorem LAW.lk5:HD.Tr5 PySem.Challenge.pw_boughbook_k26_outcomes_shared LAW.vw 90000:=λ_ _=>by kernel_rfl
section
local macro_rules | `(tactic| o_head $_H) => `(tactic| assumption)
theorem LAW.d0(h:OpenRow.Holds (OpenLaw.row PySem.Challenge.rw_boughbook_k26_outcomes_shared)):OpenRow.Holds (OpenLaw.row PySem.Challenge.rw_boughbook_k26_outcomes_shared):=by
 k_head
end
noncomputable def LAW.ks:List WT:=(LAW.d0.heap_1 HD.p0).map (·.1)
theorem LAW.ke:∀P,LAW.ks=(LAW.d0.heap_1 P).map (·.1):=λ_=>by kernel_rfl
theorem LAW.kp:HD.Pc PySem.Challenge.pw_boughbook_k26_outcomes_shared 90000 LAW.ks λw=>(LAW.d0.heap_1 w.params).map λp=>some p.2:=⟨λ_ _=>by kernel_rfl⟩
end
namespace L2
open PySem PySem.Spec PyProof.Rows
theorem gmE{f:α->β}{l:List α}{x:α}(h:l[i]?=some x):(l.map f)[i]?=some (f x):=by rw[Xj,h];rfl
theorem glE{l:List α}{x:α}(h:l[i]?=some x):i<l.length:=(Xw.mp h).1
abbrev Key:=Sum Int Xk
def mT:Key->WW->Bool
 |.inl k,v=>Value.isInt k v
 |.inr x,v=>Value.isStrOf x v
def zJ(w:XD):Key->Int
 |.inl k=>hashInt k
 |.inr x=>hashStr w x
theorem bD:∀{k:Key}{v:WW},mT k v=true->(∃i t,k=Xo i/\v=Value.int i t)\/(∃x t,k=Z1 x/\v=Value.str x t)
 | .inl i,v,h=>by
   obtain⟨t,e⟩:=Value.isInt_shape (k:=i) (v:=v) h;exact .inl ⟨i,t,rfl,e⟩
 | .inr x,v,h=>by
   obtain⟨t,e⟩:=Value.isStrOf_shape (x:=x) (v:=v) h;exact .inr ⟨x,t,rfl,e⟩
theorem sf(i:Int)(t:Tok):mT (.inl i) (.int i t)=true:=by simp[mT,Value.isInt]
theorem tM(x:Xk)(t:Tok):mT (.inr x) (.str x t)=true:=by simp[mT,Value.isStrOf]
theorem xT(a b:Int):decide ((Xo a:Key)=Xo b)=(a == b):=by
 by_cases e:a=b
 .subst e;simp
 .have h:¬(Xo a:Key)=Xo b:=λq=>e (Sum.inl.inj q);rw[c! h];exact(beq_eq_false_iff_ne.mpr e).symm
theorem yw(a b:Xk):decide ((Z1 a:Key)=Z1 b)=decide (a=b):=by
 by_cases e:a=b
 .subst e;simp
 .have h:¬(Z1 a:Key)=Z1 b:=λq=>e (Sum.inr.inj q);rw[c! h,c! e]
theorem yr(a:Int)(b:Xk):decide ((Xo a:Key)=Z1 b)=false:=c! (λq=>nomatch q)
theorem yx(a:Xk)(b:Int):decide ((Z1 a:Key)=Xo b)=false:=c! (λq=>nomatch q)
def aT(prog:Xm)(w:XD):PySem.KeyKind prog w Key where
 is:=mT
 hash:=zJ w
 inj:=λv a b ha hb=>by
  rcases bD ha with⟨i,t,rfl,rfl⟩|⟨x,t,rfl,rfl⟩
  .rcases bD hb with⟨j,u,rfl,e⟩|⟨y,u,rfl,e⟩
   .injection e with e1 _;rw[e1]
   .exact nomatch e
  .rcases bD hb with⟨j,u,rfl,e⟩|⟨y,u,rfl,e⟩
   .exact nomatch e
   .injection e with e1 _;rw[e1]
 byValue:=λk v h=>by
  rcases bD h with⟨i,t,rfl,rfl⟩|⟨x,t,rfl,rfl⟩ <;> rfl
 pyHash:=λhv h=>by
  rcases bD hv with⟨i,t,rfl,rfl⟩|⟨x,t,rfl,rfl⟩
  .exact wpAny_pyHash_int h
  .exact wpAny_pyHash_str h
 eqBool:=λhu hv h=>by
  rcases bD hu with⟨i,t,rfl,rfl⟩|⟨x,t,rfl,rfl⟩
  .rcases bD hv with⟨j,u,rfl,rfl⟩|⟨y,u,rfl,rfl⟩
   .rw[xT]at h;exact wpAny_eqBool_int h
   .rw[yr]at h;exact SeqAt.EqAt.int_str i t y u _ _ _ _ h
  .rcases bD hv with⟨j,u,rfl,rfl⟩|⟨y,u,rfl,rfl⟩
   .rw[yx]at h;exact SeqAt.EqAt.str_int x t j u _ _ _ _ h
   .rw[yw]at h;exact wpAny_eqBool_str h
 «strs»:=λk x t v h=>by
  rcases bD h with⟨i,u,rfl,e⟩|⟨y,u,rfl,e⟩
  .exact nomatch e
  .injection e with e1 _;subst e1;cases v <;> rfl
theorem oF(prog:Xm)(w:XD)(i:Int)(t:Tok):(aT prog w).is (.inl i) (.int i t)=true:=sf i t
theorem oA(prog:Xm)(w:XD)(x:Xk)(t:Tok):(aT prog w).is (.inr x) (.str x t)=true:=tM x t
set_option genInjectivity true in
inductive V where
 |non|bl (b:Bool)|int (i:Int)|str (x:Xk)|byt (b:Array UInt8)|flt (b:UInt64)|ref (a:WT)|ty (n:String)
 deriving DecidableEq
def RelV:V->WW->Prop
 |.non,u=>u=Yj
 |.bl b,u=>u=ZM b
 |.int i,u=>∃t,u=Value.int i t
 |.str x,u=>∃t,u=Value.str x t
 |.byt b,u=>∃t,u=Value.bytes b t
 |.flt b,u=>∃t,u=Value.float b t
 |.ref a,u=>u=XO a
 |.ty n,u=>u=Value.type n
abbrev Vals:List V->List WW->Prop:=Xz RelV
theorem Vals.length{xs:List V}(r:Vals xs us):xs.length=us.length:=W5 r
theorem Vals.get:∀{xs:List V}{us:List WW}{i:Nat}{x:V},Vals xs us->xs[i]?=some x->∃u,us[i]?=some u/\RelV x u
 |_,_,_,_,.nil,e=>by simp at e
 |_,_,0,_,.cons r _,e=>by simp at e;subst e;exact⟨_,rfl,r⟩
 | _,_,i+1,x,.cons _ t,e=>by
   obtain⟨u,h1,h2⟩:=Vals.get (i:=i) (x:=x) t (by simpa using e);exact⟨u,by simpa using h1,h2⟩
theorem Vals.set{x:V}(r:RelV x u):∀{xs:List V}{us:List WW}(i:Nat),Vals xs us->Vals (xs.set i x) (us.set i u)
 |_,_,_,.nil=>.nil
 |_,_,0,.cons _ t=>.cons r t
 |_,_,i+1,.cons q t=>.cons q (Vals.set r i t)
theorem Vals.append:∀{xs ys:List V}{us ws:List WW},Vals xs us->Vals ys ws->Vals (xs++ys) (us++ws)
 |_,_,_,_,.nil,s=>s
 |_,_,_,_,.cons r t,s=>.cons r (Vals.append t s)
theorem Vals.take:∀{xs:List V}{us:List WW}(n:Nat),Vals xs us->Vals (xs.take n) (us.take n)
 |_,_,0,_=>.nil
 |_,_,_+1,.nil=>.nil
 |_,_,n+1,.cons r t=>.cons r (Vals.take n t)
theorem Vals.drop:∀{xs:List V}{us:List WW}(n:Nat),Vals xs us->Vals (xs.drop n) (us.drop n)
 |_,_,0,r=>r
 |_,_,_+1,.nil=>.nil
 |_,_,n+1,.cons _ t=>Vals.drop n t
def RelO:Option V->Option WW->Prop
 |some v,some u=>RelV v u
 |none,none=>True
 |_,_=>False
def KV{κ:Type}:List (κ×V)->List (κ×WW)->Prop:=Xz λ(p:κ×V)(q:κ×WW)=>p.1=q.1/\RelV p.2 q.2
def kV:Key->V
 |.inl i=>.int i
 |.inr x=>.str x
set_option genSizeOf true in
inductive HO where
 |lst (xs:List V)
 |tup (xs:List V)
 |dK (kvs:List (Key×V))|dT (kvs:List (List Key×V))
 |set (S:Int->Bool) (n:Nat)
 |ins (C dx:WT) (fs:List (Xk×V))
 |own (x:WT)
 |xd (fs:List (Xk×V))
 |met (f x:WT)
 |rng (lo hi:Int)
 |frz (o:YF) (u:HO)
 |tbl (ps:Array WW)
 |ext (φ:X4->Prop)
abbrev Hp:=WT->Option HO
def upd(H:Hp)(a:WT)(o:HO):Hp:=λb=>if b=a then some o else H b
theorem ad{H:Hp}{o:HO}:upd H a o a=some o:=by unfold upd;rw[b! rfl]
theorem af{H:Hp}{o:HO}(h:b≠a):upd H a o b=H b:=by unfold upd;rw[a! h]
theorem iN{H:Hp}{o u:HO}:upd (upd H a o) a u=upd H a u:=by
 funext b;unfold upd;split <;> rfl
theorem aA{H:Hp}{o u:HO}(h:H a=some o)(h':H b=some u)(d:o≠u):a≠b:=by
 intro e;subst e;rw[h]at h';exact d (Xf h')
theorem ar{H:Hp}{o:HO}(h:H a=some o)(h':H b=none):a≠b:=by
 intro e;subst e;rw[h]at h';cases h'
section
variable(P:Xm)(w:XD)
def ObjOk(H:Hp)(h:X4)(a:WT):HO->Prop
 |.lst xs=>xs.length<=Xh/\∃(its:List WW)(n:Nat),Vals xs its/\h.get? a=some {cls:=.type "list",data:=.seq its.toArray n}
 |.tup xs=>xs.length<=Xh/\∃(its:List WW)(n:Nat),Vals xs its/\h.get? a=some {cls:=.type "tuple",data:=.seq its.toArray n}
 |.dK kvs=>kvs.length<=Xh/\(a == YC)=false/\∃vs,KV kvs vs/\h.DictOf (aT P w) a vs
 |.dT kvs=>kvs.length<=Xh/\(a == YC)=false/\∃xs:List (List Key×WT×WW),
  Xz (λ(p:List Key×V)(q:List Key×WT×WW)=>p.1=q.1/\H q.2.1=some (.tup (p.1.map kV))/\RelV p.2 q.2.2) kvs xs /\
  ∃o es ep,h.get? a=some o/\o.ExactDict/\o.data=.dict es ep/\es.toList=xs.map (entryOfKey (tupleKind (aT P w)))/\(xs.map (·.1)).Nodup
 |.set S n=>h.SetOf (intKind P w) a S n
 |.ins C dx fs=>H dx=some (.own a)/\fs.length<=1000/\dx≠a/\h.get? a=some (Zu C dx) /\
  ∃mA,h.Ns1 dx mA/\(∀f,RelO (fs.lookup f) (mA f))/\PySem.Within mA (fs.map (·.1))
 |.own _=>∃o,h.get? a=some o
 |.xd fs=>∃mA,h.Ns1 a mA/\∀f,RelO (fs.lookup f) (mA f)
 |.rng lo hi=>∃t u v,h.get? a=some {cls:=.type "range",data:=.fields #[.int lo t,.int hi u,.int 1 v]}
 |.frz o u=>h.get? a=some o/\ObjOk H h a u
 |.tbl ps=>h.get? a=some {cls:=.none,data:=.fields ps}
 |.met f x=>h.get? a=some (PySem.W.methodObj (.ref f) (.ref x))
 |.ext φ=>φ h/\(∃o,h.get? a=some o)/\∀h1 h2:X4,φ h1->(∀o,h1.get? a=some o->h2.get? a=some o)->φ h2
def HOk(H:Hp)(h:X4):Prop:=∀a o,H a=some o->ObjOk P w H h a o
end
section
variable{H H':Hp}{o:HO}
theorem ObjOk.lt(x:ObjOk P w H h a o):a<h.objs.size:=by
 cases o with
 |lst xs=>obtain⟨_,_,_,_,e⟩:=x;exact Xc e
 |tup xs=>obtain⟨_,_,_,_,e⟩:=x;exact Xc e
 |dK kvs=>obtain⟨_,_,_,_,o,_,_,e,_⟩:=x;exact Xc e
 |dT kvs=>obtain⟨_,_,_,_,o,_,_,e,_⟩:=x;exact Xc e
 |set S n=>obtain⟨o,_,_,_,e,_⟩:=x;exact Xc e
 |ins C dx fs=>obtain⟨_,_,_,e,_⟩:=x;exact Xc e
 |own y=>obtain⟨_,e⟩:=x;exact Xc e
 |xd fs=>obtain⟨_,⟨_,_,_,e,_⟩,_⟩:=x;exact Xc e
 |rng lo hi=>obtain⟨_,_,_,e⟩:=x;exact Xc e
 |frz ob u=>obtain⟨e,_⟩:=x;exact Xc e
 |tbl ps=>exact Xc (show h.get? a=some _ from x)
 |met f y=>exact Xc (show h.get? a=some _ from x)
 |ext φ=>obtain⟨_,⟨_,e⟩,_⟩:=x;exact Xc e
theorem Xz.mapP{G:α->β->Prop}:∀{JH:List α}{l₂:List β},Xz F JH l₂->(∀a b,F a b->G a b)->Xz G JH l₂
 |_,_,.nil,_=>.nil
 |_,_,.cons r t,f=>.cons (f _ _ r) (Xz.mapP t f)
theorem ObjOk.stay(x:ObjOk P w H h a o)(k:∀b u,(b=a\/H b=some (.own a))->h.get? b=some u->h'.get? b=some u)
 (ho:∀b,H b=some (.own a)->H' b=some (.own a)) (ht:∀b xs,H b=some (.tup xs)->H' b=some (.tup xs)):ObjOk P w H' h' a o:=by
 induction o with
 |lst xs=>obtain⟨z,its,n,r,e⟩:=x;exact⟨z,its,n,r,k _ _ (.inl rfl) e⟩
 |tup xs=>obtain⟨z,its,n,r,e⟩:=x;exact⟨z,its,n,r,k _ _ (.inl rfl) e⟩
 |dK kvs=>obtain⟨z,y,vs,r,ob,es,ep,e,c⟩:=x;exact⟨z,y,vs,r,ob,es,ep,k _ _ (.inl rfl) e,c⟩
 | dT kvs =>
   obtain⟨z,y,xs,r,ob,es,ep,e,c⟩:=x;exact⟨z,y,xs,Xz.mapP r λp q z=>⟨z.1,ht _ _ z.2.1,z.2.2⟩,ob,es,ep,k _ _ (.inl rfl) e,c⟩
 |set S n=>obtain⟨ob,es,ep,t,e,c⟩:=x;exact⟨ob,es,ep,t,k _ _ (.inl rfl) e,c⟩
 | ins C dx fs =>
   obtain⟨d,z,ne,e,mA,⟨od,es,ep,e2,c⟩,r⟩:=x;exact⟨ho _ d,z,ne,k _ _ (.inl rfl) e,mA,⟨od,es,ep,k _ _ (.inr d) e2,c⟩,r⟩
 |own y=>obtain⟨ob,e⟩:=x;exact⟨ob,k _ _ (.inl rfl) e⟩
 |xd fs=>obtain⟨mA,⟨od,es,ep,e,c⟩,r⟩:=x;exact⟨mA,⟨od,es,ep,k _ _ (.inl rfl) e,c⟩,r⟩
 |rng lo hi=>obtain⟨t,u,v,e⟩:=x;exact⟨t,u,v,k _ _ (.inl rfl) e⟩
 |frz ob u ih=>obtain⟨e,q⟩:=x;exact⟨k _ _ (.inl rfl) e,ih q⟩
 | tbl ps =>
   have e:h.get? a=some {cls:=.none,data:=.fields ps}:=x;show h'.get? a=some {cls:=.none,data:=.fields ps};exact k a _ (.inl rfl) e
 | met f y =>
   have e:h.get? a=some (PySem.W.methodObj (.ref f) (.ref y)):=x;show h'.get? a=some (PySem.W.methodObj (.ref f) (.ref y));exact k a _ (.inl rfl) e
 |ext φ=>obtain⟨p,⟨o,e⟩,st⟩:=x;exact⟨st _ _ p λo q=>k _ _ (.inl rfl) q,⟨o,k _ _ (.inl rfl) e⟩,st⟩
theorem HOk.lt(x:HOk P w H h)(e:H a=some o):a<h.objs.size:=(x a o e).lt
theorem HOk.fresh(x:HOk P w H h)(e:h.objs.size<=a):H a=none:=by
 cases q:H a with
 |none=>rfl
 |some u=>exact g! (Xy (x.lt q) e) (Yo _)
theorem HOk.kept(x:HOk P w H h)(k:∀b u,h.get? b=some u->h'.get? b=some u):HOk P w H h':=λa o e =>
 (x a o e).stay (λb u _ q=>k b u q) (λ_ q=>q) λ_ _ q=>q
theorem HOk.laid(x:HOk P w H h)(k:∀b u,h.get? b=some u->h'.get? b=some u)(hp:h.objs.size<=a)(new:ObjOk P w (upd H a o) h' a o):HOk P w (upd H a o) h':=λb u e=>by
 have hn:=x.fresh hp;by_cases hb:b=a
 .subst hb;rw[ad]at e;cases e;exact new
 .rw[af hb]at e;exact(x b u e).stay (λc v _ q=>k c v q) (λc q=>by rw[af (ar q hn)];exact q) λc xs q=>by rw[af (ar q hn)];exact q
end
def Rd(H:Hp)(a:WT)(u:HO):Prop:=H a=some u\/∃o,H a=some (.frz o u)
theorem Rd.ok{H:Hp}{u:HO}(r:Rd H a u)(x:HOk P w H h):ObjOk P w H h a u:=by
 rcases r with r|⟨o,r⟩
 .exact x a u r
 .obtain⟨_,q⟩:=x a _ r;exact q
def Mut:Option HO->Prop
 |some (.lst _)=>True
 |some (.dK _)=>True
 |some (.dT _)=>True
 |some (.set _ _)=>True
 |some (.ins _ _ _)=>True
 |some (.ext _)=>True
 |_=>False
section
variable{H:Hp}{x e:WT}{o':HO}
theorem HOk.write(ok:HOk P w H h)(mu:Mut (H x))(he:e=x\/H e=some (.own x))(k:∀b u,b≠e->h.get? b=some u->h'.get? b=some u)(II:∃u,h'.get? e=some u)
 (new:ObjOk P w (upd H x o') h' x o'):HOk P w (upd H x o') h':=λb u q=>by
 have JI:∀c y,H c=some (.own y)->c≠x:=λc y r z=>by subst z;rw[r]at mu;exact mu
 have NF:∀c xs,H c=some (.tup xs)->c≠x:=λc xs r z=>by subst z;rw[r]at mu;exact mu
 by_cases hb:b=x
 .subst hb;rw[ad]at q;cases q;exact new
 .rw[af hb]at q;by_cases Fn:b=e
  .have q':H b=some (.own x):=by
    rcases he with z|z
    .exact g! (Fn.trans z) hb
    .rw[Fn];exact z
   rw[q]at q';cases q';obtain⟨v,hv⟩:=II;exact⟨v,by rw[Fn];exact hv⟩
  .refine(ok b u q).stay (λc v hc r=>k c v ?_ r) (λc r=>by rw[af (JI c b r)];exact r) λc xs r=>by rw[af (NF c xs r)];exact r
   rcases hc with rfl|hc
   .exact Fn
   .rintro rfl;rcases he with z|z
    .exact JI c b hc z
    .rw[hc]at z;cases z;exact hb rfl
end
structure Un(fs ex:List WT)(H H':Hp)(h h':X4):Prop where
 keep:∀b o,h.get? b=some o->H b=none->b∉fs->b∉ex->h'.get? b=some o
 slot:∀b o,h.get? b=some o->H b=none->b∈fs->b∉ex->∃sl,h'.get? b=some {o with slots:=sl}
 free:∀b o,h.get? b=some o->H b=none->b∉ex->H' b=none
 there:∀b o,h.get? b=some o->b∉ex->∃o',h'.get? b=some o'
 tups:∀b xs,H b=some (.tup xs)->H' b=some (.tup xs)
 frzs:∀b o u,H b=some (.frz o u)->H' b=some (.frz o u)
 tbls:∀b ps,H b=some (.tbl ps)->∃more,H' b=some (.tbl (ps++more))
section
variable{fs Va ex ex':List WT}{H H1 H2:Hp}{h1 h2:X4}{x e:WT}{o:HO}
theorem Un.any(u:Un fs ex H H1 h h1){ob:YF}(q:h.get? b=some ob)(n:H b=none)(hx:b∉ex):∃sl,h1.get? b=some {ob with slots:=sl}:=by
 by_cases hb:b∈fs
 .exact u.slot b ob q n hb hx
 .exact⟨ob.slots,u.keep b ob q n hb hx⟩
theorem Un.kept(k:∀b u,h.get? b=some u->h'.get? b=some u):Un fs ex H H h h' :=
 ⟨λb ob q _ _ _=>k b ob q,λb ob q _ _ _=>⟨ob.slots,k b ob q⟩,λ_ _ _ n _=>n,λb ob q _=>⟨ob,k b ob q⟩,λ_ _ q=>q,λ_ _ _ q=>q,λ_ ps q=>⟨#[],by rw[q];simp⟩⟩
theorem Un.refl:Un fs ex H H h h:=Un.kept λ_ _ q=>q
theorem Un.laid(k:∀b u,h.get? b=some u->h'.get? b=some u)(hp:h.objs.size<=a)(hn:H a=none):Un fs ex H (upd H a o) h h' where
 keep:=λb u q _ _ _=>k b u q
 slot:=λb u q _ _ _=>⟨u.slots,k b u q⟩
 free:=λb u q n _=>by rw[af (XG (Xy (Xc q) hp))];exact n
 there:=λb u q _=>⟨u,k b u q⟩
 tups:=λb xs q=>by rw[af (ar q hn)];exact q
 frzs:=λb u xs q=>by rw[af (ar q hn)];exact q
 tbls:=λb ps q=>⟨#[],by rw[af (ar q hn),q];simp⟩
theorem Un.write(mu:Mut (H x))(he:e=x\/H e=some (.own x))(k:∀b u,b≠e->h.get? b=some u->h'.get? b=some u)(II:∃u,h'.get? e=some u):Un fs ex H (upd H x o) h h':=by
 have hx:∀b,H b=none->b≠x:=λb n z=>by subst z;rw[n]at mu;exact mu
 have hb:∀b,H b=none->b≠e:=λb n z=>by
  subst z;rcases he with r|r
  .exact hx b n r
  .rw[n]at r;cases r
 have hm:∀b u,H b=some u->¬Mut (some u)->b≠x:=λb u q nm z=>by subst z;rw[q]at mu;exact nm mu
 refine⟨λb u q n _ _=>k b u (hb b n) q,λb u q n _ _=>⟨u.slots,k b u (hb b n) q⟩,λb u q n _=>by rw[af (hx b n)];exact n,λb u q _=>?_,
  λb xs q=>by rw[af (hm b _ q λz=>z)];exact q,λb u xs q=>by rw[af (hm b _ q λz=>z)];exact q,λb ps q=>⟨#[],by rw[af (hm b _ q λz=>z),q];simp⟩⟩
 by_cases Fn:b=e
 .subst Fn;exact II
 .exact⟨u,k b u Fn q⟩
end
def trk(h:X4)(H:Hp):List WT:=(Yn h.objs.size).filter λa=>(H a).isSome
def lT(h:X4)(H:Hp):X4:=PySem.W.hideAll h (trk h H)
theorem sY(h:X4)(H:Hp):(lT h H).objs.size=h.objs.size:=PySem.W.hideAll_size _ _
theorem tZ{H:Hp}{o:YF}(e:h.get? b=some o)(n:H b=none):(lT h H).get? b=some o :=
 PySem.W.hideAll_get _ e λhm=>by
  have q:(H b).isSome=true:=(ZU.mp hm).2;rw[n]at q;simp at q
theorem wz{H:Hp}{o:YF}(e:(lT h H).get? b=some o):h.get? b=some o/\H b=none:=by
 have e':h.get? b=some o:=PySem.W.of_hideAll (trk h H) e;refine⟨e',?_⟩;cases q:H b with
 |none=>rfl
 | some x =>
   have hm:b∈trk h H:=ZU.mpr ⟨ZK.mpr (Xc e'),by simp[q]⟩;have z:(lT h H).get? b=none:=PySem.W.hideAll_none (trk h H) hm;rw[z]at e;cases e
end L2
open L2.V renaming ref->i!,int->o!,str->H!
variable{o:L2.HO}{xs:List L2.V}{H H' H1 H2 H4:L2.Hp}{v y:L2.V}{kvs Be:List (List L2.Key×L2.V)}{fin:WT->L2.Hp->Prop}{kv:L2.Key×L2.V}
namespace L2
open PySem PySem.Spec PyProof.Rows
structure Mod(K:WX)(mg:Xk->Option WW)(base:X4):Prop where
 kin:K.In base
 glob:base.Ns Xv mg
 blt:∃mb,base.Ns builtinsNs mb/\∀x:Xk,x≠"__name__"->mb x=bootBuiltins x
 nolimit:base.NoLimit
set_option genInjectivity true in
structure Cx where
 prog:Xm
 w:XD
 K:WX
 mg:Xk->Option WW
 base:X4
 A:XN
 N:List Xk
 s₀:W3
 H₀:Hp
 env:Env
 outer:List Env
 stack:List Env
 ex:List WT
 fn:Xk->Bool
 calm:Bool
 pn:List (WT×YF)
 xe:WW->W3->Prop
def frs(l:List Env):List WT:=l.filterMap (·.frame)
abbrev Cx.fs(X:Cx):List WT:=frs X.outer
def Vis(sc:ZN)(x:Xk):Prop:=sc.names.lookup x=some .local\/sc.names.lookup x=some .cell\/sc.names.lookup x=some .free
def Loc(sc:ZN)(x:Xk):Prop:=sc.names.lookup x=some .local\/sc.names.lookup x=some .cell
def Look(env:Env)(h:X4)(m:Xk->Option WW)(x:Xk)(u:WW):Prop :=
 (env.kindOf x=some .local/\m x=some u)\/((env.kindOf x=some .cell\/env.kindOf x=some .free)/\∃c,env.cells.lookup x=some c/\h.IsCell c (some u))
structure Cx.Ok(X:Cx):Prop where
 mod:Mod X.K X.mg X.base
 kind:X.env.scope.kind=.function
 glob:X.env.globals=Xv
 blt:X.env.builtins=builtinsNs
 above:X.s₀.heap.1.size<=X.env.locals
 inj:∀x y c,X.env.cells.lookup x=some c->X.env.cells.lookup y=some c->x=y
 has:∀x,(X.env.kindOf x=some .cell\/X.env.kindOf x=some .free)->∃c,X.env.cells.lookup x=some c
 cab:∀x c,X.fn x=true->X.env.cells.lookup x=some c->X.s₀.heap.1.size<=c
 hd:X.calm=true->X.A.handled=none
 frames:X.A.frames=some X.stack
 stk:X.stack=X.outer\/(X.stack=X.env::X.outer/\X.env.frame=some X.env.locals)
 exf:∀b∈X.ex,b≠X.env.locals/\∀x c,X.env.cells.lookup x=some c->c≠b
 bs:∀b o,X.base.get? b=some o->X.s₀.heap.get? b=some o/\X.H₀ b=none
 bsz:X.base.objs.size<=X.s₀.heap.1.size
 noex:∀b o,X.base.get? b=some o->b∉X.ex
 exfs:∀b∈X.ex,b∉X.fs
 funs:X.s₀.heap.FunFrames X.base X.outer
 frf:∀b∈X.fs,X.H₀ b=none
structure Inv(X:Cx)(Z:List (WT×YF))(Y:List (Option V))(H:Hp)(s:W3):Prop where
 ok:X.Ok
 os:s.os=X.s₀.os
 bare:AllBare s.gens
 base:Un X.fs X.ex X.H₀ H X.s₀.heap s.1
 loc:∃m,s.1.Ns X.env.locals m/\∀(i:Nat)(x:Xk)(v:V),X.N[i]?=some x->Y[i]?=some (some v)->Vis X.env.scope x->∃u,RelV v u/\Look X.env s.1 m x u
 cell:∀x c,X.env.cells.lookup x=some c->∃v,s.1.IsCell c v
 free:H X.env.locals=none
 freeC:∀x c,X.env.cells.lookup x=some c->H c=none
 pin:∀p∈X.pn++Z,s.1.get? p.1=some p.2/\H p.1=none/\p.1≠X.env.locals/\p.1∉X.fs/\∀v,p.2.data≠.cell v
 hok:HOk X.prog X.w H s.1
 len:Y.length=X.N.length
section
variable{X:Cx}{Y:List (Option V)}
theorem Cx.Ok.nofr(ok:X.Ok){o:YF}(e:X.base.get? b=some o):b∉X.fs:=λhb=>by
 have:=(ok.funs.mem hb).1;rw[e]at this;cases this
theorem Inv.bs(I:Inv X Z Y H s):∀b o,X.base.get? b=some o->s.1.get? b=some o/\H b=none:=λb o e =>
 ⟨I.base.keep b o (I.ok.bs b o e).1 (I.ok.bs b o e).2 (I.ok.nofr e) (I.ok.noex b o e),I.base.free b o (I.ok.bs b o e).1 (I.ok.bs b o e).2 (I.ok.noex b o e)⟩
theorem Inv.bk(I:Inv X Z Y H s):∀b o,X.base.get? b=some o->s.1.get? b=some o:=λb o e=>(I.bs b o e).1
theorem Inv.mod(I:Inv X Z Y H s):Mod X.K X.mg X.base:=I.ok.mod
theorem Inv.kIn(I:Inv X Z Y H s):X.K.In s.1:=I.ok.mod.kin.keeps I.bk
theorem Inv.lt(I:Inv X Z Y H s):X.env.locals<s.1.1.size:=let⟨_,hn,_⟩:=I.loc;hn.lt
theorem Inv.sz(I:Inv X Z Y H s):X.s₀.heap.1.size<=s.1.1.size:=XS I.ok.above (Za I.lt)
theorem Inv.nofs(I:Inv X Z Y H s)(h:s.1.1.size<=a):a∉X.fs:=λhb=>by
 obtain⟨_,o,ho,_⟩:=I.ok.funs.mem hb;exact g! (Xy (Xc ho) (XS I.sz h)) (Yo _)
theorem Inv.cne(I:Inv X Z Y H s):∀x c,X.env.cells.lookup x=some c->c≠X.env.locals:=λx c e z=>by
 obtain⟨v,o,ho,hd⟩:=I.cell x c e;obtain⟨m,⟨o',es,ep,Cc,JJ,_⟩,_⟩:=I.loc;rw[z,Cc]at ho;cases ho;rw[JJ]at hd;cases hd
theorem Inv.funs(I:Inv X Z Y H s):s.1.FunFrames X.base X.outer:=by
 have all:∀(l:List Env),(∀b∈frs l,b∈X.fs)->X.s₀.heap.FunFrames X.base l->s.1.FunFrames X.base l:=by
  intro l;induction l with
  |nil=>intro _ _;trivial
  | cons env r ih =>
    intro hs hl;obtain⟨hk,⟨L,o,hf,hn,ho,hd⟩,hr⟩:=hl;have hL:L∈X.fs:=hs L (by unfold frs;rw[ZG,hf];exact WY);obtain⟨sl,e⟩:=I.base.slot L o ho (I.ok.frf L hL) hL λz=>I.ok.exfs L z hL;exact⟨hk,⟨L,_,hf,hn,e,hd⟩,ih (λb hb=>hs b (by unfold frs;rw[ZG,hf];exact WQ _ hb)) hr⟩
 exact all X.outer (λ_ hb=>hb) I.ok.funs
theorem Inv.stack(I:Inv X Z Y H s):s.1.FunFrames X.base X.stack:=by
 rcases I.ok.stk with e|⟨e,hf⟩
 .rw[e];exact I.funs
 .rw[e];obtain⟨m,hn,_⟩:=I.loc;refine .cons (by rw[I.ok.kind];decide) hf hn ?_ I.funs;exact Heap.get?_none_of_le (XS I.ok.bsz I.ok.above)
theorem Inv.stkSub(I:Inv X Z Y H s):∀b∈frs X.stack,b∈X.env.locals::X.fs:=λb hb=>by
 rcases I.ok.stk with e|⟨e,hf⟩
 .rw[e]at hb;exact WQ _ hb
 .rw[e]at hb;unfold frs at hb;rw[ZG,hf]at hb;exact hb
theorem Inv.stkFree(I:Inv X Z Y H s):∀b∈frs X.stack,H b=none:=λb hb=>by
 rcases Xb.mp (I.stkSub b hb)with e|hb
 .rw[e];exact I.free
 .obtain⟨_,o,ho,_⟩:=I.ok.funs.mem hb;exact I.base.free b o ho (I.ok.frf b hb) λz=>I.ok.exfs b z hb
theorem Inv.step{g':Array GenState}{d':Drawn}(I:Inv X Z Y H s)
 (C3:∀b∈ch,(b∈X.ex\/X.s₀.heap.1.size<=b)/\b≠X.env.locals/\(∀x c,X.env.cells.lookup x=some c->c≠b)/\∀p∈X.pn++Z,p.1≠b)
 (keep:∀b o,b≠X.env.locals->b∉X.fs->b∉ch->s.1.get? b=some o->H b=none->h'.get? b=some o)
 (slot:∀b o,b≠X.env.locals->b∈X.fs->b∉ch->s.1.get? b=some o->H b=none->∃sl,h'.get? b=some {o with slots:=sl}) (free:∀b o,b∉ch->s.1.get? b=some o->H b=none->H' b=none)
 (there:∀b o,b∉ch->s.1.get? b=some o->∃o',h'.get? b=some o')
 (tups:∀b xs,H b=some (.tup xs)->H' b=some (.tup xs)) (frzs:∀b o u,H b=some (.frz o u)->H' b=some (.frz o u)) (tbls:∀b ps,H b=some (.tbl ps)->∃more,H' b=some (.tbl (ps++more)))
 (ns:∀m,s.1.Ns X.env.locals m->h'.Ns X.env.locals m) (hok:HOk X.prog X.w H' h') (hg:AllBare g') :
 Inv X Z Y H' {s with heap:=h',gens:=g',drawn:=d',toks:=t'}:=by
 have IJ:∀b o,X.s₀.heap.get? b=some o->b≠X.env.locals:=λb o e=>XG (Xy (Xc e) I.ok.above)
 have Mv:∀b o,X.s₀.heap.get? b=some o->b∉X.ex->b∉ch:=λb o e hx hb=>by
  rcases(C3 b hb).1 with z|z
  .exact hx z
  .exact g! (Xy (Xc e) z) (Yo _)
 have cellK:∀x c,X.env.cells.lookup x=some c->∀v,s.1.IsCell c v->h'.IsCell c v:=λx c e v⟨o,ho,hd⟩=>by
  have JK:c∉ch:=λz=>(C3 c z).2.2.1 x c e rfl;by_cases hc:c∈X.fs
  .obtain⟨sl,q⟩:=slot c o (I.cne x c e) hc JK ho (I.freeC x c e);exact⟨_,q,hd⟩
  .exact⟨o,keep c o (I.cne x c e) hc JK ho (I.freeC x c e),hd⟩
 refine⟨I.ok,I.os,hg,⟨λb o e n hb hx=>?_,λb o e n hb hx=>?_,λb o e n hx=>?_,λb o e hx=>?_,λb xs e=>tups b xs (I.base.tups b xs e),λb o xs e=>frzs b o xs (I.base.frzs b o xs e),λb ps e=>?_⟩,?_,λx c e=>?_,?_,λx c e=>?_,λp hp=>?_,hok,I.len⟩
 .exact keep b o (IJ b o e) hb (Mv b o e hx) (I.base.keep b o e n hb hx) (I.base.free b o e n hx)
 .obtain⟨sl,e1⟩:=I.base.slot b o e n hb hx;obtain⟨NG,e2⟩:=slot b _ (IJ b o e) hb (Mv b o e hx) e1 (I.base.free b o e n hx);exact⟨NG,e2⟩
 .obtain⟨o',e1⟩:=I.base.there b o e hx;exact free b o' (Mv b o e hx) e1 (I.base.free b o e n hx)
 .obtain⟨o',e1⟩:=I.base.there b o e hx;exact there b o' (Mv b o e hx) e1
 .obtain⟨m1,e1⟩:=I.base.tbls b ps e;obtain⟨m2,e2⟩:=tbls b _ e1;exact⟨m1++m2,by rw[e2,Array.append_assoc]⟩
 .obtain⟨m,hn,hl⟩:=I.loc;refine⟨m,ns m hn,λi x v e1 e2 e3=>?_⟩;obtain⟨u,r,l⟩:=hl i x v e1 e2 e3;refine⟨u,r,?_⟩;rcases l with l|⟨k,c,e,z⟩
  .exact .inl l
  .exact .inr ⟨k,c,e,cellK x c e _ z⟩
 .obtain⟨v,z⟩:=I.cell x c e;exact⟨v,cellK x c e v z⟩
 .obtain⟨m,⟨o,_,_,ho,_⟩,_⟩:=I.loc;exact free _ o (λz=>(C3 _ z).2.1 rfl) ho I.free
 .obtain⟨v,o,ho,hd⟩:=I.cell x c e;exact free c o (λz=>(C3 c z).2.2.1 x c e rfl) ho (I.freeC x c e)
 .obtain⟨e,n,ne,nf,d⟩:=I.pin p hp;have JK:p.1∉ch:=λz=>(C3 p.1 z).2.2.2 p hp rfl;exact⟨keep p.1 p.2 ne nf JK e n,free p.1 p.2 JK e n,ne,nf,d⟩
theorem Inv.un(I:Inv X Z Y H s)(u:Un X.fs [] H H' s.1 h')(hok:HOk X.prog X.w H' h'):Inv X Z Y H' {s with heap:=h',toks:=t'}:=by
 obtain⟨m,⟨o,es,ep,ho,r⟩,_⟩:=id I.loc;obtain⟨sl,hL⟩:=u.any ho I.free (by simp)
 exact I.step (g':=s.gens) (d':=s.drawn) (ch:=[]) (λ_ z=>nomatch z) (λb o _ hb _ e n=>u.keep b o e n hb (by simp)) (λb o _ hb _ e n=>u.slot b o e n hb (by simp)) (λb o _ e n=>u.free b o e n (by simp)) (λb o _ e=>u.there b o e (by simp)) u.tups u.frzs u.tbls (λm' hm=>by
  obtain⟨o',Gr,Gs,Cc,r'⟩:=hm;rw[ho]at Cc;cases Cc;exact⟨_,Gr,Gs,hL,r'⟩) hok I.bare
theorem Inv.call{g':Array GenState}{d':Drawn}(I:Inv X Z Y H s)(u:Un (frs X.stack) ch H H' s.1 h')(hok:HOk X.prog X.w H' h')(hg:AllBare g')
 (C3:∀b∈ch,(b∈X.ex\/X.s₀.heap.1.size<=b)/\b≠X.env.locals/\(∀x c,X.env.cells.lookup x=some c->c≠b)/\∀p∈X.pn++Z,p.1≠b) :
 Inv X Z Y H' {s with heap:=h',gens:=g',drawn:=d',toks:=t'}:=by
 obtain⟨m,⟨o,es,ep,ho,r⟩,_⟩:=id I.loc;obtain⟨sl,hL⟩:=u.any ho I.free λz=>(C3 _ z).2.1 rfl
 exact I.step (ch:=ch) C3 (λb o hL hb hc e n=>u.keep b o e n (λz=>(Xb.mp (I.stkSub b z)).elim hL hb) hc) (λb o _ _ hc e n=>u.any e n hc) (λb o hc e n=>u.free b o e n hc) (λb o hc e=>u.there b o e hc) u.tups u.frzs u.tbls (λm' hm=>by
  obtain⟨o',Gr,Gs,Cc,r'⟩:=hm;rw[ho]at Cc;cases Cc;exact⟨_,Gr,Gs,hL,r'⟩) hok hg
theorem Inv.turned(I:Inv X Z Y H s)(k:∀b o,b≠it->s.1.get? b=some o->h'.get? b=some o)(hn:H it=none)(hL:it≠X.env.locals)
 (h1:it∈X.ex\/X.s₀.heap.1.size<=it) (h2:∀x c,X.env.cells.lookup x=some c->c≠it) (h3:∀p∈X.pn++Z,p.1≠it):Inv X Z Y H {s with heap:=h',toks:=t'}:=by
 have JL:∀b u,H b=some u->b≠it:=λb u e z=>by rw[z,hn]at e;cases e
 refine I.step (g':=s.gens) (d':=s.drawn) (ch:=[it]) (λb hb=>?_) (λb o _ _ hc e _=>k b o (λz=>hc (by simp[z])) e) (λb o _ _ hc e _=>⟨o.slots,k b o (λz=>hc (by simp[z])) e⟩) (λ_ _ _ _ n=>n)
  (λb o hc e=>⟨o,k b o (λz=>hc (by simp[z])) e⟩) (λ_ _ e=>e) (λ_ _ _ e=>e) (λb ps e=>⟨#[],by rw[e];simp⟩) (λm hm=>?_) (λb u e=>?_) I.bare
 .have e:b=it:=by simpa using hb
  subst e;exact⟨h1,hL,h2,h3⟩
 .obtain⟨o,es,ep,ho,r⟩:=hm;exact⟨o,es,ep,k _ o (Zm hL) ho,r⟩
 .refine(I.hok b u e).stay (λc v hc q=>k c v ?_ q) (λ_ q=>q) λ_ _ q=>q;rcases hc with z|z
  .rw[z];exact JL b u e
  .exact JL c _ z
theorem Inv.tok(I:Inv X Z Y H s)(t:Nat):Inv X Z Y H {s with toks:=t}:=I.un (h':=s.1) (t':=t) Un.refl I.hok
theorem Inv.kept(I:Inv X Z Y H s)(k:∀b u,s.1.get? b=some u->h'.get? b=some u):Inv X Z Y H {s with heap:=h',toks:=t'}:=I.un (Un.kept k) (I.hok.kept k)
theorem Inv.laid(I:Inv X Z Y H s)(k:∀b u,s.1.get? b=some u->h'.get? b=some u)(hp:s.1.1.size<=a)(new:ObjOk X.prog X.w (upd H a o) h' a o) :
 Inv X Z Y (upd H a o) {s with heap:=h',toks:=t'}:=I.un (Un.laid k hp (I.hok.fresh hp)) (I.hok.laid k hp new)
theorem Inv.write{x e:WT}(I:Inv X Z Y H s)(mu:Mut (H x))(he:e=x\/H e=some (.own x))(k:∀b u,b≠e->s.1.get? b=some u->h'.get? b=some u)(II:∃u,h'.get? e=some u)
 (new:ObjOk X.prog X.w (upd H x o) h' x o):Inv X Z Y (upd H x o) {s with heap:=h',toks:=t'}:=I.un (Un.write mu he k II) (I.hok.write mu he k II new)
theorem Inv.weak{i':List (Option V)}(I:Inv X Z Y H s)(hl:i'.length=Y.length)(w:∀(i:Nat)v,i'[i]?=some (some v)->Y[i]?=some (some v)):Inv X Z i' H s :=
 ⟨I.ok,I.os,I.bare,I.base,let⟨m,hn,DA⟩:=I.loc;⟨m,hn,λi x v e1 e2 e3=>DA i x v e1 (w i v e2) e3⟩,I.cell,I.free,I.freeC,I.pin,I.hok,hl.trans I.len⟩
theorem Inv.pins_of{Cd:List (WT×YF)}(I:Inv X Z Y H s)(h:∀p∈Cd,s.1.get? p.1=some p.2/\H p.1=none/\p.1≠X.env.locals/\p.1∉X.fs/\∀v,p.2.data≠.cell v):Inv X Cd Y H s :=
 ⟨I.ok,I.os,I.bare,I.base,I.loc,I.cell,I.free,I.freeC,λp hp=>(W7.mp hp).elim (λz=>I.pin p (Xi _ z)) (h p),I.hok,I.len⟩
theorem ko(hN:N.Nodup)(a:N[i]?=some x)(b:N[j]?=some x):i=j:=by
 obtain⟨h1,e1⟩:=Xw.mp a;obtain⟨h2,e2⟩:=Xw.mp b;exact(List.getElem_inj hN).mp (e1.trans e2.symm)
theorem mZ{Q:Unit->W3->Prop}(I:Inv X Z Y H s)(hN:X.N.Nodup)(hi:X.N[i]?=some x)(hx:Loc X.env.scope x)(r:RelV v u)
 (h:∀s',Inv X Z (Y.set i (some v)) H s'->(∃a,X5 a s.1 s'.1/\(a=X.env.locals\/X.env.cells.lookup x=some a))->Q () s') (hf:X.fn x=true\/X.env.scope.names.lookup x=some .local:=by first|exact .inl rfl|exact .inr rfl|assumption):Xd M A (storeName X.env x u) Q E s:=by
 obtain⟨m,hn,hl⟩:=id I.loc;have G5:(X.env.scope.kind == .class ||(X.env.scope.kind == .module && X.env.locals != X.env.globals))=false:=by rw[I.ok.kind];rfl
 have Eu:i<Y.length:=by rw[I.len];exact(glE hi)
 have cne:=I.cne
 have tracked:∀{a:WT}{h':X4},(∃o,s.1.get? a=some o/\H a=none)->X5 a s.1 h'->HOk X.prog X.w H h':=λ{a h'}ha hs b ob e=>by
  obtain⟨_,_,CG⟩:=ha;refine(I.hok b ob e).stay (λc w' hc q=>(hs.2 c ?_).trans q) (λ_ q=>q) λ_ _ q=>q;rintro rfl;rcases hc with rfl|hc
  .rw[CG]at e;cases e
  .rw[CG]at hc;cases hc
 rcases hx with hk|hk
 .refine wpAny_storeName_local hk hn (λh' IK hs=>?_) G5;obtain⟨oL,_,_,Ss,_⟩:=id hn;refine h _ ⟨I.ok,I.os,I.bare,⟨λb o e n hb hx=>?_,λb o e n hb hx=>?_,I.base.free,λb o e hx=>?_,I.base.tups,I.base.frzs,I.base.tbls⟩,⟨_,IK,λj y v' e1 e2 e3=>?_⟩,λy c e=>?_,I.free,I.freeC,λp hp=>?_,tracked ⟨oL,Ss,I.free⟩ hs,by simpa using I.len⟩ ⟨_,hs,.inl rfl⟩
  .exact(hs.2 b (XG (Xy (Xc e) I.ok.above))).trans (I.base.keep b o e n hb hx)
  .obtain⟨sl,e1⟩:=I.base.slot b o e n hb hx;exact⟨sl,(hs.2 b (XG (Xy (Xc e) I.ok.above))).trans e1⟩
  .obtain⟨o',e1⟩:=I.base.there b o e hx;exact⟨o',(hs.2 b (XG (Xy (Xc e) I.ok.above))).trans e1⟩
  .by_cases hj:j=i
   .subst hj;rw[hi]at e1;cases e1;rw[X2 Eu]at e2;cases e2;exact⟨u,r,.inl ⟨hk,by simp⟩⟩
   .rw[Yq (Zm hj)]at e2;obtain⟨u',r',q⟩:=hl j y v' e1 e2 e3;refine⟨u',r',?_⟩;rcases q with⟨k,e⟩|⟨k,c,e,z⟩
    .refine .inl ⟨k,?_⟩;have:y≠x:=λe=>hj (ko hN e1 (e ▸ hi));simp[this,e]
    .exact .inr ⟨k,c,e,z.sameBut hs (cne y c e)⟩
  .obtain⟨w',z⟩:=I.cell y c e;exact⟨w',z.sameBut hs (cne y c e)⟩
  .obtain⟨e,n,ne,nf,d⟩:=I.pin p hp;exact⟨(hs.2 p.1 ne).trans e,n,ne,nf,d⟩
 .have NH:X.fn x=true:=by
   rcases hf with z|z
   .exact z
   .rw[z]at hk;cases hk
  obtain⟨c,hc⟩:=I.ok.has x (.inl hk);obtain⟨w',z⟩:=I.cell x c hc;refine wpAny_storeName_cell I.ok.kind hk hc z (λh' BR hs=>?_);obtain⟨oc,Fo,NI⟩:=id z;refine h {s with heap:=h'} ⟨I.ok,I.os,I.bare,⟨λb o e n hb hx=>?_,λb o e n hb hx=>?_,I.base.free,λb o e hx=>?_,I.base.tups,I.base.frzs,I.base.tbls⟩,⟨m,hn.sameBut hs (Zm (cne x c hc)),λj y v' e1 e2 e3=>?_⟩,λy c' e=>?_,I.free,I.freeC,λp hp=>?_,tracked ⟨oc,Fo,I.freeC x c hc⟩ hs,by simpa using I.len⟩ ⟨c,hs,.inr hc⟩
  .exact(hs.2 b (XG (Xy (Xc e) (I.ok.cab x c NH hc)))).trans (I.base.keep b o e n hb hx)
  .obtain⟨sl,e1⟩:=I.base.slot b o e n hb hx;exact⟨sl,(hs.2 b (XG (Xy (Xc e) (I.ok.cab x c NH hc)))).trans e1⟩
  .obtain⟨o',e1⟩:=I.base.there b o e hx;exact⟨o',(hs.2 b (XG (Xy (Xc e) (I.ok.cab x c NH hc)))).trans e1⟩
  .by_cases hj:j=i
   .subst hj;rw[hi]at e1;cases e1;rw[X2 Eu]at e2;cases e2;exact⟨u,r,.inr ⟨.inl hk,c,hc,BR⟩⟩
   .rw[Yq (Zm hj)]at e2;obtain⟨u',r',q⟩:=hl j y v' e1 e2 e3;refine⟨u',r',?_⟩;rcases q with q|⟨k,c',e,z'⟩
    .exact .inl q
    .refine .inr ⟨k,c',e,z'.sameBut hs ?_⟩;rintro rfl;exact hj (ko hN e1 (I.ok.inj _ _ _ e hc ▸ hi))
  .by_cases Fp:c'=c
   .subst Fp;exact⟨_,BR⟩
   .obtain⟨w2,z2⟩:=I.cell y c' e;exact⟨w2,z2.sameBut hs Fp⟩
  .obtain⟨e,n,ne,nf,d⟩:=I.pin p hp;refine⟨(hs.2 p.1 ?_).trans e,n,ne,nf,d⟩;intro q;rw[q,Fo]at e;have q':oc=p.2:=Xf e;exact d w' (by rw[<-q'];exact NI)
theorem fV{Q:Unit->W3->Prop}(I:Inv X Z Y H s)(hN:X.N.Nodup)(hi:X.N[i]?=some x)(hx:Loc X.env.scope x)(r:RelV v u)
 (h:∀s',Inv X Z (Y.set i (some v)) H s'->Q () s') (hf:X.fn x=true\/X.env.scope.names.lookup x=some .local:=by first|exact .inl rfl|exact .inr rfl|assumption):Xd M A (storeName X.env x u) Q E s :=
 mZ I hN hi hx r (λs' I' _=>h s' I') hf
theorem Inv.call'(I:Inv X Z Y H s)(ho:s'.os=s.os)(u:Un (frs X.stack) ch H H' s.1 s'.1)(hok:HOk X.prog X.w H' s'.1)(hg:AllBare s'.gens)
 (C3:∀b∈ch,(b∈X.ex\/X.s₀.heap.1.size<=b)/\b≠X.env.locals/\(∀x c,X.env.cells.lookup x=some c->c≠b)/\∀p∈X.pn++Z,p.1≠b):Inv X Z Y H' s':=by
 obtain⟨h',g',d',t',o'⟩:=s';have e:o'=s.os:=ho;subst e;exact I.call (g':=g') (t':=t') (d':=d') u hok hg C3
end
abbrev XK:=WW->Option WT->Hp->Prop
abbrev St:=List (Option V)
abbrev VK:=V->Hp->Prop
abbrev TE:=St->Hp->VK->Prop
abbrev TT:=St->Hp->(Bool->Hp->Prop)->Prop
abbrev TA:=St->Hp->(List V->Hp->Prop)->Prop
structure Ends where
 nx:St->Hp->Prop
 rt:VK
 bk:St->Hp->Prop:=λ_ _=>False
 ct:St->Hp->Prop:=λ_ _=>False
abbrev TS:=Ends->St->Hp->Prop
def EP(X:Cx)(Z:List (WT×YF))(Y:St)(Q:VK)(u:WW)(s':W3):Prop:=∃v H',Inv X Z Y H' s'/\RelV v u/\Q v H'
def TP(X:Cx)(Z:List (WT×YF))(Y:St)(Q:Bool->Hp->Prop)(b:Bool)(s':W3):Prop:=∃H',Inv X Z Y H' s'/\Q b H'
def AP(X:Cx)(Z:List (WT×YF))(Y:St)(Q:List V->Hp->Prop)(us:List WW)(s':W3):Prop:=∃vs H',Inv X Z Y H' s'/\Vals vs us/\Q vs H'
def SP(X:Cx)(Z:List (WT×YF))(D:Ends)(f:Flow)(s':W3):Prop :=
 match f with
 |.next=>∃i' H',Inv X Z i' H' s'/\D.nx i' H'
 |.brk=>∃i' H',Inv X Z i' H' s'/\D.bk i' H'
 |.cont=>∃i' H',Inv X Z i' H' s'/\D.ct i' H'
 |.ret u=>∃v i' H',Inv X Z i' H' s'/\RelV v u/\D.rt v H'
def PE(X:Cx)(e:XY)(t:TE):Prop :=
 ∀(Z:List (WT×YF))(s:W3)(Y:St)(H:Hp)(Q:VK),Inv X Z Y H s->t Y H Q->Xd (Xx X.prog X.w) X.A (YW e X.env) (EP X Z Y Q) X.xe s
def PT(X:Cx)(e:XY)(t:TT):Prop :=
 ∀(Z:List (WT×YF))(s:W3)(Y:St)(H:Hp)(Q:Bool->Hp->Prop),Inv X Z Y H s->t Y H Q->Xd (Xx X.prog X.w) X.A (isTrue e X.env (YW e X.env)) (TP X Z Y Q) X.xe s
def PW(X:Cx)(e:XY)(t:TT):Prop :=
 ∀(whole:Sem WW)(Z:List (WT×YF))(s:W3)(Y:St)(H:Hp)(Q:Bool->Hp->Prop),Inv X Z Y H s->t Y H Q->Xd (Xx X.prog X.w) X.A (isTrue e X.env whole) (TP X Z Y Q) X.xe s
theorem PW.pt{X:Cx}{t:TT}(h:PW X e t):PT X e t:=h _
def PA(X:Cx)(es:List XY)(t:TA):Prop :=
 ∀(pos:Pos)(Z:List (WT×YF))(s:W3)(Y:St)(H:Hp)(Q:List V->Hp->Prop),Inv X Z Y H s->t Y H Q->Xd (Xx X.prog X.w) X.A (spliced (ZD pos (XJ es X.env))) (AP X Z Y Q) X.xe s
def PS(X:Cx)(st:YA)(t:TS):Prop :=
 ∀(Z:List (WT×YF))(s:W3)(Y:St)(H:Hp)(D:Ends),Inv X Z Y H s->t D Y H->Xd (Xx X.prog X.w) X.A (exec st X.env) (SP X Z D) X.xe s
def PSs(X:Cx)(st:List YA)(t:TS):Prop :=
 ∀(Z:List (WT×YF))(s:W3)(Y:St)(H:Hp)(D:Ends),Inv X Z Y H s->t D Y H->Xd (Xx X.prog X.w) X.A (execs st X.env) (SP X Z D) X.xe s
theorem thn{t:Sem α}{Q Q':α->W3->Prop}(h:Xd M A t Q E s)(hQ:∀a s,Q a s->Q' a s):Xd M A t Q' E s:=YB h hQ λ_ _ x=>x
end L2
variable{tb:L2.TS}{X:L2.Cx}{Y:L2.St}{D:L2.Ends}{te tl:L2.TE}{tt:L2.TT}
namespace L2
open PySem PySem.Spec PyProof.Rows
section
inductive w4(i:Nat)(Y:St)(H:Hp)(Q:VK):Prop
 |mk (v:_) (Aq:Y[i]?=some (some v)) (Ar:Q v H):w4 i Y H Q
def bc(i:Nat):TE:=w4 i
def tC(v:V):TE:=λ_ H Q=>Q v H
theorem ve(hN:X.N[i]?=some x)(hv:Vis X.env.scope x)(hd:(x == ("__debug__":Xk))=false:=by decide)(Ck:(x == ("__classdict__":Xk))=false:=by decide):PE X (.Name x pos) (bc i):=by
 intro Z s Y H Q I h;obtain⟨v,e,h⟩:=h;obtain⟨m,hn,hl⟩:=I.loc;obtain⟨u,r,l⟩:=hl i x v hN e hv;have fin:EP X Z Y Q u s:=⟨v,H,I,r,h⟩;rcases l with⟨hk,hm⟩|⟨hk,c,hc,Av⟩
 .exact wpAny_Name (wpAny_loadName_local I.ok.kind hk hn hm fin) hd
 .rcases hk with hk|hk
  .exact wpAny_Name (wpAny_loadName_cell I.ok.kind hk hc Av fin) hd
  .exact wpAny_Name (wpAny_loadName_free I.ok.kind hk hc Av fin Ck) hd
theorem ai{i j pos}:PE X (.Constant (.int i) j pos) (tC (.int i)):=λ_ _ _ H _ I h=>wpAny_Constant_int ⟨.int i,H,I.tok _,⟨_,rfl⟩,h⟩
theorem oH{b j pos}:PE X (.Constant (.bool b) j pos) (tC (.bl b)):=λ_ _ _ H _ I h=>Constant_bool ⟨.bl b,H,I,rfl,h⟩
theorem t7{j pos}:PE X (.Constant .none j pos) (tC .non):=λ_ _ _ H _ I h=>Constant_none ⟨.non,H,I,rfl,h⟩
theorem cD{x j pos}:PE X (.Constant (.str x) j pos) (tC (.str x)):=λ_ _ _ H _ I h=>Calls.Constant_str ⟨.str x,H,I.tok _,⟨_,rfl⟩,h⟩
def Gl(X:Cx)(x:Xk):Prop:=X.env.kindOf x=some .globalImplicit
theorem gz(I:Inv X Z Y H s)(hg:Gl X x)(hm:X.mg x=some u)(h:Q u s)
 (hd:(x == ("__debug__":Xk))=false:=by decide):Xd (Xx X.prog X.w) X.A (YW (.Name x pos) X.env) Q E s :=
 Calls.Name_function_global I.ok.kind hg (Calls.loadGlobal_global (by rw[I.ok.glob];exact I.mod.glob.keeps I.bk) hm h) hd
theorem fR(I:Inv X Z Y H s)(hg:Gl X x)(hm:X.mg x=none)(hv:bootBuiltins x=some u)(h:Q u s)
 (hn:x≠"__name__":=by decide) (hd:(x == ("__debug__":Xk))=false:=by decide):Xd (Xx X.prog X.w) X.A (YW (.Name x pos) X.env) Q E s:=by
 obtain⟨mb,h1,h2⟩:=I.mod.blt;exact Calls.Name_function_global I.ok.kind hg (Calls.loadGlobal_builtin (by rw[I.ok.glob];exact I.mod.glob.keeps I.bk) hm (by rw[I.ok.blt];exact h1.keeps I.bk) ((h2 x hn).trans hv) h) hd
theorem cX(hg:Gl X x)(hm:X.mg x=some u)(r:RelV v u)(hd:(x == ("__debug__":Xk))=false:=by decide):PE X (.Name x pos) (tC v) :=
 λ_ _ _ H _ I h=>gz I hg hm ⟨v,H,I,r,h⟩ hd
theorem rL(hg:Gl X x)(hm:X.mg x=none)(hv:bootBuiltins x=some u)(r:RelV v u)(hn:x≠"__name__":=by decide)(hd:(x == ("__debug__":Xk))=false:=by decide):PE X (.Name x pos) (tC v) :=
 λ_ _ _ H _ I h=>fR I hg hm hv ⟨v,H,I,r,h⟩ hn hd
variable{a b:XY}{ta tb:TE}
def PC(X:Cx)(op:CmpOp)(a b:XY)(t:TE):Prop :=
 ∀(Z:List (WT×YF))(s:W3)(Y:St)(H:Hp)(Q:VK),Inv X Z Y H s->t Y H Q ->
   Xd (Xx X.prog X.w) X.A (YW a X.env) (λv l'=>Xd (Xx X.prog X.w) X.A (YW b X.env) (λu Bl=>Xd (Xx X.prog X.w) X.A (ZQ op v u) (EP X Z Y Q) X.xe Bl) X.xe l') X.xe s
def tB(t:TE):TT:=λY H Q=>t Y H λx H1=>∃c,x=.bl c/\Q c H1
theorem ol{t:TE}(h:PC X op a b t)(h1:behindInMarks op b=false:=by first|exact JM _ (by decide) (by decide)|rfl):PT X (.Compare a [op] [b] pos) (tB t):=by
 intro Z s Y H Q I hw;refine wpAny_isTrue_Compare1 (thn (h Z s Y H _ I hw) λv s1 h1=>thn h1 λu s2 h2=>thn h2 λc s3⟨x,H1,I1,r1,q1⟩=>?_) h1;obtain⟨d,rfl,q⟩:=q1;cases r1;exact wpAny_truthy_bool ⟨H1,I1,q⟩
variable{tA Mw:TT}{rest:List XY}
def aaa(t u:TT):TT:=λY H Q=>t Y H λc H1=>if c=true then u Y H1 Q else Q false H1
def tOr(t u:TT):TT:=λY H Q=>t Y H λc H1=>if c=true then Q true H1 else u Y H1 Q
theorem ir(ha:PT X a tA):PW X (.BoolOp .And [a] pos) tA:=by
 intro wh Z s Y H Q I h;refine isTrue_and (thn (ha Z s Y H Q I h) λc s1 e=>?_);cases c with
 |true=>exact isTrue_and_nil e
 |false=>exact e
theorem uY(ha:PT X a tA):PW X (.BoolOp .Or [a] pos) tA:=by
 intro wh Z s Y H Q I h;refine isTrue_or (thn (ha Z s Y H Q I h) λc s1 e=>?_);cases c with
 |false=>exact isTrue_or_nil e
 |true=>exact e
theorem ig(ha:PT X a tA)(hb:PW X (.BoolOp .And (b::rest) pos) Mw):PW X (.BoolOp .And (a::b::rest) pos) (aaa tA Mw):=by
 intro wh Z s Y H Q I h;refine isTrue_and (thn (ha Z s Y H _ I h) λc s1⟨H1,I1,q1⟩=>?_);cases c with
 |true=>exact hb wh Z s1 Y H1 Q I1 q1
 |false=>exact⟨H1,I1,q1⟩
theorem xj(ha:PT X a tA)(hb:PW X (.BoolOp .Or (b::rest) pos) Mw):PW X (.BoolOp .Or (a::b::rest) pos) (tOr tA Mw):=by
 intro wh Z s Y H Q I h;refine isTrue_or (thn (ha Z s Y H _ I h) λc s1⟨H1,I1,q1⟩=>?_);cases c with
 |true=>exact⟨H1,I1,q1⟩
 |false=>exact hb wh Z s1 Y H1 Q I1 q1
def zu(ta tb:TE):TE:=λY H Q=>ta Y H λx H1=>∃c,x=.bl c/\if c=true then tb Y H1 Q else Q (.bl false) H1
theorem xQ{op}{t:TE}(h:PE X a t):PE X (.BoolOp op [a] pos) t:=λZ s Y H Q I hw=>BoolOp_one (h Z s Y H Q I hw)
theorem yl(ha:PE X a ta)(hb:PE X (.BoolOp .And (b::rest) pos) tb):PE X (.BoolOp .And (a::b::rest) pos) (zu ta tb):=by
 intro Z s Y H Q I h;refine BoolOp_and (thn (ha Z s Y H _ I h) λv s1⟨x,H1,I1,r1,q1⟩=>?_);obtain⟨c,rfl,q1⟩:=q1;cases r1;refine wpAny_truthy_bool ?_;cases c with
 |true=>exact hb Z s1 Y H1 Q I1 q1
 |false=>exact⟨.bl false,H1,I1,rfl,q1⟩
end
def SqL(K:WX)(H:Hp)(a:WT)(xs:List V):Prop :=
 Rd H a (.lst xs) \/
  ∃(o:YF)(its:Array WW)(n:Nat),K.lookup a=some o/\o.cls=.type "list"/\o.dict=none/\o.data=.seq its n/\its.size<=Xh/\Vals xs its.toList
def SqT(K:WX)(H:Hp)(a:WT)(xs:List V):Prop :=
 Rd H a (.tup xs) \/
  ∃(o:YF)(its:Array WW)(n:Nat),K.lookup a=some o/\o.cls=.type "tuple"/\o.data=.seq its n/\its.size<=Xh/\Vals xs its.toList
def aac:WW->Option V
 |.none=>some .non
 |.bool b=>some (.bl b)
 |.int i _=>some (.int i)
 |.str x _=>some (.str x)
 |.bytes b _=>some (.byt b)
 |.float b _=>some (.flt b)
 |.ref a=>some (.ref a)
 |.type n=>some (.ty n)
 |_=>none
theorem RelV.abs{x:V}(r:RelV x u):aac u=some x:=by
 cases x with
 |non=>cases r;rfl
 |bl _=>cases r;rfl
 |int _=>obtain⟨t,rfl⟩:=r;rfl
 |str _=>obtain⟨t,rfl⟩:=r;rfl
 |byt _=>obtain⟨t,rfl⟩:=r;rfl
 |flt _=>obtain⟨t,rfl⟩:=r;rfl
 |ref _=>cases r;rfl
 |ty _=>cases r;rfl
theorem RelV.inj{x:V}(r:RelV x u)(q:RelV y u):x=y:=Xf (r.abs.symm.trans q.abs)
theorem Vals.inj:∀{xs ys:List V}{us:List WW},Vals xs us->Vals ys us->xs=ys
 |_,_,_,.nil,.nil=>rfl
 |_,_,_,.cons r t,.cons r' t'=>by rw[r.inj r',Vals.inj t t']
section
variable{ys:List V}
theorem SqL.of(h:H a=some (.lst xs)):SqL K H a xs:=.inl (.inl h)
theorem SqT.of(h:H a=some (.tup xs)):SqT K H a xs:=.inl (.inl h)
theorem Inv.list(I:Inv X Z Y H s)(h:SqL X.K H a xs):∃its:List WW,Vals xs its/\PlainL s.1 a its.toArray/\xs.length<=Xh:=by
 rcases h with h|⟨o,its,n,hk,hc,hd,hs,hz,r⟩
 .obtain⟨z,its,n,r,e⟩:=h.ok I.hok;exact⟨its,r,⟨_,n,e,rfl,rfl,rfl⟩,z⟩
 .refine⟨its.toList,r,⟨o,n,I.kIn a o hk,hc,hd,by simpa using hs⟩,?_⟩;have e:=r.length;simp only[Xp]at e;omega
theorem Inv.tuple(I:Inv X Z Y H s)(h:SqT X.K H a xs):∃its:List WW,Vals xs its/\IsTup s.1 a its.toArray/\xs.length<=Xh:=by
 rcases h with h|⟨o,its,n,hk,hc,hs,hz,r⟩
 .obtain⟨z,its,n,r,p⟩:=h.ok I.hok;exact⟨its,r,⟨_,p,rfl,n,rfl⟩,z⟩
 .refine⟨its.toList,r,⟨o,I.kIn a o hk,hc,n,by simpa using hs⟩,?_⟩;have e:=r.length;simp only[Xp]at e;omega
theorem Inv.list_inj(I:Inv X Z Y H s)(h:SqL X.K H a xs)(h':SqL X.K H a ys):xs=ys:=by
 obtain⟨its,r,⟨o,n,e,_,_,d⟩,_⟩:=I.list h;obtain⟨its',r',⟨o',n',e',_,_,d'⟩,_⟩:=I.list h';rw[e]at e';cases e';rw[d]at d';injection d' with d1 _;have:its=its':=by simpa using h! Array.toList d1
 subst this;exact r.inj r'
theorem Inv.tuple_inj(I:Inv X Z Y H s)(h:SqT X.K H a xs)(h':SqT X.K H a ys):xs=ys:=by
 obtain⟨its,r,⟨o,e,_,n,d⟩,_⟩:=I.tuple h;obtain⟨its',r',⟨o',e',_,n',d'⟩,_⟩:=I.tuple h';rw[e]at e';cases e';rw[d]at d';injection d' with d1 _;have:its=its':=by simpa using h! Array.toList d1
 subst this;exact r.inj r'
end
abbrev Cx.wish(X:Cx)(E:WW->W3->Prop):Cx:={X with xe:=E}
abbrev Cx.nox(X:Cx):Cx:=X.wish λ_ _=>False
theorem Cx.Ok.wish(ok:X.Ok)(E:WW->W3->Prop):(X.wish E).Ok :=
 ⟨ok.mod,ok.kind,ok.glob,ok.blt,ok.above,ok.inj,ok.has,ok.cab,ok.hd,ok.frames,ok.stk,ok.exf,ok.bs,ok.bsz,ok.noex,ok.exfs,ok.funs,ok.frf⟩
theorem Cx.Ok.unwish(ok:(X.wish E).Ok):X.Ok :=
 ⟨ok.mod,ok.kind,ok.glob,ok.blt,ok.above,ok.inj,ok.has,ok.cab,ok.hd,ok.frames,ok.stk,ok.exf,ok.bs,ok.bsz,ok.noex,ok.exfs,ok.funs,ok.frf⟩
theorem Inv.wish(I:Inv X Z Y H s)(E:WW->W3->Prop):Inv (X.wish E) Z Y H s:=⟨I.ok.wish E,I.os,I.bare,I.base,I.loc,I.cell,I.free,I.freeC,I.pin,I.hok,I.len⟩
theorem Inv.unwish(I:Inv (X.wish E) Z Y H s):Inv X Z Y H s:=⟨I.ok.unwish,I.os,I.bare,I.base,I.loc,I.cell,I.free,I.freeC,I.pin,I.hok,I.len⟩
theorem SP.unwish{f:Flow}(h:SP (X.wish E) Z D f s'):SP X Z D f s':=by
 cases f with
 |next=>obtain⟨i',H',I,q⟩:=h;exact⟨i',H',I.unwish,q⟩
 |brk=>obtain⟨i',H',I,q⟩:=h;exact⟨i',H',I.unwish,q⟩
 |cont=>obtain⟨i',H',I,q⟩:=h;exact⟨i',H',I.unwish,q⟩
 |ret u=>obtain⟨v,i',H',I,r,q⟩:=h;exact⟨v,i',H',I.unwish,r,q⟩
theorem PSs.nox{st:List YA}{t:TS}(h:PSs X.nox st t):PSs X st t:=λZ s Y H D I hw =>
 YB (h Z s Y H D (I.wish _) hw) (λ_ _ q=>q.unwish) λ_ _ z=>Ye z
section
variable{rest:List YA}{t u:TS}
def yC:TS:=λD Y H=>D.nx Y H
def tV(t u:TS):TS:=λD Y H=>t {D with nx:=u D} Y H
theorem bB:PSs X [] yC:=λ_ _ Y H _ I h=>wpAny_execs_nil ⟨Y,H,I,h⟩
theorem ag(h1:PS X st t)(h2:PSs X rest u):PSs X (st::rest) (tV t u):=by
 intro Z s Y H D I h;refine wpAny_execs_cons (thn (h1 Z s Y H {D with nx:=u D} I h) λf s1 q=>?_);cases f with
 | next =>
   obtain⟨i',H',I',q⟩:=q;exact h2 Z s1 i' H' D I' q
 |ret v=>exact q
 |brk=>exact q
 |cont=>exact q
theorem am(h1:PS X st t):PSs X [st] t:=by
 intro Z s Y H D I h;refine wpAny_execs_cons (thn (h1 Z s Y H D I h) λf s1 q=>?_);cases f with
 |next=>exact wpAny_execs_nil q
 |ret v=>exact q
 |brk=>exact q
 |cont=>exact q
theorem Inv.quiet(I:Inv X Z Y H s):interactive X.env=false:=by simp[interactive,I.ok.kind]
def w8(te:TE):TS:=λD Y H=>te Y H λ_ H1=>D.nx Y H1
theorem ba(he:PE X e te)(hs:swapsWith e none pos.line X.env=pure false:=by rfl):PS X (.Expr e pos) (w8 te):=by
 intro Z s Y H D I h;exact wpAny_Expr_any (thn (he Z s Y H _ I h) λv s1⟨x,H1,I1,r1,q1⟩=>⟨Y,H1,I1,q1⟩) I.quiet hs
def zK(te:TE):TS:=λD Y H=>te Y H D.rt
theorem aE(he:PE X e te):PS X (.Return (some e) pos) (zK te):=by
 intro Z s Y H D I h;exact wpAny_Return_some (thn (he Z s Y H _ I h) λv s1⟨x,H1,I1,r1,q1⟩=>⟨x,Y,H1,I1,r1,q1⟩)
def zc(c:TT)(t u:TS):TS:=λD Y H=>c Y H λb H1=>if b=true then t D Y H1 else u D Y H1
theorem cu{c:XY}{a b:List YA}{tc:TT}(hc:PT X c tc)(ha:PSs X a t)(hb:PSs X b u):PS X (.If c a b pos) (zc tc t u):=by
 intro Z s Y H D I h;refine wpAny_If (thn (hc Z s Y H _ I h) λd s1⟨H1,I1,q1⟩=>?_);cases d with
 |true=>exact ha Z s1 Y H1 D I1 q1
 |false=>exact hb Z s1 Y H1 D I1 q1
end
abbrev TG:=V->St->Hp->(St->Hp->Prop)->Prop
abbrev TGs:=List V->St->Hp->(St->Hp->Prop)->Prop
def PG(X:Cx)(target:XY)(t:TG):Prop :=
 ∀(Z:List (WT×YF))(s:W3)(Y:St)(H:Hp)(v:V)(u:WW)(Q:St->Hp->Prop),Inv X Z Y H s->RelV v u->t v Y H Q ->
   Xd (Xx X.prog X.w) X.A (assign target X.env u) (λ_ s'=>∃i' H',Inv X Z i' H' s'/\Q i' H') X.xe s
def PGs(X:Cx)(ts:List XY)(t:TGs):Prop :=
 ∀(Z:List (WT×YF))(s:W3)(Y:St)(H:Hp)(vs:List V)(us:List WW)(Q:St->Hp->Prop),Inv X Z Y H s->Vals vs us->t vs Y H Q ->
   Xd (Xx X.prog X.w) X.A (assignInOrder ((assignEach ts X.env).map (·.2)) us) (λ_ s'=>∃i' H',Inv X Z i' H' s'/\Q i' H') X.xe s
abbrev yg:=V->V->V->Hp->(Hp->Prop)->Prop
def zq(X:Cx)(t:yg):Prop :=
 ∀(Z:List (WT×YF))(s:W3)(Y:St)(H:Hp)(o i v:V)(ov iv u:WW)(Q:Hp->Prop),Inv X Z Y H s->RelV o ov->RelV i iv->RelV v u->t o i v H Q ->
   Xd (Xx X.prog X.w) X.A (setItem ov iv u) (λ_ s'=>∃H',Inv X Z Y H' s'/\Q H') X.xe s
abbrev TIp:=V->V->Hp->VK->Prop
def PIp(X:Cx)(op:Operator)(t:TIp):Prop :=
 ∀(Z:List (WT×YF))(s:W3)(Y:St)(H:Hp)(x y:V)(v u:WW)(Q:VK),Inv X Z Y H s->RelV x v->RelV y u->t x y H Q ->
   Xd (Xx X.prog X.w) X.A (inplaceOp op v u) (EP X Z Y Q) X.xe s
def az(i:Nat):TG:=λv Y H Q=>Q (Y.set i (some v)) H
theorem vR(hN:X.N.Nodup)(hi:X.N[i]?=some x)(hx:Loc X.env.scope x)(hf:X.fn x=true\/X.env.scope.names.lookup x=some .local:=by first|exact .inl rfl|exact .inr rfl|assumption):PG X (.Name x pos) (az i):=by
 intro Z s Y H v u Q I r h;exact wpAny_assign_Name (fV I hN hi hx r (λs' I'=>⟨_,H,I',h⟩) hf)
def qi:TGs:=λvs Y H Q=>vs=[]/\Q Y H
def fF(t:TG)(u:TGs):TGs:=λvs Y H Q=>∃v r,vs=v::r/\t v Y H λi' H'=>u r i' H' Q
theorem bS:PGs X [] qi:=by
 intro Z s Y H vs us Q I r h;obtain⟨e,h⟩:=h;subst e;cases r;exact assignInOrder_nil ⟨Y,H,I,h⟩
theorem aI{es:List XY}{t:TG}{u:TGs}(h1:PG X e t)(h2:PGs X es u)
 (hs:(assignEach (e::es) X.env).map (·.2)=assign e X.env::(assignEach es X.env).map (·.2):=by rfl):PGs X (e::es) (fF t u):=by
 intro Z s Y H vs us Q I r h;obtain⟨v,vr,e1,h⟩:=h;subst e1;cases r with
 | cons r rr =>
   rw[hs];refine assignInOrder_cons (thn (h1 Z s Y H _ _ _ I r h) λ_ s1⟨AH,H1,I1,q1⟩=>?_);exact h2 Z s1 AH H1 _ _ Q I1 rr q1
def pR(K:WX)(n:Nat)(t:TGs):TG:=λv Y H Q=>∃a xs,v=.ref a/\SqT K H a xs/\xs.length=n/\t xs Y H Q
theorem cv{es:List XY}{k:Nat}{t:TGs}(hc:X.calm=true)(h:PGs X es t)
 (hn:(assignEach es X.env).length=n:=by rfl) (Cz:(assignEach es X.env).findIdx? (·.1)=none:=by rfl):PG X (.Tuple es k pos) (pR X.K n t):=by
 intro Z s Y H v u Q I r hw;obtain⟨a,xs,e1,hq,hl,hw⟩:=hw;subst e1;cases r;obtain⟨its,rv,ht,hz⟩:=I.tuple hq;refine assign_Tuple_tuple (I.ok.hd hc) ht (by simp[hn,<-hl,rv.length]) Cz λh' hx=>?_;have I1:Inv X Z Y H {s with heap:=h'}:=I.kept (t':=s.toks) λb o e=>hx b o (XG (Xc e)) e;exact h Z _ Y H xs _ Q I1 (by simpa using rv) hw
def zM(to ti:TE)(t:yg):TG:=λv Y H Q=>to Y H λo H1=>ti Y H1 λi H2=>t o i v H2 λH3=>Q Y H3
theorem vg{o i:XY}{to ti:TE}{t:yg}(ho:PE X o to)(hi:PE X i ti)(hs:zq X t)
 (ha:∀v,assign (.Subscript o i pos) X.env v=(do
  let ov <-holding [v] (YW o X.env)
  let iv <-holding [v,ov] (YW i X.env)
  standAt pos
  holding [v,ov,iv] (setItem ov iv v)
  release [v,ov,iv] []):=by intro _;rfl):PG X (.Subscript o i pos) (zM to ti t):=by
 intro Z s Y H v u Q I r h;rw[ha];refine WN (Yl (thn (ho Z s Y H _ I h) λov s1⟨x,H1,I1,r1,q1⟩=>?_));refine WN (Yl (thn (hi Z s1 Y H1 _ I1 q1) λiv s2⟨y,H2,I2,r2,q2⟩=>?_));refine WN (wpAny_standAt (WN (Yl (thn (hs Z s2 Y H2 x y v ov iv u _ I2 r1 r2 r q2) λ_ s3⟨H3,I3,q3⟩=>?_))));exact wpAny_release ⟨Y,H3,I3,q3⟩
def tw(te:TE)(g:TG):TS:=λD Y H=>te Y H λx H1=>g x Y H1 D.nx
theorem kW{g:TG}(he:PE X e te)(hg:PG X tg g)(hs:swapsWithSole [tg] e pos.line X.env=pure false:=by rfl)(hw:swappedStores [tg] e X.env=pure none:=by rfl)
 (h1:(assignEach [tg] X.env).map (·.2)=[assign tg X.env]:=by rfl):PS X (.Assign [tg] e pos) (tw te g):=by
 intro Z s Y H D I h;refine wpAny_Assign_stores (thn (he Z s Y H _ I h) λv s1⟨x,H1,I1,r1,q1⟩=>?_) hs hw;rw[h1];exact thn (hg Z s1 Y H1 x v _ I1 r1 q1) λ_ s2 q=>q
theorem yy(hN:X.N.Nodup)(hi:X.N[i]?=some x)(hx:Loc X.env.scope x)(he:PE X e te)(hs:swapsWith e (some (.Name x pos')) pos.line X.env=pure false:=by rfl)(hf:X.fn x=true\/X.env.scope.names.lookup x=some .local:=by first|exact .inl rfl|exact .inr rfl|assumption) :
 PS X (.Assign [.Name x pos'] e pos) (tw te (az i)):=by
 intro Z s Y H D I h;refine wpAny_Assign_Name (thn (he Z s Y H _ I h) λv s1⟨y,H1,I1,r1,q1⟩=>?_) hs;exact fV I1 hN hi hx r1 (λs2 I2=>⟨_,H1,I2,q1⟩) hf
def aae(i:Nat)(te:TE)(ti:TIp):TS:=λD Y H=>∃x,Y[i]?=some (some x)/\te Y H λy H1=>ti x y H1 λz H2=>D.nx (Y.set i (some z)) H2
theorem xw{op:Operator}{ti:TIp}(hN:X.N.Nodup)(hi:X.N[i]?=some x)(hx:Loc X.env.scope x)(he:PE X e te)(ho:PIp X op ti)(hf:X.fn x=true\/X.env.scope.names.lookup x=some .local:=by first|exact .inl rfl|exact .inr rfl|assumption) :
 PS X (.AugAssign (.Name x pos') op e pos) (aae i te ti):=by
 intro Z s Y H D I h;obtain⟨v,e1,h⟩:=h;obtain⟨m,hn,hl⟩:=I.loc;have Su:Vis X.env.scope x:=by rcases hx with k|k;exact .inl k;exact .inr (.inl k)
 obtain⟨u,r,l⟩:=hl i x v hi e1 Su;refine wpAny_AugAssign_Name ?_
 have go:Xd (Xx X.prog X.w) X.A (YW e X.env) (λw Bl=>Xd (Xx X.prog X.w) X.A (inplaceOp op u w) (λr Cm=>Xd (Xx X.prog X.w) X.A (storeName X.env x r) (λ_=>SP X Z D .next) X.xe Cm) X.xe Bl) X.xe s:=by
  refine thn (he Z s Y H _ I h) λw s1⟨y,H1,I1,r1,q1⟩=>?_;refine thn (ho Z s1 Y H1 v y u w _ I1 r r1 q1) λz s2⟨zv,H2,I2,r2,q2⟩=>?_;exact fV I2 hN hi hx r2 (λs3 I3=>⟨_,H2,I3,q2⟩) hf
 rcases l with⟨hk,hm⟩|⟨hk,c,hc,Av⟩
 .exact wpAny_loadName_local I.ok.kind hk hn hm go
 .rcases hk with hk|hk
  .exact wpAny_loadName_cell I.ok.kind hk hc Av go
  .rcases hx with k|k
   .have:X.env.scope.names.lookup x=some .free:=hk;rw[k]at this;cases this
   .have:X.env.scope.names.lookup x=some .free:=hk;rw[k]at this;cases this
def ipI(f:Int->Int->Int):TIp:=λx y H Q=>∃i j,x=.int i/\y=.int j/\Q (.int (f i j)) H
theorem xO:PIp X .Add (ipI λi j=>i+j):=by
 intro Z s Y H x y v u Q I r1 r2 h;obtain⟨i,j,e1,e2,q⟩:=h;subst e1;subst e2;obtain⟨t,rfl⟩:=r1;obtain⟨t',rfl⟩:=r2;exact iadd_int ⟨.int _,H,I.tok _,⟨_,rfl⟩,q⟩
def yf(c:TT)(tb:TS):TS:=λD Y H=>∃W:Nat->St->Hp->Prop,(∃m,W m Y H)/\∀m Y H,W m Y H ->
 c Y H λb H1=>if b=true then∃N:St->Hp->Prop,(∀i' H',N i' H'->∃m',m'<m/\W m' i' H')/\tb {D with nx:=N,ct:=N,bk:=D.nx} Y H1 else D.nx Y H1
theorem eF{c:XY}{tc:TT}(hp:PassesOwn (Xx X.prog X.w) X.A X.env X.xe)(hc:PT X c tc)(hb:PSs X body tb):PS X (.While c body [] pos) (yf tc tb):=by
 intro Z s Y H D I h;obtain⟨W,⟨m0,w0⟩,turn⟩:=h;refine wpAny_While (codeAny_whileLoop (λn s'=>∃i' H',Inv X Z i' H' s'/\W n i' H') ?_ m0 ⟨Y,H,I,w0⟩);rintro n s1 ⟨AH,H1,I1,w1⟩;refine Z9 hp (thn (hc Z s1 AH H1 _ I1 (turn n AH H1 w1)) λb s2⟨H2,I2,q2⟩=>?_);cases b with
 | true =>
   obtain⟨N,hN,q2⟩:=q2;rw[b! rfl];refine Z9 hp (thn (hb Z s2 AH H2 _ I2 q2) λf s3 q3=>?_);cases f with
   | next =>
     obtain⟨Ew,H3,I3,n3⟩:=q3;obtain⟨m',hm,w3⟩:=hN Ew H3 n3;exact⟨m',hm,Ew,H3,I3,w3⟩
   | cont =>
     obtain⟨Ew,H3,I3,n3⟩:=q3;obtain⟨m',hm,w3⟩:=hN Ew H3 n3;exact⟨m',hm,Ew,H3,I3,w3⟩
   |brk=>exact q3
   |ret v=>exact q3
 | false =>
   rw[a! Xn];exact wpAny_execs_nil ⟨AH,H2,I2,q2⟩
structure It where
 go:Nat->Hp->Prop
 yld:Nat->Hp->V->Hp->Prop
 stop:Nat->Hp->Prop
def jy(X:Cx)(Z:List (WT×YF))(H:Hp)(b:WT):Prop :=
 H b=none/\b≠X.env.locals/\b∉X.fs/\(b∈X.ex\/X.s₀.heap.1.size<=b)/\(∀x c,X.env.cells.lookup x=some c->c≠b)/\∀p∈X.pn++Z,p.1≠b
theorem Inv.fpOk(I:Inv X Z Y H s)(hb:s.1.1.size<=b)(hn:H' b=none):jy X Z H' b:=by
 refine⟨hn,Nat.ne_of_gt (Xy I.lt hb),I.nofs hb,.inr (XS I.sz hb),λx c e z=>?_,λp hp z=>?_⟩
 .obtain⟨v,q⟩:=I.cell x c e;exact g! (Xy q.lt (by rw[z];exact hb)) (Yo _)
 .exact g! (Xy (Xc (I.pin p hp).1) (by rw[z];exact hb)) (Yo _)
structure Turn(P:Xm)(w:XD)(K:WX)(tg:XY)(J:It)(fp:List WT)(it:WT)(tn:Nat->X4->Prop):Prop where
 mem:it∈fp
 obj:∀i h,tn i h->∀b∈fp,∃o,h.get? b=some o/\∀v,o.data≠.cell v
 keep:∀i h h',tn i h->(∀b∈fp,∀o,h.get? b=some o->h'.get? b=some o)->tn i h'
 item:∀(X:Cx),X.prog=P->X.w=w->X.K=K->X.calm=true->∀(i:Nat)(Z:List (WT×YF))(s:W3)(Y:St)(H:Hp)(E:WW->W3->Prop),Inv X Z Y H s->(∀b∈fp,jy X Z H b)->tn i s.1->J.go i H ->
  Xd (Xx P w) X.A (Z6 (.ref it)) (λr s1=>∃u,r=some u /\
   Xd (Xx P w) X.A (letOwnedTupleGo tg (.ref it) u) (λ_ s2=>∃x H',Inv X Z Y H' s2/\RelV x u/\J.yld i H x H'/\tn (i+1) s2.1/\∀b∈fp,H' b=none) E s1) E s
 done:∀(X:Cx),X.prog=P->X.w=w->X.K=K->X.calm=true->∀(i:Nat)(Z:List (WT×YF))(s:W3)(Y:St)(H:Hp)(E:WW->W3->Prop),Inv X Z Y H s->(∀b∈fp,jy X Z H b)->tn i s.1->J.stop i H ->
  Xd (Xx P w) X.A (Z6 (.ref it)) (λr s1=>r=none/\Inv X Z Y H s1) E s
 self:∀(A:XN)(i:Nat)(s:W3)(Q:WW->W3->Prop)(E:WW->W3->Prop),tn i s.1->Q (.ref it) s->Xd (Xx P w) A (pyIter (.ref it)) Q E s
abbrev TI:=St->Hp->(It->Hp->Prop)->Prop
def PIE(X:Cx)(Z:List (WT×YF))(Y:St)(tg:XY)(R:It->Hp->Prop)(Mx:WW)(s2:W3):Prop :=
 ∃(it:WT)(fp:List WT)(tn:Nat->X4->Prop)(J:It)(H':Hp),Mx=.ref it/\Inv X Z Y H' s2/\Turn X.prog X.w X.K tg J fp it tn/\tn 0 s2.1/\(∀b∈fp,jy X Z H' b)/\R J H'
def PI(X:Cx)(tg iter:XY)(wi:TI):Prop :=
 ∀(Z:List (WT×YF))(s:W3)(Y:St)(H:Hp)(R:It->Hp->Prop),Inv X Z Y H s->wi Y H R ->
   Xd (Xx X.prog X.w) X.A (YW iter X.env) (λv s1=>Xd (Xx X.prog X.w) X.A (pyIter v) (PIE X Z Y tg R) X.xe s1) X.xe s
theorem nw{o:YF}{n:String}{vs:Array WW}{Q:Unit->W3->Prop}(ho:s.1.get? it=some o)(hc:o.cls=.type n)(hd:o.data=.fields vs)
 (hn:["enumerate","zip","dict_itemiterator","dict_reverseitemiterator","odict_iterator","itertools.zip_longest","itertools.pairwise"].contains n=false) (hQ:Q () s):Xd M A (letOwnedTupleGo tg (.ref it) u) Q E s:=by
 unfold letOwnedTupleGo
 cases tg <;> first
  |exact W0 hQ
  |(cases u <;> first
   |exact W0 hQ
   | (refine WN (wpAny_load ho ?_)
      rw[hc,hd];show Xd M A (if(["enumerate","zip","dict_itemiterator","dict_reverseitemiterator","odict_iterator","itertools.zip_longest","itertools.pairwise"].contains n && vs[0]? == some (Y6 _))=true then _ else _) Q E s;rw[a! (by intro h;rw[hn,Bool.false_and]at h;cases h)];exact W0 hQ))
def Itl(K:WX)(a:WT):It :=
 ⟨λi H=>∃xs x,SqL K H a xs/\xs[i]?=some x,λi H x H'=>H'=H/\∀xs,SqL K H a xs->xs[i]?=some x,λi H=>∃xs,SqL K H a xs/\xs.length<=i⟩
def Itt(K:WX)(a:WT):It :=
 ⟨λi H=>∃xs x,SqT K H a xs/\xs[i]?=some x,λi H x H'=>H'=H/\∀xs,SqT K H a xs->xs[i]?=some x,λi H=>∃xs,SqT K H a xs/\xs.length<=i⟩
def Itr(lo:Int)(n:Nat):It:=⟨λi _=>i<n,λi H x H'=>H'=H/\x=.int (lo+i),λi _=>n<=i⟩
theorem tH(a it:WT):Turn P w K tg (Itl K a) [it] it (λi h=>h.IsListIter it a i) where
 mem:=by simp
 obj:=λi h st b hb=>by
  have e:b=it:=by simpa using hb
  subst e;obtain⟨o,e,c,d⟩:=st;exact⟨o,e,λv z=>by rw[d]at z;cases z⟩
 keep:=λi h h' st k=>st.at λo e=>k it (by simp) o e
 item:=by
  intro X hP hw hK hc i Z s Y H E I hf st hg;subst hP hw hK;obtain⟨xs,x,hq,hx⟩:=hg;obtain⟨its,rv,p,hz⟩:=I.list hq;obtain⟨u,hu,ru⟩:=rv.get hx;obtain⟨f0,f1,f2,f3,f4,f5⟩:=hf it (by simp);refine wpAny_pyNext_list_item st p.isList (x:=u) (by simpa using hu) λh' B8 sb=>?_;have I1:Inv X Z Y H {s with heap:=h'}:=I.turned (t':=s.toks) (λb o hb e=>(sb.2 b hb).trans e) f0 f1 f3 f4 f5;obtain⟨o,e,c,d⟩:=id B8;exact⟨u,rfl,nw (s:={s with heap:=h'}) e c d (by decide) ⟨x,H,I1,ru,⟨rfl,λys hy=>by rw[I.list_inj hy hq];exact hx⟩,B8,λb hb=>(hf b hb).1⟩⟩
 done:=by
  intro X hP hw hK hc i Z s Y H E I hf st hg;subst hP hw hK;obtain⟨xs,hq,hx⟩:=hg;obtain⟨its,rv,p,hz⟩:=I.list hq;obtain⟨f0,f1,f2,f3,f4,f5⟩:=hf it (by simp);have hl:=rv.length;exact wpAny_pyNext_list_end (I.ok.hd hc) st p.isList (by simp;omega) λh' eb=>⟨rfl,I.turned (t':=s.toks) (λb o hb e=>eb b o hb e) f0 f1 f3 f4 f5⟩
 self:=λ_ _ _ _ _ st h=>wpAny_pyIter_listiter st h
theorem pS(a it:WT):Turn P w K tg (Itt K a) [it] it (λi h=>h.IsTupleIter it a i) where
 mem:=by simp
 obj:=λi h st b hb=>by
  have e:b=it:=by simpa using hb
  subst e;obtain⟨o,e,c,d⟩:=st;exact⟨o,e,λv z=>by rw[d]at z;cases z⟩
 keep:=λi h h' st k=>st.at λo e=>k it (by simp) o e
 item:=by
  intro X hP hw hK hc i Z s Y H E I hf st hg;subst hP hw hK;obtain⟨xs,x,hq,hx⟩:=hg;obtain⟨its,rv,p,hz⟩:=I.tuple hq;obtain⟨u,hu,ru⟩:=rv.get hx;obtain⟨f0,f1,f2,f3,f4,f5⟩:=hf it (by simp);refine wpAny_pyNext_tuple_item st (show s.1.IsTuple a its.toArray from p) (x:=u) (by simpa using hu) λh' B8 sb=>?_;have I1:Inv X Z Y H {s with heap:=h'}:=I.turned (t':=s.toks) (λb o hb e=>(sb.2 b hb).trans e) f0 f1 f3 f4 f5;obtain⟨o,e,c,d⟩:=id B8;exact⟨u,rfl,nw (s:={s with heap:=h'}) e c d (by decide) ⟨x,H,I1,ru,⟨rfl,λys hy=>by rw[I.tuple_inj hy hq];exact hx⟩,B8,λb hb=>(hf b hb).1⟩⟩
 done:=by
  intro X hP hw hK hc i Z s Y H E I hf st hg;subst hP hw hK;obtain⟨xs,hq,hx⟩:=hg;obtain⟨its,rv,p,hz⟩:=I.tuple hq;obtain⟨f0,f1,f2,f3,f4,f5⟩:=hf it (by simp);have hl:=rv.length;exact wpAny_pyNext_tuple_end (I.ok.hd hc) st (show s.1.IsTuple a its.toArray from p) (by simp;omega) λh' eb=>⟨rfl,I.turned (t':=s.toks) (λb o hb e=>eb b o hb e) f0 f1 f3 f4 f5⟩
 self:=λ_ _ _ _ _ st h=>wpAny_pyIter_tupleiter st h
theorem pW(it:WT)(lo:Int)(n:Nat):Turn P w K tg (Itr lo n) [it] it (λi h=>IsRangeIter h it (lo+(i:Nat) * 1) ((n:Int) - (i:Nat)) 1) where
 mem:=by simp
 obj:=λi h st b hb=>by
  have e:b=it:=by simpa using hb
  subst e
  exact⟨_,st,λv z=>by
   have z':Data.fields _=Data.cell v:=z;cases z'⟩
 keep:=λi h h' st k=>k it (by simp) _ st
 item:=by
  intro X hP hw hK hc i Z s Y H E I hf st hg;subst hP hw hK;obtain⟨f0,f1,f2,f3,f4,f5⟩:=hf it (by simp);have W:=Walks.range (prog:=X.prog) (w:=X.w) (I.ok.hd hc) it lo 1 n;refine W.item i s _ _ hg st λv h' tk hv B8 kk=>?_;obtain⟨t,rfl⟩:=hv;have I1:Inv X Z Y H {s with heap:=h',toks:=tk}:=I.turned (λb o hb e=>kk b o (by simpa using hb) e) f0 f1 f3 f4 f5;refine⟨_,rfl,nw (s:={s with heap:=h',toks:=tk}) (n:="range_iterator") B8 rfl rfl (by decide) ⟨.int (lo+i),H,I1,⟨t,?_⟩,⟨rfl,rfl⟩,B8,λb hb=>(hf b hb).1⟩⟩;rw[Int.mul_one]
 done:=by
  intro X hP hw hK hc i Z s Y H E I hf st hg;subst hP hw hK;obtain⟨f0,f1,f2,f3,f4,f5⟩:=hf it (by simp);exact wpAny_pyNext_range_end (I.ok.hd hc) st (by have:n<=i:=hg;omega) λh' eb=>⟨rfl,I.turned (t':=s.toks) (λb o hb e=>eb b o hb e) f0 f1 f3 f4 f5⟩
 self:=λ_ _ _ _ _ st h=>wpAny_pyIter_rangeiter st h
end L2
open L2.SqT renaming of->k!
open L2.SqL renaming of->l!
variable{g:L2.TG}{wi:L2.TI}{J:L2.It}
namespace L2
open PySem PySem.Spec PyProof.Rows
def zg(K:WX)(tl:TE):TI:=λY H R=>tl Y H λx H1=>∃a,x=.ref a/\(∃xs,SqL K H1 a xs)/\R (Itl K a) H1
def zQ(K:WX)(tl:TE):TI:=λY H R=>tl Y H λx H1=>∃a,x=.ref a/\(∃xs,SqT K H1 a xs)/\R (Itt K a) H1
theorem dH{l:XY}(hl:PE X l tl):PI X tg l (zg X.K tl):=by
 intro Z s Y H R I h;refine thn (hl Z s Y H _ I h) λv s1⟨x,H1,I1,r1,q1⟩=>?_;obtain⟨a,e,⟨xs,hq⟩,q⟩:=q1;subst e;cases r1;obtain⟨its,rv,p,hz⟩:=I1.list hq;refine wpAny_pyIter_list p.isList ?_;refine⟨s1.1.1.size,[s1.1.1.size],_,_,H1,rfl,I1.kept (t':=s1.toks) λb o e=>WV _ e,tH a _,⟨_,W4 _ rfl,rfl,rfl⟩,λb hb=>?_,q⟩;have e:b=s1.1.1.size:=by simpa using hb
 subst e;exact I1.fpOk (W2 _) (I1.hok.fresh (W2 _))
theorem ck{l:XY}(hl:PE X l tl):PI X tg l (zQ X.K tl):=by
 intro Z s Y H R I h;refine thn (hl Z s Y H _ I h) λv s1⟨x,H1,I1,r1,q1⟩=>?_;obtain⟨a,e,⟨xs,hq⟩,q⟩:=q1;subst e;cases r1;obtain⟨its,rv,p,hz⟩:=I1.tuple hq;refine Z4 (show s1.1.IsTuple a its.toArray from p) ?_;refine⟨s1.1.1.size,[s1.1.1.size],_,_,H1,rfl,I1.kept (t':=s1.toks) λb o e=>WV _ e,pS a _,⟨_,W4 _ rfl,rfl,rfl⟩,λb hb=>?_,q⟩;have e:b=s1.1.1.size:=by simpa using hb
 subst e;exact I1.fpOk (W2 _) (I1.hok.fresh (W2 _))
theorem uu{R:It->Hp->Prop}{lo hi:Int}{t u v:Tok}{tk:Nat}(I:Inv X Z Y H s)(h1:-(2 ^ 62)<=lo)(h2:lo<2 ^ 62)(h3:-(2 ^ 62)<=hi)(h4:hi<2 ^ 62)
 (q:R (Itr lo (hi - lo).toNat) H):Xd (Xx X.prog X.w) X.A (pyIter (.ref s.1.1.size)) (PIE X Z Y tg R) E {s with heap:=s.1.push {cls:=.type "range",data:=.fields #[.int lo t,.int hi u,.int 1 v]},toks:=tk}:=by
 refine wpAny_pyIter_range (IsRange.new ..) (small_one h1 h2 h3 h4) ?_;have I1:Inv X Z Y H {s with heap:=s.1.push {cls:=.type "range",data:=.fields #[.int lo t,.int hi u,.int 1 v]},toks:=tk}:=I.kept λb o e=>WV _ e
 refine⟨(s.1.push {cls:=.type "range",data:=.fields #[.int lo t,.int hi u,.int 1 v]}).objs.size,[(s.1.push {cls:=.type "range",data:=.fields #[.int lo t,.int hi u,.int 1 v]}).objs.size],_,_,H,rfl,
  I1.kept (t':=tk) λb o e=>WV _ e,pW _ lo (hi - lo).toNat,?_,λb hb=>?_,q⟩
 .have e1:lo+((0:Nat):Int) * 1=lo:=by simp
  have e2:(((hi - lo).toNat:Nat):Int) - ((0:Nat):Int)=Builtin.Range.rangeSize lo hi 1:=by rw[rangeSize_one];split <;> omega
  show IsRangeIter _ _ (lo+((0:Nat):Int) * 1) ((((hi - lo).toNat:Nat):Int) - ((0:Nat):Int)) 1;rw[e1,e2];exact W4 _ rfl
 .have e:b=(s.1.push {cls:=.type "range",data:=.fields #[.int lo t,.int hi u,.int 1 v]}).objs.size:=by simpa using hb
  subst e;exact I1.fpOk (W2 _) (I1.hok.fresh (W2 _))
def yA(ta:TA):TI:=λY H R=>ta Y H λvs H1=>∃j:Int,vs=[.int j]/\-(2 ^ 62)<=j/\j<2 ^ 62/\R (Itr 0 j.toNat) H1
theorem cp{a:XY}{ta:TA}{p:Pos}(hg:Gl X "range")(hm:X.mg "range"=none)(ha:PA X [a] ta)(hs:XJ [a] X.env=[(false,YW a X.env)]:=by rfl):PI X tg (.Call (.Name "range" p) [a] [] pos) (yA ta):=by
 intro Z s Y H R I h;refine Call_ (fR I hg hm boot_range (YQ (thn (ha pos Z s Y H _ I h) λus s1⟨vs,H1,I1,r1,q1⟩=>?_) hs rfl));obtain⟨j,e,q1,q2,q⟩:=q1;subst e;cases r1 with
 | cons r rr =>
   cases rr;obtain⟨t,rfl⟩:=r;exact call_range_1 (uu I1 (by omega) (by omega) q1 q2 (by simpa using q))
def zD(wi:TI)(g:TG)(tb:TS):TS:=λD Y H=>wi Y H λJ H1=>∃W:Nat->Nat->St->Hp->Prop,(∃m,W 0 m Y H1)/\∀i m Y H,W i m Y H ->
 (J.stop i H/\D.nx Y H)\/(J.go i H/\∃N:St->Hp->Prop,(∀i' H',N i' H'->∃m',m'<m/\W (i+1) m' i' H')/\∀x H',J.yld i H x H'->g x Y H' λAk H2=>tb {D with nx:=N,ct:=N,bk:=D.nx} Ak H2)
def kH(fp:List WT)(h:X4):List (WT×YF):=fp.filterMap λb=>(h.get? b).map λo=>(b,o)
theorem fA{o:YF}(hb:b∈fp)(e:h.get? b=some o):(b,o)∈kH fp h:=List.mem_filterMap.mpr ⟨b,hb,by rw[e];rfl⟩
theorem tK{p:WT×YF}(hp:p∈kH fp h):p.1∈fp/\h.get? p.1=some p.2:=by
 obtain⟨b,hb,e⟩:=List.mem_filterMap.mp hp;cases q:h.get? b with
 |none=>rw[q]at e;cases e
 | some o =>
   rw[q]at e;have e':(b,o)=p:=Xf e;subst e';exact⟨hb,q⟩
theorem Inv.pinned(I:Inv X Z Y H s)(hf:∀b∈fp,jy X Z H b)(ho:∀b∈fp,∃o,s.1.get? b=some o/\∀v,o.data≠.cell v):Inv X (Z++kH fp s.1) Y H s :=
 I.pins_of λp hp=>(W7.mp hp).elim (λz=>I.pin p (Xl _ z)) λz=>by
  obtain⟨hb,e⟩:=tK z;obtain⟨f0,f1,f2,_⟩:=hf p.1 hb;obtain⟨o,e',d⟩:=ho p.1 hb;rw[e]at e';cases e';exact⟨e,f0,f1,f2,d⟩
theorem Inv.unpinned{pl:List (WT×YF)}(I:Inv X (Z++pl) Y H s):Inv X Z Y H s:=I.pins_of λp hp=>I.pin p (Xl _ (Xi _ hp))
theorem bH(hp:PassesOwn (Xx X.prog X.w) X.A X.env X.xe)(hc:X.calm=true)(hi:PI X tg iter wi)(hg:PG X tg g)(hb:PSs X body tb)
 (hs:∀x,foldedSetIterable iter X.env x=pure x:=by intro _;rfl):PS X (.For tg iter body [] pos) (zD wi g tb):=by
 intro Z s Y H D I h;refine wpAny_For (thn (hi Z s Y H _ I h) λv s1 h1=>thn h1 λMx s2 h2=>?_) hs;obtain⟨it,fp,tn,J,H2,e,I2,T,JN,f2,W,⟨m0,w0⟩,turn⟩:=h2;subst e
 have De:∀{H':Hp},(∀b∈fp,H' b=none)->∀b∈fp,jy X Z H' b:=λhn b hb=>⟨hn b hb,(f2 b hb).2⟩;refine codeAny_forLoop_any (λn s'=>∃i i' H',Inv X Z i' H' s'/\tn i s'.1/\(∀b∈fp,H' b=none)/\W i n i' H') ?_ m0 ⟨0,Y,H2,I2,JN,λb hb=>(f2 b hb).1,w0⟩;rintro n s3 ⟨i,Ew,H3,I3,Sv,Gu,w3⟩;rcases turn i n Ew H3 w3 with⟨stop,qn⟩|⟨go,N,hN,step⟩
 .refine Z9 hp (thn (T.done X rfl rfl rfl hc i Z s3 Ew H3 X.xe I3 (De Gu) Sv stop) λr s4⟨hr,I4⟩=>?_);subst hr;exact wpAny_execs_nil ⟨Ew,H3,I4,qn⟩
 .refine Z9 hp (thn (T.item X rfl rfl rfl hc i Z s3 Ew H3 X.xe I3 (De Gu) Sv go) λr s4⟨u,hr,h4⟩=>?_);subst hr;refine Z9 hp (thn h4 λ_ s5⟨x,H5,I5,r5,y5,IL,FG⟩=>?_);have Vb:=I5.pinned (De FG) (T.obj _ _ IL);refine Z9 hp (thn (hg _ s5 Ew H5 x u _ Vb r5 (step x H5 y5)) λ_ s6⟨Vc,H6,I6,q6⟩=>?_);refine Z9 hp (thn (hb _ s6 Vc H6 _ I6 q6) λf s7 q7=>?_)
  have again:∀{Ex:St}{H7:Hp},Inv X (Z++kH fp s5.1) Ex H7 s7->N Ex H7->∃m,m<n/\∃i i' H',Inv X Z i' H' s7/\tn i s7.1/\(∀b∈fp,H' b=none)/\W i m i' H':=λ{Ex H7}I7 n7=>by
   obtain⟨m',hm,w7⟩:=hN Ex H7 n7;refine⟨m',hm,i+1,Ex,H7,I7.unpinned,T.keep _ _ _ IL λb hb o e=>(I7.pin (b,o) (Xl _ (Xl _ (fA hb e)))).1,λb hb=>?_,w7⟩;obtain⟨o,e,d⟩:=T.obj _ _ IL b hb;exact(I7.pin (b,o) (Xl _ (Xl _ (fA hb e)))).2.1
  cases f with
  |next=>obtain⟨Ex,H7,I7,n7⟩:=q7;exact again I7 n7
  |cont=>obtain⟨Ex,H7,I7,n7⟩:=q7;exact again I7 n7
  |brk=>obtain⟨Ex,H7,I7,q7⟩:=q7;exact⟨Ex,H7,I7.unpinned,q7⟩
  |ret v=>obtain⟨x7,Ex,H7,I7,r7,q7⟩:=q7;exact⟨x7,Ex,H7,I7.unpinned,r7,q7⟩
theorem kP(Pv:Nat->St->Hp->Prop)(h0:Pv 0 Y H)(hl:∀i Y H,i<=xs.length->Pv i Y H->SqL K H a xs)
 (hs:∀i x Y H,xs[i]?=some x->Pv i Y H->g x Y H λAk H2=>tb {D with nx:=Pv (i+1),ct:=Pv (i+1),bk:=D.nx} Ak H2) (hd:∀Y H,Pv xs.length Y H->D.nx Y H) :
 ∃W:Nat->Nat->St->Hp->Prop,(∃m,W 0 m Y H)/\∀i m Y H,W i m Y H ->
   ((Itl K a).stop i H/\D.nx Y H)\/((Itl K a).go i H/\∃N:St->Hp->Prop,(∀i' H',N i' H'->∃m',m'<m/\W (i+1) m' i' H')/\∀x H',(Itl K a).yld i H x H'->g x Y H' λAk H2=>tb {D with nx:=N,ct:=N,bk:=D.nx} Ak H2):=by
 refine⟨λi m Y H=>m=xs.length - i/\i<=xs.length/\Pv i Y H,⟨xs.length,by simp,XB _,h0⟩,?_⟩;rintro i m Y H ⟨rfl,hi,p⟩;have q:=hl i Y H hi p;by_cases Ae:i<xs.length
 .refine .inr ⟨⟨xs,xs[i],q,by simp[Ae]⟩,Pv (i+1),λi' H' p'=>⟨xs.length - (i+1),by omega,rfl,Ae,p'⟩,λx H' y=>?_⟩;obtain⟨e,y⟩:=y;subst e;exact hs i x Y _ (y xs q) p
 .have e:i=xs.length:=by omega
  subst e;exact .inl ⟨⟨xs,q,W2 _⟩,hd Y H p⟩
theorem vP(Pv:Nat->St->Hp->Prop)(h0:Pv 0 Y H)(hl:∀i Y H,i<=xs.length->Pv i Y H->SqT K H a xs)
 (hs:∀i x Y H,xs[i]?=some x->Pv i Y H->g x Y H λAk H2=>tb {D with nx:=Pv (i+1),ct:=Pv (i+1),bk:=D.nx} Ak H2) (hd:∀Y H,Pv xs.length Y H->D.nx Y H) :
 ∃W:Nat->Nat->St->Hp->Prop,(∃m,W 0 m Y H)/\∀i m Y H,W i m Y H ->
   ((Itt K a).stop i H/\D.nx Y H)\/((Itt K a).go i H/\∃N:St->Hp->Prop,(∀i' H',N i' H'->∃m',m'<m/\W (i+1) m' i' H')/\∀x H',(Itt K a).yld i H x H'->g x Y H' λAk H2=>tb {D with nx:=N,ct:=N,bk:=D.nx} Ak H2):=by
 refine⟨λi m Y H=>m=xs.length - i/\i<=xs.length/\Pv i Y H,⟨xs.length,by simp,XB _,h0⟩,?_⟩;rintro i m Y H ⟨rfl,hi,p⟩;have q:=hl i Y H hi p;by_cases Ae:i<xs.length
 .refine .inr ⟨⟨xs,xs[i],q,by simp[Ae]⟩,Pv (i+1),λi' H' p'=>⟨xs.length - (i+1),by omega,rfl,Ae,p'⟩,λx H' y=>?_⟩;obtain⟨e,y⟩:=y;subst e;exact hs i x Y _ (y xs q) p
 .have e:i=xs.length:=by omega
  subst e;exact .inl ⟨⟨xs,q,W2 _⟩,hd Y H p⟩
theorem cm{lo:Int}(Pv:Nat->St->Hp->Prop)(h0:Pv 0 Y H)
 (hs:∀i Y H,i<n->Pv i Y H->g (.int (lo+i)) Y H λAk H2=>tb {D with nx:=Pv (i+1),ct:=Pv (i+1),bk:=D.nx} Ak H2) (hd:∀Y H,Pv n Y H->D.nx Y H) :
 ∃W:Nat->Nat->St->Hp->Prop,(∃m,W 0 m Y H)/\∀i m Y H,W i m Y H ->
   ((Itr lo n).stop i H/\D.nx Y H)\/((Itr lo n).go i H/\∃N:St->Hp->Prop,(∀i' H',N i' H'->∃m',m'<m/\W (i+1) m' i' H')/\∀x H',(Itr lo n).yld i H x H'->g x Y H' λAk H2=>tb {D with nx:=N,ct:=N,bk:=D.nx} Ak H2):=by
 refine⟨λi m Y H=>m=n - i/\i<=n/\Pv i Y H,⟨n,by simp,XB _,h0⟩,?_⟩;rintro i m Y H ⟨rfl,hi,p⟩;by_cases Ae:i<n
 .refine .inr ⟨Ae,Pv (i+1),λi' H' p'=>⟨n - (i+1),by omega,rfl,Ae,p'⟩,λx H' y=>?_⟩;obtain⟨e,y⟩:=y;subst e y;exact hs i Y _ Ae p
 .have e:i=n:=by omega
  subst e;exact .inl ⟨W2 _,hd Y H p⟩
abbrev R2:=V->V->Hp->VK->Prop
def OpR(X:Cx)(f:WW->WW->Sem WW)(r:R2):Prop :=
 ∀(Z:List (WT×YF))(s:W3)(Y:St)(H:Hp)(x y:V)(v u:WW)(Q:VK),Inv X Z Y H s->RelV x v->RelV y u->r x y H Q ->
   Xd (Xx X.prog X.w) X.A (f v u) (EP X Z Y Q) X.xe s
def UnR(X:Cx)(f:WW->Sem WW)(r:V->Hp->VK->Prop):Prop :=
 ∀(Z:List (WT×YF))(s:W3)(Y:St)(H:Hp)(x:V)(v:WW)(Q:VK),Inv X Z Y H s->RelV x v->r x H Q ->
   Xd (Xx X.prog X.w) X.A (f v) (EP X Z Y Q) X.xe s
def dq(X:Cx)(f:WW)(r:List V->Hp->VK->Prop):Prop :=
 ∀(Z:List (WT×YF))(s:W3)(Y:St)(H:Hp)(xs:List V)(us:List WW)(Q:VK),Inv X Z Y H s->Vals xs us->r xs H Q ->
   Xd (Xx X.prog X.w) X.A (call f us) (EP X Z Y Q) X.xe s
def zS(X:Cx)(r:V->Hp->(Bool->Hp->Prop)->Prop):Prop :=
 ∀(Z:List (WT×YF))(s:W3)(Y:St)(H:Hp)(x:V)(v:WW)(Q:Bool->Hp->Prop),Inv X Z Y H s->RelV x v->r x H Q ->
   Xd (Xx X.prog X.w) X.A (truthy v) (TP X Z Y Q) X.xe s
def tOp(r:R2)(ta tb:TE):TE:=λY H Q=>ta Y H λx H1=>tb Y H1 λy H2=>r x y H2 Q
def tUn(r:V->Hp->VK->Prop)(ta:TE):TE:=λY H Q=>ta Y H λx H1=>r x H1 Q
inductive IrI(C:Int->Int->Prop)(g:Int->Int->V)(x:V)(y:V)(H:Hp)(Q:VK):Prop
 |mk (i:_) (j:_) (Aq:x=.int i) (Ar:y=.int j) (Ax:C i j) (AN:Q (g i j) H):IrI C g x y H Q
def rI(C:Int->Int->Prop)(g:Int->Int->V):R2:=IrI C g
inductive zp(g:Int->Int->V)(x:V)(y:V)(H:Hp)(Q:VK):Prop
 |mk (i:_) (j:_) (Aq:x=.int i) (Ar:y=.int j) (Ax:Q (g i j) H):zp g x y H Q
def rI0(g:Int->Int->V):R2:=zp g
inductive IrU(g:Int->V)(x:V)(H:Hp)(Q:VK):Prop
 |mk (i:_) (Aq:x=.int i) (Ar:Q (g i) H):IrU g x H Q
def rU(g:Int->V):V->Hp->VK->Prop:=IrU g
section
variable{a b c:XY}{ta tb tc:TE}
theorem yu(ha:PE X a ta)(hb:PE X b tb){R:V->V->Hp->Prop}(I:Inv X Z Y H s)
 (h:ta Y H λx H1=>tb Y H1 λy H2=>R x y H2) {f:WW->WW->Sem WW}
 (hf:∀v u s2 x y H2,Inv X Z Y H2 s2->RelV x v->RelV y u->R x y H2->Xd (Xx X.prog X.w) X.A (f v u) Q X.xe s2) :
 Xd (Xx X.prog X.w) X.A (YW a X.env) (λv l'=>Xd (Xx X.prog X.w) X.A (YW b X.env) (λu Bl=>Xd (Xx X.prog X.w) X.A (f v u) Q X.xe Bl) X.xe l') X.xe s:=by
 refine thn (ha Z s Y H _ I h) λv s1⟨x,H1,I1,r1,q1⟩=>?_;refine thn (hb Z s1 Y H1 _ I1 q1) λu s2⟨y,H2,I2,r2,q2⟩=>?_;exact hf v u s2 x y H2 I2 r1 r2 q2
theorem av{op:Operator}{r:R2}(ho:OpR X (binaryOp op) r)(ha:PE X a ta)(hb:PE X b tb):PE X (.BinOp a op b pos) (tOp r ta tb):=by
 intro Z s Y H Q I h;exact wpAny_BinOp (yu ha hb I h λv u s2 x y H2 I2 rx ry q=>ho Z s2 Y H2 x y v u Q I2 rx ry q)
theorem wW{op:UnaryOp}{r:V->Hp->VK->Prop}(ho:UnR X (unaryOp op) r)(ha:PE X a ta):PE X (.UnaryOp op a pos) (tUn r ta):=by
 intro Z s Y H Q I h;exact UnaryOp_ (thn (ha Z s Y H _ I h) λv s1⟨x,H1,I1,r1,q1⟩=>ho Z s1 Y H1 x v Q I1 r1 q1)
theorem opI{f:WW->WW->Sem WW}{C:Int->Int->Prop}{g:Int->Int->Int}
 (rule:∀(i j:Int)(t u:Tok)(s:W3)(Q:WW->W3->Prop)(E:WW->W3->Prop),C i j->Q (.int (g i j) s.toks) {s with toks:=s.toks+1}->Xd (Xx X.prog X.w) X.A (f (.int i t) (.int j u)) Q E s) :
 OpR X f (rI C λi j=>.int (g i j)):=by
 intro Z s Y H x y v u Q I rx ry h;obtain⟨i,j,rfl,rfl,hc,q⟩:=h;obtain⟨t,rfl⟩:=rx;obtain⟨t',rfl⟩:=ry;exact rule i j t t' s _ _ hc ⟨.int (g i j),H,I.tok _,⟨_,rfl⟩,q⟩
theorem yN{f:WW->WW->Sem WW}{g:Int->Int->Int}
 (rule:∀(i j:Int)(t u:Tok)(s:W3)(Q:WW->W3->Prop)(E:WW->W3->Prop),Q (.int (g i j) s.toks) {s with toks:=s.toks+1}->Xd (Xx X.prog X.w) X.A (f (.int i t) (.int j u)) Q E s) :
 OpR X f (rI0 λi j=>.int (g i j)):=by
 intro Z s Y H x y v u Q I rx ry h;obtain⟨i,j,rfl,rfl,q⟩:=h;obtain⟨t,rfl⟩:=rx;obtain⟨t',rfl⟩:=ry;exact rule i j t t' s _ _ ⟨.int (g i j),H,I.tok _,⟨_,rfl⟩,q⟩
theorem x9{f:WW->WW->Sem WW}{g:Int->Int->Bool}
 (rule:∀(i j:Int)(t u:Tok)(s:W3)(Q:WW->W3->Prop)(E:WW->W3->Prop),Q (.bool (g i j)) s->Xd (Xx X.prog X.w) X.A (f (.int i t) (.int j u)) Q E s) :
 OpR X f (rI0 λi j=>.bl (g i j)):=by
 intro Z s Y H x y v u Q I rx ry h;obtain⟨i,j,rfl,rfl,q⟩:=h;obtain⟨t,rfl⟩:=rx;obtain⟨t',rfl⟩:=ry;exact rule i j t t' s _ _ ⟨.bl (g i j),H,I,rfl,q⟩
def yL(i j:Int):Prop:=0<j/\j<1073741824
def CMul(i j:Int):Prop:=(-(2 ^ 64)<i/\i<2 ^ 64)\/(-(2 ^ 64)<j/\j<2 ^ 64)
theorem CMul.ok{i j:Int}(h:CMul i j):IntMulOk i j:=by
 rcases h with⟨h1,h2⟩|⟨h1,h2⟩
 .exact .of_left (intBits_le_64 h1 h2)
 .exact .of_right (intBits_le_64 h1 h2)
theorem bG:OpR X (binaryOp .Add) (rI0 λi j=>.int (i+j)):=yN λ_ _ _ _ _ _ _ q=>add_int q
theorem kR:OpR X (binaryOp .Sub) (rI0 λi j=>.int (i - j)):=yN λ_ _ _ _ _ _ _ q=>sub_int q
theorem d9:OpR X (binaryOp .Mult) (rI CMul λi j=>.int (i * j)):=opI λ_ _ _ _ _ _ _ hc q=>mul_int q hc.ok
theorem bF:OpR X (binaryOp .FloorDiv) (rI yL λi j=>.int (i / j)):=opI λi j _ _ _ _ _ hc q=>by
 have h1:(0:Int)<j:=hc.1;have h2:j<1073741824:=hc.2;exact floordiv_int (by omega) (by rw[Int.fdiv_eq_ediv_of_nonneg i (by omega)];exact q) (.inl (PyProof.noPylong_small (by omega)))
theorem bv:OpR X (binaryOp .Mod) (rI (λ_ j=>0<j) λi j=>.int (i%j)):=opI λi j _ _ _ _ _ hc q=>by
 have h1:(0:Int)<j:=hc;exact mod_int' (by omega) (by rw[Int.fmod_eq_emod_of_nonneg i (by omega)];exact q)
theorem unI{f:WW->Sem WW}{g:Int->Int}
 (rule:∀(i:Int)(t:Tok)(s:W3)(Q:WW->W3->Prop)(E:WW->W3->Prop),Q (.int (g i) s.toks) {s with toks:=s.toks+1}->Xd (Xx X.prog X.w) X.A (f (.int i t)) Q E s) :
 UnR X f (rU λi=>.int (g i)):=by
 intro Z s Y H x v Q I rx h;obtain⟨i,rfl,q⟩:=h;obtain⟨t,rfl⟩:=rx;exact rule i t s _ _ ⟨.int (g i),H,I.tok _,⟨_,rfl⟩,q⟩
theorem uT:UnR X (unaryOp .USub) (rU λi=>.int (-i)):=unI λ_ _ _ _ _ q=>neg_int q
end
def zy:V->V->Bool
 |.non,.non=>true|.non,.int _=>true|.int _,.non=>true|.non,.bl _=>true|.bl _,.non=>true|.non,.str _=>true|.str _,.non=>true
 |.int _,.int _=>true|.bl _,.bl _=>true|.str _,.str _=>true|.byt _,.byt _=>true
 |.int _,.str _=>true|.str _,.int _=>true|.bl _,.str _=>true|.str _,.bl _=>true
 |_,_=>false
inductive yH(x:V)(y:V)(H:Hp)(Q:VK):Prop
 |mk  (Aq:zy x y=true) (Ar:Q (.bl (decide (x=y))) H):yH  x y H Q
def rEq:R2:=yH
inductive yT(x:V)(y:V)(H:Hp)(Q:VK):Prop
 |mk  (Aq:zy x y=true) (Ar:Q (.bl (!decide (x=y))) H):yT  x y H Q
def rNe:R2:=yT
theorem rR{i j:Int}:decide (o! i=o! j)=(i == j):=by
 rw[Bool.eq_iff_iff];simp
theorem u7{i j:Bool}:decide (V.bl i=V.bl j)=(i == j):=by
 rw[Bool.eq_iff_iff];simp
theorem rA{i j:Xk}:decide (H! i=H! j)=(i == j):=by
 rw[Bool.eq_iff_iff];simp
theorem qO{i j:Array UInt8}:decide (V.byt i=V.byt j)=(i.toList == j.toList):=by
 rw[Bool.eq_iff_iff];cases i;cases j;simp
section
variable{a b c:XY}{ta tb tc:TE}
theorem bd{Q:VK}{k k':Bool}(I:Inv X Z Y H s)(q:Q (.bl k) H)(e:k=k'):EP X Z Y Q (.bool k') s:=by
 subst e;exact⟨.bl k,H,I,rfl,q⟩
theorem fD:OpR X (ZQ .Eq) rEq:=by
 intro Z s Y H x y v u Q I rx ry h;obtain⟨hs,q⟩:=h;cases x with
 | non =>
   cases rx;cases y with
   |non=>cases ry;exact PySem.EqNone.eq_none_none (bd I q (by simp))
   |bl j=>cases ry;exact PySem.EqNone.eq_none_bool (bd I q (by simp))
   |int j=>obtain⟨t',rfl⟩:=ry;exact PySem.EqNone.eq_none_int (bd I q (by simp))
   |str j=>obtain⟨t',rfl⟩:=ry;exact PySem.EqNone.eq_none_str (bd I q (by simp))
   |_=>exact g! (show false=true from hs) Xn
 | bl i =>
   cases rx;cases y with
   |non=>cases ry;exact PySem.EqNone.eq_bool_none (bd I q (by simp))
   |bl j=>cases ry;exact eq_bool (bd I q u7)
   |str j=>obtain⟨t',rfl⟩:=ry;exact PySem.EqMixed.eq_bool_str (bd I q (by simp))
   |_=>exact g! (show false=true from hs) Xn
 | int i =>
   obtain⟨t,rfl⟩:=rx;cases y with
   |non=>cases ry;exact PySem.EqNone.eq_int_none (bd I q (by simp))
   |int j=>obtain⟨t',rfl⟩:=ry;exact eq_int (bd I q rR)
   |str j=>obtain⟨t',rfl⟩:=ry;exact PySem.EqMixed.eq_int_str (bd I q (by simp))
   |_=>exact g! (show false=true from hs) Xn
 | str i =>
   obtain⟨t,rfl⟩:=rx;cases y with
   |non=>cases ry;exact PySem.EqNone.eq_str_none (bd I q (by simp))
   |bl j=>cases ry;exact PySem.EqMixed.eq_str_bool (bd I q (by simp))
   |int j=>obtain⟨t',rfl⟩:=ry;exact PySem.EqMixed.eq_str_int (bd I q (by simp))
   |str j=>obtain⟨t',rfl⟩:=ry;exact eq_str (bd I q rA)
   |_=>exact g! (show false=true from hs) Xn
 | byt i =>
   obtain⟨t,rfl⟩:=rx;cases y with
   |byt j=>obtain⟨t',rfl⟩:=ry;exact PySem.W.eq_bytes (bd I q qO)
   |_=>exact g! (show false=true from hs) Xn
 |_=>cases y <;> exact g! (show false=true from hs) Xn
theorem zo:OpR X (ZQ .NotEq) rNe:=by
 intro Z s Y H x y v u Q I rx ry h;obtain⟨hs,q⟩:=h;cases x with
 | non =>
   cases rx;cases y with
   |non=>cases ry;exact PySem.EqNone.ne_none_none (bd I q (by simp))
   |bl j=>cases ry;exact PySem.EqNone.ne_none_bool (bd I q (by simp))
   |int j=>obtain⟨t',rfl⟩:=ry;exact PySem.EqNone.ne_none_int (bd I q (by simp))
   |str j=>obtain⟨t',rfl⟩:=ry;exact PySem.EqNone.ne_none_str (bd I q (by simp))
   |_=>exact g! (show false=true from hs) Xn
 | bl i =>
   cases rx;cases y with
   |non=>cases ry;exact PySem.EqNone.ne_bool_none (bd I q (by simp))
   |bl j=>cases ry;exact ne_bool (bd I q (h! not u7))
   |str j=>obtain⟨t',rfl⟩:=ry;exact PySem.EqMixed.ne_bool_str (bd I q (by simp))
   |_=>exact g! (show false=true from hs) Xn
 | int i =>
   obtain⟨t,rfl⟩:=rx;cases y with
   |non=>cases ry;exact PySem.EqNone.ne_int_none (bd I q (by simp))
   |int j=>obtain⟨t',rfl⟩:=ry;exact ne_int (bd I q (h! not rR))
   |str j=>obtain⟨t',rfl⟩:=ry;exact PySem.EqMixed.ne_int_str (bd I q (by simp))
   |_=>exact g! (show false=true from hs) Xn
 | str i =>
   obtain⟨t,rfl⟩:=rx;cases y with
   |non=>cases ry;exact PySem.EqNone.ne_str_none (bd I q (by simp))
   |bl j=>cases ry;exact PySem.EqMixed.ne_str_bool (bd I q (by simp))
   |int j=>obtain⟨t',rfl⟩:=ry;exact PySem.EqMixed.ne_str_int (bd I q (by simp))
   |str j=>obtain⟨t',rfl⟩:=ry;exact ne_str (bd I q (h! not rA))
   |_=>exact g! (show false=true from hs) Xn
 | byt i =>
   obtain⟨t,rfl⟩:=rx;cases y with
   |byt j=>obtain⟨t',rfl⟩:=ry;exact PySem.W.ne_bytes (bd I q (h! not qO))
   |_=>exact g! (show false=true from hs) Xn
 |_=>cases y <;> exact g! (show false=true from hs) Xn
theorem xg:OpR X (ZQ .Lt) (rI0 λi j=>.bl (decide (i<j))):=x9 λ_ _ _ _ _ _ _ q=>lt_int q
theorem df:OpR X (ZQ .Gt) (rI0 λi j=>.bl (decide (j<i))):=x9 λ_ _ _ _ _ _ _ q=>gt_int q
theorem yO:OpR X (ZQ .GtE) (rI0 λi j=>.bl (decide (j<=i))):=x9 λ_ _ _ _ _ _ _ q=>ge_int q
theorem wH:OpR X (ZQ .IsNot) (λx y H Q=>y=.non/\Q (.bl (!decide (x=.non))) H):=by
 intro Z s Y H x y v u Q I rx ry h;obtain⟨rfl,q⟩:=h;cases ry;refine isnot_none_gen (bd I q ?_)
 cases x <;> first
  |(cases rx;rfl)
  |(obtain⟨t,rfl⟩:=rx;rfl)
theorem aS(b:XY)(h:op≠.In:=by decide)(h2:op≠.NotIn:=by decide):behindInMarks op b=false:=by
 have e1:(op == CmpOp.In)=false:=by cases op <;> first|rfl|exact g! rfl h
 have e2:(op == CmpOp.NotIn)=false:=by cases op <;> first|rfl|exact g! rfl h2
 cases b <;> simp[behindInMarks,e1,e2]
theorem ft{r:R2}(ho:OpR X (ZQ op) r)(ha:PE X a ta)(hb:PE X b tb)(hm:behindInMarks op b=false):PE X (.Compare a [op] [b] pos) (tOp r ta tb):=by
 intro Z s Y H Q I h;exact wpAny_Compare1 (yu ha hb I h λv u s2 x y H2 I2 rx ry q=>ho Z s2 Y H2 x y v u Q I2 rx ry q) hm
inductive wX(x:V)(Q:Bool->Hp->Prop)(H':Hp):Prop
 |mk (k:Bool) (Aq:x=.bl k) (Ar:Q k H'):wX x Q H'
def mH(t:TE):TT:=λY H Q=>t Y H λx H'=>wX x Q H'
theorem aO{r:R2}(ho:OpR X (ZQ op) r)(ha:PE X a ta)(hb:PE X b tb)(hm:behindInMarks op b=false):PT X (.Compare a [op] [b] pos) (mH (tOp r ta tb)):=by
 intro Z s Y H Q I h
 refine wpAny_isTrue_Compare1 (thn (ha Z s Y H _ I h) λv s1⟨x,H1,I1,r1,q1⟩=>thn (hb Z s1 Y H1 _ I1 q1) λu s2⟨y,H2,I2,r2,q2⟩ =>
  thn (ho Z s2 Y H2 x y v u _ I2 r1 r2 q2) λc s3⟨z,H3,I3,r3,k,e,q3⟩=>?_) hm
 subst e;cases r3;exact wpAny_truthy_bool ⟨H3,I3,q3⟩
def ya(K:WX)(x:V)(H:Hp)(k:Bool):Prop :=
 match x with
 |.non=>k=false
 |.bl b=>k=b
 |.int i=>k=(i != 0)
 |.str y=>y.length<=Xh/\k=((y.length:Int) != 0)
 |.byt y=>y.size<=Xh/\k=((y.size:Int) != 0)
 |.ref p=>(∃xs,SqL K H p xs/\k=!xs.isEmpty)\/(∃xs,SqT K H p xs/\k=!xs.isEmpty)\/∃kvs,H p=some (.dK kvs)/\k=!kvs.isEmpty
 |_=>False
theorem qb{kvs:List (κ×V)}(r:KV kvs vs):(!vs.isEmpty)=!kvs.isEmpty:=by
 cases r <;> rfl
theorem kb(r:Vals xs its):(!its.toArray.isEmpty)=!xs.isEmpty:=by
 cases r <;> simp
theorem fm:(Xh:Nat)<2 ^ 63:=by rw[Zr];decide
theorem xL:zS X (λx H Q=>∃k,ya X.K x H k/\Q k H):=by
 intro Z s Y H x v Q I rx h;obtain⟨k,e,q⟩:=h;have hl:=fm;have hs:Xh=16777216:=Zr;cases x with
 | non =>
   cases rx;have e':k=false:=e;subst e';exact truthy_none ⟨H,I,q⟩
 | bl b =>
   cases rx;have e':k=b:=e;subst e';exact wpAny_truthy_bool ⟨H,I,q⟩
 | int i =>
   obtain⟨t,rfl⟩:=rx;have e':k=(i != 0):=e;subst e';exact PySem.P.truthy_int ⟨H,I,q⟩
 | str y =>
   obtain⟨t,rfl⟩:=rx;obtain⟨hy,e'⟩:y.length<=Xh/\k=((y.length:Int) != 0):=e;subst e';exact PySem.P.truthy_str (by omega) ⟨H,I.tok _,q⟩
 | byt y =>
   obtain⟨t,rfl⟩:=rx;obtain⟨hy,e'⟩:y.size<=Xh/\k=((y.size:Int) != 0):=e;subst e';exact PySem.W.truthy_bytes (by omega) ⟨H,I.tok _,q⟩
 | ref p =>
   cases rx;have e':(∃xs,SqL X.K H p xs/\k=!xs.isEmpty)\/(∃xs,SqT X.K H p xs/\k=!xs.isEmpty)\/∃kvs,H p=some (.dK kvs)/\k=!kvs.isEmpty:=e;rcases e' with⟨xs,hx,e'⟩|⟨xs,hx,e'⟩|⟨kvs,hx,e'⟩
   .subst e';obtain⟨its,r,pl,hz⟩:=I.list hx;have hlen:=r.length;exact wpAny_truthy_list pl.isList (by simp only[Xa];omega) ⟨H,I.tok _,by rw[kb r];exact q⟩
   .subst e';obtain⟨its,r,pl,hz⟩:=I.tuple hx;have hlen:=r.length;exact truthy_tuple pl (by simp only[Xa];omega) ⟨H,I.tok _,by rw[kb r];exact q⟩
   .subst e';obtain⟨hz,hS,vs,r,m⟩:kvs.length<=Xh/\(p == YC)=false/\∃vs,KV kvs vs/\s.1.DictOf (aT X.prog X.w) p vs:=I.hok p _ hx;have hlen:kvs.length=vs.length:=W5 r;exact wpAny_truthy_dict hS m (by omega) ⟨H,I.tok _,by rw[qb r];exact q⟩
 |_=>exact(show False from e).elim
theorem cM(ha:PE X a ta)(he:∀whole,isTrue a X.env whole=(do let v <-whole;standAt a.pos;holding [v] (truthy v))) :
 PT X a (λY H Q=>ta Y H λx H'=>∃k,ya X.K x H' k/\Q k H'):=by
 intro Z s Y H Q I h;exact isTrue_plain (thn (ha Z s Y H _ I h) λv s1⟨x,H1,I1,r1,q1⟩=>xL Z s1 Y H1 x v Q I1 r1 q1) (he _)
theorem cU:OpR X (binaryOp .Add) (λx y H Q=>∃i j,x=.str i/\y=.str j/\i.length+j.length<=Xh/\Q (.str (i++j)) H):=by
 intro Z s Y H x y v u Q I rx ry h;obtain⟨i,j,rfl,rfl,hz,q⟩:=h;obtain⟨t,rfl⟩:=rx;obtain⟨t',rfl⟩:=ry;exact add_str (λt' tk=>⟨.str (i++j),H,I.tok _,⟨_,rfl⟩,q⟩) hz
theorem vals1{x:V}(r:Vals [x] us):∃u,us=[u]/\RelV x u:=by
 cases r with
 |cons r1 r2=>cases r2;exact⟨_,rfl,r1⟩
theorem vals2{x:V}(r:Vals [x,y] us):∃u w',us=[u,w']/\RelV x u/\RelV y w':=by
 cases r with
 | cons r1 r2 =>
   cases r2 with
   |cons r3 r4=>cases r4;exact⟨_,_,rfl,r1,r3⟩
theorem ja(hc:X.calm=true):dq X (.builtin "max") (λxs H Q=>∃i j,xs=[.int i,.int j]/\Q (.int (if j > i then j else i)) H):=by
 intro Z s Y H xs us Q I r h;obtain⟨i,j,rfl,q⟩:=h;obtain⟨u,w',rfl,⟨t,rfl⟩,⟨t',rfl⟩⟩:=vals2 r;refine max_two_ints (I.ok.hd hc) λh' tk k=>⟨_,H,I.kept k,?_,q⟩;by_cases hj:j > i
 .rw[b! hj,b! hj];exact⟨_,rfl⟩
 .rw[a! hj,a! hj];exact⟨_,rfl⟩
theorem jz:dq X (.type "int") (λxs H Q=>(∃i,xs=[.int i]/\Q (.int i) H)\/∃k,xs=[.bl k]/\Q (.int (if k then 1 else 0)) H):=by
 intro Z s Y H xs us Q I r h;rcases h with⟨i,rfl,q⟩|⟨k,rfl,q⟩
 .obtain⟨u,rfl,t,rfl⟩:=vals1 r;exact call_int_int ⟨.int i,H,I,⟨_,rfl⟩,q⟩
 .obtain⟨u,rfl,r1⟩:=vals1 r;cases r1;exact call_int_bool ⟨.int (if k then 1 else 0),H,I.tok _,⟨_,rfl⟩,q⟩
end
end L2
variable{r:L2.R2}
namespace L2
open PySem PySem.Spec PyProof.Rows
structure ObjM(h:X4)(x dx C:WT)(mA:Xk->Option WW):Prop where
 obj:h.get? x=some (Zu C dx)
 ns:h.Ns1 dx mA
 ne:dx≠x
theorem si{mA:Xk->Option WW}(n:h.Ns1 dx mA):∃od,h.get? dx=some od/\∀name,PySem.W.lookIn name od=some (mA name):=by
 obtain⟨o,es,ep,ho,hd,hk,_,hm⟩:=n;refine⟨o,ho,λname=>?_⟩;have e:=hm name;unfold nsFind findBy at e;rw[<-Array.find?_toList]at e;unfold PySem.W.lookIn;rw[hd];dsimp only;split
 .rename_i y q
  rw[q]at e;exact h! some e
 .rename_i q
  rw[q]at e
  have a:es.toList.any (·.refKey)=false:=by
   rw[List.any_eq_false];intro y hy;obtain⟨z,t,Cn⟩:=hk y (Array.mem_toList_iff.mp hy);simp[DictEntry.refKey,Cn]
  have a':¬es.toList.any (·.refKey)=true:=by rw[a];exact Xn
  rw[a! a'];exact h! some e
theorem ObjM.look{x:WT}{mA:Xk->Option WW}(I:ObjM h x dx C mA):∃od,PySem.W.InstAt h x (Zu C dx) C (some od)/\∀name,PySem.W.lookIn name od=some (mA name) :=
 let⟨od,ho,hl⟩:=si I.ns
 ⟨od,⟨I.obj,rfl,rfl,ho⟩,hl⟩
section
variable{x:WT}{mA:Xk->Option WW}{v:WW}
theorem get_map{expr:Bool}(X:K.In s.1)(I:ObjM s.1 x dx C mA)(hg:PySem.W.plainGet K C name=true)(hh:PySem.W.hasDictIn K C=true)
 (ha:XT K (.ref C) name=some none) (hv:mA name=some v) (CH:PySem.W.handedIn v=true) (h:Q v {s with toks:=s.toks+1}) :
 Xd (Xx prog w) A (getAttr (.ref x) name expr) Q E s:=by
 obtain⟨od,J,hl⟩:=I.look;exact PySem.W.get_value X J (PySem.W.plainGet_of hg).1 (PySem.W.findObj_own hh ha rfl (by rw[hl,hv])) CH h
theorem uw{pl:Sem Bool}{Q:WW×List WW->W3->Prop}(X:K.In s.1)(I:ObjM s.1 x dx C mA)(hg:PySem.W.plainGet K C name=true)
 (hf:XT K (.ref C) name=some (some (.ref f))) (ht:PySem.W.isFn K (.ref f)=true) (hv:mA name=none) (h:Q (.ref f,[.ref x]) s) :
 Xd (Xx prog w) A (getMethod (.ref x) name pl) Q E s:=by
 obtain⟨od,J,hl⟩:=I.look;exact PySem.W.method_fn X J (PySem.W.plainGet_of hg).1 (PySem.W.plainGet_of hg).2 hf (beq_iff_eq.mp ht) (by show(PySem.W.lookIn name od).map (·.isSome)=some false;rw[hl,hv];rfl) h
theorem vN{ns:List Xk}{Q:Unit->W3->Prop}(X:K.In s.1)(I:ObjM s.1 x dx C mA)
 (hs:XT K (.ref C) "__setattr__"=some (some (.builtin "object.__setattr__"))) (hp:PySem.W.plainOver K C=true) (ht:PySem.W.takerIn K C name=some none) (hh:PySem.W.hasDictIn K C=true)
 (hw:PySem.Within mA ns) (hsz:ns.length<=Xh)
 (h:∀h',ObjM h' x dx C (λy=>if y=name then some v else mA y)->X5 dx s.1 h'->Q () {s with heap:=h',toks:=s.toks+2}) :
 Xd (Xx prog w) A (setAttr (.ref x) name v) Q E s:=by
 obtain⟨od,J,hl⟩:=I.look;refine PySem.W.set_plain X J hs (PySem.W.osa_open (s:={s with toks:=s.toks+1}) (r:=none) X J hp ht λb=>?_);obtain⟨cd,hc,JJ⟩:=PySem.W.any_some hh;have hx:s.1.get? x=some ⟨.ref C,some dx,.plain,#[]⟩:=I.obj;refine WN (W0 (WN (WN (wpAny_loadPart hx (WN (PySem.W.Looks.here (s:={s with toks:=s.toks+1}) (PySem.W.looks_clsIn X hc) ?_))))));rw[JJ];refine W0 (a:=some dx) (WN (W0 (WN ?_)));refine wpAny_nsSet1 (s:={s with toks:=s.toks+1}) I.ns λh' My G7=>?_;obtain⟨oD,esD,epD,Vd,Ve,Vf⟩:=My.count (PySem.Within.cons name v hw);refine WN (wpAny_lookBehind Vd (by rw[Ve];exact pastItsLine_dict (XS Vf (by rw[W8];omega))) ?_);exact W0 (h _ ⟨(G7.2 _ (Zm I.ne)).trans I.obj,My,I.ne⟩ G7)
theorem vc{vs:List WW}(X:K.In s.1)(hm:PySem.W.makesIn K C=true)
 (hi:XT K (.ref C) "__init__"=some (some (.ref f))) (hf:PySem.W.typeIn K (.ref f)=some (.type "function"))
 (h:Z7 (Xx prog w) (A.under (.builtin "type.__call__" ⟨.ref C::vs,kw⟩)) (.call (.ref f) ⟨.ref (s.1.1.size+1)::vs,kw⟩) (PySem.W.InitBack (s.1.1.size+1) R)
  {s with heap:=(s.1.push YS).push (Zu C s.1.1.size)}) :
 Z7 (Xx prog w) A (.call (.ref C) ⟨vs,kw⟩) R s:=by
 obtain⟨hh,g,d,t,os⟩:=s;exact PySem.W.make_core (PySem.W.makes_of X hm) (PySem.W.looks_findIn X hi) (λself=>PySem.W.bind_fn X self hf) (.inl rfl) h
end
def dU(f:Xk)(v:V):List (Xk×V)->List (Xk×V)
 | []=>[(f,v)]
 |(g,x)::r=>if g=f then(g,v)::r else(g,x)::dU f v r
theorem jR(f g:Xk)(v:V):∀fs:List (Xk×V),(dU f v fs).lookup g=if g=f then some v else fs.lookup g
 | []=>by
   show Zd g [(f,v)]=_;by_cases h:g=f
   .have hb:(g == f)=true:=beq_iff_eq.mpr h;simp only[Zd,hb,b! h]
   .have hb:(g == f)=false:=beq_eq_false_iff_ne.mpr h;simp only[Zd,hb,a! h]
 | (k,x)::r=>by
   have ih:=jR f g v r;rw[show dU f v ((k,x)::r)=(if k=f then(k,v)::r else(k,x)::dU f v r)from rfl];by_cases hk:k=f
   .rw[b! hk];by_cases h:g=k
    .have hb:(g == k)=true:=beq_iff_eq.mpr h;simp only[Zd,hb,b! (h.trans hk)]
    .have hb:(g == k)=false:=beq_eq_false_iff_ne.mpr h;simp only[Zd,hb,a! (λe:g=f=>h (e.trans hk.symm))]
   .rw[a! hk];by_cases h:g=k
    .have hb:(g == k)=true:=beq_iff_eq.mpr h;simp only[Zd,hb,a! (λe:g=f=>hk (h.symm.trans e))]
    .have hb:(g == k)=false:=beq_eq_false_iff_ne.mpr h;simp only[Zd,hb];exact ih
theorem jq(f:Xk)(v:V):∀fs:List (Xk×V),f∈(dU f v fs).map (·.1)/\∀g,g∈fs.map (·.1)->g∈(dU f v fs).map (·.1)
 | []=>⟨by simp[dU],λg h=>by simp at h⟩
 | (k,x)::r=>by
   obtain⟨i1,i2⟩:=jq f v r;rw[show dU f v ((k,x)::r)=(if k=f then(k,v)::r else(k,x)::dU f v r)from rfl];by_cases hk:k=f
   .rw[b! hk];subst hk;exact⟨by simp,λg h=>by simpa using h⟩
   .rw[a! hk];refine⟨?_,λg h=>?_⟩
    .rw[XH];exact WQ _ i1
    .rw[XH]at h |-;rcases Xb.mp h with e|e
     .exact Xb.mpr (.inl e)
     .exact WQ _ (i2 g e)
theorem jP(f:Xk)(v:V):∀fs:List (Xk×V),(dU f v fs).length<=fs.length+1
 | []=>by simp[dU]
 | (k,x)::r=>by
   have ih:=jP f v r;rw[show dU f v ((k,x)::r)=(if k=f then(k,v)::r else(k,x)::dU f v r)from rfl];by_cases hk:k=f
   .rw[b! hk,W8,W8];omega
   .rw[a! hk,W8,W8];omega
theorem RelO.some_of{o:Option WW}(r:RelO (some v) o):∃u,o=some u/\RelV v u:=by
 cases o with
 |none=>exact(show False from r).elim
 |some u=>exact⟨u,rfl,r⟩
theorem RelO.none_of{o:Option WW}(r:RelO none o):o=none:=by
 cases o with
 |none=>rfl
 |some u=>exact(show False from r).elim
theorem sU(r:RelV v u):PySem.W.handedIn u=true:=by
 cases v with
 |non=>cases(show u=Yj from r);rfl
 |bl b=>cases(show u=ZM b from r);rfl
 |int i=>obtain⟨t,e⟩:=(show∃t,u=Value.int i t from r);cases e;rfl
 |str x=>obtain⟨t,e⟩:=(show∃t,u=Value.str x t from r);cases e;rfl
 |byt b=>obtain⟨t,e⟩:=(show∃t,u=Value.bytes b t from r);cases e;rfl
 |flt b=>obtain⟨t,e⟩:=(show∃t,u=Value.float b t from r);cases e;rfl
 |ref a=>cases(show u=XO a from r);rfl
 |ty n=>cases(show u=Value.type n from r);rfl
section
variable{fs Va:List (Xk×V)}
theorem j3(hok:HOk P w H h)(e:H a=some (.ins C dx fs)):∃mA,ObjM h a dx C mA/\(∀f,RelO (fs.lookup f) (mA f))/\PySem.Within mA (fs.map (·.1))/\fs.length<=1000/\H dx=some (.own a):=by
 obtain⟨d,z,ne,ob,mA,n,r,q⟩:=(show ObjOk P w H h a (.ins C dx fs)from hok a _ e);exact⟨mA,⟨ob,n,ne⟩,r,q,z,d⟩
end
structure Cls(K:WX)(C:WT):Prop where
 pg:PySem.W.plainGet K C YI=true
 hd:PySem.W.hasDictIn K C=true
 po:PySem.W.plainOver K C=true
 sa:XT K (.ref C) "__setattr__"=some (some (.builtin "object.__setattr__"))
theorem Cls.get(c:Cls K C)(f:Xk):PySem.W.plainGet K C f=true:=c.pg
def NoAttr(K:WX)(C:WT)(f:Xk):Prop:=XT K (.ref C) f=some none
theorem NoAttr.taker{f:Xk}(n:NoAttr K C f):PySem.W.takerIn K C f=some none:=by
 unfold PySem.W.takerIn;rw[show XT K (.ref C) f=some none from n];rfl
structure Meth(K:WX)(C:WT)(m:Xk)(f:WT):Prop where
 at_:XT K (.ref C) m=some (some (.ref f))
 fn:PySem.W.isFn K (.ref f)=true
 kp:YJ K (.ref f)=true
section
variable{fs:List (Xk×V)}{f:Xk}
theorem qa{b:Bool}(I:Inv X Z Y H s)(e:H a=some (.ins C dx fs))(c:Cls X.K C)(n:NoAttr X.K C f)(l:fs.lookup f=some v)
 (h:∀u s',Inv X Z Y H s'->RelV v u->Q u s'):Xd (Xx X.prog X.w) A (getAttr (.ref a) f b) Q E s:=by
 obtain⟨mA,O,r,_,_,_⟩:=j3 I.hok e;obtain⟨u,hu,ru⟩:=RelO.some_of (v:=v) (o:=mA f) (by rw[<-l];exact r f);exact get_map I.kIn O (c.get f) c.hd n hu (sU ru) (h u _ (I.tok _) ru)
theorem pN{m:Xk}{g:WT}{pl:Sem Bool}{Q:WW×List WW->W3->Prop}(I:Inv X Z Y H s)(e:H a=some (.ins C dx fs))(c:Cls X.K C)(k:Meth X.K C m g)(l:fs.lookup m=none)
 (h:Q (.ref g,[.ref a]) s):Xd (Xx X.prog X.w) A (getMethod (.ref a) m pl) Q E s:=by
 obtain⟨mA,O,r,_,_,_⟩:=j3 I.hok e;have hn:mA m=none:=RelO.none_of (by rw[<-l];exact r m);exact uw I.kIn O (c.get m) k.at_ k.fn hn h
theorem qx{Q:Unit->W3->Prop}(I:Inv X Z Y H s)(e:H a=some (.ins C dx fs))(c:Cls X.K C)(n:NoAttr X.K C f)(hl:fs.length<1000)(ry:RelV y u)
 (h:∀s',Inv X Z Y (upd H a (.ins C dx (dU f y fs))) s'->Q () s'):Xd (Xx X.prog X.w) A (setAttr (.ref a) f u) Q E s:=by
 obtain⟨mA,O,r,wi,_,ho⟩:=j3 I.hok e;have hz:(fs.map (·.1)).length<=Xh:=by rw[WO,Zr];omega
 refine vN I.kIn O c.sa c.po n.taker c.hd wi hz λh' O' sb=>h _ ?_;have hd:∃o,h'.get? dx=some o:=let⟨o,_,_,e',_⟩:=O'.ns;⟨o,e'⟩
 refine I.write (x:=a) (e:=dx) (by rw[e];exact Y7) (.inr ho) (λb q hb z=>(sb.2 b hb).trans z) hd ?_;refine⟨by rw[af O.ne];exact ho,?_,O.ne,O'.obj,_,O'.ns,λg=>?_,λg hg=>?_⟩
 .have:=jP f y fs;omega
 .show RelO ((dU f y fs).lookup g) (if g=f then some u else mA g);rw[jR];by_cases q:g=f
  .rw[b! q,b! q];exact ry
  .rw[a! q,a! q];exact r g
 .by_cases q:g=f
  .rw[q];exact(jq f y fs).1
  .refine(jq f y fs).2 g (wi g λz=>hg ?_);show(if g=f then some u else mA g)=none;rw[a! q];exact z
theorem Inv.made(I:Inv X Z Y H s):Inv X Z Y (upd (upd H s.1.1.size (.own (s.1.1.size+1))) (s.1.1.size+1) (.ins C s.1.1.size []))
 {s with heap:=(s.1.push YS).push (Zu C s.1.1.size)}:=by
 have e1:(s.1.push YS).get? s.1.1.size=some YS:=W4 s.1 rfl
 have e2:((s.1.push YS).push (Zu C s.1.1.size)).get? (s.1.1.size+1)=some (Zu C s.1.1.size):=by
  have:=W4 (s.1.push YS) (o:=Zu C s.1.1.size) rfl
  rwa [Yk]at this
 have e3:(s.1.push YS).Ns s.1.1.size (λ_=>none):=⟨YS,#[],_,e1,rfl,(λe he=>g! he (by simp)),λ_=>rfl⟩;have I1:=I.laid (a:=s.1.1.size) (o:=.own (s.1.1.size+1)) (h':=s.1.push YS) (t':=s.toks) (λb u q=>WV _ q) (W2 _) ⟨_,e1⟩;refine I1.laid (a:=s.1.1.size+1) (o:=.ins C s.1.1.size []) (t':=s.toks) (λb u q=>WV _ q) (Nat.le_of_eq (Yk _ _)) ?_;have ne:s.1.1.size≠s.1.1.size+1:=XG (Nat.lt_succ_self _);refine⟨by rw[af ne,ad],XB _,ne,e2,λ_=>none,(Heap.Ns1.of_empty e3).at λo q=>WV _ q,λ_=>Y7,λy hy=>g! rfl hy⟩
theorem vq{f:Xk}(hb:attributeBase e f env (YW e env)=YW e env)
 (h:Xd (Xx prog w) A (YW e env) (λo l'=>Xd (Xx prog w) A (getAttr o f true) Q E l') E s):Xd (Xx prog w) A (YW (.Attribute e f pos) env) Q E s :=
 Attribute_any_ h (by rw[arm_eval_Attribute,hb])
end
def zB(K:WX)(ta:TE)(f:Xk):TE:=λY H Q=>ta Y H λx H1=>∃a C dx fs v,x=.ref a/\H1 a=some (.ins C dx fs)/\Cls K C/\NoAttr K C f/\fs.lookup f=some v/\Q v H1
def zG(K:WX)(ta tv:TE)(f:Xk):TS:=λD Y H=>tv Y H λy H1=>ta Y H1 λx H2=>∃a C dx fs,x=.ref a/\H2 a=some (.ins C dx fs)/\Cls K C/\NoAttr K C f/\fs.length<1000 /\
 D.nx Y (upd H2 a (.ins C dx (dU f y fs)))
section
variable{o value:XY}{f:Xk}{NJ:Pos}{ta tv:TE}
theorem cS(he:PE X e ta)(hb:attributeBase e f X.env (YW e X.env)=YW e X.env):PE X (.Attribute e f pos) (zB X.K ta f):=by
 intro Z s Y H Q I h;refine vq hb (thn (he Z s Y H _ I h) λu s1⟨x,H1,I1,rx,a,C,dx,fs,v,ex,ea,c,n,l,q⟩=>?_);subst ex;obtain rfl:u=XO a:=rx;exact qa I1 ea c n l λu' s2 I2 ru=>⟨v,H1,I2,ru,q⟩
theorem qw(ha:PE X o ta)(hv:PE X value tv)(hs:swapsWith value (some (.Attribute o f pos')) pos.line X.env=pure false):PS X (.Assign [.Attribute o f pos'] value pos) (zG X.K ta tv f):=by
 intro Z s Y H D I h;refine plainObj_wpAny_Assign_Attribute (thn (hv Z s Y H _ I h) λu s1⟨y,H1,I1,ry,q⟩=>thn (ha Z s1 Y H1 _ I1 q) λov s2⟨x,H2,I2,rx,a,C,dx,fs,ex,ea,c,n,l,q2⟩=>?_) hs;subst ex;obtain rfl:ov=XO a:=rx;exact qx I2 ea c n l ry λs3 I3=>⟨Y,_,I3,q2⟩
end
section
variable{c:WW}{b:Bool}
inductive iC(K:WX)(H:Hp):V->WW->Prop where
 |non:iC K H .non (.type "NoneType")
 |bl (x:Bool):iC K H (.bl x) (.type "bool")
 |int (i:Int):iC K H (.int i) (.type "int")
 |str (x:Xk):iC K H (.str x) (.type "str")
 |flt (x:UInt64):iC K H (.flt x) (.type "float")
 |lst {a:WT} {xs:List V} (e:H a=some (.lst xs)):iC K H (.ref a) (.type "list")
 |frz {a:WT} {o:YF} {xs:List V} (e:H a=some (.frz o (.lst xs))):iC K H (.ref a) (.type "list")
 |tup {a:WT} {xs:List V} (e:H a=some (.tup xs)):iC K H (.ref a) (.type "tuple")
 |dK {a:WT} {kvs:List (Key×V)} (e:H a=some (.dK kvs)):iC K H (.ref a) (.type "dict")
 |dT {a:WT} {kvs:List (List Key×V)} (e:H a=some (.dT kvs)):iC K H (.ref a) (.type "dict")
 |ins {a C dx:WT} {fs:List (Xk×V)} (e:H a=some (.ins C dx fs)) (cl:Cls K C) (ha:XT K (.ref C) "__class__"=some (some (.builtin "object.__class__")))
  (hn:PySem.W.specialIn K (.builtin "object.__class__") "__get__"=some (some (.builtin "getset_descriptor.__get__"))) (CA:PySem.W.takesIn K (.builtin "object.__class__")=some true)
  (hm:PySem.W.mroIn K C (.type "object")=some true):iC K H (.ref a) (.ref C)
theorem sS{x:V}{t:WW}(I:Inv X Z Y H s)(rx:RelV x u)(ty:iC X.K H x t)(e:Y3 X.K t c=some b)(h:∀tk,Q (.bool b) {s with toks:=tk}) :
 Xd (Xx X.prog X.w) A (call (.builtin "isinstance") [u,c]) Q E s:=by
 cases ty with
 |non=>cases(show u=Yj from rx);exact YK PySem.W.kitx_none I.kIn Y7 e (λz=>nomatch z) h
 |bl y=>cases(show u=ZM y from rx);exact YK PySem.W.kitx_bool I.kIn Y7 e (λz=>nomatch z) h
 |int i=>obtain⟨t,q⟩:=(show∃t,u=Value.int i t from rx);cases q;exact YK PySem.W.kitx_int I.kIn Y7 e (λz=>nomatch z) h
 |str y=>obtain⟨t,q⟩:=(show∃t,u=Value.str y t from rx);cases q;exact YK PySem.W.kitx_str I.kIn Y7 e (λz=>nomatch z) h
 |flt y=>obtain⟨t,q⟩:=(show∃t,u=Value.float y t from rx);cases q;exact YK PySem.W.kitx_float I.kIn Y7 e (λz=>nomatch z) h
 | @lst a xs ea =>
   cases(show u=XO a from rx);obtain⟨_,_,n,_,h1⟩:=(show ObjOk X.prog X.w H s.1 a (.lst xs)from I.hok a _ ea);exact YK PySem.W.kitx_list I.kIn ⟨_,h1,rfl⟩ e (λz=>nomatch z) h
 | @frz a ob xs ea =>
   cases(show u=XO a from rx);obtain⟨_,_,_,n,_,h1⟩:=(show ObjOk X.prog X.w H s.1 a (.frz ob (.lst xs))from I.hok a _ ea);exact YK PySem.W.kitx_list I.kIn ⟨_,h1,rfl⟩ e (λz=>nomatch z) h
 | @tup a xs ea =>
   cases(show u=XO a from rx);obtain⟨_,_,_,_,h1⟩:=(show ObjOk X.prog X.w H s.1 a (.tup xs)from I.hok a _ ea);exact YK PySem.W.kitx_tuple I.kIn ⟨_,h1,rfl⟩ e (λz=>nomatch z) h
 | @dK a kvs ea =>
   cases(show u=XO a from rx);obtain⟨_,_,vs,_,p⟩:=(show ObjOk X.prog X.w H s.1 a (.dK kvs)from I.hok a _ ea);obtain⟨o,es,ep,h1,h2,_⟩:=p;exact YK PySem.W.kitx_dict I.kIn ⟨o,h1,h2.1⟩ e (λz=>nomatch z) h
 | @dT a kvs ea =>
   cases(show u=XO a from rx);obtain⟨_,_,xs,_,o,es,ep,h1,h2,_⟩:=(show ObjOk X.prog X.w H s.1 a (.dT kvs)from I.hok a _ ea);exact YK PySem.W.kitx_dict I.kIn ⟨o,h1,h2.1⟩ e (λz=>nomatch z) h
 | @ins a C dx fs ea cl ha hn CA hm =>
   cases(show u=XO a from rx);obtain⟨mA,O,_⟩:=j3 I.hok ea;obtain⟨od,J,_⟩:=O.look;exact YK (PySem.W.kitx_own (cl.get _) cl.hd ha hn CA hm) I.kIn J e (λz=>nomatch z) h
end
structure Room(k:Nat)(A:XN):Prop where
 hd:A.handled=none
 dp:A.depth+3 * k+5<recursionLimit
 un:A.units+16 * k+200<Zs
theorem Room.mono{k:Nat}(r:Room k A)(h:j<=k):Room j A:=⟨r.hd,by have:=r.dp;omega,by have:=r.un;omega⟩
theorem Room.deeper{k:Nat}(r:Room (k+1) A)(env:Env):Room k (A.deeper env) :=
 ⟨r.hd,by have:=r.dp;show A.depth+1+3 * k+5<_;omega,by have:=r.un;show A.units+3+16 * k+200<_;omega⟩
theorem qv:(A.under (.builtin "type.__call__" ⟨.ref C::us,kw⟩)).depth=A.depth+1:=by
 first|rfl|simp[Around.under,Code.weight,Code.isCreation,Code.isGuard,Code.isCaller,Code.frames,Code.isFrame,guardIds]
theorem pZ:(A.under (.builtin "type.__call__" ⟨.ref C::us,kw⟩)).units=A.units+1:=by
 first|rfl|simp[Around.under,Code.cUnits,Code.frames,Code.isFrame]
theorem Room.make{k:Nat}(r:Room (k+1) A)(C:WT)(us:List WW)(kw:List (Xk×WW)):Room k (A.under (.builtin "type.__call__" ⟨.ref C::us,kw⟩)) :=
 ⟨r.hd,by have:=r.dp;rw[qv];omega,by have:=r.un;rw[pZ];omega⟩
theorem Room.depth{k:Nat}(r:Room k A):A.depth<recursionLimit:=by have:=r.dp;omega
theorem Room.units{k:Nat}(r:Room k A):A.units+64<Zs:=by have:=r.un;omega
def dS:TA:=λ_ H Q=>Q [] H
def aU(ta:TE)(tr:TA):TA:=λY H Q=>ta Y H λx H1=>tr Y H1 λxs H2=>Q (x::xs) H2
section
variable{es:List XY}{t:TA}
theorem ae:PA X [] dS:=λ_ _ _ _ H Q I h=>Calls.spliced_nil ⟨[],H,I,.nil,h⟩
theorem ac(ha:PE X e te)(hr:PA X es t)(hs:XJ (e::es) X.env=(false,YW e X.env)::XJ es X.env:=by rfl):PA X (e::es) (aU te t):=by
 intro pos Z s Y H Q I h;rw[hs];show Xd _ _ (spliced ((false,YW e X.env)::ZD pos (XJ es X.env))) _ _ s;refine Z8 (thn (ha Z s Y H _ I h) λu s1⟨x,H1,I1,r1,q1⟩=>?_);exact thn (hr pos Z s1 Y H1 _ I1 q1) λus s2⟨xs,H2,I2,r2,q2⟩=>⟨x::xs,H2,I2,.cons r1 r2,q2⟩
def tE(t:TA):TE:=λY H Q=>t Y H λxs H1=>xs.length<=Xh/\∀p,H1 p=none->Q (.ref p) (upd H1 p (.tup xs))
def zn(t:TA):TE:=λY H Q=>t Y H λxs H1=>xs.length<=Xh/\∀p,H1 p=none->Q (.ref p) (upd H1 p (.lst xs))
theorem aR{x1}(h:PA X es t):PE X (.Tuple es x1 pos) (tE t):=by
 intro Z s Y H Q I hq;refine wpAny_Tuple_spliced (thn (h pos Z s Y H _ I hq) λus s1⟨xs,H1,I1,r,z,q⟩=>⟨by rw[<-r.length];exact z,?_⟩);have hf:H1 s1.1.1.size=none:=I1.hok.fresh (W2 _);refine⟨.ref s1.1.1.size,upd H1 s1.1.1.size (.tup xs),I1.laid (t':=s1.toks) (λb u e=>WV _ e) (W2 _) ?_,rfl,q _ hf⟩;exact⟨z,us,0,r,W4 _ rfl⟩
theorem aN(h:PA X es t):PE X (.List es pos) (zn t):=by
 intro Z s Y H Q I hq;refine wpAny_List_spliced (thn (h pos Z s Y H _ I hq) λus s1⟨xs,H1,I1,r,z,q⟩=>⟨by rw[<-r.length];exact z,?_⟩);have hf:H1 s1.1.1.size=none:=I1.hok.fresh (W2 _);refine⟨.ref s1.1.1.size,upd H1 s1.1.1.size (.lst xs),I1.laid (t':=s1.toks) (λb u e=>WV _ e) (W2 _) ?_,rfl,q _ hf⟩;exact⟨z,us,0,r,W4 _ rfl⟩
end
abbrev Sp:=List V->Hp->VK->XK->Prop
abbrev CXT:=List Env->Hp->W3->XK->WW->W3->Prop
structure Env0(P:Xm)(w:XD)(K:WX)(mg:Xk->Option WW)(base:X4)(A:XN)(outer:List Env)(s:W3)(H:Hp):Prop where
 frames:A.frames=some outer
 mod:Mod K mg base
 bs:∀b o,base.get? b=some o->s.1.get? b=some o/\H b=none
 bsz:base.objs.size<=s.1.1.size
 funs:s.1.FunFrames base outer
 frf:∀b∈frs outer,H b=none
 hok:HOk P w H s.1
 bare:AllBare s.gens
def CE(outer:List Env)(P:Xm)(w:XD)(H:Hp)(s:W3)(Q:VK)(u:WW)(s':W3):Prop :=
 ∃v H',s'.os=s.os/\AllBare s'.gens/\Un (frs outer) [] H H' s.1 s'.1/\HOk P w H' s'.1/\RelV v u/\Q v H'
def CR(CX:CXT)(outer:List Env)(P:Xm)(w:XD)(H:Hp)(s:W3)(Q:VK)(E:XK)(r:Result)(s':W3):Prop :=
 match r with
 |.ok (.ret u)=>CE outer P w H s Q u s'
 |.ok _=>False
 |.error e=>CX outer H s E e s'
structure FnOk(P:Xm)(w:XD)(K:WX)(mg:Xk->Option WW)(base:X4)(CX:CXT)(k:Nat)(f:WT)(fd:YO)(ps:List Xk)(sp:Sp):Prop where
 len:∀vs H Q E,sp vs H Q E->vs.length=ps.length
 run:∀(A:XN)(outer:List Env)(s:W3)(H:Hp)(args:Args)(us:List WW)(vs:List V)(Q:VK)(E:XK),Room k A->Env0 P w K mg base A outer s H->BindsTo s fd args (ps.zip us)->Vals vs us->sp vs H Q E ->
  Z7 (Xx P w) A (.call (.ref f) args) (CR CX outer P w H s Q E) s
theorem Env0.make{outer:List Env}(e:Env0 P w K mg base A outer s H)(C:WT)(us:List WW)(kw:List (Xk×WW)) :
 Env0 P w K mg base (A.under (.builtin "type.__call__" ⟨.ref C::us,kw⟩)) outer s H:=⟨by first|exact e.frames|(simpa[Around.under,Code.envs,Code.isFrame,pushEnvs]using e.frames),e.mod,e.bs,e.bsz,e.funs,e.frf,e.hok,e.bare⟩
theorem Inv.env0(I:Inv X Z Y H s):Env0 X.prog X.w X.K X.mg X.base X.A X.stack s H :=
 ⟨I.ok.frames,I.ok.mod,I.bs,XS I.ok.bsz I.sz,I.stack,I.stkFree,I.hok,I.bare⟩
theorem Inv.after{Q:VK}(I:Inv X Z Y H s)(h:CE X.stack X.prog X.w H s Q u s'):EP X Z Y Q u s':=by
 obtain⟨v,H',os,bare,un,hok,r,q⟩:=h;obtain⟨hh,g,d,t,DQ⟩:=s';obtain rfl:DQ=s.os:=os;exact⟨v,H',I.call (h':=hh) (g':=g) (d':=d) (t':=t) (ch:=[]) un hok bare (λb z=>g! z (by simp)),r,q⟩
def f9(sp:Sp)(dvs:List V)(E:XK)(t:TA):TE:=λY H Q=>t Y H λvs H1=>sp (vs++dvs) H1 Q E
def yZ(C:WT)(m:Xk)(sp:Sp)(dvs:List V)(E:XK)(ta:TE)(t:TA):TE:=λY H Q=>ta Y H λx H1=>∃a dx fs,x=.ref a/\H1 a=some (.ins C dx fs)/\fs.lookup m=none /\
 t Y H1 λvs H2=>sp (x::(vs++dvs)) H2 Q E
def zf(C:WT)(sp:Sp)(dvs:List V)(E:XK)(t:TA):TE:=λY H Q=>t Y H λvs H1=>∀x dx,H1 x=none->H1 dx=none->dx≠x ->
 sp (.ref x::(vs++dvs)) (upd (upd H1 dx (.own x)) x (.ins C dx [])) (λv H2=>v=.non/\Q (.ref x) H2) E
def Binds(K:WX)(fd:YO)(ps:List Xk)(ds:List WW):Prop :=
 ∀(s:W3)(us:List WW),K.In s.1->(us++ds).length=ps.length->BindsTo s fd ⟨us,[]⟩ (ps.zip (us++ds))
theorem Binds.all(h:∀us:List WW,us.length=ps.length->bindArgs fd ⟨us,[]⟩=pure (ps.zip us)):Binds K fd ps []:=λs us _ hl=>by
 rw[Yz]at hl |-;exact .of_eq (h us hl)
def Passes(CX:CXT)(X:Cx)(E:XK):Prop:=∀(Z:List (WT×YF))(Y:St)(H:Hp)(s:W3)(e:WW)(s':W3),Inv X Z Y H s->CX X.stack H s E e s'->X.xe e s'
section
variable{CX:CXT}{k:Nat}{sp:Sp}{dvs:List V}{ds:List WW}{E:XK}{m:Xk}{p apos:Pos}{o:XY}{es:List XY}{ta:TE}{t:TA}
theorem uK{Q:VK}{vs:List V}(F:FnOk X.prog X.w X.K X.mg X.base CX k f fd ps sp)(hr:Room k X.A)(hb:Binds X.K fd ps ds)(hd:Vals dvs ds)(hx:Passes CX X E)
 (I:Inv X Z Y H s) (r:Vals vs us) (h:sp (vs++dvs) H Q E):Xd (Xx X.prog X.w) X.A (call (.ref f) us) (EP X Z Y Q) X.xe s:=by
 have r2:Vals (vs++dvs) (us++ds):=r.append hd;have hl:(us++ds).length=ps.length:=by rw[<-r2.length];exact F.len _ _ _ _ h
 refine wpAny_call (codeAny_mono (F.run X.A X.stack s H ⟨us,[]⟩ (us++ds) (vs++dvs) Q E hr I.env0 (hb s us I.kIn hl) r2 h) λr s' hq=>?_);cases r with
 |error e=>exact hx Z Y H s e s' I hq
 | ok fl =>
   cases fl with
   |ret u=>exact I.after hq
   |next=>exact Ye hq
   |brk=>exact Ye hq
   |cont=>exact Ye hq
theorem cB(F:FnOk X.prog X.w X.K X.mg X.base CX k f fd ps sp)(hr:Room k X.A)(hg:Gl X x)(hm:X.mg x=some (.ref f))(hk:YJ X.K (.ref f)=true)(hb:Binds X.K fd ps ds)(hd:Vals dvs ds)(hx:Passes CX X E)
 (ha:PA X (e::es) t) (Df:(x == ("__debug__":Xk))=false:=by decide) (he:XJ (e::es) X.env=(false,YW e X.env)::XJ es X.env:=by rfl) (AV:(ZD pos (XJ es X.env)).any (·.1)=false:=by rfl) :
 PE X (.Call (.Name x p) (e::es) [] pos) (f9 sp dvs E t):=by
 intro Z s Y H Q I h;refine Yu (gz I hg hm ?_ Df);refine PySem.W.callWith_K (h₀:=X.base) I.ok.mod.kin hk (thn (ha pos Z s Y H _ I h) λus s1⟨vs,H1,I1,r,q⟩=>⟨I1.kIn,?_⟩) he AV;exact uK F hr hb hd hx I1 r q
theorem rf{pl:Sem Bool}(he:PE X o ta)(c:Cls X.K C)(hm:Meth X.K C m f)(F:FnOk X.prog X.w X.K X.mg X.base CX k f fd ps sp)(hr:Room k X.A)(hb:Binds X.K fd ps ds)(hd:Vals dvs ds)(hx:Passes CX X E)(ha:PA X (e::es) t)
 (Cz:XJ (e::es) X.env=(false,YW e X.env)::XJ es X.env:=by rfl) (AV:(ZD pos (XJ es X.env)).any (·.1)=false:=by rfl)
 (ht:YW (.Call (.Attribute o m apos) (e::es) [] pos) X.env=(do
  let ov <-YW o X.env
  standAt apos.atName
  let(f,first) <-holding [ov] (getMethod ov m pl)
  callWith pos f first (ZD pos (XJ (e::es) X.env)) (backToKw pos (keywordEach [] X.env))):=by rfl) :
 PE X (.Call (.Attribute o m apos) (e::es) [] pos) (yZ C m sp dvs E ta t):=by
 intro Z s Y H Q I h;refine PySem.W.methodCall_KW (pl:=pl) (thn (he Z s Y H _ I h) λu s1⟨x,H1,I1,rx,a,dx,fs,ex,ea,l,q⟩=>?_) ht;subst ex;obtain rfl:u=XO a:=rx;refine pN I1 ea c hm l ?_;refine PySem.W.callWith_K (first:=[.ref a]) (h₀:=X.base) I.ok.mod.kin hm.kp (thn (ha pos Z s1 Y H1 _ I1 q) λus s2⟨vs,H2,I2,r,q2⟩=>⟨I2.kIn,?_⟩) Cz AV;exact uK (us:=.ref a::us) (vs:=.ref a::vs) F hr hb hd hx I2 (.cons rfl r) q2
structure Mk(K:WX)(C f:WT):Prop where
 makes:PySem.W.makesIn K C=true
 init:XT K (.ref C) "__init__"=some (some (.ref f))
 fn:PySem.W.isFn K (.ref f)=true
 kp:YJ K (.ref C)=true
theorem ur{Q:VK}{vs:List V}(M:Mk X.K C f)(F:FnOk X.prog X.w X.K X.mg X.base CX k f fd ps sp)(hr:Room (k+1) X.A)(hb:Binds X.K fd ps ds)(hd:Vals dvs ds)
 (hx:Passes CX X E) (I:Inv X Z Y H s) (r:Vals vs us)
 (h:∀x dx,H x=none->H dx=none->dx≠x->sp (.ref x::(vs++dvs)) (upd (upd H dx (.own x)) x (.ins C dx [])) (λv H2=>v=.non/\Q (.ref x) H2) E) :
 Xd (Xx X.prog X.w) X.A (call (.ref C) us) (EP X Z Y Q) X.xe s:=by
 have hq:=h (s.1.1.size+1) s.1.1.size (I.hok.fresh (Nat.le_succ _)) (I.hok.fresh (W2 _)) (XG (Nat.lt_succ_self _));have I2:=Inv.made (C:=C) I;have r2:Vals (i! (s.1.1.size+1)::(vs++dvs)) (XO (s.1.1.size+1)::(us++ds)):=.cons rfl (r.append hd)
 have hl:(XO (s.1.1.size+1)::us++ds).length=ps.length:=by
  have e:=r2.length;rw[F.len _ _ _ _ hq]at e;exact e.symm
 refine wpAny_call (vc (f:=f) I.kIn M.makes M.init (beq_iff_eq.mp M.fn) (codeAny_mono (F.run _ X.stack _ _ ⟨XO (s.1.1.size+1)::us,[]⟩ (XO (s.1.1.size+1)::(us++ds)) _ _ E (hr.make C us [])
  (I2.env0.make C us []) (hb _ (XO (s.1.1.size+1)::us) I2.kIn hl) r2 hq) λr s' FH=>?_))
 cases r with
 |error e=>exact hx Z Y _ _ e s' I2 FH
 | ok fl =>
   cases fl with
   | ret u =>
     obtain⟨v,H',I3,rv,ev,q3⟩:=I2.after FH;subst ev;exact⟨rv,⟨i! (s.1.1.size+1),H',I3,rfl,q3⟩⟩
   |next=>exact Ye FH
   |brk=>exact Ye FH
   |cont=>exact Ye FH
theorem oM(M:Mk X.K C f)(F:FnOk X.prog X.w X.K X.mg X.base CX k f fd ps sp)(hr:Room (k+1) X.A)(hg:Gl X x)(hm:X.mg x=some (.ref C))(hb:Binds X.K fd ps ds)(hd:Vals dvs ds)(hx:Passes CX X E)
 (Df:(x == ("__debug__":Xk))=false:=by decide):PE X (.Call (.Name x p) [] [] pos) (zf C sp dvs E dS):=by
 intro Z s Y H Q I h;refine Yu (gz I hg hm ?_ Df);exact PySem.W.callWith_K0 I.kIn M.kp (ur (us:=[]) M F hr hb hd hx I .nil h)
end
section
variable{CX:CXT}{k:Nat}{ks:List Xk}{sp:Sp}{E:XK}{m:Xk}{p apos Vg:Pos}{o:XY}{es:List XY}{kws:List Keyword}{ta:TE}{t tk:TA}{nm:Option Xk}
variable{g:List WW->List WW->List WW}{gV:List V->List V->List V}
end
structure ay(N P:List Xk)(sc:ZN):Prop where
 kind:sc.kind=.function
 co:sc.isCoroutine=false
 gen:sc.isGenerator=false
 nd:N.Nodup
 pre:N.take P.length=P
 par:∀x∈P,sc.names.lookup x=some .local\/sc.names.lookup x=some .cell
 nofree:∀y∈sc.names,y.2≠.free
theorem nk:∀{binds:List (Xk×WW)}{m:Xk->Option WW},(∀v,(x,v)∉binds)->bindL kindOf binds m x=m x
 | [],_,_=>rfl
 | (n,v)::r,m,h=>by
   unfold bindL;rw[nk λw hw=>h w (WQ _ hw)];split
   .have:x≠n:=by rintro rfl;exact h v WY
    simp[this]
   .rfl
theorem my:∀{binds:List (Xk×WW)}{m:Xk->Option WW},(∀v,(x,v)∉binds)->bindC kindOf binds m x=m x
 | [],_,_=>rfl
 | (n,v)::r,m,h=>by
   unfold bindC;rw[my λw hw=>h w (WQ _ hw)];split
   .rfl
   .have:x≠n:=by rintro rfl;exact h v WY
    simp[this]
theorem mr{v:WW}:∀{P:List Xk}{vs:List WW}{i:Nat}{m:Xk->Option WW},P.Nodup->P[i]?=some x->vs[i]?=some v->kindOf x=some .local ->
 bindL kindOf (P.zip vs) m x=some v
 | [],_,_,_,_,h,_,_=>by simp at h
 |_::_,[],_,_,_,_,h,_=>by simp at h
 | p::P,w::vs,0,m,nd,h1,h2,hk=>by
   simp at h1 h2;subst h1;subst h2;show bindL kindOf ((p,w)::P.zip vs) m p=_;unfold bindL;rw[nk λv hv=>(Yg.mp nd).1 (List.of_mem_zip hv).1,b! hk];simp
 | p::P,w::vs,i+1,m,nd,h1,h2,hk=>by
   show bindL kindOf ((p,w)::P.zip vs) m x=_;unfold bindL;exact mr (i:=i) (Yg.mp nd).2 (by simpa using h1) (by simpa using h2) hk
theorem mU{v:WW}:∀{P:List Xk}{vs:List WW}{i:Nat}{m:Xk->Option WW},P.Nodup->P[i]?=some x->vs[i]?=some v->kindOf x≠some .local ->
 bindC kindOf (P.zip vs) m x=some v
 | [],_,_,_,_,h,_,_=>by simp at h
 |_::_,[],_,_,_,_,h,_=>by simp at h
 | p::P,w::vs,0,m,nd,h1,h2,hk=>by
   simp at h1 h2;subst h1;subst h2;show bindC kindOf ((p,w)::P.zip vs) m p=_;unfold bindC;rw[my λv hv=>(Yg.mp nd).1 (List.of_mem_zip hv).1,a! hk];simp
 | p::P,w::vs,i+1,m,nd,h1,h2,hk=>by
   show bindC kindOf ((p,w)::P.zip vs) m x=_;unfold bindC;exact mU (i:=i) (Yg.mp nd).2 (by simpa using h1) (by simpa using h2) hk
def start(N:List Xk)(vs:List V):St:=vs.map some++Xr (N.length - vs.length) none
def l7(CX:CXT)(P:Xm)(w:XD)(K:WX)(mg:Xk->Option WW)(base:X4)(N:List Xk)(qual:Xk)(scope:ZN)(f:WT)(cd:WW)(A:XN)(outer:List Env)(s:W3)(H:Hp)(E:XK):Cx where
 prog:=P
 w:=w
 K:=K
 mg:=mg
 base:=base
 A:=A.deeper (Z0 qual scope s.1.1.size f cd)
 N:=N
 s₀:=s
 H₀:=H
 env:=Z0 qual scope s.1.1.size f cd
 outer:=outer
 stack:=Z0 qual scope s.1.1.size f cd::outer
 ex:=[]
 calm:=true
 fn:=λ_=>true
 pn:=[]
 xe:=λe s'=>Xd (Xx P w) (A.deeper (Z0 qual scope s.1.1.size f cd)) (leaving (Z0 qual scope s.1.1.size f cd) e) (λ_ NK=>CX outer H s E e NK) (λe' NK=>CX outer H s E e' NK) s'
theorem pf(h:sc.names.lookup x=some .cell):∃c,(cellsFrom n sc.names []).lookup x=some c:=by
 have q:=PySem.W.cellsFrom_some sc.names n [] (.inl h);exact Option.isSome_iff_exists.mp q
theorem sg{CX:CXT}{cd:WW}{outer:List Env}{s1:W3}{E:XK}{vs:List V}
 (S:ay N ps scope) (hd:A.handled=none) (e0:Env0 P w K mg base A outer s H) (hl:vs.length=ps.length) (r:Vals vs us)
 (x:InCallC s s.1.1.size (bindL (Z0 qual scope s.1.1.size f cd).kindOf (ps.zip us) λ_=>none) (cellsFrom (s.1.1.size+1) scope.names []) (bindC (Z0 qual scope s.1.1.size f cd).kindOf (ps.zip us) λ_=>none) s1) :
 Inv (l7 CX P w K mg base N qual scope f cd A outer s H E) [] (start N vs) H s1:=by
 have AV:ps.length<=N.length:=by have:=h! Ze S.pre;rw[XI]at this;omega
 obtain⟨h1,tk,rfl,hk⟩:=x.done;have NL:∀b:WT,b∉(l7 CX P w K mg base N qual scope f cd A outer s H E).ex:=λb z=>g! (show b∈([]:List WT)from z) (by simp)
 refine⟨⟨e0.mod,S.kind,rfl,rfl,W2 _,λy z c h1 h2=>?_,λy hy=>?_,λy c _ h=>?_,λ_=>hd,Around.frames_deeper e0.frames,.inr ⟨rfl,rfl⟩,λb z=>g! z (NL b),e0.bs,e0.bsz,λb _ _=>NL b,λb z=>g! z (NL b),e0.funs,e0.frf⟩,
  rfl,e0.bare,Un.kept hk,⟨_,x.toInCall.ns,λi y v h1 h2 h3=>?_⟩,λy c h=>⟨_,x.cell y c h⟩,e0.hok.fresh (W2 _),λy c h=>?_,λp hp=>g! (show p∈([]:List (WT×YF))from hp) (by simp),e0.hok.kept hk,?_⟩
 .exact name_of_addr x.apart (Yc h1) (Yc h2)
 .have hy:scope.names.lookup y=some .cell\/scope.names.lookup y=some .free:=hy;rcases hy with hy|hy
  .exact pf hy
  .exact g! rfl (S.nofree _ (Yc hy))
 .exact Za (x.above y c (Yc h))
 .have hi:i<vs.length:=by
   unfold start at h2;by_cases hi:i<vs.length
   .exact hi
   .rw[XX (by simpa using hi)]at h2;rw[List.getElem?_replicate]at h2;split at h2 <;> cases h2
  have ha:vs[i]?=some v:=by
   unfold start at h2;rw[XA (by simpa using hi),Xj]at h2;cases e:vs[i]? with
   |none=>rw[e]at h2;cases h2
   |some a=>rw[e]at h2;cases h2;rfl
  obtain⟨u,hu,rv⟩:=r.get ha
  have hp:ps[i]?=some y:=by
   rw[<-S.pre,List.getElem?_take_of_lt (by omega)];exact h1
  have Mz:ps.Nodup:=by rw[<-S.pre];exact S.nd.sublist (List.take_sublist _ _)
  refine⟨u,rv,?_⟩;rcases S.par y (WR hp)with k|k
  .exact .inl ⟨k,mr Mz hp hu k⟩
  .obtain⟨c,e⟩:=pf (n:=s.1.1.size+1) k;refine .inr ⟨.inl k,c,e,?_⟩;have q:=x.cell y c e;rw[mU Mz hp hu (by show scope.names.lookup y≠_;rw[k];decide)]at q;exact q
 .exact e0.hok.fresh (Za (x.above y c (Yc h)))
 .unfold start;show _=N.length;rw[W6,WO,YX];omega
theorem xh{CX:CXT}{k:Nat}{dV kV doc pm Aj ct:WW}{an:Option WT}
 {Ey:Array (Option WW)} {sp:Sp} (lk:K.lookup f=some ⟨oc,od,.func (YR name qual params body scope dV kV doc pm an Aj ct),Ey⟩) (Ck:PySem.W.codeIn K Aj qual=true) (S:ay N ps scope)
 (len:∀vs H Q E,sp vs H Q E->vs.length=ps.length)
 (AZ:∀(A:XN)(outer:List Env)(s:W3)(H:Hp)(vs:List V)(Q:VK)(E:XK),Room k (A.deeper (Z0 qual scope s.1.1.size f Aj))->sp vs H Q E ->
  ∃t,PSs (l7 CX P w K mg base N qual scope f Aj A outer s H E) body t/\t {nx:=λ_ H'=>Q .non H',rt:=Q} (start N vs) H) :
 FnOk P w K mg base CX (k+1) f (YR name qual params body scope dV kV doc pm an Aj ct) ps sp:=by
 refine⟨len,λA outer s H args us vs Q E hr e0 hb r BX=>?_⟩;have hl:=len _ _ _ _ BX;have KX:K.In s.1:=e0.mod.kin.keeps λb o e=>(e0.bs b o e).1;have lim:s.1.NoLimit:=e0.mod.nolimit.keeps λb o e=>(e0.bs b o e).1
 have JO:∀y∈ps.zip us,scope.names.lookup y.1=some .local\/(scope.names.lookup y.1=some .cell/\((cellsFrom (s.1.1.size+1) scope.names []).lookup y.1).isSome=true):=λ⟨n,v⟩hy=>by
  rcases S.par n (List.of_mem_zip hy).1 with q|q
  .exact .inl q
  .exact .inr ⟨q,PySem.W.cellsFrom_some _ _ _ (.inl q)⟩
 refine codeAny_call_function hr.depth (KX _ _ lk) rfl S.co S.gen rfl (PySem.W.codeRec_of KX Ck) (hb _ _ _ _ ?_);refine wpAny_newFunctionEnv_cells S.kind JO λenv he s1 x=>?_;subst he;refine⟨lim.keeps x.toInCall.keep,codeAny_func ?_⟩;obtain⟨t,ht,hq⟩:=AZ A outer s H vs Q E (hr.deeper _) BX;have I:Inv (l7 CX P w K mg base N qual scope f Aj A outer s H E) [] (start N vs) H s1:=sg S hr.hd e0 hl r x;refine YB (ht [] s1 (start N vs) H _ I hq) (λfl s' hs=>?_) λe s' hs=>hs
 have fin:∀{i':St}{H':Hp}{v:V}{u:WW},Inv (l7 CX P w K mg base N qual scope f Aj A outer s H E) [] i' H' s'->RelV v u->Q v H'->CE outer P w H s Q u s' :=
  λ{i' H' v u}J rv q=>⟨v,H',J.os,J.bare,J.base,J.hok,rv,q⟩
 cases fl with
 | ret u =>
   obtain⟨v,i',H',J,rv,q⟩:=hs;exact fin J rv q
 | next =>
   obtain⟨i',H',J,q⟩:=hs;exact fin (v:=V.non) (u:=Yj) J rfl q
 | brk =>
   obtain⟨_,_,_,q⟩:=hs;exact Ye q
 | cont =>
   obtain⟨_,_,_,q⟩:=hs;exact Ye q
end L2
variable{CX:L2.CXT}{sp:L2.Sp}
namespace L2
open PySem PySem.Spec PyProof.Rows
section
variable{p:Pos}{es:List XY}{t:TA}{id T:String}{r:List V->Hp->VK->Prop}
def tCB(r:List V->Hp->VK->Prop)(t:TA):TE:=λY H Q=>t Y H λvs H1=>r vs H1 Q
theorem aD(hc:dq X (.builtin id) r)(hg:Gl X x)(hm:X.mg x=none)(hv:bootBuiltins x=some (.builtin id))(ha:PA X (e::es) t)(hn:x≠"__name__":=by decide)(Df:(x == ("__debug__":Xk))=false:=by decide)
 (he:XJ (e::es) X.env=(false,YW e X.env)::XJ es X.env:=by rfl) (AV:(ZD pos (XJ es X.env)).any (·.1)=false:=by rfl):PE X (.Call (.Name x p) (e::es) [] pos) (tCB r t):=by
 intro Z s Y H Q I h;refine Yu (fR I hg hm hv ?_ hn Df);exact PyProof.Rows.callWith_builtin1 (thn (ha pos Z s Y H _ I h) λus s1⟨vs,H1,I1,r1,q1⟩=>hc Z s1 Y H1 vs us Q I1 r1 q1) he AV
theorem aL(hc:dq X (.type T) r)(hg:Gl X x)(hm:X.mg x=none)(hv:bootBuiltins x=some (.type T))(ha:PA X (e::es) t)(hn:x≠"__name__":=by decide)(Df:(x == ("__debug__":Xk))=false:=by decide)
 (he:XJ (e::es) X.env=(false,YW e X.env)::XJ es X.env:=by rfl) (AV:(ZD pos (XJ es X.env)).any (·.1)=false:=by rfl):PE X (.Call (.Name x p) (e::es) [] pos) (tCB r t):=by
 intro Z s Y H Q I h;refine Yu (fR I hg hm hv ?_ hn Df);exact YQ (thn (ha pos Z s Y H _ I h) λus s1⟨vs,H1,I1,r1,q1⟩=>hc Z s1 Y H1 vs us Q I1 r1 q1) he AV
end
end L2
namespace HT
open PySem PyProof.Rows
section
open PySem.SeqAt
open PySem.AutoSeq1 (wpAny_loadPart')
open PySem.MeetsSeq PySem.MeetsSeq2 PySem.MeetsSeq3
end
theorem cat_tup{t:WT}{vs ws:List WW}(ht:IsTup s.1 t vs.toArray)(hb:IsTup s.1 b ws.toArray)(hv:vs≠[])
 (h1:ws=[]->Q (.ref t) s) (h2:ws≠[]->Q (.ref s.1.1.size) {s with heap:=s.1.push {cls:=.type "tuple",data:=.seq (vs++ws).toArray}})
 (hsz:vs.length+ws.length<=Xh):Xd (Xx prog w) A (binaryOp .Add (.ref t) (.ref b)) Q E s:=by
 obtain⟨⟨cls,dd,data,sl⟩,ho,hc,n,hd⟩:=id ht;obtain⟨⟨JP,IM,data2,IP⟩,G8,DB,n2,hd2⟩:=id hb;simp only at hc hd DB hd2;subst hc hd DB hd2;have e:vs.toArray++ws.toArray=(vs++ws).toArray:=by simp
 by_cases hw:ws=[]
 .exact concat_meets ⟨_,ho,rfl⟩ ⟨_,G8,rfl⟩ noFill_tuple_add seq_tuple_add PySem.F.slot_tuple_add PySem.F.entry_tuple_add (PySem.F.args_tuple_add_2 _ _)
   (tuple_addW1 t b vs.toArray ws.toArray n n2 dd IM sl IP (by simpa using hv) (by simp[hw])) ⟨ho,G8,h1 hw⟩
 .refine concat_meets ⟨_,ho,rfl⟩ ⟨_,G8,rfl⟩ noFill_tuple_add seq_tuple_add PySem.F.slot_tuple_add PySem.F.entry_tuple_add (PySem.F.args_tuple_add_2 _ _)
   (tuple_addW2 t b vs.toArray ws.toArray n n2 dd IM sl IP (by simpa using hv) (by simpa using hw) (by rw[Xa,Xa];exact hsz)) ⟨ho,G8,?_⟩
  rw[e];exact h2 hw
def sIx(n d:Nat):Option Int->Nat
 |none=>d
 |some v=>if v<0 then(v+(n:Int)).toNat else min v.toNat n
theorem sIx_none(n d:Nat):sIx n d none=d:=rfl
theorem sIx_nat(n d k:Nat):sIx n d (some (k:Int))=min k n:=by
 show(if(k:Int)<0 then((k:Int)+(n:Int)).toNat else min (k:Int).toNat n)=min k n;rw[a! (by omega),YH]
theorem sIx_le(n d:Nat)(hd:d<=n)(o:Option Int):sIx n d o<=n:=by
 cases o with
 |none=>exact hd
 | some v =>
   show(if v<0 then(v+(n:Int)).toNat else min v.toNat n)<=n;by_cases hv:v<0
   .rw[b! hv];omega
   .rw[a! hv];exact Nat.min_le_right _ _
theorem clip_eq(v:Int)(n d:Nat):(if v<0 then max (v+(n:Int)) 0 else min v (n:Int))=((sIx n d (some v):Nat):Int):=by
 show(if v<0 then max (v+(n:Int)) 0 else min v (n:Int))=(((if v<0 then(v+(n:Int)).toNat else min v.toNat n):Nat):Int);by_cases hv:v<0
 .simp only[b! hv];omega
 .simp only[a! hv];omega
theorem adjust_gen(lo hi:Option Int)(n:Nat):ZF lo hi 1 (n:Int)=(((sIx n 0 lo:Nat):Int),((sIx n n hi:Nat):Int)):=by
 have h1:¬((1:Int)<0):=by omega
 unfold ZF;simp only[h1,if_false];refine Prod.ext ?_ ?_
 .cases lo with
  |none=>rfl
  |some v=>exact clip_eq v n 0
 .cases hi with
  |none=>rfl
  |some v=>exact clip_eq v n n
theorem places_gen(i j:Nat):Yt (i:Int) (j:Int) 1=j - i:=by
 unfold Yt;have h1:(1:Int) > 0:=by omega
 simp only[h1,if_true,Int.ediv_one];split <;> omega
theorem slicePart_{v:WW}{o:Option Int}{Q:Option Int->W3->Prop}(p:IsPart v o)(h:Q o s):Xd (Xx prog w) A (Builtin.Slice.slicePartIndex v) Q E s:=by
 cases p with
 |none=>exact slicePart_none h
 |int i t=>exact slicePart_int h
theorem sliceApplied_gen{Q:Int×Int×Nat->W3->Prop}(hs:s.1.IsSliceOf sl vl vu .none)(pl:IsPart vl lo)(pu:IsPart vu hi)
 (h:Q (((sIx n 0 lo:Nat):Int),1,sIx n n hi - sIx n 0 lo) s):Xd (Xx prog w) A (Builtin.Slice.sliceApplied (.ref sl) (pure (n:Int))) Q E s:=by
 obtain⟨os,BH,CI,CB⟩:=id hs;unfold Builtin.Slice.sliceApplied Builtin.Slice.sliceFields;refine WN (WN (X3 BH CB (x:=vl) rfl (WN (X3 BH CB (x:=vu) rfl (WN (X3 BH CB (x:=.none) rfl (W0 ?_)))))));refine WN (slicePart_none ?_);show Xd _ _ (if((1:Int) == 0)=true then _ else _) _ _ s;rw[a! (by decide)];refine WN (slicePart_ pl (WN (slicePart_ pu (WN (W0 ?_)))));show Xd _ _ (match ZF lo hi 1 (n:Int)with|(lo,hi)=>pure (lo,(1:Int),Yt lo hi 1)) _ _ s;rw[adjust_gen lo hi n];show Xd _ _ (pure (((sIx n 0 lo:Nat):Int),(1:Int),Yt ((sIx n 0 lo:Nat):Int) ((sIx n n hi:Nat):Int) 1)) _ _ s;rw[places_gen];exact W0 h
theorem pick_gen(xs:Array WW)(i k:Nat):((Yn k).filterMap λ(m:Nat)=>xs[((i:Int)+(m:Int) * 1).toNat]?).toArray=((xs.toList.drop i).take k).toArray:=by
 have e:(λ(m:Nat)=>xs[((i:Int)+(m:Int) * 1).toNat]?)=λm=>xs[i+m]?:=by
  funext m;have:((i:Int)+(m:Int) * 1).toNat=i+m:=by omega
  rw[this]
 rw[e];have:=pick_run xs i k;rw[List.filterMap_map]at this;have e2:((λx=>xs[x]?) ∘ λx=>i+x)=λm=>xs[i+m]?:=rfl;rw[e2]at this;rw[this]
theorem getItem_tuple_cut{t:WT}(ht:IsTup s.1 t items)(hs:s.1.IsSliceOf sl vl vu .none)(pl:IsPart vl lo)(pu:IsPart vu hi)
 (hw:¬(sIx items.size 0 lo=0/\sIx items.size items.size hi=items.size))
 (h:Q (.ref s.1.1.size) {s with heap:=s.1.push {cls:=.type "tuple",data:=.seq ((items.toList.drop (sIx items.size 0 lo)).take (sIx items.size items.size hi - sIx items.size 0 lo)).toArray}})
 (hsz:items.size<=Xh):Xd (Xx prog w) A (getItem (.ref t) (.ref sl)) Q E s:=by
 have Br:sizeOk (.seq ((items.toList.drop (sIx items.size 0 lo)).take (sIx items.size items.size hi - sIx items.size 0 lo)).toArray):=by
  show((items.toList.drop (sIx items.size 0 lo)).take (sIx items.size items.size hi - sIx items.size 0 lo)).toArray.size<=Xh;rw[Xa,XI,XR,Xp];omega
 have hj:sIx items.size items.size hi<=items.size:=sIx_le _ _ (W2 _) hi;obtain⟨os,BH,CI,CB⟩:=id hs;have JQ:s.TypeIs (.ref sl) "slice":=⟨os,BH,CI⟩;unfold getItem
 try with_reducible refine Yl ?_
 first|refine WN (W0 ?_)|skip
 refine WN (wpAny_sequenceKey ht.typeIs (by decide) ?_)
 refine WN (X0 (name:=WU "__getitem__") ht.typeIs XZ
  (X7 XZ ht.typeIs entry_tuple_getitem ?_ (args_tuple_getitem _ _)))
 show Xd _ _ (Builtin.Tuple.tupleItemsOf (.ref t) >>= _) _ _ s;refine WN (tupleItemsOf_ ht ?_);refine WN (ZH JQ ?_);rw[b! (by decide)];refine WN (sliceApplied_gen hs pl pu ?_)
 have BL:¬((((sIx items.size 0 lo:Nat):Int) == 0 && (1:Int) == 1 && (sIx items.size items.size hi - sIx items.size 0 lo) == items.size)=true):=by
  intro q;rw[Bool.and_eq_true,Bool.and_eq_true]at q;have q1:((sIx items.size 0 lo:Nat):Int)=0:=eq_of_beq q.1.1;have q2:sIx items.size items.size hi - sIx items.size 0 lo=items.size:=eq_of_beq q.2;exact hw ⟨by omega,by omega⟩
 show Xd _ _ (if(((sIx items.size 0 lo:Nat):Int) == 0 && (1:Int) == 1 && (sIx items.size items.size hi - sIx items.size 0 lo) == items.size)=true then _ else _) _ _ s;rw[a! BL,pick_gen]
 first
  |exact WN (m:=Yx _) (XW (W0 ⟨_,rfl,W0 h⟩) Br)
  |exact WN (m:=Yx _) (XW (WN (W0 (W0 ⟨_,rfl,W0 h⟩))) Br)
  |exact WN (WN (m:=Yx _) (XW (W0 (W0 ⟨_,rfl,W0 h⟩)) Br))
  |exact WN (WN (m:=Yx _) (XW (W0 ⟨_,rfl,W0 h⟩) Br))
end HT
open HT renaming sIx->t!,sIx_nat->x!,sIx_none->J!
namespace L2
open PySem PySem.Spec PyProof.Rows
abbrev TO:=St->Hp->(Option Int->Hp->Prop)->Prop
def PO(X:Cx)(e:Option XY)(t:TO):Prop :=
 ∀(Z:List (WT×YF))(s:W3)(Y:St)(H:Hp)(Q:Option Int->Hp->Prop),Inv X Z Y H s->t Y H Q ->
   Xd (Xx X.prog X.w) X.A (evalPart e X.env) (λu s'=>∃o H',Inv X Z Y H' s'/\IsPart u o/\Q o H') X.xe s
def wL:TO:=λ_ H Q=>Q none H
inductive wR(x:V)(Q:Option Int->Hp->Prop)(H1:Hp):Prop
 |mk (i:Int) (Aq:x=.int i) (Ar:Q (some i) H1):wR x Q H1
def xi(t:TE):TO:=λY H Q=>t Y H λx H1=>wR x Q H1
theorem intsAre_of{ns:List Int}:∀{us:List WW},Vals (ns.map o!) us->IntsAre us ns:=by
 induction ns with
 |nil=>intro us r;rw[ZA]at r;cases r;exact .nil
 | cons n ns ih =>
   intro us r;rw[XH]at r;cases r with
   | cons r1 r2 =>
     obtain⟨t,e⟩:=r1;subst e;exact .cons n t (ih r2)
section
variable{lo hi:Option XY}{tl th:TO}{p2:Pos}
theorem bt:PO X none wL:=by
 intro Z s Y H Q I h;rw[evalPart_none];exact W0 ⟨none,H,I,.none,h⟩
theorem bp(h:PE X e te):PO X (some e) (xi te):=by
 intro Z s Y H Q I hw;rw[evalPart_some];refine thn (h Z s Y H _ I hw) λu s1⟨x,H1,I1,r1,q1⟩=>?_;obtain⟨i,rfl,q⟩:=q1;obtain⟨t,rfl⟩:=r1;exact⟨some i,H1,I1,.int i t,q⟩
def SlR(X:Cx)(r:V->Option Int->Option Int->Hp->VK->Prop):Prop :=
 ∀(Z:List (WT×YF))(s:W3)(Y:St)(H:Hp)(x:V)(v vl vu:WW)(lo hi:Option Int)(sl:WT)(Q:VK),Inv X Z Y H s->RelV x v->s.1.IsSliceOf sl vl vu .none->IsPart vl lo->IsPart vu hi->r x lo hi H Q ->
   ∃T id,typeLookup (.type T) "__getitem__"=pure (some (.builtin id))/\s.TypeIs v T/\Xd (Xx X.prog X.w) X.A (getItem v (.ref sl)) (EP X Z Y Q) X.xe s
def tSl(r:V->Option Int->Option Int->Hp->VK->Prop)(te:TE)(tl th:TO):TE:=λY H Q=>te Y H λx H1=>tl Y H1 λl H2=>th Y H2 λu H3=>r x l u H3 Q
theorem aW{r:V->Option Int->Option Int->Hp->VK->Prop}(hr:SlR X r)(he:PE X e te)(hl:PO X lo tl)(hu:PO X hi th):PE X (.Subscript e (.Slice lo hi none p2) pos) (tSl r te tl th):=by
 intro Z s Y H Q I h;refine Subscript_ (thn (he Z s Y H _ I h) λv s1⟨x,H1,I1,r1,q1⟩=>?_);refine wpAny_Slice (thn (hl Z s1 Y H1 _ I1 q1) λvl s2⟨l,H2,I2,pl,q2⟩=>thn (hu Z s2 Y H2 _ I2 q2) λvu s3⟨u,H3,I3,pu,q3⟩=>?_);rw[evalPart_none];refine W0 ?_;have I4:Inv X Z Y H3 {s3 with heap:=s3.1.push {cls:=.type "slice",data:=.fields #[vl,vu,.none]}}:=I3.kept (t':=s3.toks) λb ob q=>WV _ q;obtain⟨T,id,hT,ht,hg⟩:=hr Z {s3 with heap:=s3.1.push {cls:=.type "slice",data:=.fields #[vl,vu,.none]}} Y H3 x v vl vu l u s3.1.1.size Q I4 r1 (Heap.IsSliceOf.new ..) pl pu q3;show Xd (Xx X.prog X.w) X.A (subscriptTail e (.Slice lo hi none p2) v (.ref s3.1.1.size)) (EP X Z Y Q) X.xe {s3 with heap:=s3.1.push {cls:=.type "slice",data:=.fields #[vl,vu,.none]}};exact tail_any (ops:=[.ref s3.1.1.size,v]) ht hT hg (by with_unfolding_all rfl)
def cR(xs:List V)(lo hi:Option Int):List V:=(xs.drop (t! xs.length 0 lo)).take (t! xs.length xs.length hi - t! xs.length 0 lo)
theorem d4(xs:List V)(lo hi:Option Int):(cR xs lo hi).length<=xs.length:=by
 unfold cR;rw[XI,XR];omega
inductive wY(K:WX)(x:V)(lo:Option Int)(hi:Option Int)(H:Hp)(Q:VK):Prop
 |mk (a:_) (xs:_) (Aq:x=.ref a) (Ar:SqT K H a xs) (Ax:¬(t! xs.length 0 lo=0/\t! xs.length xs.length hi=xs.length)) (AN:∀p,H p=none->Q (.ref p) (upd H p (.tup (cR xs lo hi)))):wY K x lo hi H Q
def zR(K:WX):V->Option Int->Option Int->Hp->VK->Prop:=wY K
theorem dX:SlR X (zR X.K):=by
 intro Z s Y H x v vl vu lo hi sl Q I rx hs pl pu h;obtain⟨a,xs,rfl,hx,hw,q⟩:=h;cases rx;obtain⟨its,r,ht,hz⟩:=I.tuple hx;have hlen:its.toArray.size=xs.length:=by rw[Xa];exact r.length.symm
 refine⟨"tuple",_,XZ.lookup,ht.typeIs,?_⟩;refine HT.getItem_tuple_cut ht hs pl pu (by rw[hlen];exact hw) ?_ (by rw[hlen];exact hz);rw[hlen];refine⟨.ref s.1.1.size,_,I.laid (t':=s.toks) (o:=.tup (cR xs lo hi)) (λb ob q=>WV _ q) (W2 _) ?_,rfl,q _ (I.hok.fresh (W2 _))⟩;exact⟨XS (d4 xs lo hi) hz,_,0,(r.drop (t! xs.length 0 lo)).take (t! xs.length xs.length hi - t! xs.length 0 lo),W4 _ rfl⟩
def zx(K:WX):R2:=λx y H Q=>∃a b xs ys,x=.ref a/\y=.ref b/\SqT K H a xs/\SqT K H b ys/\xs≠[]/\xs.length+ys.length<=Xh /\
 (ys=[]->Q (.ref a) H)/\(ys≠[]->∀p,H p=none->Q (.ref p) (upd H p (.tup (xs++ys))))
theorem Vals.nil_iff(r:Vals xs us):us=[]↔xs=[]:=by
 cases r with
 |nil=>simp
 |cons _ _=>simp
theorem wv:OpR X (binaryOp .Add) (zx X.K):=by
 intro Z s Y H x y v u Q I rx ry h;obtain⟨a,b,xs,ys,rfl,rfl,ha,hb,hx,hz,q1,q2⟩:=h;cases rx;cases ry;obtain⟨its,r1,p1,_⟩:=I.tuple ha;obtain⟨Al,r2,p2,_⟩:=I.tuple hb;refine HT.cat_tup p1 p2 (λz=>hx (r1.nil_iff.mp z)) (λz=>⟨.ref a,H,I,rfl,q1 (r2.nil_iff.mp z)⟩) (λz=>?_) (by rw[<-r1.length,<-r2.length];exact hz);refine⟨.ref s.1.1.size,_,I.laid (t':=s.toks) (o:=.tup (xs++ys)) (λb ob q=>WV _ q) (W2 _) ?_,rfl,q2 (λw=>z (r2.nil_iff.mpr w)) _ (I.hok.fresh (W2 _))⟩;exact⟨by rw[W6];exact hz,_,0,r1.append r2,W4 _ rfl⟩
end
def ixN(n:Nat)(i:Int):Option Nat:=if 0<=i then(if i<n then some i.toNat else none)else if -(n:Int)<=i then some (i+n).toNat else none
def atI{α:Type}(xs:List α)(i:Int):Option α:=(ixN xs.length i).bind λj=>xs[j]?
theorem qY{i:Int}(h:ixN n i=some j):seqIndex? i n=some j/\j<n/\-(n:Int)<=i/\i<n:=by
 unfold ixN at h;by_cases h0:0<=i
 .rw[b! h0]at h;by_cases h1:i<n
  .rw[b! h1]at h;have e:i.toNat=j:=Xf h;exact⟨by rw[seqIndex_of h0 h1,e],by omega,by omega,h1⟩
  .rw[a! h1]at h;cases h
 .rw[a! h0]at h;by_cases h1:-(n:Int)<=i
  .rw[b! h1]at h;have e:(i+n).toNat=j:=Xf h;exact⟨by rw[seqIndex_neg (by omega) h1,e],by omega,h1,by omega⟩
  .rw[a! h1]at h;cases h
theorem nJ{xs:List α}{i:Int}{v:α}(h:atI xs i=some v):∃j,seqIndex? i xs.length=some j/\xs[j]?=some v/\j<xs.length/\-(xs.length:Int)<=i/\i<xs.length:=by
 unfold atI at h;cases e:ixN xs.length i with
 |none=>rw[e]at h;cases h
 | some j =>
   rw[e]at h;obtain⟨h1,h2,h3,h4⟩:=qY e;exact⟨j,h1,h,h2,h3,h4⟩
theorem bw{xs:List α}{v:α}(h:xs[j]?=some v):atI xs (j:Int)=some v:=by
 have hj:j<xs.length:=(glE h)
 have e:ixN xs.length (j:Int)=some j:=by
  unfold ixN;rw[b! (by omega),b! (by omega)];simp
 unfold atI;rw[e];exact h
theorem uv(xs:List α)(v:α):atI (xs++[v]) (-1)=some v:=by
 have hl:(xs++[v]).length=xs.length+1:=by simp
 have e:ixN (xs++[v]).length (-1)=some xs.length:=by
  unfold ixN;rw[hl,a! (by decide),b! (by omega)];congr 1;omega
 unfold atI;rw[e];show(xs++[v])[xs.length]?=some v;simp
def vE(b:XY):Prop:=∀o i,subscripted b false o i=operate [o,i] (getItem o i)
def IxR(X:Cx)(r:R2):Prop :=
 ∀(value slice:XY)(Z:List (WT×YF))(s:W3)(Y:St)(H:Hp)(x y:V)(v u:WW)(Q:VK),Inv X Z Y H s->RelV x v->RelV y u->r x y H Q ->
   subscripted slice false v u=operate [v,u] (getItem v u)->Xd (Xx X.prog X.w) X.A (subscriptTail value slice v u) (EP X Z Y Q) X.xe s
def MtR(X:Cx)(id:String)(r:V->List V->Hp->VK->Prop):Prop :=
 ∀(Z:List (WT×YF))(s:W3)(Y:St)(H:Hp)(x:V)(xs:List V)(v:WW)(us:List WW)(Q:VK),Inv X Z Y H s->RelV x v->Vals xs us->r x xs H Q ->
   Xd (Xx X.prog X.w) X.A (call (.builtin id) (v::us)) (EP X Z Y Q) X.xe s
section
variable{a b:XY}{ta tb:TE}
theorem aw(hr:IxR X r)(ha:PE X a ta)(hb:PE X b tb)(hs:vE b):PE X (.Subscript a b pos) (tOp r ta tb):=by
 intro Z s Y H Q I h;exact Subscript_ (yu ha hb I h λv u s2 x y H2 I2 rx ry q=>hr a b Z s2 Y H2 x y v u Q I2 rx ry q (hs _ _))
inductive xk(K:WX)(x:V)(y:V)(H:Hp)(Q:VK):Prop
 |mk (p:_) (xs:_) (i:_) (v:_) (Aq:x=.ref p) (Ar:y=.int i) (Ax:SqL K H p xs) (AN:atI xs i=some v) (Bd:Q v H):xk K x y H Q
def aab(K:WX):R2:=xk K
inductive xn(K:WX)(x:V)(y:V)(H:Hp)(Q:VK):Prop
 |mk (p:_) (xs:_) (i:_) (v:_) (Aq:x=.ref p) (Ar:y=.int i) (Ax:SqT K H p xs) (AN:atI xs i=some v) (Bd:Q v H):xn K x y H Q
def jA(K:WX):R2:=xn K
inductive wV(x:V)(y:V)(H:Hp)(Q:VK):Prop
 |mk (z:_) (i:_) (c:_) (Aq:x=.str z) (Ar:y=.int i) (Ax:z.length<=Xh) (AN:atI z.cps.toList i=some c) (Bd:Q (.str ⟨#[c]⟩) H):wV  x y H Q
def zX:R2:=wV
theorem bh:IxR X (aab X.K):=by
 intro value slice Z s Y H x y v u Q I rx ry h hs;obtain⟨p,xs,i,z,rfl,rfl,hq,he,q⟩:=h;cases rx;obtain⟨t,rfl⟩:=ry;obtain⟨its,r,pl,hz⟩:=I.list hq;obtain⟨j,h1,h2,h3,h4,h5⟩:=nJ he;obtain⟨w,ew,Ez⟩:=r.get h2;have hl:=r.length;have hn:=fm;have fin:EP X Z Y Q w s:=⟨z,H,I,Ez,q⟩;by_cases h0:0<=i
 .have hj:i.toNat=j:=by
   rw[seqIndex_of h0 h5]at h1;exact Xf h1
  exact item_listR pl.isList h0 (by omega) (by rw[hj];simpa using ew) fin hs
 .have hj:(i+(its.toArray.size:Int)).toNat=j:=by
   rw[seqIndex_neg (by omega) h4]at h1;rw[Xa,<-hl];exact Xf h1
  exact subscriptTail_builtinR (x:=w) pl.isList.typeIs slot_list_getitem.lookup
   (wpAny_getItem_list_neg (Q:=λr s'=>r=w/\EP X Z Y Q r s') pl.isList (by omega) (by rw[Xa] <;> omega) (by omega) (by rw[hj];simpa using ew) ⟨rfl,fin⟩) hs
theorem ax:IxR X (jA X.K):=by
 intro value slice Z s Y H x y v u Q I rx ry h hs;obtain⟨p,xs,i,z,rfl,rfl,hq,he,q⟩:=h;cases rx;obtain⟨t,rfl⟩:=ry;obtain⟨its,r,pl,hz⟩:=I.tuple hq;obtain⟨j,h1,h2,h3,h4,h5⟩:=nJ he;obtain⟨w,ew,Ez⟩:=r.get h2;have hl:=r.length;have hn:=fm;have fin:EP X Z Y Q w s:=⟨z,H,I,Ez,q⟩
 exact subscriptTail_builtinR (x:=w) pl.typeIs slot_tuple_getitem.lookup
  (getItem_tuple (j:=j) (Q:=λr s'=>r=w/\EP X Z Y Q r s') pl (by omega) (by omega) (by rw[Xa,<-hl];exact h1) (by simpa using ew) ⟨rfl,fin⟩) hs
theorem t3:IxR X zX:=by
 intro value slice Z s Y H x y v u Q I rx ry h hs;obtain⟨z,i,c,rfl,rfl,hz,he,q⟩:=h;obtain⟨t,rfl⟩:=rx;obtain⟨t',rfl⟩:=ry;obtain⟨j,h1,h2,h3,h4,h5⟩:=nJ he;have hl:z.cps.toList.length=z.length:=by simp[Str.length]
 rw[hl]at h1 h4 h5;have hn:=fm
 exact tail_any (typeIs_str s z t) slot_str_getitem.lookup (getItem_str (c:=c) (by
  have e1:decide (i < -(2 ^ 63:Int))=false:=c! (by omega);have e2:decide (i >= 2 ^ 63)=false:=c! (by omega);rw[e1,e2,Bool.or_false]) (by rw[h1];simpa using h2) ⟨.str ⟨#[c]⟩,H,I.tok _,⟨_,rfl⟩,q⟩) hs
theorem pP(its:List WW)(n j:Nat)(u:WW):Zf (·.setIfInBounds j u) {cls:=.type "list",data:=.seq its.toArray n}={cls:=.type "list",data:=.seq (its.set j u).toArray n}:=by
 simp[Zf]
theorem Inv.lst{p:WT}(I:Inv X Z Y H s)(h:H p=some (.lst xs)) :
 ∃(its:List WW)(n:Nat),Vals xs its/\s.1.get? p=some {cls:=.type "list",data:=.seq its.toArray n}/\xs.length<=Xh:=by
 obtain⟨z,its,n,r,e⟩:=I.hok p _ h;exact⟨its,n,r,e,z⟩
theorem Inv.lstUpd{p:WT}{ys:List V}{its':List WW}{n':Nat}{f:YF->YF}(I:Inv X Z Y H s)(h:H p=some (.lst xs))
 (ho:s.1.get? p=some {cls:=.type "list",data:=.seq its.toArray n}) (hf:f {cls:=.type "list",data:=.seq its.toArray n}={cls:=.type "list",data:=.seq its'.toArray n'}) (r:Vals ys its') (hz:ys.length<=Xh) (t:Nat) :
 Inv X Z Y (upd H p (.lst ys)) {s with heap:=s.1.update p f,toks:=t}:=by
 have e:(s.1.update p f).get? p=some {cls:=.type "list",data:=.seq its'.toArray n'}:=by
  rw[YL f ho (by rw[hf] <;> rfl),hf]
 refine I.write (x:=p) (e:=p) (by rw[h];trivial) (.inl rfl) (λb u hb q=>(Zo _ _ (Zm hb)).trans q) ⟨_,e⟩ ?_;exact⟨hz,its',n',r,e⟩
def yK:V->V->V->Hp->(Hp->Prop)->Prop:=λo i v H Q=>∃p xs k j,o=.ref p/\i=.int k/\H p=some (.lst xs)/\ixN xs.length k=some j/\Q (upd H p (.lst (xs.set j v)))
theorem set_list:zq X yK:=by
 intro Z s Y H o i v ov iv u Q I ro ri rv h;obtain⟨p,xs,k,j,rfl,rfl,hp,hj,q⟩:=h;cases ro;obtain⟨t,rfl⟩:=ri;obtain⟨its,n,r,ho,hz⟩:=I.lst hp;obtain⟨h1,h2,h3,h4⟩:=qY hj;have hl:=r.length;have hn:=fm
 have I':Inv X Z Y (upd H p (.lst (xs.set j v))) {s with heap:=s.1.update p (Zf (·.setIfInBounds j u))} :=
  I.lstUpd hp ho (pP its n j u) (r.set rv j) (by rw[List.length_set];exact hz) s.toks
 by_cases h0:0<=k
 .have hk:k.toNat=j:=by
   rw[seqIndex_of h0 h4]at h1;exact Xf h1
  exact PySem.W.ki_setAt ho h0 (by omega) (by rw[Xa,<-hl];exact h4) (by rw[hk];exact⟨_,I',q⟩)
 .have hk:(k+(its.toArray.size:Int)).toNat=j:=by
   rw[seqIndex_neg (by omega) h3]at h1;rw[Xa,<-hl];exact Xf h1
  exact PySem.W.ki_setBack ho (by omega) (by rw[Xa,<-hl];exact h3) (by omega) (by rw[hk];exact⟨_,I',q⟩)
theorem nC(lo hi:Option Int)(n:Nat):(sliceBounds lo hi none n).1=((t! n 0 lo:Nat):Int)/\(sliceBounds lo hi none n).2.1=((t! n n hi:Nat):Int)/\(sliceBounds lo hi none n).2.2=1:=by
 refine⟨?_,?_,rfl⟩
 .cases lo with
  |none=>simp[sliceBounds,t!]
  | some i =>
    simp only[sliceBounds,t!,Option.getD_none,show(1:Int) > 0 by decide,if_true];by_cases h:i<0
    .simp only[h,if_true] <;> omega
    .simp only[h,if_false] <;> omega
 .cases hi with
  |none=>simp[sliceBounds,t!]
  | some i =>
    simp only[sliceBounds,t!,Option.getD_none,show(1:Int) > 0 by decide,if_true];by_cases h:i<0
    .simp only[h,if_true] <;> omega
    .simp only[h,if_false] <;> omega
theorem lW(its:List WW)(lo hi:Option Int):slicePick its.toArray lo hi none=((its.drop (t! its.length 0 lo)).take (t! its.length its.length hi - t! its.length 0 lo)).toArray:=by
 obtain⟨h1,h2,h3⟩:=nC lo hi its.toArray.size;unfold slicePick;rw[h1,h2,h3];simp only[sliceRange_one,pick_run,Xa] <;> rfl
inductive xc(K:WX)(x:V)(lo:Option Int)(hi:Option Int)(H:Hp)(Q:VK):Prop
 |mk (a:_) (xs:_) (Aq:x=.ref a) (Ar:SqL K H a xs) (Ax:∀p,H p=none->Q (.ref p) (upd H p (.lst (cR xs lo hi)))):xc K x lo hi H Q
def zU(K:WX):V->Option Int->Option Int->Hp->VK->Prop:=xc K
theorem gx:SlR X (zU X.K):=by
 intro Z s Y H x v vl vu lo hi sl Q I rx hs pl pu h;obtain⟨a,xs,rfl,hx,q⟩:=h;cases rx;obtain⟨its,r,ht,hz⟩:=I.list hx;have hlen:=r.length;refine⟨"list",_,slot_list_getitem.lookup,ht.isList.typeIs,?_⟩;refine wpAny_getItem_list_slice ht.isList hs pl pu .none (by simp) ?_ (by rw[Xa] <;> omega);rw[lW,<-hlen];refine⟨.ref s.1.1.size,_,I.laid (t':=s.toks) (o:=.lst (cR xs lo hi)) (λb ob q=>WV _ q) (W2 _) ?_,rfl,q _ (I.hok.fresh (W2 _))⟩;exact⟨XS (d4 xs lo hi) hz,_,0,(r.drop (t! xs.length 0 lo)).take (t! xs.length xs.length hi - t! xs.length 0 lo),W4 _ rfl⟩
inductive wU(K:WX)(xs:List V)(H:Hp)(Q:VK):Prop
 |mk (p:WT) (ys:List V) (Aq:xs=[.ref p]) (Ar:SqL K H p ys\/SqT K H p ys) (Ax:Q (.int ys.length) H):wU K xs H Q
theorem aC:dq X (.builtin "len") (wU X.K):=by
 intro Z s Y H xs us Q I r h;obtain⟨p,ys,rfl,hq,q⟩:=h;obtain⟨u,rfl,rx⟩:=vals1 r;cases rx;have hn:=fm;rcases hq with hq|hq
 .obtain⟨its,r',pl,hz⟩:=I.list hq;have hlen:=r'.length;exact Calls.call_len_list pl.isList (by simp only[Xa] <;> omega) ⟨.int ys.length,H,I.tok _,⟨s.toks+1,by rw[Xa,hlen]⟩,q⟩
 .obtain⟨its,r',pl,hz⟩:=I.tuple hq;have hlen:=r'.length;exact len_tuple pl (by simp only[Xa] <;> omega) ⟨.int ys.length,H,I.tok _,⟨s.toks+1,by rw[Xa,hlen]⟩,q⟩
theorem iJ:dq X (.builtin "len") (λxs H Q=>∃z,xs=[.str z]/\z.length<=Xh/\Q (.int z.length) H):=by
 intro Z s Y H xs us Q I r h;obtain⟨z,rfl,hz,q⟩:=h;obtain⟨u,rfl,t,rfl⟩:=vals1 r;have hn:=fm;exact len_str (by omega) ⟨.int z.length,H,I.tok _,⟨_,rfl⟩,q⟩
theorem aJ:dq X (.type "tuple") (λxs H Q=>∃p ys,xs=[.ref p]/\((SqL X.K H p ys/\∀l,H l=none->Q (.ref l) (upd H l (.tup ys)))\/(SqT X.K H p ys/\Q (.ref p) H))):=by
 intro Z s Y H xs us Q I r h;obtain⟨p,ys,rfl,h⟩:=h;obtain⟨u,rfl,rx⟩:=vals1 r;cases rx;rcases h with⟨hq,q⟩|⟨hq,q⟩
 .obtain⟨its,r',pl,hz⟩:=I.list hq;have hlen:=r'.length;refine call_tuple_list pl.isList (λh' kp=>?_) (by simp only[Xa] <;> omega);have I1:Inv X Z Y H {s with heap:=h'}:=I.kept (t':=s.toks) kp
  have I2:Inv X Z Y (upd H h'.objs.size (.tup ys)) {s with heap:=h'.push {cls:=.type "tuple",data:=.seq its.toArray}} :=
   I1.laid (t':=s.toks) (λb o e=>WV _ e) (W2 _) (show ObjOk X.prog X.w _ _ _ (.tup ys)from⟨hz,its,0,r',W4 _ rfl⟩)
  exact⟨.ref h'.objs.size,_,I2,rfl,q _ (I1.hok.fresh (W2 _))⟩
 .obtain⟨its,r',pl,hz⟩:=I.tuple hq;exact call_tuple_same pl ⟨.ref p,H,I,rfl,q⟩
def tyV(K:WX)(T:String)(x:V)(H:Hp):Prop:=match x with
 |.str _=>T="str"
 |.int _=>T="int"
 |.ref p=>(T="list"/\∃xs,SqL K H p xs)\/(T="tuple"/\∃o,K.lookup p=some o/\o.cls=.type "tuple"/\o.dict=none) \/
  (T="dict"/\((∃kvs,H p=some (.dK kvs))\/∃kvs,H p=some (.dT kvs)))\/(T="set"/\∃S n,H p=some (.set S n))
 |_=>False
theorem t6{T:String}{x:V}{v:WW}(I:Inv X Z Y H s)(r:RelV x v)(ty:tyV X.K T x H) :
 s.TypeIs v T/\∀a,v=.ref a->∃ob,s.1.get? a=some ob/\ob.dict=none:=by
 cases x with
 | str z =>
   obtain⟨t,rfl⟩:=r;cases(show T="str" from ty);exact⟨typeIs_str s z t,λ_ e=>nomatch e⟩
 | int i =>
   obtain⟨t,rfl⟩:=r;cases(show T="int" from ty);exact⟨typeIs_int s i t,λ_ e=>nomatch e⟩
 | ref p =>
   cases r;rcases ty with⟨rfl,xs,hq⟩|⟨rfl,o,hk,hc,hd⟩|⟨rfl,hk⟩|⟨rfl,S,n,hk⟩
   .obtain⟨its,_,pl,_⟩:=I.list hq;refine⟨pl.isList.typeIs,λa e=>?_⟩;cases e;obtain⟨o,n,e,c,hd,_⟩:=pl;exact⟨o,e,hd⟩
   .refine⟨⟨o,I.kIn p o hk,hc⟩,λa e=>?_⟩;cases e;exact⟨o,I.kIn _ o hk,hd⟩
   .have z:∃o,s.1.get? p=some o/\o.ExactDict:=by
     rcases hk with⟨kvs,hk⟩|⟨kvs,hk⟩
     .obtain⟨_,_,_,_,o,_,_,e,ex,_⟩:=I.hok p _ hk;exact⟨o,e,ex⟩
     .obtain⟨_,_,_,_,o,_,_,e,ex,_⟩:=I.hok p _ hk;exact⟨o,e,ex⟩
    obtain⟨o,e,ex⟩:=z;refine⟨⟨o,e,ex.1⟩,λa e2=>?_⟩;cases e2;exact⟨o,e,ex.2.1⟩
   .obtain⟨o,_,_,_,e,ex,_⟩:=I.hok p _ hk;refine⟨⟨o,e,ex.1⟩,λa e2=>?_⟩;cases e2;exact⟨o,e,ex.2.1⟩
 |_=>exact Ye ty
def zd(K:WX)(T:String)(r:V->List V->Hp->VK->Prop)(to:TE):TE:=λY H Q=>to Y H λx H1=>tyV K T x H1/\r x [] H1 Q
def tBM(K:WX)(T:String)(r:V->List V->Hp->VK->Prop)(to:TE)(t:TA):TE:=λY H Q=>to Y H λx H1=>tyV K T x H1/\t Y H1 λxs H2=>r x xs H2 Q
variable{o:XY}{es:List XY}{to:TE}{t:TA}{apos Ap:Pos}{T id:String}{r:V->List V->Hp->VK->Prop}
theorem nX(pa:PlainAttrs T)(slot:Slot T name id)(NM:typeOf (.builtin id)=pure (.type "method_descriptor"))(hm:MtR X id r)(ho:PE X o to)
 (A8:attributeBase o name X.env (YW o X.env)=YW o X.env:=by rfl) (Bs:(apos.endLine == Ap.line)=true:=by rfl):PE X (.Call (.Attribute o name apos) [] [] Ap) (zd X.K T r to):=by
 intro Z s Y H Q I h;refine wpAny_Call_method0_late A8 Bs (thn (ho Z s Y H _ I h) λv s1⟨x,H1,I1,r1,ty,q1⟩=>?_);obtain⟨h1,h2⟩:=t6 I1 r1 ty;exact⟨T,id,pa,slot,NM,h1,h2,Calls.callWith_builtin rfl (PySem.evalArgs_none (hm Z s1 Y H1 x [] v [] Q I1 r1 .nil q1))⟩
theorem bQ(pa:PlainAttrs T)(slot:Slot T name id)(NM:typeOf (.builtin id)=pure (.type "method_descriptor"))(hm:MtR X id r)(ho:PE X o to)(ha:PA X (e::es) t)
 (A8:attributeBase o name X.env (YW o X.env)=YW o X.env:=by rfl)
 (NN:((ZD Ap (XJ (e::es) X.env)).all (λx=>!x.1) && (backToKw Ap (keywordEach [] X.env)).all (λx=>x.1.isSome)
  && decide ((e::es).length+([]:List Keyword).length+(if([]:List Keyword).isEmpty then 0 else 1)<30))=true:=by rfl)
 (Bs:(apos.endLine == Ap.line)=true:=by rfl) (hs:XJ (e::es) X.env=(false,YW e X.env)::XJ es X.env:=by rfl) (Dg:(ZD Ap (XJ es X.env)).any (·.1)=false:=by rfl) :
 PE X (.Call (.Attribute o name apos) (e::es) [] Ap) (tBM X.K T r to t):=by
 intro Z s Y H Q I h;refine wpAny_Call_method_late A8 NN Bs rfl (thn (ho Z s Y H _ I h) λv s1⟨x,H1,I1,r1,ty,q1⟩=>?_);obtain⟨h1,h2⟩:=t6 I1 r1 ty;refine⟨T,id,pa,slot,NM,h1,h2,?_⟩;have hA:=ha Ap Z s1 Y H1 _ I1 q1;rw[hs]at hA |-;refine Calls.callWith_builtin (by show(false ||(ZD Ap (XJ es X.env)).any (·.1))=false;rw[Dg] <;> rfl) (Calls.evalArgs_plain ?_);exact thn hA λus s2⟨vs,H2,I2,r2,q2⟩=>hm Z s2 Y H2 x vs v us Q I2 r1 r2 q2
end
def MtM(X:Cx)(id:String)(r:V->List V->Hp->VK->Prop):Prop :=
 ∀(Z:List (WT×YF))(s:W3)(Y:St)(H:Hp)(x:V)(xs:List V)(v:WW)(us:List WW)(Q:VK),Inv X Z Y H s->RelV x v->Vals xs us->r x xs H Q ->
   Xd (Xx X.prog X.w) X.A (call (.builtin id) (v::us)) (EP X Z Y Q) X.xe s
theorem Vals.one:∀{x:V}{us:List WW},Vals [x] us->∃u,us=[u]/\RelV x u
 |_,_,.cons r .nil=>⟨_,rfl,r⟩
theorem Vals.zero:∀{us:List WW},Vals [] us->us=[]
 |_,.nil=>rfl
theorem Vals.dropLast(h:Vals xs us):Vals xs.dropLast us.dropLast:=by
 induction h with
 |nil=>exact .nil
 | cons r t ih =>
   cases t with
   |nil=>exact .nil
   |cons q t'=>exact .cons r ih
theorem Vals.rep(h:Vals xs us):∀k:Nat,Vals (Xr k xs).flatten (Xr k us).flatten
 |0=>.nil
 | k+1=>by
   rw[Yv,Yv,Z2,Z2];exact Vals.append h (Vals.rep h k)
theorem qz(l:List α):l.eraseIdx (l.length - 1)=l.dropLast:=by
 induction l with
 |nil=>rfl
 | cons a r ih =>
   cases r with
   |nil=>rfl
   | cons b r =>
     have e:(a::b::r).length - 1=((b::r).length - 1)+1:=by
      have h1:(a::b::r).length=r.length+2:=rfl;have h2:(b::r).length=r.length+1:=rfl;omega
     rw[e,List.eraseIdx_cons_succ,ih]
     all_goals rfl
theorem foldl_rep(its:List WW):∀(k:Nat)(acc:List WW),
 List.foldl (λx1 x2=>x1++x2) acc.toArray (Xr k its.toArray)=(acc++(Xr k its).flatten).toArray
 |0,acc=>by simp
 | k+1,acc=>by
   have e:acc.toArray++its.toArray=(acc++its).toArray:=by simp
   have e2:(acc++its)++(Xr k its).flatten=acc++(Xr (k+1) its).flatten:=by
    rw[Yv,Z2,X6]
   rw[<-e2,<-foldl_rep its k (acc++its),<-e,Yv,List.foldl_cons]
section
variable{ys zs:List V}
theorem Inv.lset{its':List WW}{f:Array WW->Array WW}(I:Inv X Z Y H s)(hH:H l=some (.lst xs))
 (e:s.1.get? l=some {cls:=.type "list",data:=.seq its.toArray n}) (hf:f its.toArray=its'.toArray) (hv:Vals ys its') (hz:ys.length<=Xh) :
 Inv X Z Y (upd H l (.lst ys)) {s with heap:=s.1.update l (Zf f),toks:=t'}:=by
 have q:=PySem.IsL.update e f;rw[hf]at q;refine I.write (x:=l) (e:=l) (by rw[hH];exact trivial) (.inl rfl) (λb' u hb hu=>(Zo s.1 (Zf f) (Zm hb)).trans hu) ⟨_,q⟩ ?_;exact⟨hz,its',_,hv,q⟩
theorem Inv.lnew(I:Inv X Z Y H s)(hv:Vals ys its)(hz:ys.length<=Xh) :
 Inv X Z Y (upd H s.1.1.size (.lst ys)) {s with heap:=s.1.push {cls:=.type "list",data:=.seq its.toArray},toks:=t'} :=
 I.laid (λ_ _ q=>WV _ q) (W2 _) ⟨hz,its,0,hv,W4 _ rfl⟩
theorem Inv.fresh(I:Inv X Z Y H s):H s.1.1.size=none:=I.hok.fresh (W2 _)
theorem Inv.lstM(I:Inv X Z Y H s)(hH:H l=some (.lst xs)):xs.length<=Xh/\∃(its:List WW)(n:Nat),Vals xs its/\xs.length=its.length/\s.1.get? l=some {cls:=.type "list",data:=.seq its.toArray n}:=by
 obtain⟨z,its,n,r,e⟩:=I.hok l _ hH;exact⟨z,its,n,r,r.length,e⟩
theorem lE(h:n<=Xh):Y8 n=false:=by
 unfold Y8;exact c! (by omega)
end
inductive o6(x:V)(vs:List V)(H:Hp)(Q:VK):Prop
 |mk (l:_) (xs:_) (y:_) (Aq:x=.ref l) (Ar:vs=[y]) (Ax:H l=some (.lst xs)) (AN:xs.length<Xh) (Bd:Q .non (upd H l (.lst (xs++[y])))):o6  x vs H Q
def v9:V->List V->Hp->VK->Prop:=o6
theorem aQ:MtM X "list.append" v9:=by
 intro Z s Y H x vs v us Q I rx rv h;obtain⟨l,xs,y,rfl,rfl,hH,hz,q⟩:=h;cases rx;obtain⟨u,rfl,ru⟩:=rv.one;obtain⟨z,its,n,r,hl,e⟩:=I.lstM hH;refine call_meets F.slot_list_append ⟨_,e,rfl⟩ F.entry_list_append (F.args_list_append_2 _ _) (PySem.list_append l its.toArray n u (by rw[Xa];omega)) ⟨e,?_⟩;refine⟨.non,_,I.lset (its':=its++[u]) hH e (by simp) (r.append (.cons ru .nil)) ?_,rfl,q⟩;rw[W6,Zn];omega
inductive oT(x:V)(vs:List V)(H:Hp)(Q:VK):Prop
 |mk (l:_) (b:_) (xs:_) (zs:_) (Aq:x=.ref l) (Ar:vs=[.ref b]) (Ax:H l=some (.lst xs)) (AN:H b=some (.lst zs)) (Bd:xs.length+zs.length<=Xh) (Co:Q .non (upd H l (.lst (xs++zs)))):oT  x vs H Q
def vC:V->List V->Hp->VK->Prop:=oT
theorem tL:MtM X "list.extend" vC:=by
 intro Z s Y H x vs v us Q I rx rv h;obtain⟨l,b,xs,zs,rfl,rfl,hH,hB,hz,q⟩:=h;cases rx;obtain⟨u,rfl,ru⟩:=rv.one;cases ru;obtain⟨z,its,n,r,hl,e⟩:=I.lstM hH;obtain⟨z2,Al,n2,r2,BI,e2⟩:=I.lstM hB;have hsz:its.toArray.size+Al.toArray.size<=Xh:=by rw[Xa,Xa];omega
 have CJ:¬(!its.toArray.isEmpty && Y8 (its.toArray.size+Al.toArray.size))=true:=by
  rw[lE hsz,Bool.and_false];exact Xn
 refine call_meets F.slot_list_extend ⟨_,e,rfl⟩ F.entry_list_extend (F.args_list_extend_2 _ _)
  (AutoSeq1.list_extend_list_list_0 l its.toArray n b Al.toArray n2 CJ (by rw[Xa];omega) (by omega)) ⟨e,e2,?_⟩
 refine⟨.non,_,I.lset (its':=its++Al) hH e (by simp) (r.append r2) ?_,rfl,q⟩;rw[W6];omega
inductive xf(x:V)(vs:List V)(H:Hp)(Q:VK):Prop
 |mk (l:_) (xs:_) (y:_) (Aq:x=.ref l) (Ar:vs=[]) (Ax:H l=some (.lst xs)) (AN:xs[xs.length - 1]?=some y) (Bd:Q y (upd H l (.lst xs.dropLast))):xf  x vs H Q
def yJ:V->List V->Hp->VK->Prop:=xf
theorem nT:MtM X "list.pop" yJ:=by
 intro Z s Y H x vs v us Q I rx rv h;obtain⟨l,xs,y,rfl,rfl,hH,hy,q⟩:=h;cases rx;have DR:=rv.zero;subst DR;obtain⟨z,its,n,r,hl,e⟩:=I.lstM hH;obtain⟨u,hu,ru⟩:=r.get hy
 have DS:its.toArray[its.toArray.size - 1]?=some u:=by
  show its.toArray[its.length - 1]?=some u;rw[<-ZX,<-hl];exact hu
 refine call_meets F.slot_list_pop ⟨_,e,rfl⟩ F.entry_list_pop (F.args_list_pop_1 _) (MeetsSeq.list_pop_last l its.toArray n u DS (by rw[Xa];omega)) ⟨e,?_⟩;refine⟨y,_,I.lset (its':=its.dropLast) hH e ?_ r.dropLast ?_,ru,q⟩
 .show its.toArray.eraseIdxIfInBounds (its.toArray.size - 1)=its.dropLast.toArray;rw[Xa,List.eraseIdxIfInBounds_toArray,qz]
 .rw[List.length_dropLast];omega
inductive xl(x:V)(y:V)(H:Hp)(Q:VK):Prop
 |mk (l:_) (b:_) (xs:_) (zs:_) (Aq:x=.ref l) (Ar:y=.ref b) (Ax:H l=some (.lst xs)) (AN:H b=some (.lst zs)) (Bd:xs.length+zs.length<=Xh) (Co:∀p,H p=none->Q (.ref p) (upd H p (.lst (xs++zs)))):xl  x y H Q
def zW:R2:=xl
theorem ij:OpR X (binaryOp .Add) zW:=by
 intro Z s Y H x y v u Q I rx ry h;obtain⟨l,b,xs,zs,rfl,rfl,hH,hB,hz,q⟩:=h;cases rx;cases ry;obtain⟨z,its,n,r,hl,e⟩:=I.lstM hH;obtain⟨z2,Al,n2,r2,BI,e2⟩:=I.lstM hB;refine PySem.P.add_list e e2 ?_ (by rw[Xa,Xa];omega);have ea:its.toArray++Al.toArray=(its++Al).toArray:=by simp
 rw[ea];exact⟨.ref _,_,I.lnew (t':=s.toks) (r.append r2) (by rw[W6];omega),rfl,q _ I.fresh⟩
def zT:R2:=λx y H Q=>∃l k xs,x=.ref l/\y=.int k/\H l=some (.lst xs)/\-(2 ^ 63)<=k/\k<2 ^ 63/\xs.length * k.toNat<=Xh /\
 ∀p,H p=none->Q (.ref p) (upd H p (.lst (Xr k.toNat xs).flatten))
theorem len_rep(xs:List α)(k:Nat):(Xr k xs).flatten.length=k * xs.length:=by
 induction k with
 |zero=>simp
 |succ k ih=>rw[Yv,Z2,W6,ih,Nat.succ_mul,Nat.add_comm]
theorem uq:OpR X (binaryOp .Mult) zT:=by
 intro Z s Y H x y v u Q I rx ry h;obtain⟨l,k,xs,rfl,rfl,hH,h1,h2,hz,q⟩:=h;cases rx;obtain⟨t,rfl⟩:=ry;obtain⟨z,its,n,r,hl,e⟩:=I.lstM hH;have hlen:its.toArray.size * k.toNat<=Xh:=by rw[Xa,<-hl];exact hz
 have NO:¬its.toArray.size * k.toNat > (2 ^ 63 - 1) / 8:=by
  have:(Xh:Nat)<=(2 ^ 63 - 1) / 8:=by decide
  omega
 have Aa:¬(!Builtin.List.listFitsIndex k)=true:=by
  rw[fitsIndex_both h1 h2];exact Xn
 have CJ:¬Y8 (its.toArray.size * k.toNat)=true:=by
  rw[lE hlen];exact Xn
 have G9:List.foldl (λx1 x2=>x1++x2) #[] (Xr (if its.toArray.isEmpty=true then 0 else k.toNat) its.toArray)=(Xr k.toNat its).flatten.toArray:=by
  have f0:∀m:Nat,List.foldl (λx1 x2=>x1++x2) #[] (Xr m its.toArray)=(Xr m its).flatten.toArray:=λm=>by
   have:=foldl_rep its m [];rw[ZS]at this;exact this
  rw[f0];cases its with
  |nil=>simp
  |cons a r'=>rw[a! (by simp)]
 refine wpAny_binaryOp_repeat_ref (T:="list") (U:="int") (by decide) ⟨_,e,rfl⟩ (λs'=>typeIs_int s' k t) noFill_list_mul F.fills_int_mul F.slot_int_rmul repeat_list F.slot_int_index.lookup
  (call_meets F.slot_int_rmul (typeIs_int s k t) F.entry_int_rmul (F.args_int_rmul_2 _ _) (int___rmul___int_list k t l its.toArray n)
   ⟨e,rfl,⟨_,e,rfl⟩,call_meets F.slot_list_mul ⟨_,e,rfl⟩ F.entry_list_mul (F.args_list_mul_2 _ _) (AutoListH.list___mul___list_int_3 l its.toArray n k t Aa NO CJ) ⟨e,?_⟩⟩)
 rw[G9];exact⟨.ref _,_,I.lnew (t':=s.toks) (r.rep k.toNat) (by rw[len_rep,Nat.mul_comm];exact hz),rfl,q _ I.fresh⟩
end L2
namespace Att
open PySem PySem.W PySem.Calls PyProof.Rows
theorem ints_of_wellAll{P:Params}:∀(ns:List Int)(vs:List WW),WellAll P h vs (ns.map WData.int)->IntsAre vs ns:=by
 intro ns;induction ns with
 | nil =>
   intro vs w;rw[ZA]at w;cases w;exact .nil
 | cons n ns ih =>
   intro vs w;rw[XH]at w;cases w with
   | cons a b =>
     cases a;exact .cons _ _ (ih _ b)
theorem script_of{l:OpenLaw}(hn:l.most=some n){P:Params}{args:List WData}{vals:List WW}
 (AO:l.row.toRowW.claim.pre args=true) (DC:WellAll P h vals args) :
 ∃a vs ns,vals=[XO a]/\args=[WData.list (ns.map WData.int)]/\h.get? a=some {cls:=.type "list",data:=.seq vs.toArray}/\IntsAre vs ns/\ns.length<=n:=by
 have Vh:WShape.hasAll [] args [.list .int]=true:=(pre_splitW AO).1;have hc:l.pre.holds [] {args:=args}=true:=(pre_splitW AO).2;obtain⟨d,r,rfl,h1,h2⟩:=hasAllW_cons Vh;obtain rfl:=hasAllW_nil h2;obtain⟨xs,rfl,h3⟩:=hasW_list h1;obtain⟨ns,rfl⟩:=items_int h3
 have hlen:ns.length<=n:=by
  unfold OpenLaw.pre at hc
  have h4:(WTm.not (.lt (.lit (.int (n:Int))) (.len (.arg 0)))).holds [] {args:=[.list (ns.map .int)]}=true:=by
   have h4:=(holds_andW hc).1;rw[hn]at h4;exact h4
  have h5:=condW_of h4 (w_not (w_lt w_lit (w_len_list (w_arg rfl))));rw[WO]at h5;refine Nat.le_of_not_lt λq=>?_;have q':(n:Int)<((ns.length:Nat):Int):=by omega
  first
   |(rw[d! q']at h5;exact g! h5 (by decide))
   |(simp at h5;omega)
 cases DC with
 | cons w1 w2 =>
   cases w2;cases w1 with
   |list ho Ab=>exact⟨_,_,ns,rfl,rfl,ho,ints_of_wellAll ns _ Ab,hlen⟩
theorem post_true(l:OpenLaw)(args:List WData):l.row.toRowW.claim.post args (.bool true) args=true :=
 postW_of (r:=l.row.toRowW) (X:=(true == true))
  (show WShape.has [] (.bool true) .bool=true by first|rfl|decide|simp[WShape.has,WShape.arms,WShape.armsAll])
  (show(WTm.eq .res (.lit (.bool true))).value [] {args:=args,res:=some (.bool true),after:=args}=some (.bool (true == true))from w_eq_bool (w_res rfl) w_lit) rfl
theorem attach_call{l:OpenLaw}{q:Xm}{d:DefRec}
 (hn:l.most=some n) (hdf:d.params.defaults=[])
 (call:∀(w:XD)(s₀ l':W3)(mg mb:Xk->Option WW)(fa:WT)(o:YF)(pm cd doc:WW)(a:WT)(vs:List WW)(ns:List Int),
  Ground q loose [] XP w s₀ mg mb l'.heap->YP w l'.heap ->
  l'.heap.get? fa=some o->o.data=.func (docDef d.name d.params d.body d.scope pm cd doc)->l'.heap.CodeRec cd d.name->mg d.name=some (.ref fa) ->
  l'.heap.get? a=some {cls:=.type "list",data:=.seq vs.toArray}->IntsAre vs ns->ns.length<=n->l'.gens=#[] ->
  Z7 (Xx l.prog w) callerA (.call (.ref fa) ⟨[.ref a],[]⟩) (λr s'=>r=.ok (.ret (.bool true))/\OldK l'.heap s'.1/\s'.os=l'.os/\AllBare s'.gens) l') :
 WalkO q loose XP YP l.row.toRowW d [] (λf vs=>PySem.call f vs):=by
 intro w s₀ l' mg mb G Y fa o pm cd doc dV kV ho hd Ck hD JR hg args vals as AO Vi Sw DC Sx;obtain rfl:dV=.none:=Dflts.none hD hdf;obtain rfl:kV=.none:=Dflts.noKw hD;obtain⟨a,vs,ns,rfl,rfl,G',hints,hlen⟩:=script_of hn AO DC;refine enter_call (codeAny_mono (call w s₀ l' mg mb fa o pm cd doc a vs ns G Y ho (fd_plain hd) Ck JR G' hints hlen hg) λr s' hq=>?_);obtain⟨rfl,h2,h3,h4⟩:=hq;exact⟨.inl ⟨.bool true,.bool true,[],rfl,λ_=>rfl,.bool true,post_true l _,λ_=>⟨List.Pairwise.nil,λ_ hm=>(nomatch hm)⟩⟩,h2,h3,h4⟩
section
variable{K:Frag}
end
end Att
namespace L2
open PySem PySem.Spec PyProof.Rows
theorem mn:∀{vs:List WW}{ns:List Int},IntsAre vs ns->Vals (ns.map o!) vs
 |_,_,.nil=>.nil
 |_,_,.cons n t h=>.cons ⟨t,rfl⟩ (mn h)
def inClass(s:YA)(j:Nat):YA:=match s with
 |.ClassDef _ _ _ body _ _ _ _ _ _ _=>body.getD j (.Pass ⟨0,0,0,0⟩)
 |_=>.Pass ⟨0,0,0,0⟩
def bA(s:YA):Arguments:=match s with
 |.FunctionDef _ a _ _ _ _ _ _ _ _=>a
 |_=>{posonlyargs:=[],args:=[],vararg:=none,kwonlyargs:=[],kw_defaults:=[],kwarg:=none,defaults:=[]}
def bj(s:YA):List YA:=match s with
 |.FunctionDef _ _ b _ _ _ _ _ _ _=>b
 |_=>[]
def aq(s:YA):ZN:=match s with
 |.FunctionDef _ _ _ _ _ _ sc _ _ _=>sc
 |_=>{kind:=.function,names:=[],isGenerator:=false,isCoroutine:=false}
abbrev CX0:CXT:=λ_ _ _ _ _ _=>False
abbrev E0:XK:=λ_ _ _=>False
theorem cK:Passes CX0 X E0:=λ_ _ _ _ _ _ _ h=>h.elim
structure Fun(K:WX)(x qual:Xk)(st:YA)(f:WT)(fd:YO):Prop where
 ex:∃(oc:WW)(od:Option WT)(kV doc pm:WW)(an:Option WT)(Aj ct:WW)(Ey:Array (Option WW)),
  fd=YR x qual (bA st) (bj st) (aq st) .none kV doc pm an Aj ct/\K.lookup f=some ⟨oc,od,.func fd,Ey⟩/\PySem.W.codeIn K Aj qual=true
 kp:YJ K (.ref f)=true
theorem Fun.ok{k:Nat}(F:Fun K x qual st f fd)(S:ay N ps (aq st))(len:∀vs H Q E,sp vs H Q E->vs.length=ps.length)
 (AZ:∀(Aj:WW)(A:XN)(outer:List Env)(s:W3)(H:Hp)(vs:List V)(Q:VK)(E:XK),Room k (A.deeper (Z0 qual (aq st) s.1.1.size f Aj))->sp vs H Q E ->
  ∃t,PSs (l7 CX0 P w K mg base N qual (aq st) f Aj A outer s H E).nox (bj st) t/\t {nx:=λ_ H'=>Q .non H',rt:=Q} (start N vs) H):FnOk P w K mg base CX0 (k+1) f fd ps sp:=by
 obtain⟨oc,od,kV,doc,pm,an,Aj,ct,Ey,rfl,lk,Ck⟩:=F.ex;refine xh lk Ck S len λA outer s H vs Q E hr BX=>?_;obtain⟨t,h,q⟩:=AZ Aj A outer s H vs Q E hr BX;exact⟨t,h.nox,q⟩
theorem Fun.okA{k:Nat}(F:Fun K x qual st f fd)(S:ay N ps (aq st))
 (AZ:∀(Aj:WW)(A:XN)(outer:List Env)(s:W3)(H:Hp)(vs:List V)(Q:VK)(E:XK),Room k (A.deeper (Z0 qual (aq st) s.1.1.size f Aj))->sp vs H Q E ->
  ∃t,PSs (l7 CX0 P w K mg base N qual (aq st) f Aj A outer s H E).nox (bj st) t/\t {nx:=λ_ H'=>Q .non H',rt:=Q} (start N vs) H) (len:∀vs H Q E,sp vs H Q E->vs.length=ps.length:=by intro _ _ _ _ h;cases h;subst_vars;rfl):FnOk P w K mg base CX0 (k+1) f fd ps sp:=F.ok S len AZ
theorem pgN(i:Nat)(hN:X.N.Nodup)(hi:X.N[i]?=some x:=by rfl)(hx:Loc X.env.scope x:=by first|exact .inl rfl|exact .inr rfl)(hf:X.fn x=true\/X.env.scope.names.lookup x=some .local:=by first|exact .inl rfl|exact .inr rfl|assumption):PG X (.Name x pos) (az i):=vR hN hi hx hf
theorem ao(i:Nat)(hN:X.N.Nodup)(he:PE X e te)(hi:X.N[i]?=some x:=by rfl)(hx:Loc X.env.scope x:=by first|exact .inl rfl|exact .inr rfl)(hs:swapsWith e (some (.Name x pos')) pos.line X.env=pure false:=by rfl)(hf:X.fn x=true\/X.env.scope.names.lookup x=some .local:=by first|exact .inl rfl|exact .inr rfl|assumption):PS X (.Assign [.Name x pos'] e pos) (tw te (az i)):=yy hN hi hx he hs hf
theorem Fun.binds(F:Fun K x qual st f fd)
 (h:∀(kV doc pm:WW)(an:Option WT)(Aj ct:WW)(us:List WW),us.length=ps.length->bindArgs (YR x qual (bA st) (bj st) (aq st) .none kV doc pm an Aj ct) ⟨us,[]⟩=pure (ps.zip us)):Binds K fd ps []:=by
 obtain⟨oc,od,kV,doc,pm,an,Aj,ct,Ey,rfl,lk,Ck⟩:=F.ex;exact .all (h kV doc pm an Aj ct)
theorem cQ{an:Option WT}{Ey:Array (Option WW)}{kV doc pm Aj ct:WW}(l:K.lookup f=some ⟨oc,od,.func (YR x qual (bA st) (bj st) (aq st) .none kV doc pm an Aj ct),Ey⟩)
 (c:PySem.W.codeIn K Aj qual=true) (k:YJ K (.ref f)=true):Fun K x qual st f (YR x qual (bA st) (bj st) (aq st) .none kV doc pm an Aj ct):=⟨⟨oc,od,kV,doc,pm,an,Aj,ct,Ey,rfl,l,c⟩,k⟩
theorem cg{k:Nat}(hr:Room k A):A.units+1<Zs:=Nat.lt_of_le_of_lt (Nat.add_le_add_left (by decide:1<=64) _) hr.units
theorem pv(i:Nat)(hN:X.N[i]?=some x:=by rfl)(hv:Vis X.env.scope x:=by first|exact Or.inl rfl|exact Or.inr (Or.inl rfl)|exact Or.inr (Or.inr rfl))(hd:(x == ("__debug__":Xk))=false:=by decide)
 (Ck:(x == ("__classdict__":Xk))=false:=by decide):PE X (.Name x pos) (bc i):=ve hN hv hd Ck
theorem sZ{A B:Prop}(h:B):if false=true then A else B:=by
 rw[a! Xn];exact h
theorem qf{A B:Prop}(h:A):if true=true then A else B:=by
 rw[b! rfl];exact h
theorem dh{c A B:Prop}[Decidable c](h1:c->A)(h2:¬c->B):if c then A else B:=by
 by_cases h:c
 .rw[b! h];exact h1 h
 .rw[a! h];exact h2 h
def Same(H H':Hp):Prop:=∀b o,H b=some o->H' b=some o
theorem Same.refl(H:Hp):Same H H:=λ_ _ h=>h
theorem Same.trans(a:Same H H1)(b:Same H1 H2):Same H H2:=λc o h=>b c o (a c o h)
theorem Same.free(e:Same H H')(h:H' l=Option.none):H l=Option.none:=by
 cases q:H l with
 |none=>rfl
 | some o =>
   rw[e l o q]at h;cases h
theorem Same.seq(e:Same H H')(h:SqL K H a xs):SqL K H' a xs:=by
 rcases h with(h|⟨o,h⟩)|h
 .exact .inl (.inl (e _ _ h))
 .exact .inl (.inr ⟨o,e _ _ h⟩)
 .exact .inr h
theorem ii(env:Env):∀(ns:List (Xk×Zj))(acc:List (Xk×WT)),(∀n,(n,Yh)∈ns->∃c,env.cells.lookup n=some c) ->
 (∀x c,acc.lookup x=some c->env.cells.lookup x=some c) ->
 ∃cl,(forIn ns acc λ(x:Xk×Zj)(cs:List (Xk×WT))=>(if(x.2 == Yh)=true then(do let a <-cellOf env x.1;pure (Zv ((x.1,a)::cs)))else pure (Zv cs):Sem _))=pure cl /\
   (∀x c,cl.lookup x=some c->env.cells.lookup x=some c)/\(∀n,(n,Yh)∈ns->∃c,cl.lookup n=some c)/\∀n c,acc.lookup n=some c->cl.lookup n=some c
 | [],acc,_,ha=>⟨acc,rfl,ha,λ_ h=>by simp at h,λ_ _ h=>h⟩
 | (n,k)::r,acc,hf,ha=>by
   by_cases hk:k=Yh
   .subst hk;obtain⟨c,hc⟩:=hf n WY
    have Vj:∀x c',((n,c)::acc).lookup x=some c'->env.cells.lookup x=some c':=λx c' e=>by
     rw[YZ]at e;cases hx:x == n with
     | true =>
       rw[hx]at e;have e1:x=n:=by simpa using hx
       cases e;rw[e1];exact hc
     |false=>rw[hx]at e;exact ha x c' e
    obtain⟨cl,h1,h2,h3,h4⟩:=ii env r ((n,c)::acc) (λm hm=>hf m (WQ _ hm)) Vj;have up:∀m c',((n,c)::acc).lookup m=some c'->cl.lookup m=some c':=h4;refine⟨cl,?_,h2,?_,?_⟩
    .rw[List.forIn_cons];have e0:cellOf env n=pure c:=by unfold cellOf;rw[hc]
     simp only[beq_self_eq_true,if_true,e0,pure_bind];exact h1
    .intro m hm;rcases Xb.mp hm with e|e
     .have:m=n:=by simpa using(Prod.mk.inj e).1
      subst this;exact⟨c,up m c (by rw[YZ];simp)⟩
     .exact h3 m e
    .intro m c' e;by_cases hm:m=n
     .subst hm;have:=ha m c' e;rw[hc]at this;cases this;exact up m c (by rw[YZ];simp)
     .have Vk:(m == n)=false:=by simpa using hm
      exact up m c' (by rw[YZ,Vk];exact e)
   .have hb:(k == Yh)=false:=by simpa using hk
    obtain⟨cl,h1,h2,h3,h4⟩:=ii env r acc (λm hm=>hf m (WQ _ hm)) ha;refine⟨cl,?_,h2,?_,h4⟩
    .rw[List.forIn_cons];simp only[hb,Y1,if_false,pure_bind];exact h1
    .intro m hm;rcases Xb.mp hm with e|e
     .exact g! (Prod.mk.inj e).2.symm hk
     .exact h3 m e
theorem kX(hf:∀n,(n,Yh)∈sc.names->∃c,env.cells.lookup n=some c) :
 ∃cl,closureFor sc env=pure cl/\(∀x c,cl.lookup x=some c->env.cells.lookup x=some c)/\∀n,(n,Yh)∈sc.names->∃c,cl.lookup n=some c:=by
 obtain⟨cl,h1,h2,h3,_⟩:=ii env sc.names [] hf (λx c e=>by simp at e);refine⟨cl,?_,h2,h3⟩;unfold closureFor;have e:(forIn sc.names ([]:List (Xk×WT)) λ(x:Xk×Zj)(cs:List (Xk×WT))=>(do if(x.2 == Yh)=true then(do let a <-cellOf env x.1;pure (Zv ((x.1,a)::cs)))else pure (Zv cs):Sem _))=pure cl:=h1
 first
  |(rw[show(forIn sc.names ([]:List (Xk×WT)) _:Sem _)=pure cl from h1];rfl)
  |(simp only[h1,pure_bind])
theorem kC{f:Xk×Zj->Xk×Zj}(hf:∀p,(f p).1=p.1):∀{l:List (Xk×Zj)}{x:Xk}{k:Zj},l.lookup x=some k->(l.map f).lookup x=some (f (x,k)).2
 | [],_,_,h=>by simp at h
 | (n,k0)::r,x,k,h=>by
   have ih:=@kC f hf r x k;rw[XH];obtain⟨a,b,e⟩:∃a b,f (n,k0)=(a,b):=⟨_,_,rfl⟩;have ea:a=n:=by have:=hf (n,k0);rw[e]at this;exact this
   subst ea;rw[e,YZ];cases hx:x == a with
   | true =>
     rw[YZ,hx]at h;cases h;have:x=a:=by simpa using hx
     subst this;rw[e]
   |false=>rw[YZ,hx]at h;exact ih h
theorem eh{f:Xk×Zj->Xk×Zj}(hf:∀p,(f p).1=p.1):∀{l:List (Xk×Zj)}{x:Xk}{k:Zj},(l.map f).lookup x=some k->∃k0,(x,k0)∈l/\(f (x,k0)).2=k
 | [],_,_,h=>by simp at h
 | (n,k0)::r,x,k,h=>by
   have ih:=@eh f hf r x k;rw[XH]at h;obtain⟨a,b,e⟩:∃a b,f (n,k0)=(a,b):=⟨_,_,rfl⟩;have ea:a=n:=by have:=hf (n,k0);rw[e]at this;exact this
   subst ea;rw[e,YZ]at h;cases hx:x == a with
   | true =>
     rw[hx]at h;cases h;have:x=a:=by simpa using hx
     subst this;exact⟨k0,WY,by rw[e]⟩
   | false =>
     rw[hx]at h;obtain⟨k1,h1,h2⟩:=ih h;exact⟨k1,WQ _ h1,h2⟩
def rlb(env:Env)(p:Xk×Zj):Xk×Zj:=if(p.2 == Yh && env.scope.kind == .function && env.kindOf p.1 == some .cell)then(p.1,NameKind.cell)else(p.1,p.2)
theorem nR(env:Env)(p:Xk×Zj):(rlb env p).1=p.1:=by unfold rlb;split <;> rfl
theorem gX(sc:ZN)(env:Env):(relabel sc env).names=sc.names.map (rlb env):=rfl
theorem iF(h:sc.names.lookup x=some .free):(relabel sc env).names.lookup x=some .cell\/(relabel sc env).names.lookup x=some .free:=by
 rw[gX,kC (nR env) h];unfold rlb;split
 .exact .inl rfl
 .exact .inr rfl
theorem lK(hn:∀y∈sc.names,y.2≠NameKind.cell)(h:(relabel sc env).names.lookup x=some .cell\/(relabel sc env).names.lookup x=some .free):(x,Yh)∈sc.names:=by
 rw[gX]at h
 have:∃k0,(x,k0)∈sc.names/\((rlb env (x,k0)).2=.cell\/(rlb env (x,k0)).2=.free):=by
  rcases h with h|h
  .obtain⟨k0,a,b⟩:=eh (nR env) h;exact⟨k0,a,.inl b⟩
  .obtain⟨k0,a,b⟩:=eh (nR env) h;exact⟨k0,a,.inr b⟩
 obtain⟨k0,hm,hk⟩:=this;have nc:=hn _ hm;cases k0 with
 |free=>exact hm
 |cell=>exact g! rfl nc
 |_=>simp[rlb]at hk
def bU(X:Cx)(N:List Xk)(sc:ZN)(cl:List (Xk×WT))(C:WT)(s:W3)(H:Hp)(fp:List WT)(Z:List (WT×YF)):Cx :=
 {X with N:=N,s₀:=s,H₀:=H,env:=compEnvC sc cl C X.env,outer:=X.stack,ex:=fp,fn:=λ_=>false,pn:=X.pn++Z,xe:=λ_ _=>False}
def cσ(js:List (Option Nat))(Y:St):St:=js.map λo=>o.bind λj=>(Y[j]?).join
structure ej(X:Cx)(sc:ZN)(N:List Xk)(js:List (Option Nat)):Prop where
 kind:sc.kind=.function
 nocell:∀y∈sc.names,y.2≠NameKind.cell
 names:∀y∈sc.names,y.2=NameKind.local->sc.names.lookup y.1=some .local
 frees:∀y∈sc.names,y.2=Yh->X.env.kindOf y.1=some .cell\/X.env.kindOf y.1=some .free
 len:js.length=N.length
 slots:∀(i j:Nat)(x:Xk),js[i]?=some (some j)->N[i]?=some x->X.N[j]?=some x/\sc.names.lookup x=some .free/\(X.env.kindOf x=some .cell\/X.env.kindOf x=some .free)
theorem bX(k:sc.kind=.function)(nc:∀y∈sc.names,y.2≠NameKind.cell)(nm:∀y∈sc.names,y.2=NameKind.local->sc.names.lookup y.1=some .local)
 (fr:(sc.names.all λy=>y.2 != Yh ||X.env.kindOf y.1 == some NameKind.cell ||X.env.kindOf y.1 == some Yh)=true) (ln:js.length=N.length)
 (sl:((js.zip N).all λp=>match p.1 with|none=>true|some j=>X.N[j]? == some p.2 && sc.names.lookup p.2 == some Yh && (X.env.kindOf p.2 == some NameKind.cell ||X.env.kindOf p.2 == some Yh))=true):ej X sc N js:=by
 refine⟨k,nc,nm,λy hy hf=>?_,ln,λi j x e1 e2=>?_⟩
 .have h:=List.all_eq_true.mp fr y hy;rw[hf]at h;simpa using h
 .have hm:(some j,x)∈js.zip N:=by
   have:(js.zip N)[i]?=some (some j,x):=by rw[YD];exact⟨e1,e2⟩
   exact WR this
  have h:=List.all_eq_true.mp sl _ hm;simp at h;exact⟨h.1.1,h.1.2,h.2⟩
def PTs(X:Cx)(ifs:List XY)(t:TT):Prop :=
 ∀(Z:List (WT×YF))(s:W3)(Y:St)(H:Hp)(Q:Bool->Hp->Prop),Inv X Z Y H s->t Y H Q ->
   Xd (Xx X.prog X.w) X.A (forIn ifs true λc r=>if r=true then do let ok <-isTrue c X.env (YW c X.env);pure (Zv ok)else pure (Zv r)) (TP X Z Y Q) X.xe s
def bu:TT:=λ_ H Q=>Q true H
theorem bC:PTs X [] bu:=λ_ _ _ H _ I h=>wpAny_tests_nil ⟨H,I,h⟩
theorem gD{c:XY}{t:TT}(h:PT X c t):PTs X [c] t:=λZ s Y H Q I q=>wpAny_tests_one (h Z s Y H Q I q)
def Keep(Y i':St):Prop:=Y.length=i'.length/\∀(i:Nat)(v:V),Y[i]?=some (some v)->i'[i]?=some (some v)
def m9(js:List (Option Nat))(g:TG):Prop:=∀(Y AH:St)(x:V)(H:Hp)(Q:St->Hp->Prop),Keep (cσ js Y) AH->g x AH H Q->g x AH H λAk H2=>Keep (cσ js Y) Ak/\Q Ak H2
def nZ(js:List (Option Nat))(g:TGs):Prop:=∀(Y AH:St)(x:List V)(H:Hp)(Q:St->Hp->Prop),Keep (cσ js Y) AH->g x AH H Q->g x AH H λAk H2=>Keep (cσ js Y) Ak/\Q Ak H2
theorem Keep.refl(Y:St):Keep Y Y:=⟨rfl,λ_ _ h=>h⟩
theorem vW(h:js[i]?=some none):(cσ js Y)[i]?=some none:=by
 unfold cσ;rw[Xj,h];rfl
theorem aP(h:js[i]?=some none):m9 js (az i):=λY AH x H Q k q=>by
 refine⟨⟨by rw[List.length_set];exact k.1,λj v e=>?_⟩,q⟩;by_cases hj:i=j
 .subst hj;rw[vW h]at e;cases e
 .rw[Yq hj];exact k.2 j v e
theorem lj:nZ js qi:=λY AH x H Q k⟨e,q⟩=>⟨e,k,q⟩
theorem db{t:TG}{u:TGs}(mono:∀x Y H(Q Q':St->Hp->Prop),(∀a b,Q a b->Q' a b)->t x Y H Q->t x Y H Q')(h1:m9 js t)(h2:nZ js u):nZ js (fF t u):=λY AH x H Q k⟨v,r,e,q⟩ =>
 ⟨v,r,e,mono _ _ _ _ _ (λa b⟨k',q'⟩=>h2 Y a r b Q k' q') (h1 Y AH v H _ k q)⟩
theorem bP:∀x Y H(Q Q':St->Hp->Prop),(∀a b,Q a b->Q' a b)->az i x Y H Q->az i x Y H Q':=λ_ _ _ _ _ h q=>h _ _ q
theorem kL{t:TGs}(h:nZ js t):m9 js (pR K n t):=λY AH x H Q k⟨a,xs,e,hs,hl,q⟩=>⟨a,xs,e,hs,hl,h Y AH xs H Q k q⟩
def fH(js:List (Option Nat))(g:TG)(tt:TT)(te:TE)(Y:St)(J:It)(D:WT)(n:Nat)(W:Nat->Hp->Prop)(fin:Hp->Prop):Prop :=
 ∀i H,W i H->(J.stop i H/\fin H)\/(i<n/\J.go i H/\∀x H1,J.yld i H x H1->g x (cσ js Y) H1 λAk H2=>tt Ak H2 λb H3 =>
   if b=true then te Ak H3 λv H4=>∃ys,H4 D=some (.lst ys)/\ys.length<Xh/\W (i+1) (upd H4 D (.lst (ys++[v])))else W (i+1) H3)
def rH(js:List (Option Nat))(wi:TI)(g:TG)(tt:TT)(te:TE):TE:=λY H Q=>wi Y H λJ H1=>∀D,H1 D=none ->
 ∃(n:Nat)(W:Nat->Hp->Prop),W 0 (upd H1 D (.lst []))/\fH js g tt te Y J D n W λH'=>Q (.ref D) H'
theorem uz{h1:X4}(S:ej X sc N js)(I:Inv X Z Y H s)
 (Am:∀x c,cl.lookup x=some c->X.env.cells.lookup x=some c) (Cp:∀n,(n,Yh)∈sc.names->∃c,cl.lookup n=some c)
 (hf:∀b∈fp,jy X Z H b) (Ae:∀b∈fp,b<s.1.1.size) (Dh:h1.Ns s.1.1.size λx=>Zd x ([]:List (Xk×WW)))
 (Fq:∀b o,s.1.get? b=some o->h1.get? b=some o) :
 Inv (bU X N sc cl s.1.1.size s H fp Z) [] (cσ js Y) H {s with heap:=h1,toks:=t'}:=by
 have hok:(bU X N sc cl s.1.1.size s H fp Z).Ok :=
  { mod:=I.ok.mod
    kind:=S.kind
    glob:=I.ok.glob
    blt:=I.ok.blt
    above:=W2 _
    inj:=λx y c a b=>I.ok.inj x y c (Am x c a) (Am y c b)
    has:=λx h=>Cp x (lK S.nocell h)
    cab:=λx c h=>by cases h
    hd:=I.ok.hd
    frames:=I.ok.frames
    stk:=.inl rfl
    exf:=λb hb=>⟨λe=>g! (Ae b hb) (by rw[e];exact Yo _),λx c e z=>(hf b hb).2.2.2.2.1 x c (Am x c e) z⟩
    bs:=I.bs
    bsz:=XS I.ok.bsz I.sz
    noex:=λb o e hb=>by
     rcases(hf b hb).2.2.2.1 with h|h
     .exact I.ok.noex b o e h
     .exact g! (Xy (Xy (Xc e) I.ok.bsz) h) (Yo _)
    exfs:=λb hb hm=>by
     rcases Xb.mp (I.stkSub b hm)with e|e
     .exact(hf b hb).2.1 e
     .exact(hf b hb).2.2.1 e
    funs:=I.stack
    frf:=I.stkFree }
 have hC:H s.1.1.size=none:=I.hok.fresh (W2 _);obtain⟨m0,Sy,Vl⟩:=I.loc
 exact
  { ok:=hok
    os:=rfl
    bare:=I.bare
    base:=Un.kept Fq
    loc:=⟨_,Dh,λi x v e1 e2 Su=>by
     have EA:∃j,js[i]?=some (some j)/\Y[j]?=some (some v):=by
      unfold cσ at e2;rw[Xj]at e2;cases q:js[i]? with
      |none=>rw[q]at e2;cases e2
      | some o =>
        rw[q]at e2;cases o with
        |none=>cases e2
        | some j =>
          refine⟨j,rfl,?_⟩;have e3:(Y[j]?).join=some v:=Xf e2;cases r:Y[j]? with
          |none=>rw[r]at e3;cases e3
          |some z=>rw[r]at e3;exact h! some e3
     obtain⟨j,q1,q2⟩:=EA;obtain⟨n1,n2,n3⟩:=S.slots i j x q1 e1;obtain⟨u,ru,look⟩:=Vl j x v n1 q2 (by rcases n3 with z|z;exact .inr (.inl z);exact .inr (.inr z));refine⟨u,ru,.inr ⟨iF n2,?_⟩⟩;have hm:(x,Yh)∈sc.names:=lK (env:=X.env) S.nocell (iF n2);obtain⟨c,hc⟩:=Cp x hm;refine⟨c,hc,?_⟩;rcases look with⟨k1,_⟩|⟨_,c',BR,ic⟩
     .rcases n3 with z|z <;> (rw[k1]at z;cases z)
     .have:=Am x c hc;rw[BR]at this;cases this;exact ic.keeps Fq⟩
    cell:=λx c e=>by
     obtain⟨v,q⟩:=I.cell x c (Am x c e);exact⟨v,q.keeps Fq⟩
    free:=hC
    freeC:=λx c e=>I.freeC x c (Am x c e)
    pin:=λp hp=>by
     have Ce:p∈X.pn++Z:=by simpa[bU]using hp
     obtain⟨a1,a2,a3,a4,a5⟩:=I.pin p Ce;refine⟨Fq _ _ a1,a2,λe=>?_,λhm=>?_,a5⟩
     .have e':p.1=s.1.1.size:=e;exact g! (Xc a1) (by rw[e'];exact Yo _)
     .rcases Xb.mp (I.stkSub p.1 hm)with e|e
      .exact a3 e
      .exact a4 e
    hok:=I.hok.kept Fq
    len:=by
     show(cσ js Y).length=N.length;unfold cσ;rw[WO];exact S.len }
theorem tG{target:XY}{it acc:WW}(J:Nat->W3->Prop)
 (turn:∀n s,J n s->Xd (Xx prog w) A (Z6 it) (λr l'=>(r=none/\R (.ok .next) l')\/∃v,r=some v /\
  Xd (Xx prog w) A (letOwnedTupleGo target it v) (λ_ Bl=>Xd (Xx prog w) A (assign target env v) (λ_ Cm =>
   Xd (Xx prog w) A (forIn ifs true λc r=>if r=true then do let ok <-isTrue c env (YW c env);pure (Zv ok)else pure (Zv r)) (λok EB =>
    (ok=false/\∃m,m<n/\J m EB)\/(ok=true/\Xd (Xx prog w) A (YW elt env) (λx JS=>Xd (Xx prog w) A (call (.builtin "list.append") [acc,x]) (λ_ JT=>∃m,m<n/\J m JT) (λ_ _=>False) JS) (λ_ _=>False) EB))
    (λ_ _=>False) Cm) (λ_ _=>False) Bl) (λ_ _=>False) l') (λ_ _=>False) s)
 (n:Nat) (h:J n s):Z7 (Xx prog w) A (.compLoop (.ListComp elt [⟨target,iter,ifs,0⟩] scope pos) 0 it acc env) R s:=by
 refine codeAny_loop rfl J (λn s hJ=>?_) n h;show Xd _ A ((compTurn (.ListComp elt [⟨target,iter,ifs,0⟩] scope pos) 0 it acc env).onRaise _) _ _ s;refine wpAny_noted ?_;rw[compTurn_list];have up:∀{α:Type}{m:Sem α}{Q:α->W3->Prop}{E:WW->W3->Prop}{s:W3},Xd (Xx prog w) A m Q (λ_ _=>False) s->Xd (Xx prog w) A m Q E s:=λq=>YB q (λ_ _ z=>z) λ_ _ z=>z.elim;refine WN (wpAny_standAt (WN (YB (up (turn n s hJ)) (λr l' Au=>?_) λ_ _ z=>z)));rcases Au with⟨rfl,Au⟩|⟨v,rfl,Au⟩
 .exact W0 Au
 .refine WN (YB (up Au) (λ_ Bl Bt=>?_) λ_ _ z=>z);refine WN (YB (up Bt) (λ_ Cm CK=>?_) λ_ _ z=>z);refine WN (YB (up CK) (λok EB BY=>?_) λ_ _ z=>z);rcases BY with⟨rfl,BY⟩|⟨rfl,BY⟩
  .exact W0 ⟨rfl,BY⟩
  .exact WN (WN (YB (up BY) (λx JS AW=>WN (YB (up AW) (λ_ JT NP=>W0 (W0 ⟨rfl,NP⟩)) λ_ _ z=>z)) λ_ _ z=>z))
theorem li{tn:Nat->X4->Prop}{W:Nat->Hp->Prop}{fin:Hp->Prop}
 {R:WW->WT->Result->W3->Prop} (hc:X.calm=true) (S:ej X sc N js) (I:Inv X Z Y H s) (T:Turn X.prog X.w X.K tg J fp it tn) (st:tn 0 s.1) (hf:∀b∈fp,jy X Z H b)
 (Am:∀x c,cl.lookup x=some c->X.env.cells.lookup x=some c) (Cp:∀n,(n,Yh)∈sc.names->∃c,cl.lookup n=some c)
 (hg:∀cl C s H fp Z,PG (bU X N sc cl C s H fp Z) tg g) (gk:m9 js g) (ht:∀cl C s H fp Z,PTs (bU X N sc cl C s H fp Z) ifs tt) (he:∀cl C s H fp Z,PE (bU X N sc cl C s H fp Z) elt te)
 (w0:W 0 (upd H s.1.1.size (.lst []))) (turn:fH js g tt te Y J s.1.1.size n W fin)
 (hR:∀C H' s',C≠X.env.locals->s.1.1.size<C->(∃m,s'.1.Ns C m)->H' C=none->(∀h' t',X5 C s'.1 h'->Inv X Z Y H' {s' with heap:=h',toks:=t'})->fin H'->R (.ref s.1.1.size) C (.ok .next) s') :
 Xd (Xx X.prog X.w) X.A (newList []) (λacc Cm=>Xd (Xx X.prog X.w) X.A (newFunctionEnv sc X.env.globals cl [] X.env.qual none .none (some X.env)) (λJU EB =>
  Z7 (Xx X.prog X.w) X.A (.compStart (.ListComp elt [⟨tg,iter,ifs,0⟩] sc pos) 0 (.ref it) acc {JU with scope:=relabel sc X.env}) (R acc JU.locals) EB) E Cm) E s:=by
 refine XW (wpAny_newFunctionEnv S.nocell (by intro y hy;simp at hy) (λAu Di Dj=>?_) S.kind);dsimp only at Di Dj |-;have I3:Inv X Z Y (upd H s.1.1.size (.lst [])) {s with heap:=s.1.push {cls:=.type "list",dict:=none,data:=.seq ([]:List WW).toArray}}:=I.lnew (t':=s.toks) (its:=[]) .nil (by decide)
 have Ae:∀b∈fp,b<s.1.1.size:=λb hb=>by
  obtain⟨o,ho,_⟩:=T.obj _ _ st b hb;exact Xc ho
 have Gv:∀b o,s.1.get? b=some o->(s.1.push {cls:=.type "list",dict:=none,data:=.seq ([]:List WW).toArray}).get? b=some o:=λb o e=>WV _ e;have hsz:(s.1.push {cls:=.type "list",dict:=none,data:=.seq ([]:List WW).toArray}).objs.size=s.1.1.size+1:=Yk ..;generalize Sz:({s with heap:=s.1.push {cls:=.type "list",dict:=none,data:=.seq ([]:List WW).toArray}}:W3)=s3 at I3;have JV:s.1.push {cls:=.type "list",dict:=none,data:=.seq ([]:List WW).toArray}=s3.1:=by rw[<-Sz]
 rw[JV]at Di Dj Gv hsz;rw[JV];have Vm:∀t',({s with heap:=Au,toks:=t'}:W3)={s3 with heap:=Au,toks:=t'}:=λt'=>by rw[<-Sz]
 rw[Vm];have Fq:∀b o,s3.1.get? b=some o->Au.get? b=some o:=λb o e=>Dj.extBut b o (XG (Xc e)) (WV _ e);have NQ:∀b∈fp,jy X Z (upd H s.1.1.size (.lst [])) b:=λb hb=>⟨by rw[af (XG (Ae b hb))];exact(hf b hb).1,(hf b hb).2⟩;have I4:=uz (t':=s.toks+([]:List (Xk×WW)).length) S I3 Am Cp NQ (λb hb=>by rw[hsz];exact Nat.lt_succ_of_lt (Ae b hb)) Di Fq;generalize hH3:upd H s.1.1.size (.lst [])=H3 at I3 I4 NQ w0;have Cz:tn 0 Au:=T.keep _ _ _ st λb hb o e=>Fq _ _ (Gv _ _ e)
 have De:∀{H':Hp},(∀b∈fp,H' b=none)->∀b∈fp,jy (bU X N sc cl s3.1.1.size s3 H3 fp Z) [] H' b:=λ{H'}hn b hb=>by
  obtain⟨f0,f1,f2,f3,f4,f5⟩:=hf b hb;refine⟨hn b hb,λe=>?_,λhm=>?_,.inl hb,λx c e=>f4 x c (Am x c e),λp hp=>f5 p (by simpa[bU]using hp)⟩
  .have e':b=s3.1.1.size:=e;have h9:b<s.1.1.size:=Ae b hb;rw[e',hsz]at h9;exact g! h9 (Nat.not_lt.mpr (Nat.le_succ _))
  .rcases Xb.mp (I.stkSub b hm)with e|e
   .exact f1 e
   .exact f2 e
 have loop:Z7 (Xx X.prog X.w) X.A (.compLoop (.ListComp elt [⟨tg,iter,ifs,0⟩] sc pos) 0 (.ref it) (.ref s.1.1.size) (compEnvC sc cl s3.1.1.size X.env)) (R (.ref s.1.1.size) s3.1.1.size)
  {s3 with heap:=Au,toks:=s.toks+([]:List (Xk×WW)).length}:=by
  refine tG (λk s'=>∃i H',Inv (bU X N sc cl s3.1.1.size s3 H3 fp Z) [] (cσ js Y) H' s'/\tn i s'.1/\(∀b∈fp,H' b=none)/\W i H'/\k=n - i) ?_ n ⟨0,H3,I4,Cz,λb hb=>(NQ b hb).1,w0,rfl⟩;rintro k s5 ⟨i,H5,I5,IL,FG,w5,rfl⟩;rcases turn i H5 w5 with⟨stop,qn⟩|⟨B9,go,step⟩
  .refine thn (T.done (bU X N sc cl s3.1.1.size s3 H3 fp Z) rfl rfl rfl hc i [] s5 (cσ js Y) H5 _ I5 (De FG) IL stop) λr s6⟨hr,I6⟩=>.inl ⟨hr,?_⟩;have I7:Inv X Z Y H5 s6:=I3.call' (ch:=fp) (I6.os.trans rfl) I6.base I6.hok I6.bare λb hb=>⟨(hf b hb).2.2.2.1,(hf b hb).2.1,(hf b hb).2.2.2.2.1,(hf b hb).2.2.2.2.2⟩;have SD:H5 s3.1.1.size=none:=I6.free;have SE:s3.1.1.size≠X.env.locals:=Nat.ne_of_gt I3.lt;obtain⟨m6,Vn,_⟩:=I6.loc;refine hR s3.1.1.size H5 s6 SE (by omega) ⟨m6,Vn⟩ SD (λh' t' sb=>?_) qn;refine I7.turned (it:=s3.1.1.size) (λb o hb e=>sb.extBut b o hb e) SD SE (.inr I3.sz) (λx c e z=>?_) λp hp z=>?_
   .obtain⟨v,q⟩:=I3.cell x c e;exact g! q.lt (by rw[z];exact Yo _)
   .exact g! (Xc (I3.pin p hp).1) (by rw[z];exact Yo _)
  .refine thn (T.item (bU X N sc cl s3.1.1.size s3 H3 fp Z) rfl rfl rfl hc i [] s5 (cσ js Y) H5 _ I5 (De FG) IL go) λr s6⟨u,hr,h6⟩=>.inr ⟨u,hr,?_⟩;refine thn h6 λ_ s7⟨x,H7,I7,r7,y7,NR,Vo⟩=>?_;have Vp:=I7.pinned (De Vo) (T.obj _ _ NR);refine thn (hg cl s3.1.1.size s3 H3 fp Z _ s7 (cσ js Y) H7 x u _ Vp r7 (gk Y (cσ js Y) x H7 _ (.refl _) (step x H7 y7))) λ_ s8⟨EC,H8,I8,k8,q8⟩=>?_;refine thn (ht cl s3.1.1.size s3 H3 fp Z _ s8 EC H8 _ I8 q8) λok s9⟨H9,I9,q9⟩=>?_
   have again:∀{s':W3}{i':St}{H':Hp},Keep (cσ js Y) i'->Inv (bU X N sc cl s3.1.1.size s3 H3 fp Z) ([]++kH fp s7.1) i' H' s'->W (i+1) H'->∃m,m<n - i/\∃i H',Inv (bU X N sc cl s3.1.1.size s3 H3 fp Z) [] (cσ js Y) H' s'/\tn i s'.1/\(∀b∈fp,H' b=none)/\W i H'/\m=n - i:=λ{s' i' H'}kp I' w'=>by
    refine⟨n - (i+1),by omega,i+1,H',(I'.unpinned).weak kp.1 kp.2,T.keep _ _ _ NR λb hb o e=>(I'.pin (b,o) (Xl _ (Xl _ (fA hb e)))).1,λb hb=>?_,w',rfl⟩;obtain⟨o,e,d⟩:=T.obj _ _ NR b hb;exact(I'.pin (b,o) (Xl _ (Xl _ (fA hb e)))).2.1
   cases ok with
   | false =>
     refine .inl ⟨rfl,again k8 I9 ?_⟩;have SF:if false=true then _ else W (i+1) H9:=q9
     rw[a! Xn]at SF;exact SF
   | true =>
     refine .inr ⟨rfl,?_⟩;rw[b! rfl]at q9;refine thn (he cl s3.1.1.size s3 H3 fp Z _ s9 EC H9 _ I9 q9) λvv Cf⟨v,DD,Vq,rv,ys,hD,NS,Vr⟩=>?_;refine thn (aQ _ Cf EC DD (.ref s.1.1.size) [v] (.ref s.1.1.size) [vv] (λ_ H'=>W (i+1) H') Vq rfl (.cons rv .nil) ⟨_,ys,v,rfl,rfl,hD,NS,Vr⟩) λ_ Eg⟨_,Gw,Vs,_,Vt⟩=>?_;exact again k8 Vs Vt
 exact codeAny_compStart_list loop (T.self X.A 0 _ _ _ Cz loop)
theorem bR(hc:X.calm=true)(S:ej X sc N js)(hi:PI X tg iter wi)
 (hg:∀cl C s H fp Z,PG (bU X N sc cl C s H fp Z) tg g) (gk:m9 js g) (ht:∀cl C s H fp Z,PTs (bU X N sc cl C s H fp Z) ifs tt) (he:∀cl C s H fp Z,PE (bU X N sc cl C s H fp Z) elt te)
 (hs:∀x,foldedSetIterable iter X.env x=pure x:=by intro _;rfl):PE X (.ListComp elt [⟨tg,iter,ifs,0⟩] sc pos) (rH js wi g tt te):=by
 intro Z s Y H Q I h;obtain⟨cl,e1,e2,e3⟩:=kX (env:=X.env) (sc:=sc) λn hn=>I.ok.has n (S.frees _ hn rfl);rw[eval_ListComp];refine wpAny_comprehension_free (use:=none) rfl hs e1 S.kind S.names (thn (hi Z s Y H _ I h) λv s1 h1=>thn h1 λMx s2 h2=>?_);obtain⟨it,fp,tn,J,H2,rfl,I2,T,JN,f2,R2⟩:=h2;obtain⟨n,W,w0,turn⟩:=R2 s2.1.1.size I2.fresh;refine li (R:=λacc C=>compPost (Xx X.prog X.w) X.A X.xe none (EP X Z Y Q) acc C) hc S I2 T JN f2 e2 e3 hg gk ht he w0 turn λC H' s' _ _ hn _ inv fi=>?_;obtain⟨m,hm⟩:=hn;exact⟨m,hm,λh' sb=>⟨.ref s2.1.1.size,H',inv h' s'.toks sb,rfl,fi⟩⟩
theorem dG{y:Xk}{JW py:Pos}(hN:X.N.Nodup)(hy:X.N[i]?=some y)(Vu:Loc X.env.scope y)(hc:X.calm=true)(S:ej X sc N js)(hi:PI X tg iter wi)
 (hg:∀cl C s H fp Z,PG (bU X N sc cl C s H fp Z) tg g) (gk:m9 js g) (ht:∀cl C s H fp Z,PTs (bU X N sc cl C s H fp Z) ifs tt) (he:∀cl C s H fp Z,PE (bU X N sc cl C s H fp Z) elt te)
 (MA:swapsWith (.ListComp elt [⟨tg,iter,ifs,0⟩] sc pos) (some (.Name y py)) JW.line X.env=pure true:=by rfl)
 (hs:∀x,foldedSetIterable iter X.env x=pure x:=by intro _;rfl) (hf:X.fn y=true\/X.env.scope.names.lookup y=some .local:=by first|exact .inl rfl|exact .inr rfl|assumption) :
 PS X (.Assign [.Name y py] (.ListComp elt [⟨tg,iter,ifs,0⟩] sc pos) JW) (tw (rH js wi g tt te) (az i)):=by
 intro Z s Y H D I h;obtain⟨cl,e1,e2,e3⟩:=kX (env:=X.env) (sc:=sc) λn hn=>I.ok.has n (S.frees _ hn rfl);rw[exec_Assign_Name_used _ _ _ _ MA];refine WN (wpAny_standAt (WN ?_));show Xd _ X.A (do let _ <-comprehension (.ListComp elt [⟨tg,iter,ifs,0⟩] sc pos) sc X.env _ (newList []) false (YW iter X.env) (some (assign (.Name y py) X.env))) _ _ s;refine WN (YB (wpAny_comprehension_free (use:=some (assign (.Name y py) X.env)) (Q:=λ_ s'=>SP X Z D .next s') rfl hs e1 S.kind S.names (thn (hi Z s Y H _ I h) λv s1 h1=>thn h1 λMx s2 h2=>?_)) (λ_ s' hq=>W0 (W0 hq)) λ_ _ z=>z);obtain⟨it,fp,tn,J,H2,rfl,I2,T,JN,f2,R2⟩:=h2;obtain⟨n,W,w0,turn⟩:=R2 s2.1.1.size I2.fresh;refine li (R:=λacc C=>compPost (Xx X.prog X.w) X.A X.xe (some (assign (.Name y py) X.env)) (λ_ s'=>SP X Z D .next s') acc C) hc S I2 T JN f2 e2 e3 hg gk ht he w0 turn λC H' s' SG hC hn NT inv fi=>?_;obtain⟨m,hm⟩:=hn
 have I5:Inv X Z Y H' s':=by
  have q:=inv s'.1 s'.toks (.refl ..);exact q
 refine wpAny_assign_Name (mZ (v:=.ref s2.1.1.size) I5 hN hy Vu rfl (λs6 I6⟨a,sb,ha⟩=>?_) hf)
 have Vv:C≠a:=by
  rcases ha with ha|ha
  .rw[ha];exact SG
  .intro z;obtain⟨v,q⟩:=I2.cell y a ha;exact g! (Nat.lt_trans q.lt hC) (by rw[z];exact Yo _)
 refine⟨m,hm.sameBut sb Vv,λh' Vw=>⟨_,H',I6.turned (it:=C) (t':=s6.toks) (λb o hb e=>Vw.extBut b o hb e) NT SG (.inr (XS I2.sz (Za hC))) (λx c e z=>?_) λp hp z=>?_,fi⟩⟩
 .obtain⟨v,q⟩:=I2.cell x c e;exact g! (Nat.lt_trans q.lt hC) (by rw[z];exact Yo _)
 .exact g! (Nat.lt_trans (Xc (I2.pin p hp).1) hC) (by rw[z];exact Yo _)
def jT{α:Type}(xs:List α)(lo hi:Option Int):List α:=(xs.drop (t! xs.length 0 lo)).take (t! xs.length xs.length hi - t! xs.length 0 lo)
def cE(z:Xk)(lo hi:Option Int):Xk:=⟨(jT z.cps.toList lo hi).toArray⟩
theorem um(xs:List α)(a n:Nat):((Yn n).map λ(k:Nat)=>a+k).filterMap (xs[·]?)=(xs.drop a).take n:=by
 induction n with
 |zero=>simp
 | succ n ih =>
   rw[List.range_succ,W9,List.filterMap_append,ih,Yp];congr 1;rw[List.getElem?_drop];cases h:xs[a+n]? <;> simp[h]
theorem se(n d:Nat)(i:Int):max 0 (min (if i<0 then i+(n:Int)else i) (n:Int))=((t! n d (some i):Nat):Int):=by
 show max 0 (min (if i<0 then i+(n:Int)else i) (n:Int))=(((if i<0 then(i+(n:Int)).toNat else min i.toNat n):Nat):Int);by_cases h:i<0
 .rw[b! h,b! h];omega
 .rw[a! h,a! h];omega
theorem vj(A B:Int)(a b:Nat)(hA:A=(a:Int))(hB:B=(b:Int)):sliceRange A B 1=(Yn (b - a)).map λ(k:Nat)=>a+k:=by
 subst hA;subst hB;unfold sliceRange;simp only[show(1:Int) > 0 by decide,if_true]
 have c:(if(a:Int)<(b:Int)then((b:Int) - a+1 - 1) / 1 else 0).toNat=b - a:=by
  split
  .rw[Int.ediv_one];omega
  .omega
 rw[c];refine List.map_congr_left λk _=>?_;omega
theorem qW(lo hi:Option Int)(n:Nat):Builtin.Str.strSliceIndices lo hi 1 n=(Yn (t! n n hi - t! n 0 lo)).map λ(k:Nat)=>t! n 0 lo+k:=by
 unfold Builtin.Str.strSliceIndices;simp only[show(1:Int) > 0 by decide,if_true];cases lo <;> cases hi <;> refine vj _ _ _ _ ?_ ?_ <;> first|rfl|exact se _ _ _
theorem fK(z:Xk)(lo hi:Option Int):(cE z lo hi).length<=z.length:=by
 show(jT z.cps.toList lo hi).toArray.size<=z.cps.size;unfold jT;rw[Xa,XI,XR,Xp];omega
theorem lV(x:Xk)(t:Tok)(l u:Option (Int×Tok))(hz:x.length<=Xh)(h:∀t' k,Q (.str (cE x (l.map (·.1)) (u.map (·.1))) t') {s with toks:=k}):(sliceMade x t l u none).post Q s:=by
 have e:(slicePicked x l u none).filterMap (x.cps[·]?)=jT x.cps.toList (l.map (·.1)) (u.map (·.1)):=by
  unfold slicePicked jT;show(Builtin.Str.strSliceIndices (l.map (·.1)) (u.map (·.1)) 1 x.length).filterMap (x.cps[·]?)=_;rw[qW,show(x.cps[·]?)=(x.cps.toList[·]?)from funext λi=>(ZX ..).symm,um,Xp];rfl
 unfold sliceMade;split
 .rename_i hc
  have hl:(slicePicked x l u none).length=x.length:=by
   have:=(Bool.and_eq_true _ _ ▸ hc).2;simpa using this
  have hw:cE x (l.map (·.1)) (u.map (·.1))=x:=by
   have e2:(jT x.cps.toList (l.map (·.1)) (u.map (·.1)))=x.cps.toList:=by
    have hp:slicePicked x l u none=(Yn (t! x.length x.length (u.map (·.1)) - t! x.length 0 (l.map (·.1)))).map λ(k:Nat)=>t! x.length 0 (l.map (·.1))+k:=qW _ _ _;rw[hp,WO,List.length_range]at hl;have b1:=HT.sIx_le x.length x.length (W2 _) (u.map (·.1));have hx:x.cps.toList.length=x.length:=Xp;unfold jT;rw[hx,hl];have ED:t! x.length 0 (l.map (·.1))=0\/x.length=0:=by omega
    rcases ED with h0|h0
    .rw[h0,Zk,Yr (by rw[hx];exact W2 _)]
    .have:x.cps.toList=[]:=Yy.mp (by rw[hx];exact h0);rw[this];simp
   unfold cE;rw[e2]
  have:=h t s.toks;rw[hw]at this;exact this
 .show(⟨((slicePicked x l u none).filterMap (x.cps[·]?)).toArray⟩:Xk).length<=Xh/\Q _ _;rw[e];exact⟨XS (fK x _ _) hz,h s.toks (s.toks+1)⟩
inductive wQ(x:V)(lo:Option Int)(hi:Option Int)(H:Hp)(Q:VK):Prop
 |mk (z:_) (Aq:x=.str z) (Ar:z.length<=Xh) (Ax:Q (.str (cE z lo hi)) H):wQ  x lo hi H Q
def zL:V->Option Int->Option Int->Hp->VK->Prop:=wQ
theorem part_of{v:WW}{o:Option Int}(h:IsPart v o):∃l:Option (Int×Tok),v=partValue l/\l.map (·.1)=o:=by
 cases h with
 |none=>exact⟨none,rfl,rfl⟩
 |int i t=>exact⟨some (i,t),rfl,rfl⟩
theorem n5:SlR X zL:=by
 intro Z s Y H x v vl vu lo hi sl Q I rx hs pl pu h;obtain⟨z,rfl,hz,q⟩:=h;obtain⟨t,rfl⟩:=rx;obtain⟨l,rfl,rfl⟩:=part_of pl;obtain⟨u,rfl,rfl⟩:=part_of pu;refine⟨"str",_,F.slot_str_getitem.lookup,typeIs_str s z t,wpAny_getItem_str_slice (l:=l) (u:=u) (st:=none) ?_ rfl (lV z t l u hz λt' k=>?_)⟩
 .obtain⟨o,ho,hc,hd⟩:=hs;exact⟨o,ho,hc,hd⟩
 .exact⟨.str (cE z (l.map (·.1)) (u.map (·.1))),H,I.tok k,⟨_,rfl⟩,q⟩
theorem vx{ys:List Xk}:∀{us:List WW},Vals (ys.map H!) us->StrsAre us ys:=by
 induction ys with
 |nil=>intro us r;cases r;exact .nil
 | cons y ys ih =>
   intro us r;cases r with
   | cons a b =>
     obtain⟨t,rfl⟩:=a;exact .cons y t (ih b)
def rJoin(K:WX):V->List V->Hp->VK->Prop:=λx vs H Q=>∃z p ys,x=.str z/\vs=[.ref p]/\SqL K H p (ys.map H!)/\(ys.map (·.length)).sum+ys.length * z.length<=16777216/\Q (.str (Txt.join z ys)) H
theorem vt:MtR X "str.join" (rJoin X.K):=by
 intro Z s Y H x vs v us Q I rx rv h;obtain⟨z,p,ys,rfl,rfl,hl,hz,q⟩:=h;obtain⟨t,rfl⟩:=rx;obtain⟨u,rfl,u'⟩:=rv.one;cases u';obtain⟨its,r,pl,_⟩:=I.list hl;exact join_list pl.isList (vx r) hz λt' k=>⟨.str (Txt.join z ys),H,I.tok k,⟨_,rfl⟩,q⟩
theorem ut(hc:X.calm=true):dq X (.builtin "sum") (λxs H Q=>∃(p:WT)(ns:List Int),xs=[.ref p]/\SqL X.K H p (ns.map o!)/\Q (.int ns.sum) H):=by
 intro Z s Y H xs us Q I r h;obtain⟨p,ns,rfl,hl,q⟩:=h;obtain⟨u,rfl,rx⟩:=vals1 r;cases rx;obtain⟨its,rv,pl,_⟩:=I.list hl;have hi:=intsAre_of rv;obtain⟨ys,e⟩:=(hi.allInts).items;have DA:s.1.IsList p (intItems ys):=by rw[<-e];exact pl.isList
 refine sum_intListG (I.ok.hd hc) DA λh' tk t' hk=>?_
 have e3:preSum (numAt ys) ys.size=ns.sum:=by
  rw[preSum_eq,Yr (by simp),<-nums_intItems,<-e];show(numsOf its).sum=_;rw[hi.numsOf]
 rw[e3];exact⟨.int ns.sum,H,I.kept hk,⟨_,rfl⟩,q⟩
theorem jo(hc:X.calm=true):dq X (.builtin "max") (λxs H Q=>∃(p:WT)(ns:List Int),xs=[.ref p]/\SqL X.K H p (ns.map o!)/\ns≠[]/\∀M,M∈ns->(∀a,a∈ns->a<=M)->Q (.int M) H):=by
 intro Z s Y H xs us Q I r h;obtain⟨p,ns,rfl,hl,Ay,q⟩:=h;obtain⟨u,rfl,rx⟩:=vals1 r;cases rx;obtain⟨its,rv,pl,_⟩:=I.list hl;have hi:=intsAre_of rv;have hlen:=hi.length;obtain⟨ys,e⟩:=(hi.allInts).items;have DA:s.1.IsList p (intItems ys):=by rw[<-e];exact pl.isList
 have hn:ys.toList.map (·.1)=ns:=by rw[<-nums_intItems,<-e];exact hi.numsOf
 have hsz:0<ys.size:=by
  have:ns.length=ys.size:=by rw[<-hn];simp
  have:=List.length_pos_iff.mpr Ay;omega
 refine max_intList (I.ok.hd hc) DA hsz λv h' tk hv hk=>?_;obtain⟨t,rfl⟩:=intItems_at hv;obtain⟨h1,h2⟩:=argBest_gt (numAt ys) (ys.size - 1);refine⟨.int _,H,I.kept hk,⟨_,rfl⟩,q _ ?_ λa ha=>?_⟩
 .rw[numAt_eq,<-hn];exact getD_mem (by rw[WO,Xp];omega)
 .rw[<-hn]at ha;obtain⟨j,hj,rfl⟩:=mem_getD ha;rw[WO,Xp]at hj;rw[<-numAt_eq];exact h2 j (by omega)
theorem uJ{T:String}{b:Bool}{t:WW}:dq X (.builtin "isinstance") (λxs H Q=>∃x,xs=[x,.ty T]/\iC X.K H x t/\Y3 X.K t (.type T)=some b/\Q (.bl b) H):=by
 intro Z s Y H xs us Q I r h;obtain⟨x,rfl,ty,k,q⟩:=h;obtain⟨u,w',rfl,r1,r2⟩:=vals2 r;cases r2;exact sS I r1 ty k λtk=>⟨.bl b,H,I.tok tk,rfl,q⟩
end L2
open L2 renaming Same->j!
namespace PySem
namespace F
end F
open Sem (wp)
end PySem
namespace L2
open PySem PySem.Spec PyProof.Rows
section
variable{p p2 Bu:Pos}
def Itv(K:WX)(a:WT)(n:Nat):It:=⟨λi H=>i<n/\∃xs,SqL K H a xs/\xs.length=n,λi H x H'=>H'=H/\∀xs,SqL K H a xs->xs[n - 1 - i]?=some x,λi _=>i=n⟩
theorem uP(a it:WT)(n:Nat):Turn P w K tg (Itv K a n) [it] it (λi h=>h.IsRevIter it a ((n:Int) - 1 - (i:Nat))) where
 mem:=by simp
 obj:=λi h st b hb=>by
  have e:b=it:=by simpa using hb
  subst e;obtain⟨o,e,c,d⟩:=st;exact⟨o,e,λv z=>by rw[d]at z;cases z⟩
 keep:=λi h h' st k=>st.at λo e=>k it (by simp) o e
 item:=by
  intro X hP hw hK hc i Z s Y H E I hf st hg;subst hP hw hK;obtain⟨hi,xs,hq,hx⟩:=hg;obtain⟨its,rv,p,hz⟩:=I.list hq;have hl:=rv.length;obtain⟨x,BC⟩:∃x,xs[n - 1 - i]?=some x:=⟨_,WS (by omega)⟩;obtain⟨u,hu,ru⟩:=rv.get BC;obtain⟨f0,f1,f2,f3,f4,f5⟩:=hf it (by simp);have e1:(n:Int) - 1 - (i:Nat)=((n - 1 - i:Nat):Int):=by omega
  rw[e1]at st;refine wpAny_pyNext_rev_item st p.isList (x:=u) (by simpa using hu) λh' B8 sb=>?_;have I1:Inv X Z Y H {s with heap:=h'}:=I.turned (t':=s.toks) (λb o hb e=>(sb.2 b hb).trans e) f0 f1 f3 f4 f5;have e2:((n - 1 - i:Nat):Int) - 1=(n:Int) - 1 - ((i+1:Nat):Int):=by omega
  rw[e2]at B8;obtain⟨o,e,c,d⟩:=id B8;exact⟨u,rfl,nw (s:={s with heap:=h'}) e c d (by decide) ⟨x,H,I1,ru,⟨rfl,λys hy=>by rw[I.list_inj hy hq];exact BC⟩,B8,λb hb=>(hf b hb).1⟩⟩
 done:=by
  intro X hP hw hK hc i Z s Y H E I hf st hg;subst hP hw hK;have Vx:i=n:=hg;subst Vx;obtain⟨f0,f1,f2,f3,f4,f5⟩:=hf it (by simp);rw[show(i:Int) - 1 - (i:Nat)=-1 by omega]at st;exact wpAny_pyNext_rev_end (I.ok.hd hc) st λh' eb=>⟨rfl,I.turned (t':=s.toks) (λb o hb e=>eb b o hb e) f0 f1 f3 f4 f5⟩
 self:=λ_ _ _ _ _ st h=>wpAny_pyIter_revIter st h
def zV(K:WX)(tl:TE):TI:=λY H R=>tl Y H λx H1=>∃a xs,x=.ref a/\SqL K H1 a xs/\R (Itv K a xs.length) H1
theorem uj(g2:Gl X "reversed")(m2:X.mg "reversed"=none)(he:PE X e te)(h2:XJ [e] X.env=[(false,YW e X.env)]:=by rfl):PI X tg (.Call (.Name "reversed" p2) [e] [] Bu) (zV X.K te):=by
 intro Z s Y H R I h;refine Yu (fR I g2 m2 boot_reversed (YQ ?_ h2 rfl));rw[h2];show Xd _ _ (spliced ((false,YW e X.env)::[])) _ _ s;refine Z8 (thn (he Z s Y H _ I h) λu s1⟨x,H1,I1,r1,a,ys,ex,hq,q⟩=>Calls.spliced_nil ?_);subst ex;cases r1;obtain⟨its,rv,p,hz⟩:=I1.list hq;have hl:=rv.length;refine call_reversed_list p.isList ?_
 have hit:(s1.1.push (revObj a ((its.toArray.size:Int) - 1))).IsRevIter s1.1.1.size a ((ys.length:Int) - 1 - ((0:Nat):Int)):=by
  rw[hl,show(its.length:Int) - 1 - ((0:Nat):Int)=(its.toArray.size:Int) - 1 by rw[Xa];omega];exact⟨_,W4 _ rfl,rfl,rfl⟩
 refine wpAny_pyIter_revIter (s:={s1 with heap:=s1.1.push (revObj a ((its.toArray.size:Int) - 1))}) hit ?_;refine⟨s1.1.1.size,[s1.1.1.size],_,_,H1,rfl,I1.kept (t':=s1.toks) λb o e=>WV _ e,uP a _ ys.length,hit,λb hb=>?_,q⟩;have e:b=s1.1.1.size:=by simpa using hb
 subst e;exact I1.fpOk (W2 _) (I1.hok.fresh (W2 _))
theorem rP(Pv:Nat->St->Hp->Prop)(h0:Pv 0 Y H)(hl:∀i Y H,i<=xs.length->Pv i Y H->SqL K H a xs)
 (hs:∀i x Y H,i<xs.length->xs[xs.length - 1 - i]?=some x->Pv i Y H->g x Y H λAk H2=>tb {D with nx:=Pv (i+1),ct:=Pv (i+1),bk:=D.nx} Ak H2) (hd:∀Y H,Pv xs.length Y H->D.nx Y H) :
 ∃W:Nat->Nat->St->Hp->Prop,(∃m,W 0 m Y H)/\∀i m Y H,W i m Y H ->
   ((Itv K a xs.length).stop i H/\D.nx Y H)\/((Itv K a xs.length).go i H/\∃N:St->Hp->Prop,(∀i' H',N i' H'->∃m',m'<m/\W (i+1) m' i' H')/\∀x H',(Itv K a xs.length).yld i H x H'->g x Y H' λAk H2=>tb {D with nx:=N,ct:=N,bk:=D.nx} Ak H2):=by
 refine⟨λi m Y H=>i<=xs.length/\m=xs.length - i/\Pv i Y H,⟨xs.length,XB _,rfl,h0⟩,?_⟩;rintro i m Y H ⟨hi,rfl,p⟩;by_cases h:i=xs.length
 .left;exact⟨h,hd Y H (by rw[<-h];exact p)⟩
 .right;have Cq:i<xs.length:=by omega
  refine⟨⟨Cq,xs,hl i Y H hi p,rfl⟩,Pv (i+1),λi' H' q=>⟨xs.length - (i+1),by omega,by omega,rfl,q⟩,?_⟩;rintro x H' ⟨rfl,hx⟩;exact hs i x Y H' Cq (hx xs (hl i Y H' hi p)) p
end
end L2
namespace BB
open PySem L2
set_option genInjectivity true in
inductive Th where
 |knot (n:Xk) (ks:List Th)
 |call (s k:Int)
def q:Xk:=WU "?"
def Th.kids:Th->List Th
 |.knot _ ks=>ks
 |.call _ _=>[]
mutual
def Th.size:Th->Nat
 |.knot _ ks=>au ks+1
 |.call _ _=>1
def au:List Th->Nat
 | []=>0
 |t::ts=>t.size+au ts
end
mutual
def Th.tall:Th->Nat
 |.knot _ ks=>aB ks+1
 |.call _ _=>1
def aB:List Th->Nat
 | []=>0
 |t::ts=>max t.tall (aB ts)
end
mutual
def Th.walk:Th->List Th
 |.knot n ks=>.knot n ks::walks ks
 |.call s k=>[.call s k]
def walks:List Th->List Th
 | []=>[]
 |t::ts=>t.walk++walks ts
end
theorem Th.walk_eq(t:Th):t.walk=t::walks t.kids:=by
 cases t with
 |knot n ks=>rw[Th.walk];rfl
 |call s k=>rw[Th.walk];simp[Th.kids,walks]
theorem Th.size_eq(t:Th):t.size=au t.kids+1:=by
 cases t with
 |knot n ks=>rw[Th.size];rfl
 |call s k=>rw[Th.size];simp[Th.kids,au]
theorem Th.tall_eq(t:Th):t.tall=aB t.kids+1:=by
 cases t with
 |knot n ks=>rw[Th.tall];rfl
 |call s k=>rw[Th.tall];simp[Th.kids,aB]
theorem iV:∀a b:List Th,walks (a++b)=walks a++walks b
 | [],b=>by simp[walks]
 |t::a,b=>by rw[Y0,walks,walks,iV a b,X6]
theorem bf:∀a b:List Th,au (a++b)=au a+au b
 | [],b=>by simp[au]
 |t::a,b=>by rw[Y0,au,au,bf a b,Nat.add_assoc]
mutual
theorem Th.walk_len:∀t:Th,t.walk.length=t.size
 |.knot n ks=>by rw[Th.walk,Th.size,W8,i9 ks]
 |.call s k=>by rw[Th.walk,Th.size];rfl
theorem i9:∀ts:List Th,(walks ts).length=au ts
 | []=>rfl
 |t::ts=>by rw[walks,au,W6,t.walk_len,i9 ts]
end
theorem Th.size_pos(t:Th):1<=t.size:=by rw[t.size_eq];omega
mutual
def At(H:Hp):Th->WT->Prop
 |.knot n ks,a=>n≠q/\∃as:List WT,H a=some (.tup (.str n::as.map i!))/\Ats H ks as
 |.call s k,a=>H a=some (.tup [.str q,.int s,.int k])
def Ats(H:Hp):List Th->List WT->Prop
 | [],as=>as=[]
 |t::ts,as=>∃a r,as=a::r/\At H t a/\Ats H ts r
end
def KT(H H':Hp):Prop:=∀b xs,H b=some (.tup xs)->H' b=some (.tup xs)
theorem KT.trans(a:KT H H1)(b:KT H1 H2):KT H H2:=λc o h=>b c o (a c o h)
theorem Same.kt(h:j! H H'):KT H H':=λb xs e=>h b _ e
theorem hI(h:H l=none):KT H (upd H l o):=λb xs e=>by rw[af (ar e h)];exact e
theorem bx(h:H l=some (.lst xs)):KT H (upd H l o):=λb ys e=>by rw[af (aA e h (by intro z;cases z))];exact e
mutual
theorem At.mono(k:KT H H'):∀{t:Th}{a:WT},At H t a->At H' t a
 | .knot n ks,a,h=>by
   rw[At]at h |-;obtain⟨h0,as,h1,h2⟩:=h;exact⟨h0,as,k _ _ h1,Ats.mono k h2⟩
 | .call s c,a,h=>by
   rw[At]at h |-;exact k _ _ h
theorem Ats.mono(k:KT H H'):∀{ts:List Th}{as:List WT},Ats H ts as->Ats H' ts as
 | [],as,h=>by rw[Ats]at h |-;exact h
 | t::ts,as,h=>by
   rw[Ats]at h |-;obtain⟨a,r,e,h1,h2⟩:=h;exact⟨a,r,e,At.mono k h1,Ats.mono k h2⟩
end
theorem Ats.nil:Ats H [] []:=by rw[Ats]
theorem Ats.cons{t:Th}{ts:List Th}{as:List WT}(h1:At H t a)(h2:Ats H ts as):Ats H (t::ts) (a::as):=by rw[Ats];exact⟨a,as,rfl,h1,h2⟩
theorem Ats.append:∀{ts us:List Th}{as bs:List WT},Ats H ts as->Ats H us bs->Ats H (ts++us) (as++bs)
 | [],us,as,bs,h,g=>by rw[Ats]at h;subst h;exact g
 | t::ts,us,as,bs,h,g=>by
   rw[Ats]at h;obtain⟨a,r,rfl,h1,h2⟩:=h;exact .cons h1 (h2.append g)
theorem Ats.length:∀{ts:List Th}{as:List WT},Ats H ts as->as.length=ts.length
 | [],as,h=>by rw[Ats]at h;subst h;rfl
 | t::ts,as,h=>by
   rw[Ats]at h;obtain⟨a,r,rfl,h1,h2⟩:=h;rw[W8,W8,h2.length]
theorem Ats.reverse:∀{ts:List Th}{as:List WT},Ats H ts as->Ats H ts.reverse as.reverse
 | [],as,h=>by rw[Ats]at h;subst h;exact .nil
 | t::ts,as,h=>by
   rw[Ats]at h;obtain⟨a,r,rfl,h1,h2⟩:=h;rw[X9,X9];exact h2.reverse.append (.cons h1 .nil)
theorem Ats.get:∀{ts:List Th}{as:List WT}{i:Nat}{a:WT},Ats H ts as->as[i]?=some a->∃t,ts[i]?=some t/\At H t a
 | [],as,i,a,h,e=>by rw[Ats]at h;subst h;simp at e
 | t::ts,as,i,a,h,e=>by
   rw[Ats]at h;obtain⟨b,r,rfl,h1,h2⟩:=h;cases i with
   |zero=>simp at e;subst e;exact⟨t,rfl,h1⟩
   |succ i=>exact h2.get (i:=i) (by simpa using e)
theorem Ats.at:∀{ts:List Th}{as:List WT}{i:Nat}{t:Th},Ats H ts as->ts[i]?=some t->∃a,as[i]?=some a/\At H t a
 | [],as,i,a,h,e=>by simp at e
 | t::ts,as,i,a,h,e=>by
   rw[Ats]at h;obtain⟨b,r,rfl,h1,h2⟩:=h;cases i with
   |zero=>simp at e;subst e;exact⟨b,rfl,h1⟩
   |succ i=>exact h2.at (i:=i) (by simpa using e)
theorem Ats.snoc_inv{ts:List Th}{as:List WT}(h:Ats H ts (as++[a])):∃us t,ts=us++[t]/\Ats H us as/\At H t a:=by
 have r:=h.reverse;rw[YE,ZO,ZW]at r;cases e:ts.reverse with
 |nil=>rw[e,Ats]at r;cases r
 | cons t us =>
   rw[e,Ats]at r;obtain⟨b,z,e1,h1,h2⟩:=r;cases e1;refine⟨us.reverse,t,?_,?_,h1⟩
   .rw[<-X9,<-e,Zy]
   .have:=h2.reverse;rw[Zy]at this;exact this
end BB
open BB.Same renaming kt->n!
open BB.Th renaming knot->p!,tall->r!,size->w!,walk_eq->z!,walk->A!,call->K!
variable{p p':BB.Th}{W ts Ts Bz:List BB.Th}{rows:List (List BB.Th)}{SI:L2.Hp->List BB.Th->Prop}{VR:List BB.Th->Int->BB.Th->Int->Prop}
namespace BB
open PySem L2
def comma:Xk:=WU ","
def lpar:Xk:=WU "("
def rpar:Xk:=WU ")"
def Th.nm:Th->Xk
 |.knot n _=>n
 |.call _ _=>q
theorem qg:comma.length=1/\lpar.length=1/\rpar.length=1:=by decide +kernel
theorem join_le(ts:List Xk):(Txt.join comma ts).length<=(ts.map (·.length)).sum+ts.length:=by
 have e:Txt.join comma ts=Str.join comma ts:=by simpa using PyProof.Rows.join_plain_closes comma ts
 have:=StrLaws.join_length_le comma ts;rw[qg.1]at this;rw[e];omega
theorem at_nonneg{xs:List α}{i:Int}{v:α}(h0:0<=i)(h:xs[i.toNat]?=some v):atI xs i=some v:=by
 have e:i=((i.toNat:Nat):Int):=by omega
 rw[e];exact bw h
def Low(x:Xk):Prop:=∀c∈x.cps.toList,97<=c/\c<=122
theorem nY(h:Low x)(lo hi:Option Int):Low (cE x lo hi):=by
 intro c hc;have BR:c∈jT x.cps.toList lo hi:=by simpa[cE]using hc
 exact h c (Zz (Y4 BR))
theorem rS{y:Xk}(hx:Low x)(hy:Low y):Low (x++y):=by
 intro c hc;have BR:c∈(x.cps++y.cps).toList:=hc;rw[Ym,W7]at BR;rcases BR with h|h
 .exact hx c h
 .exact hy c h
theorem we{c:Nat}(h1:97<=c)(h2:c<=122):Low ⟨#[c]⟩:=by
 intro d hd;have:d=c:=by simpa using hd
 omega
theorem jC(h:Low x):x≠q:=by
 intro e;subst e;have:=h 63 (by decide +kernel);omega
end BB
namespace L2
open PySem PySem.Spec PyProof.Rows
theorem Same.seqT(e:Same H H')(h:SqT K H a xs):SqT K H' a xs:=by
 rcases h with(h|⟨o,h⟩)|h
 .exact .inl (.inl (e _ _ h))
 .exact .inl (.inr ⟨o,e _ _ h⟩)
 .exact .inr h
theorem aj{p:WT}(h:H p=none)(o:HO):Same H (upd H p o):=λb u q=>by rw[af (ar q h)];exact q
@[elab_as_elim] theorem gU{G:Hp->Prop}(h:H a=none)(k:∀H',j! H H'->H' a=some o->G H'):G (upd H a o):=k _ (aj h _) ad
theorem aF(h:Same H H1)(n:H l=none):Same H (upd H1 l o):=λb u e=>by rw[af (ar e n)];exact h b u e
theorem wb(zs:List α)(p:α->Bool)(f:α->V)(hz:zs.length=xs.length)(hn:xs.length<=1000000)
 (Ha:∀i H2,Same H H2->i<xs.length->J.go i H2) (BZ:∀H2,Same H H2->J.stop xs.length H2) (Dk:∀(i:Nat)H2 x H3,Same H H2->i<xs.length->J.yld i H2 x H3->H3=H2/\xs[i]?=some x)
 (FJ:∀(i:Nat)x z H2(R:Bool->Hp->Prop),xs[i]?=some x->zs[i]?=some z->Same H H2->R (p z) H2->tt ((cσ js Y).set 0 (some x)) H2 R)
 (Hb:∀(i:Nat)x z H2(R:VK),xs[i]?=some x->zs[i]?=some z->p z=true->Same H H2->R (f z) H2->te ((cσ js Y).set 0 (some x)) H2 R)
 (q:∀D,H D=none->fin D (upd H D (.lst ((zs.filter p).map f)))) :
 ∀D,H D=none->∃(n:Nat)(W:Nat->Hp->Prop),W 0 (upd H D (.lst []))/\fH js (az 0) tt te Y J D n W λH'=>fin D H':=by
 intro D hD;refine⟨xs.length,λi H2=>i<=xs.length/\H2=upd H D (.lst (((zs.take i).filter p).map f)),⟨XB _,by simp⟩,?_⟩;rintro i H2 ⟨hi,rfl⟩;have sm:∀o,Same H (upd H D o):=λo=>aj hD o;by_cases h:i=xs.length
 .left;subst h;refine⟨BZ _ (sm _),?_⟩;rw[<-hz,Zg];exact q D hD
 .right;have Cq:i<xs.length:=by omega
  refine⟨Cq,Ha i _ (sm _) Cq,λx H1 hy=>?_⟩;obtain⟨rfl,hx⟩:=Dk i _ x H1 (sm _) Cq hy;have Vy:i<zs.length:=by omega
  have e1:zs[i]?=some zs[i]:=WS Vy
  have e2:(zs.take (i+1)).filter p=(zs.take i).filter p++(if p zs[i]=true then[zs[i]]else[]):=by
   rw[Yp,e1,List.filter_append];show _++List.filter p [zs[i]]=_;rw[List.filter_cons,List.filter_nil]
  refine FJ i x zs[i] _ _ hx e1 (sm _) ?_
  have hlen:(((zs.take i).filter p).map f).length<=1000000:=by
   rw[WO];have:=List.length_filter_le p (zs.take i);rw[XI]at this;omega
  by_cases hp:p zs[i]=true
  .rw[b! hp];refine Hb i x zs[i] _ _ hx e1 hp (sm _) ⟨_,ad,Nat.lt_of_le_of_lt hlen (by decide),Cq,?_⟩;rw[iN,e2,b! hp,W9];rfl
  .rw[a! hp];refine⟨Cq,?_⟩;rw[e2,a! hp,Yz]
theorem d5(zs:List α)(p:α->Bool)(f:α->V)(hS:SqT K H a xs)(hz:zs.length=xs.length)(hn:xs.length<=1000000)
 (FJ:∀(i:Nat)x z H2(R:Bool->Hp->Prop),xs[i]?=some x->zs[i]?=some z->Same H H2->R (p z) H2->tt ((cσ js Y).set 0 (some x)) H2 R)
 (Hb:∀(i:Nat)x z H2(R:VK),xs[i]?=some x->zs[i]?=some z->p z=true->Same H H2->R (f z) H2->te ((cσ js Y).set 0 (some x)) H2 R)
 (q:∀D,H D=none->fin D (upd H D (.lst ((zs.filter p).map f)))) :
 ∀D,H D=none->∃(n:Nat)(W:Nat->Hp->Prop),W 0 (upd H D (.lst []))/\fH js (az 0) tt te Y (Itt K a) D n W λH'=>fin D H' :=
 wb zs p f hz hn (λi H2 s hi=>⟨xs,xs[i],s.seqT hS,WS hi⟩) (λH2 s=>⟨xs,s.seqT hS,W2 _⟩) (λi H2 x H3 s hi hy=>⟨hy.1,hy.2 xs (s.seqT hS)⟩) FJ Hb q
end L2
namespace BB
open PySem L2
theorem at0{x:α}{xs:List α}:atI (x::xs) 0=some x:=bw (j:=0) rfl
theorem at1{x y:α}{xs:List α}:atI (x::y::xs) 1=some y:=bw (j:=1) rfl
theorem at2{x y z:α}{xs:List α}:atI (x::y::z::xs) 2=some z:=bw (j:=2) rfl
theorem cy(x:V)(xs:List V):cR (x::xs) (some 1) none=xs:=by
 unfold cR;simp[t!]
theorem cV:∀ts:List Th,ts.length<=au ts
 | []=>XB _
 | t::ts=>by
   have:=t.size_pos;have:=cV ts;rw[W8,au];omega
theorem mD(ts:List Th):au ts.reverse=au ts:=by
 induction ts with
 |nil=>rfl
 |cons x xs ih=>rw[X9,bf,ih,au,au,au];omega
theorem aX(h:n<=1000000):n<Xh:=Nat.lt_of_le_of_lt h (by decide)
theorem be(h:n<=1000000):n<=Xh:=Za (aX h)
theorem lnE(h:Nat.ble n 1000000=true):n<=Xh:=be (Nat.le_of_ble_eq_true h)
theorem uAE{as:List WT}:(upd H a (.lst (as.map i!++[.ref b]))) a=some (.lst ((as++[b]).map i!)):=by rw[ad,W9];rfl
theorem lbE{f:α->β}{l:List α}(h:l.length<=1000000):(l.map f).length<Xh:=aX (by rw[WO];exact h)
theorem int_at{ns:List Int}{k:Int}(h0:0<=k)(h:k<(ns.length:Int)):atI (ns.map o!) k=some (.int (ns.getD k.toNat 0)):=by
 refine at_nonneg h0 ?_;have hk:k.toNat<ns.length:=by omega
 rw[Xj,WS hk,List.getD_eq_getElem?_getD,WS hk];rfl
section
variable{G:α->β->Prop}
theorem P2.append:∀{a c:List α}{b d:List β},Xz F a b->Xz F c d->Xz F (a++c) (b++d)
 |_,_,_,_,.nil,h=>h
 |_,_,_,_,.cons r t,h=>.cons r (P2.append t h)
theorem P2.get:∀{a:List α}{b:List β}{i:Nat}{x:α},Xz F a b->a[i]?=some x->∃y,b[i]?=some y/\F x y
 |_,_,_,_,.nil,e=>by simp at e
 |_,_,0,_,.cons r _,e=>by simp at e;subst e;exact⟨_,rfl,r⟩
 | _,_,i+1,x,.cons _ t,e=>by
   obtain⟨u,h1,h2⟩:=P2.get (i:=i) (x:=x) t (by simpa using e);exact⟨u,by simpa using h1,h2⟩
theorem P2.get':∀{a:List α}{b:List β}{i:Nat}{y:β},Xz F a b->b[i]?=some y->∃x,a[i]?=some x/\F x y
 |_,_,_,_,.nil,e=>by simp at e
 |_,_,0,_,.cons r _,e=>by simp at e;subst e;exact⟨_,rfl,r⟩
 | _,_,i+1,y,.cons _ t,e=>by
   obtain⟨u,h1,h2⟩:=P2.get' (i:=i) (y:=y) t (by simpa using e);exact⟨u,by simpa using h1,h2⟩
theorem P2.take:∀{a:List α}{b:List β}(n:Nat),Xz F a b->Xz F (a.take n) (b.take n)
 |_,_,0,_=>.nil
 |_,_,_+1,.nil=>.nil
 |_,_,n+1,.cons r t=>.cons r (P2.take n t)
theorem P2.drop:∀{a:List α}{b:List β}(n:Nat),Xz F a b->Xz F (a.drop n) (b.drop n)
 |_,_,0,r=>r
 |_,_,_+1,.nil=>.nil
 |_,_,n+1,.cons _ t=>P2.drop n t
theorem P2.mp(f:∀x y,F x y->G x y):∀{a:List α}{b:List β},Xz F a b->Xz G a b
 |_,_,.nil=>.nil
 |_,_,.cons r t=>.cons (f _ _ r) (P2.mp f t)
end
def KAt(H:Hp)(k:Xk×Int)(a:WT):Prop:=H a=some (.tup [.str k.1,.int k.2])
def KsAt(H:Hp)(ks:List (Xk×Int))(as:List WT):Prop:=Xz (KAt H) ks as
theorem KsAt.mono(k:KT H H'){ks:List (Xk×Int)}{as:List WT}(h:KsAt H ks as):KsAt H' ks as:=P2.mp (λx y e=>k _ _ e) h
end BB
open BB.P2 renaming append->q!,mp->v!,get->y!,get'->B!
namespace L2
open PySem
theorem bI{t u:TS}(R:St->Hp->Prop)(h1:∀k:St->Hp->Prop,(∀i' H',R i' H'->k i' H')->t {D with nx:=k} Y H)(h2:∀i' H',R i' H'->u D i' H'):tV t u D Y H:=h1 _ h2
theorem cz{c:TT}{t u:TS}(R:Bool->Hp->Prop)(h1:∀k:Bool->Hp->Prop,(∀b H',R b H'->k b H')->c Y H k)(h2:∀H',R true H'->t D Y H')(h3:∀H',R false H'->u D Y H'):zc c t u D Y H :=
 h1 _ λb H' r=>by
  cases b with
  |true=>rw[b! rfl];exact h2 H' r
  |false=>rw[a! Xn];exact h3 H' r
end L2
namespace BB
open PySem L2
mutual
def Th.Fit(ks:List (Xk×Int)):Th->Prop
 |.knot n ts=>(n,(ts.length:Int))∈ks/\Fits ks ts
 |.call _ _=>False
def Fits(ks:List (Xk×Int)):List Th->Prop
 | []=>True
 |t::ts=>t.Fit ks/\Fits ks ts
end
theorem Fits.of{ks:List (Xk×Int)}:∀{ts:List Th},(∀t∈ts,t.Fit ks)->Fits ks ts
 | [],_=>by rw[Fits];trivial
 | t::ts,h=>by
   rw[Fits];exact⟨h t (WY ..),Fits.of λu hu=>h u (WQ _ hu)⟩
section
variable{ext:Th->List V}{t:Th}{es:List WT}
end
theorem filter_tt(xs:List α):xs.filter (λ_=>true)=xs:=by
 induction xs with
 |nil=>rfl
 |cons x xs ih=>rw[List.filter_cons,b! rfl,ih]
theorem cj:∀{ts:List Th}{t:Th},t∈ts->t.tall<=aB ts
 | u::ts,t,h=>by
   rw[aB];rcases Xb.mp h with rfl|h
   .omega
   .have:=cj h;omega
theorem mY:∀{ts:List Th},ts≠[]->∃t∈ts,t.tall=aB ts
 | [],h=>g! rfl h
 | [u],_=>⟨u,WY ..,by rw[aB,aB];omega⟩
 | u::v::ts,_=>by
   obtain⟨t,h1,h2⟩:=mY (ts:=v::ts) (by simp);rw[aB];by_cases c:aB (v::ts)<=u.tall
   .exact⟨u,WY ..,by omega⟩
   .exact⟨t,WQ _ h1,by omega⟩
theorem ng:∀ts:List Th,(ts.map λt=>((t.size:Nat):Int)).sum=((au ts:Nat):Int)
 | []=>rfl
 | t::ts=>by
   rw[XH,List.sum_cons,ng ts,au];omega
theorem ints_map(ts:List Th)(f:Th->Int):(ts.map λt=>o! (f t))=(ts.map f).map o!:=by rw[YU];rfl
theorem jk(h:n<=xs.length):cR xs (some (n:Int)) none=xs.drop n:=by
 unfold cR;rw[x!,J!,Nat.min_eq_left h];exact Yr (by rw[XR];exact W2 _)
theorem take_snoc{xs:List α}{x:α}(h:xs[n]?=some x):xs.take (n+1)=xs.take n++[x]:=by rw[Yp,h];rfl
theorem aZ{xs:List WT}{x:V}(h:(xs.map i!)[i]?=some x):∃a,x=.ref a/\xs[i]?=some a:=by
 rw[Xj]at h;obtain⟨a,h1,h2⟩:=Yi.mp h;exact⟨a,h2.symm,h1⟩
end BB
open BB.Th renaming Fit->E!
namespace PySem
open Sem (wp)
theorem bb_tupNext{cur:WT}{x:WW}(g:s.1.IsTupleIter cur tp i)(gt:s.1.IsTuple tp items)(hx:items[i]?=some x)
 (fin:∀h',h'.IsTupleIter cur tp (i+1)->X5 cur s.1 h'->Q x {s with heap:=h'}):Xd (Xx prog w) A (X8 (.ref cur)) Q E s:=by
 obtain⟨ob,e1,e2,e3⟩:=id g;obtain⟨ot,e4,_,nt,e5⟩:=gt;unfold X8;refine WN (X0 (name:=WU "__next__") g.typeIs F.slot_tuple_iterator_next (X7 F.slot_tuple_iterator_next g.typeIs F.entry_tuple_iterator_next ?_ (F.args_tuple_iterator_next_1 _)));show Xd _ _ (field (.ref cur) 0 >>= _) _ _ s;refine WN (X3 e1 e3 (x:=.ref tp) rfl ?_);show Xd _ _ (if(XO tp == Yj)=true then _ else _) _ _ s;rw[a! (show¬((XO tp == Yj)=true)from Xn)];show Xd _ _ (field (.ref cur) 1 >>= _) _ _ s;refine WN (X3 e1 e3 (x:=.int i 0) rfl ?_);show Xd _ _ (seqItems? (.ref tp) >>= _) _ _ s;refine WN (YM e4 e5 ?_);simp only[YH,hx];refine WN (wpAny_setField e1 e3 (by simp) (W0 ⟨x,rfl,W0 (fin _ ?_ (YY ..))⟩));exact⟨_,YL _ e1 (Obj.isFreed_of_fields (Obj.data_mapFields e3 _)),(Obj.cls_mapFields ..).trans e2,by rw[Obj.data_mapFields e3];simp[Y6]⟩
theorem bb_tupEnd{cur:WT}(calm:A.handled=none)(g:s.1.IsTupleIter cur tp i)(gt:s.1.IsTuple tp items)(hx:items[i]?=none)
 (fin:∀h' e,Heap.ExtBut cur s.1 h'->(∃o,h'.get? e=some o/\o.cls=.type "StopIteration")->E (.ref e) {s with heap:=h'}):Xd (Xx prog w) A (X8 (.ref cur)) Q E s:=by
 obtain⟨ob,e1,e2,e3⟩:=id g;obtain⟨ot,e4,_,nt,e5⟩:=gt;unfold X8;refine WN (X0 (name:=WU "__next__") g.typeIs F.slot_tuple_iterator_next (X7 F.slot_tuple_iterator_next g.typeIs F.entry_tuple_iterator_next ?_ (F.args_tuple_iterator_next_1 _)));show Xd _ _ (field (.ref cur) 0 >>= _) _ _ s;refine WN (X3 e1 e3 (x:=.ref tp) rfl ?_);show Xd _ _ (if(XO tp == Yj)=true then _ else _) _ _ s;rw[a! (show¬((XO tp == Yj)=true)from Xn)];show Xd _ _ (field (.ref cur) 1 >>= _) _ _ s;refine WN (X3 e1 e3 (x:=.int i 0) rfl ?_);show Xd _ _ (seqItems? (.ref tp) >>= _) _ _ s;refine WN (YM e4 e5 ?_);simp only[YH,hx];refine WN (wpAny_rule (WN (wpAny_setField e1 e3 (by simp) ?_)));show Xd _ _ (newExc (.type "StopIteration") [] >>= _) _ _ _;refine WN ?_;simp only[newExc,newTuple];refine WN (XW ?_ (by size_fits));refine WN (m:=firstArgMember _ _) (wpAny_of_eq (a:=Yj) (by first|rfl|(simp only[firstArgMember];rfl)) ?_);refine XW ?_ (by size_fits);simp only[raiseNew];refine WN (wpAny_handled ?_)
 first|rw[show A.in1.handled=none from calm]|rw[calm]
 refine WN (W0 (wpAny_throw ?_));exact fin _ _ (((YY ..).extBut.push _).push _) ⟨_,W4 _ rfl,rfl⟩
theorem bb_drawsT(calm:A.handled=none)(cur tp:WT)(ne:tp≠cur)(items:Array WW) :
 Draws prog w A cur [cur,tp] items.size (λi v=>items[i]?=some v) (λi h=>h.IsTupleIter cur tp i/\h.IsTuple tp items) where
 live:=λ_ _ st=>let⟨o,e,_⟩:=st.1;⟨o,e⟩
 frame:=λ_ _ _ st k=>⟨let⟨o,e,r⟩:=st.1;⟨o,k cur (by simp) o e,r⟩,let⟨o,e,r⟩:=st.2;⟨o,k tp (by simp) o e,r⟩⟩
 item:=λi s Q E hi st q=>by
  refine bb_tupNext st.1 st.2 (x:=items[i]) (by simp[hi]) λh' g' sb=>?_;exact q _ h' s.toks (by simp[hi]) ⟨g',st.2.extBut sb.extBut ne⟩ sb
 done:=λs Q E st e=>bb_tupEnd calm st.1 st.2 (by simp) e
theorem bb_meetsEnumT(tp:WT)(items:Array WW)(n:Nat)(dct:Option WT)(sl:Array (Option WW)) :
 Meets (Zp.«enumerate.__new__» ⟨[.type "enumerate",.ref tp],[]⟩) (λ_ R s=>s.1.get? tp=some {cls:=.type "tuple",dict:=dct,data:=.seq items n,slots:=sl} /\
  R (.ok (.ret (.ref (s.1.push {cls:=.type "tuple_iterator",data:=.fields #[.ref tp,.int 0 0]}).objs.size)))
    {s with heap:=(s.1.push {cls:=.type "tuple_iterator",data:=.fields #[.ref tp,.int 0 0]}).push {cls:=.type "enumerate",data:=.fields #[.none,.bool false,.ref s.1.1.size,Y6 0,.none,.none]}}) :=
 .of_wp λprog w A R s h=>by
  obtain⟨hp,g,d,tk,os⟩:=s;obtain⟨gt,fin⟩:=h;have su:=sub_enumerate;have gT:Heap.IsTuple (Shared.heap ⟨hp,g,d,tk,os⟩) tp items:=⟨_,gt,rfl,n,rfl⟩
  wp_walk using Y9 gt
  refine wpAny_stack_any λst=>W0 ?_;split
  .rename_i c _ _ _ _ _
   cases(c == Value.type "enumerate")
   .wp_walk using Y9 gt,Z4 gT
    exact⟨_,rfl,fin⟩
   .wp_walk using Y9 gt,Z4 gT
    exact⟨_,rfl,fin⟩
  .wp_walk using Y9 gt,Z4 gT
   exact⟨_,rfl,fin⟩
theorem bb_callEnumT(gT:s.1.IsTuple tp items)
 (fin:∀h',IsEnum h' (s.1.1.size+1) s.1.1.size 0 .none->h'.IsTupleIter s.1.1.size tp 0->h'.objs.size=s.1.1.size+2 ->
  (∀b o,s.1.get? b=some o->h'.get? b=some o)->Q (.ref (s.1.1.size+1)) {s with heap:=h'}):Xd (Xx prog w) A (call (.type "enumerate") [.ref tp]) Q E s:=by
 obtain⟨⟨c,dct,dt,sl⟩,e1,e2,n,e3⟩:=gT;replace e2:c=.type "tuple":=e2;replace e3:dt=.seq items n:=e3;subst e2 e3;refine callType_new F.called_enumerate (by decide) (F.typeCall_enumerate_1 _) (F.newCall_enumerate_1 _) (λobj=>F.args_object_init_2 obj _) F.entry_enumerate_new (bb_meetsEnumT tp items n dct sl) ⟨e1,?_⟩;have z:(s.1.push {cls:=.type "tuple_iterator",data:=.fields #[.ref tp,.int 0 0]}).objs.size=s.1.1.size+1:=Yk ..;show _/\_;rw[z]
 have ge:IsEnum ((s.1.push {cls:=.type "tuple_iterator",data:=.fields #[.ref tp,.int 0 0]}).push {cls:=.type "enumerate",data:=.fields #[.none,.bool false,.ref s.1.1.size,Y6 0,.none,.none]}) (s.1.1.size+1) s.1.1.size 0 .none:=by
  have t:=W4 (s.1.push {cls:=.type "tuple_iterator",data:=.fields #[.ref tp,.int 0 0]}) (o:={cls:=.type "enumerate",data:=.fields #[.none,.bool false,.ref s.1.1.size,Y6 0,.none,.none]}) rfl;rw[z]at t;exact t
 exact⟨⟨_,ge,rfl⟩,fin _ ge ⟨_,WV _ (W4 _ rfl),rfl,rfl⟩ (by rw[Yk,z]) λb o x=>WV _ (WV _ x)⟩
end PySem
namespace L2
open PySem PySem.Spec PyProof.Rows
theorem Inv.turnedL(I:Inv X Z Y H s)(k:∀b o,b∉fp->s.1.get? b=some o->h'.get? b=some o)(hf:∀b∈fp,jy X Z H b) :
 Inv X Z Y H {s with heap:=h',toks:=t'}:=by
 have JL:∀b u,H b=some u->b∉fp:=λb u e z=>by rw[(hf b z).1]at e;cases e
 refine I.step (g':=s.gens) (d':=s.drawn) (ch:=fp) (λb hb=>?_) (λb o _ _ hc e _=>k b o hc e) (λb o _ _ hc e _=>⟨o.slots,k b o hc e⟩) (λ_ _ _ _ n=>n)
  (λb o hc e=>⟨o,k b o hc e⟩) (λ_ _ e=>e) (λ_ _ _ e=>e) (λb ps e=>⟨#[],by rw[e];simp⟩) (λm hm=>?_) (λb u e=>?_) I.bare
 .obtain⟨f0,f1,f2,f3,f4,f5⟩:=hf b hb;exact⟨f3,f1,f4,f5⟩
 .obtain⟨o,es,ep,ho,r⟩:=hm;exact⟨o,es,ep,k _ o (λz=>(hf _ z).2.1 rfl) ho,r⟩
 .refine(I.hok b u e).stay (λc v hc q=>k c v ?_ q) (λ_ q=>q) λ_ _ q=>q;rcases hc with z|z
  .rw[z];exact JL b u e
  .exact JL c _ z
def Ite(K:WX)(a:WT):It:=⟨λi H=>∃xs x,SqT K H a xs/\xs[i]?=some x,λi H x H'=>∃p y,H p=none/\x=.ref p/\H'=upd H p (.tup [.int (i:Nat),y])/\∀xs,SqT K H a xs->xs[i]?=some y,λi H=>∃xs,SqT K H a xs/\xs.length=i⟩
theorem sy{k1}(a e it:WT):Turn P w K (.Tuple elts k1 pos) (Ite K a) [e,it] e (λi h=>(∃old,IsEnum h e it ((i:Nat):Int) old)/\h.IsTupleIter it a i) where
 mem:=by simp
 obj:=λi h st b hb=>by
  obtain⟨⟨old,he⟩,o,e1,e2,e3⟩:=st;rcases Xb.mp hb with rfl|hb
  .exact⟨_,he,λv z=>by cases z⟩
  .have:b=it:=by simpa using hb
   subst this;exact⟨o,e1,λv z=>by rw[e3]at z;cases z⟩
 keep:=λi h h' st k=>by
  obtain⟨⟨old,he⟩,o,e1,e2⟩:=st;exact⟨⟨old,k e (by simp) _ he⟩,o,k it (by simp) _ e1,e2⟩
 item:=by
  intro X hP hw hK hc i Z s Y H E I hf st hg;subst hP hw hK;obtain⟨xs,x,hq,hx⟩:=hg;obtain⟨its,rv,p,hz⟩:=I.tuple hq;obtain⟨u,hu,ru⟩:=rv.get hx;obtain⟨⟨old,he⟩,hi⟩:=st
  have NU:e≠it:=by
   rintro rfl;obtain⟨o,e1,e2,_⟩:=hi;rw[he]at e1;cases e1;exact g! (Value.type.inj e2) (by decide)
  have NV:a≠it:=by
   rintro rfl;obtain⟨o,e1,e2,_⟩:=hi;obtain⟨o',IT,EA,_⟩:=p;rw[IT]at e1;cases e1;rw[EA]at e2;exact g! (Value.type.inj e2) (by decide)
  have Vz:a≠e:=by
   rintro rfl;obtain⟨o',IT,EA,_⟩:=p;rw[he]at IT;cases IT;exact g! (Value.type.inj EA) (by decide)
  have Ae:i<its.toArray.size:=by
   have:=(glE hu);simpa using this
  have Fs:e<s.1.1.size:=Xc he;have BJ:it<s.1.1.size:=by obtain⟨o,e1,_⟩:=hi;exact Xc e1
  refine wpAny_pyNext_enum_itemD (bb_drawsT (A:=X.A.in1) (show X.A.in1.handled=none from I.ok.hd hc) it a NV its.toArray) he ⟨hi,p⟩ Ae NU (by simp[NU,Vz.symm]) λy h1 tk hy ho MB hT hsz hk=>?_
  have VA:y=u:=by
   have:its[i]?=some y:=by simpa using hy
   rw[hu]at this;exact(Xf this).symm
  subst VA;refine⟨_,rfl,wpAny_letOwnedTupleGo_enum ho λh2 NW Gx=>?_⟩;replace Gx:X5 e h1 h2:=Gx
  have Ay:∀b∈[e,it],b<s.1.1.size:=λb hb=>by
   rcases Xb.mp hb with rfl|hb
   .exact Fs
   .have:b=it:=by simpa using hb
    subst this;exact BJ
  have FK:H s.1.1.size=none:=I.hok.fresh (W2 _)
  have IA:Inv X Z Y (upd H s.1.1.size (.tup [.int (i:Nat),x])) {s with heap:=s.1.push {cls:=.type "tuple",data:=.seq #[.int (i:Nat) tk,y]},toks:=tk} :=
   I.laid (o:=.tup [.int (i:Nat),x]) (λb ob q=>WV _ q) (W2 _) ⟨by show 2<=Xh;decide,[.int (i:Nat) tk,y],0,.cons ⟨tk,rfl⟩ (.cons ru .nil),W4 _ rfl⟩
  refine⟨.ref s.1.1.size,upd H s.1.1.size (.tup [.int (i:Nat),x]),?_,rfl,⟨_,x,FK,rfl,rfl,λys NS=>by rw[I.tuple_inj NS hq];exact hx⟩,⟨⟨y,by simpa using NW⟩,?_⟩,λb hb=>?_⟩
  .have IB:Inv X Z Y (upd H s.1.1.size (.tup [.int (i:Nat),x])) {s with heap:=h2,toks:=tk+1}:=by
    refine Inv.turnedL (s:={s with heap:=s.1.push {cls:=.type "tuple",data:=.seq #[.int (i:Nat) tk,y]},toks:=tk}) (h':=h2) (fp:=[e,it]) (t':=tk+1) IA (λb o hb q=>?_) λb hb=>?_
    .have Fn:b≠e:=λz=>hb (by simp[z]);have VB:b≠it:=λz=>hb (by simp[z]);rw[Gx.2 b Fn];by_cases Bg:b=s.1.1.size
     .subst Bg;rw[hT];have q':(s.1.push {cls:=.type "tuple",data:=.seq #[.int (i:Nat) tk,y]}).get? s.1.1.size=some o:=q;rw[W4 _ rfl]at q';exact q'
     .have BM:b<(s.1.push {cls:=.type "tuple",data:=.seq #[.int (i:Nat) tk,y]}).objs.size:=Xc q;rw[Yk]at BM;refine hk b o Fn VB ?_;have q':(s.1.push {cls:=.type "tuple",data:=.seq #[.int (i:Nat) tk,y]}).get? b=some o:=q;rw[Heap.get?_push_ne _ _ _ Bg]at q';exact q'
    .obtain⟨f0,f1⟩:=hf b hb;exact⟨by rw[af (XG (Ay b hb))];exact f0,f1⟩
   exact IB
  .obtain⟨o,e1,r⟩:=MB.1;exact⟨o,(Gx.2 it (Zm NU)).trans e1,r⟩
  .rw[af (XG (Ay b hb))];exact(hf b hb).1
 done:=by
  intro X hP hw hK hc i Z s Y H E I hf st hg;subst hP hw hK;obtain⟨xs,hq,hx⟩:=hg;obtain⟨its,rv,p,hz⟩:=I.tuple hq;obtain⟨⟨old,he⟩,hi⟩:=st
  have NV:a≠it:=by
   rintro rfl;obtain⟨o,e1,e2,_⟩:=hi;obtain⟨o',IT,EA,_⟩:=p;rw[IT]at e1;cases e1;rw[EA]at e2;exact g! (Value.type.inj e2) (by decide)
  have hn:its.toArray.size=i:=by
   have:=rv.length;rw[Xa];omega
  refine wpAny_pyNext_enum_endD (bb_drawsT (A:=X.A.in1) (show X.A.in1.handled=none from I.ok.hd hc) it a NV its.toArray) he (by rw[hn];exact⟨hi,p⟩) λh' eb=>⟨rfl,?_⟩;exact I.turnedL (fp:=[e,it]) (t':=s.toks) (λb o hb q=>eb b o (λz=>hb (by simp[z])) q) hf
 self:=λ_ _ _ _ _ st h=>by
  obtain⟨⟨old,he⟩,_⟩:=st;exact wpAny_pyIter_enum he h
section
variable{p2 Bu:Pos}
def yE(K:WX)(tl:TE):TI:=λY H R=>tl Y H λx H1=>∃a,x=.ref a/\(∃xs,SqT K H1 a xs)/\R (Ite K a) H1
theorem qX{k1}(g2:Gl X "enumerate")(m2:X.mg "enumerate"=none)(he:PE X e te)(h2:XJ [e] X.env=[(false,YW e X.env)]:=by rfl):PI X (.Tuple elts k1 pos) (.Call (.Name "enumerate" p2) [e] [] Bu) (yE X.K te):=by
 intro Z s Y H R I h;refine Yu (fR I g2 m2 boot_enumerate (YQ ?_ h2 rfl));rw[h2];show Xd _ _ (spliced ((false,YW e X.env)::[])) _ _ s;refine Z8 (thn (he Z s Y H _ I h) λu s1⟨x,H1,I1,r1,a,ex,⟨xs,hq⟩,q⟩=>Calls.spliced_nil ?_);subst ex;cases r1;obtain⟨its,rv,p,hz⟩:=I1.tuple hq;refine bb_callEnumT (show s1.1.IsTuple a its.toArray from p) λh' g1 g2 g3 g4=>?_;refine wpAny_pyIter_enum (s:={s1 with heap:=h'}) g1 ?_;refine⟨s1.1.1.size+1,[s1.1.1.size+1,s1.1.1.size],_,_,H1,rfl,I1.kept (t':=s1.toks) g4,sy a _ _,⟨⟨_,g1⟩,g2⟩,λb hb=>?_,q⟩
 have Bo:s1.1.1.size<=b:=by
  rcases Xb.mp hb with rfl|hb
  .omega
  .have:b=s1.1.1.size:=by simpa using hb
   exact Nat.le_of_eq this.symm
 exact I1.fpOk Bo (I1.hok.fresh Bo)
inductive uX(K:WX)(x:V)(y:V)(H:Hp)(Q:VK):Prop
 |mk (a:_) (b:_) (xs:_) (ys:_) (Aq:x=.ref a) (Ar:y=.ref b) (Ax:SqT K H a xs) (AN:SqT K H b ys) (Bd:xs.length+ys.length<=Xh) (Co:(xs=[]->Q (.ref b) H)) (C4:(xs≠[]->ys=[]->Q (.ref a) H)) (DT:(xs≠[]->ys≠[]->∀p,H p=none->Q (.ref p) (upd H p (.tup (xs++ys))))):uX K x y H Q
def uV(K:WX):R2:=uX K
theorem dJ:OpR X (binaryOp .Add) (uV X.K):=by
 intro Z s Y H x y v u Q I rx ry h;obtain⟨a,b,xs,ys,e1,e2,ha,hb,hz,q0,q1,q2⟩:=h;by_cases hx:xs=[]
 .subst e1 e2;cases rx;cases ry;obtain⟨its,r1,p1,_⟩:=I.tuple ha;obtain⟨Al,r2,p2,_⟩:=I.tuple hb;have hi:its=[]:=r1.nil_iff.mpr hx;obtain⟨⟨cls,dd,data,sl⟩,ho,hc,n,hd⟩:=p1;obtain⟨⟨JP,IM,data2,IP⟩,G8,DB,n2,hd2⟩:=p2;simp only at hc hd DB hd2;subst hc hd DB hd2;exact concat_meets ⟨_,ho,rfl⟩ ⟨_,G8,rfl⟩ noFill_tuple_add seq_tuple_add PySem.F.slot_tuple_add PySem.F.entry_tuple_add (PySem.F.args_tuple_add_2 _ _) (tuple_addW0 a b its.toArray Al.toArray n n2 dd IM sl IP (by simp[hi])) ⟨ho,G8,⟨.ref b,H,I,rfl,q0 hx⟩⟩
 .exact wv Z s Y H x y v u Q I rx ry ⟨a,b,xs,ys,e1,e2,ha,hb,hx,hz,q1 hx,q2 hx⟩
end
end L2
namespace PySem
open Sem (wp)
abbrev tzH1(h:X4)(l1:WT):X4:=h.push {cls:=.type "tuple_iterator",data:=.fields #[.ref l1,.int 0 0]}
abbrev tzH2(h:X4)(l1 l2:WT):X4:=(tzH1 h l1).push {cls:=.type "tuple_iterator",data:=.fields #[.ref l2,.int 0 0]}
abbrev tzH3(h:X4)(l1 l2:WT):X4:=(tzH2 h l1 l2).push {cls:=.type "tuple",data:=.seq #[.ref h.objs.size,.ref (tzH1 h l1).objs.size]}
abbrev tzH4(h:X4)(l1 l2:WT):X4:=(tzH3 h l1 l2).push {cls:=.type "tuple",data:=.seq #[.none,.none]}
abbrev tzH5(h:X4)(l1 l2:WT):X4:=(tzH4 h l1 l2).push {cls:=.type "zip",data:=.fields #[.none,.bool false,.bool false,.ref (tzH2 h l1 l2).objs.size,.ref (tzH3 h l1 l2).objs.size]}
theorem IsTuple.push'{xs:Array WW}(x:h.IsTuple l xs)(o:YF):(h.push o).IsTuple l xs:=let⟨ob,e,r⟩:=x;⟨ob,WV _ e,r⟩
theorem bb_meets_zip(l1 l2:WT)(xs ys:Array WW) :
 Meets (Zp.«zip.__new__» ⟨[.type "zip",.ref l1,.ref l2],[]⟩) (λ_ R s=>s.1.IsTuple l1 xs/\s.1.IsTuple l2 ys /\
  R (.ok (.ret (.ref (tzH4 s.1 l1 l2).objs.size))) {s with heap:=tzH5 s.1 l1 l2}) :=
 .of_wp λprog w A R s h=>by
  obtain⟨hp,g,d,tk,os⟩:=s;obtain⟨CC,BI,h⟩:=h;have Bv:=sub_zip;have Hc:Heap.IsTuple (Shared.heap ⟨hp,g,d,tk,os⟩) l1 xs:=CC;have NX:Heap.IsTuple (Shared.heap ⟨hp.push {cls:=.type "tuple_iterator",data:=.fields #[.ref l1,.int 0 0]},g,d,tk,os⟩) l2 ys:=IsTuple.push' BI _
  wp_walk using Z4 Hc,Z4 NX
  exact⟨_,rfl,h⟩
theorem bb_call_zip{xs:Array WW}(CC:s.1.IsTuple l1 xs)(BI:s.1.IsTuple l2 ys)
 (h:∀h',IsZip h' (s.1.1.size+4) (s.1.1.size+2) (s.1.1.size+3) .none->ZE h' (s.1.1.size+2) (.ref s.1.1.size) (.ref (s.1.1.size+1)) ->
  ZE h' (s.1.1.size+3) .none .none->h'.IsTupleIter s.1.1.size l1 0->h'.IsTupleIter (s.1.1.size+1) l2 0->h'.objs.size=s.1.1.size+5 ->
  (∀c o,s.1.get? c=some o->h'.get? c=some o)->Q (.ref (s.1.1.size+4)) {s with heap:=h'}) :
 Xd (Xx prog w) A (call (.type "zip") [.ref l1,.ref l2]) Q E s:=by
 refine callType_new F.called_zip (by decide) (F.typeCall_zip_2 _ _) (F.newCall_zip_2 _ _) (λobj=>F.args_object_init_3 obj _ _) F.entry_zip_new
  (bb_meets_zip l1 l2 xs ys) ⟨CC,BI,?_⟩
 have z1:(tzH1 s.1 l1).objs.size=s.1.1.size+1:=Yk ..;have z2:(tzH2 s.1 l1 l2).objs.size=s.1.1.size+2:=by rw[Yk,z1]
 have z3:(tzH3 s.1 l1 l2).objs.size=s.1.1.size+3:=by rw[Yk,z2]
 have z4:(tzH4 s.1 l1 l2).objs.size=s.1.1.size+4:=by rw[Yk,z3]
 have z5:(tzH5 s.1 l1 l2).objs.size=s.1.1.size+5:=by rw[Yk,z4]
 have g5:(tzH5 s.1 l1 l2).get? (tzH4 s.1 l1 l2).objs.size=some _:=W4 _ rfl;have g4:(tzH5 s.1 l1 l2).get? (tzH3 s.1 l1 l2).objs.size=some _:=WV _ (W4 _ rfl);have g3:(tzH5 s.1 l1 l2).get? (tzH2 s.1 l1 l2).objs.size=some _:=WV _ (WV _ (W4 _ rfl));have g2:(tzH5 s.1 l1 l2).get? (tzH1 s.1 l1).objs.size=some _:=WV _ (WV _ (WV _ (W4 _ rfl)));have g1:(tzH5 s.1 l1 l2).get? s.1.1.size=some _:=WV _ (WV _ (WV _ (WV _ (W4 _ rfl))));show _/\_;rw[z2,z3,z4]at g5;rw[z1,z2]at g3;rw[z3]at g4;rw[z1]at g2;rw[z4]
 exact⟨⟨_,g5,rfl⟩,h _ g5 g3 g4 ⟨_,g1,rfl,rfl⟩ ⟨_,g2,rfl,rfl⟩ z5 λc o x =>
  WV _ (WV _ (WV _ (WV _ (WV _ x))))⟩
structure ZSt(xs ys:Array WW)(z TI TO i1 i2 l1 l2:WT)(k:Nat)(h:X4):Prop where
 ap:ZipApart z TI TO i1 i2 l1 l2
 zip:IsZip h z TI TO .none\/∃(T:WT)(b:Bool)(x y:WW),h.get? z=some {cls:=.type "zip",data:=.fields #[Y6 T,.bool b,.bool false,.ref TI,.ref TO]}/\ZE h T x y/\T≠TO
 hTI:ZE h TI (.ref i1) (.ref i2)
 hTO:∃a b,ZE h TO a b
 h1:h.IsTupleIter i1 l1 k
 h2:h.IsTupleIter i2 l2 k
 t1:h.IsTuple l1 xs
 t2:h.IsTuple l2 ys
theorem ZSt.typeIs{xs:Array WW}{TI TO:WT}{k:Nat}(x:ZSt xs ys z TI TO i1 i2 l1 l2 k s.1):s.TypeIs (.ref z) "zip":=by
 rcases x.zip with e|⟨T,b,u,v,e,_⟩
 .exact⟨_,e,rfl⟩
 .exact⟨_,e,rfl⟩
theorem IsTuple.but{xs:Array WW}(x:h.IsTuple l xs)(e:Heap.ExtBut c h h')(n:l≠c):h'.IsTuple l xs:=let⟨ob,q,r⟩:=x;⟨ob,e _ _ n q,r⟩
theorem IsTupleIter.but{i:WT}{k:Nat}(x:h.IsTupleIter i l k)(e:Heap.ExtBut c h h')(n:i≠c):h'.IsTupleIter i l k:=let⟨ob,q,r⟩:=x;⟨ob,e _ _ n q,r⟩
open Sem (wp)
theorem bb_zip_itemA{TI TO:WT}{k:Nat}{xs:Array WW}{x y a b:WW}(D:ZipApart z TI TO i1 i2 l1 l2)
 (hz:IsZip s.1 z TI TO .none) (hTI:ZE s.1 TI (.ref i1) (.ref i2)) (hTO:ZE s.1 TO a b)
 (h1:s.1.IsTupleIter i1 l1 k) (h2:s.1.IsTupleIter i2 l2 k) (CC:s.1.IsTuple l1 xs) (BI:s.1.IsTuple l2 ys) (hx:xs[k]?=some x) (hy:ys[k]?=some y)
 (hQ:∀h',IsZip h' z TI TO (Y6 s.1.1.size)->ZE h' TO x y->h'.IsTupleIter i1 l1 (k+1)->h'.IsTupleIter i2 l2 (k+1)->ZE h' s.1.1.size x y->h'.objs.size=s.1.1.size+1 ->
  (∀c o,c≠z->c≠TO->c≠i1->c≠i2->s.1.get? c=some o->h'.get? c=some o)->Q (.ref s.1.1.size) {s with heap:=h'}) :
 Xd (Xx prog w) A (Zp.«zip.__next__» ⟨[.ref z],[]⟩) (λfin s'=>∃v,fin=.done (.ret v)/\Q v s') E s:=by
 show Xd _ _ (field (.ref z) 2 >>= _) _ _ _;refine WN (X3 hz rfl (x:=.bool false) rfl ?_);show Xd _ _ (field (.ref z) 3 >>= _) _ _ _;refine WN (X3 hz rfl (x:=.ref TI) rfl ?_);refine WN (YM hTI rfl ?_);show Xd _ _ (Yb (.ref z) >>= _) _ _ _;refine WN ?_;unfold Yb;refine WN (X3 hz rfl (x:=.none) rfl (W0 ?_));simp only[if_true];refine WN (wpAny_rule ?_);refine WN (X3 hz rfl (x:=.ref TO) rfl ?_);refine WN (Y5 hz (by simp) λAu A9 Ah=>?_);replace A9:IsZip Au z TI TO .ellipsis:=A9;refine WN ?_;simp only[List.zipIdx_cons,List.zipIdx_nil,List.forIn_cons,List.forIn_nil];refine WN (WN (wpAny_onRaise ?_));show Xd _ _ (X8 (.ref i1) >>= _) _ _ _;refine WN (bb_tupNext (IsTupleIter.but h1 Ah.extBut D.i1z) (IsTuple.but CC Ah.extBut D.l1z) hx λBt EE An=>W0 ?_);have B0:ZE Bt TO a b:=An.extBut _ _ D.TOi1 (Ah.extBut _ _ D.TOz hTO);refine WN (YM B0 rfl ?_);refine WN (wpAny_updateSeq_pair B0 λCK Cr AJ=>?_);replace Cr:ZE CK TO x b:=Cr;refine WN (wpAny_letGo (W0 ?_));refine WN (WN (wpAny_onRaise ?_));show Xd _ _ (X8 (.ref i2) >>= _) _ _ _
 refine WN (bb_tupNext (IsTupleIter.but (IsTupleIter.but (IsTupleIter.but h2 Ah.extBut D.i2z) An.extBut D.i12.symm) AJ.extBut D.TOi2.symm)
  (IsTuple.but (IsTuple.but (IsTuple.but BI Ah.extBut D.l2z) An.extBut D.l2i1) AJ.extBut D.l2TO) hy λBY JX Bh=>W0 ?_)
 have EF:ZE BY TO x b:=Bh.extBut _ _ D.TOi2 Cr;refine WN (YM EF rfl ?_);refine WN (wpAny_updateSeq_pair EF λAW Cs BK=>?_);replace Cs:ZE AW TO x y:=Cs;refine WN (wpAny_letGo (W0 (W0 ?_)));refine WN (YM Cs rfl ?_);refine WN (wpAny_newTuple ?_);have hsz:AW.objs.size=s.1.1.size:=by rw[BK.1,Bh.1,AJ.1,An.1,Ah.1]
 have Gy:IsZip AW z TI TO .ellipsis:=BK.extBut _ _ D.TOz.symm (Bh.extBut _ _ D.i2z.symm (AJ.extBut _ _ D.TOz.symm (An.extBut _ _ D.i1z.symm A9)))
 have JY:∀c o,c≠z->c≠TO->c≠i1->c≠i2->s.1.get? c=some o->AW.get? c=some o:=λc o c1 c2 c3 c4 e =>
  BK.extBut _ _ c2 (Bh.extBut _ _ c4 (AJ.extBut _ _ c2 (An.extBut _ _ c3 (Ah.extBut _ _ c1 e))))
 have JZ:AW.IsTupleIter i1 l1 (k+1):=IsTupleIter.but (IsTupleIter.but (IsTupleIter.but EE AJ.extBut D.TOi1.symm) Bh.extBut D.i12) BK.extBut D.TOi1.symm;have J0:AW.IsTupleIter i2 l2 (k+1):=IsTupleIter.but JX BK.extBut D.TOi2.symm;have J1:z<AW.objs.size:=Xc Gy;show Xd _ _ (Builtin.SmallTypes.ownedTupleHandOut (.ref z) (.ref AW.objs.size) >>= _) _ _ _;refine WN ?_;unfold Builtin.SmallTypes.ownedTupleHandOut;have J2:IsZip (AW.push {cls:=.type "tuple",data:=.seq #[x,y]}) z TI TO .ellipsis:=WV _ Gy;refine WN (Y5 J2 (by simp) λNY EG EI=>?_);replace EG:IsZip NY z TI TO (Y6 AW.objs.size):=EG;refine Y5 EG (by simp) λEJ DE EK=>?_;replace DE:IsZip EJ z TI TO (Y6 AW.objs.size):=DE;have up:∀c o,c≠z->AW.get? c=some o->EJ.get? c=some o:=λc o c1 e=>EK.extBut _ _ c1 (EI.extBut _ _ c1 (WV _ e));have Gz:ZE EJ AW.objs.size x y:=EK.extBut _ _ (Nat.ne_of_gt J1) (EI.extBut _ _ (Nat.ne_of_gt J1) (W4 _ rfl));have SH:EJ.objs.size=AW.objs.size+1:=by rw[EK.1,EI.1,Yk]
 rw[hsz]at DE Gz SH;refine W0 ⟨_,rfl,?_⟩;show Q (.ref AW.objs.size) _;rw[hsz];refine hQ EJ DE (up _ _ D.TOz Cs) ?_ ?_ Gz SH λc o c1 c2 c3 c4 e=>up c o c1 (JY c o c1 c2 c3 c4 e)
 .obtain⟨o,e,r⟩:=JZ;exact⟨o,up _ o D.i1z e,r⟩
 .obtain⟨o,e,r⟩:=J0;exact⟨o,up _ o D.i2z e,r⟩
theorem bb_loadIfAlive{o:YF}{Q:Option YF->W3->Prop}(hQ:∀u,some o=some u->Q (some u) s)(h:s.1.get? a=some o):Xd (Xx prog w) A (loadIfAlive a) Q E s:=by
 intro Γ p hΓ;show Sem.wp _ _ (.loadIfAlive a .pure) _ _ _ _;rw[Sem.wp_loadIfAlive,h];exact hQ o rfl
theorem bb_notfree{T:WT}{b:Bool}{f2 TI TO v:WW}(hz:s.1.get? z=some {cls:=.type "zip",data:=.fields #[Y6 T,.bool b,f2,TI,TO]})(hT:ZE s.1 T u v) :
 Xd (Xx prog w) A (Yb (.ref z)) (λa s1=>a=false/\∃Au,s1={s with heap:=Au}/\Au.get? z=some {cls:=.type "zip",data:=.fields #[Y6 T,.bool true,f2,TI,TO]}/\X5 z s.1 Au) E s:=by
 unfold Yb;refine WN (X3 hz rfl (x:=Y6 T) rfl ?_);show Xd _ _ (loadIfAlive (T:Int).toNat >>= _) _ _ _;rw[YH];refine WN (bb_loadIfAlive (λo(e:some _=some o)=>?_) hT);cases e;show Xd _ _ (if(some _:Option YF).isNone=true then _ else _) _ _ _;rw[a! (show¬((some _:Option YF).isNone=true)from Xn)];refine WN (X3 hz rfl (x:=.bool b) rfl ?_);cases b with
 |true=>exact W0 ⟨rfl,s.1,rfl,hz,rfl,λ_ _=>rfl⟩
 |false=>exact WN (Y5 hz (by simp) λAu A9 Ah=>W0 ⟨rfl,Au,rfl,A9,Ah⟩)
theorem bb_zip_end{TI TO:WT}{k:Nat}{xs:Array WW}{Q:Fin->W3->Prop}(hh:A.handled=none)
 (S:ZSt xs ys z TI TO i1 i2 l1 l2 k s.1) (CL:xs[k]?=none\/ys[k]?=none)
 (hE:∀h' e,(∀c o,c≠z->c≠TO->c≠i1->c≠i2->s.1.get? c=some o->h'.get? c=some o)->(∃o,h'.get? e=some o/\o.cls=.type "StopIteration")->E (.ref e) {s with heap:=h'}) :
 Xd (Xx prog w) A (Zp.«zip.__next__» ⟨[.ref z],[]⟩) Q E s:=by
 obtain⟨D,hz,hTI,⟨a,b,hTO⟩,h1,h2,CC,BI⟩:=S;rcases hz with hz|⟨T,bb,u,v,hz,hT,hTT⟩
 .show Xd _ _ (field (.ref z) 2 >>= _) _ _ _;refine WN (X3 hz rfl (x:=.bool false) rfl ?_);show Xd _ _ (field (.ref z) 3 >>= _) _ _ _;refine WN (X3 hz rfl (x:=.ref TI) rfl ?_);refine WN (YM hTI rfl ?_);show Xd _ _ (Yb (.ref z) >>= _) _ _ _;refine WN ?_;unfold Yb;refine WN (X3 hz rfl (x:=.none) rfl (W0 ?_));simp only[if_true];refine WN (wpAny_rule ?_);refine WN (X3 hz rfl (x:=.ref TO) rfl ?_);refine WN (Y5 hz (by simp) λAu A9 Ah=>?_);replace A9:IsZip Au z TI TO .ellipsis:=A9;refine WN ?_;simp only[List.zipIdx_cons,List.zipIdx_nil,List.forIn_cons,List.forIn_nil];refine WN (WN (wpAny_onRaise ?_));show Xd _ _ (X8 (.ref i1) >>= _) _ _ _;cases hx:xs[k]? with
  | none =>
    refine WN (bb_tupEnd hh (IsTupleIter.but h1 Ah.extBut D.i1z) (IsTuple.but CC Ah.extBut D.l1z) hx λBt e An he=>?_);obtain⟨oe,Ft,FL⟩:=he;have GA:IsZip Bt z TI TO .ellipsis:=An _ _ D.i1z.symm A9;have NZ:e≠z:=λx=>by subst x;rw[GA]at Ft;cases Ft;simp at FL
    refine Y5 GA (by simp) λCK _ AJ=>hE CK e (λc o c1 _ c3 _ x=>AJ.extBut _ _ c1 (An _ _ c3 (Ah.extBut _ _ c1 x))) ⟨oe,AJ.extBut _ _ NZ Ft,FL⟩
  | some x =>
    have hy:ys[k]?=none:=by rcases CL with h|h;rw[hx]at h;cases h;exact h
    refine WN (bb_tupNext (IsTupleIter.but h1 Ah.extBut D.i1z) (IsTuple.but CC Ah.extBut D.l1z) hx λBt EE An=>W0 ?_);have B0:ZE Bt TO a b:=An.extBut _ _ D.TOi1 (Ah.extBut _ _ D.TOz hTO);refine WN (YM B0 rfl ?_);refine WN (wpAny_updateSeq_pair B0 λCK Cr AJ=>?_);refine WN (wpAny_letGo (W0 ?_));refine WN (WN (wpAny_onRaise ?_));show Xd _ _ (X8 (.ref i2) >>= _) _ _ _
    refine WN (bb_tupEnd hh (IsTupleIter.but (IsTupleIter.but (IsTupleIter.but h2 Ah.extBut D.i2z) An.extBut D.i12.symm) AJ.extBut D.TOi2.symm)
     (IsTuple.but (IsTuple.but (IsTuple.but BI Ah.extBut D.l2z) An.extBut D.l2i1) AJ.extBut D.l2TO) hy λBY e Bh he=>?_)
    obtain⟨oe,Ft,FL⟩:=he;have GB:IsZip BY z TI TO .ellipsis:=Bh _ _ D.i2z.symm (AJ.extBut _ _ D.TOz.symm (An.extBut _ _ D.i1z.symm A9));have NZ:e≠z:=λx=>by subst x;rw[GB]at Ft;cases Ft;simp at FL
    refine Y5 GB (by simp) λAW _ BK=>hE AW e (λc o c1 c2 c3 c4 x=>BK.extBut _ _ c1 (Bh _ _ c4 (AJ.extBut _ _ c2 (An.extBut _ _ c3 (Ah.extBut _ _ c1 x))))) ⟨oe,BK.extBut _ _ NZ Ft,FL⟩
 .show Xd _ _ (field (.ref z) 2 >>= _) _ _ _;refine WN (X3 hz rfl (x:=.bool false) rfl ?_);show Xd _ _ (field (.ref z) 3 >>= _) _ _ _;refine WN (X3 hz rfl (x:=.ref TI) rfl ?_);refine WN (YM hTI rfl ?_);show Xd _ _ (Yb (.ref z) >>= _) _ _ _;refine WN (YB (bb_notfree hz hT) (λa s1⟨e1,Au,e2,A9,Ah⟩=>?_) λ_ _ x=>x);subst e1 e2;simp only[Y1,if_false];rw[<-Array.forIn_toList];refine WN ?_;simp only[List.forIn_cons,List.forIn_nil];refine WN (WN (Yl ?_));show Xd _ _ (X8 (.ref i1) >>= _) _ _ _;cases hx:xs[k]? with
  | none =>
    refine WN (bb_tupEnd hh (IsTupleIter.but h1 Ah.extBut D.i1z) (IsTuple.but CC Ah.extBut D.l1z) hx λBt e An he=>?_);exact hE Bt e (λc o c1 _ c3 _ x=>An _ _ c3 (Ah.extBut _ _ c1 x)) he
  | some x =>
    have hy:ys[k]?=none:=by rcases CL with h|h;rw[hx]at h;cases h;exact h
    refine WN (bb_tupNext (IsTupleIter.but h1 Ah.extBut D.i1z) (IsTuple.but CC Ah.extBut D.l1z) hx λBt EE An=>W0 (W0 ?_));refine WN (WN (Yl ?_));show Xd _ _ (X8 (.ref i2) >>= _) _ _ _;refine WN (bb_tupEnd hh (IsTupleIter.but (IsTupleIter.but h2 Ah.extBut D.i2z) An.extBut D.i12.symm) (IsTuple.but (IsTuple.but BI Ah.extBut D.l2z) An.extBut D.l2i1) hy λBY e Bh he=>?_);exact hE BY e (λc o c1 _ c3 c4 x=>Bh _ _ c4 (An.extBut _ _ c3 (Ah.extBut _ _ c1 x))) he
theorem bb_zip_done{TI TO:WT}{k:Nat}{xs:Array WW}{Q:Option WW->W3->Prop}(hh:A.handled=none)(S:ZSt xs ys z TI TO i1 i2 l1 l2 k s.1)(CL:xs[k]?=none\/ys[k]?=none)
 (hQ:∀h',(∀c o,c∉[z,TO,i1,i2]->s.1.get? c=some o->h'.get? c=some o)->Q none {s with heap:=h'}):Xd (Xx prog w) A (Z6 (.ref z)) Q E s:=by
 have hT:=S.typeIs;unfold Z6
 refine WN (wpAny_attempt (X0 (name:=WU "__next__") hT F.slot_zip_next
  (X7 F.slot_zip_next hT F.entry_zip_next (bb_zip_end hh S CL λh' e hk he=>?_) (F.args_zip_next_1 _))))
 obtain⟨o,ho,hc⟩:=he;refine WN (wpAny_isInstance (T:="StopIteration") (b:=true) ⟨o,ho,hc⟩ isSubtype_stop ?_);exact W0 (hQ _ λc o hc=>hk c o (λq=>hc (by simp[q])) (λq=>hc (by simp[q])) (λq=>hc (by simp[q])) (λq=>hc (by simp[q])))
open Sem (wp)
namespace F
end F
end PySem
namespace L2
open PySem PySem.Spec PyProof.Rows
theorem ju:∀{ps:List α}{ts:List β},ps.length=ts.length->(∀(j:Nat)p t,ps[j]?=some p->ts[j]?=some t->F p t)->Xz F ps ts
 | [],[],_,_=>.nil
 | [],_::_,h,_=>by simp at h
 |_::_,[],h,_=>by simp at h
 |p::ps,t::ts,h,f=>.cons (f 0 p t rfl rfl) (ju (by simpa using h) λj p' t' e1 e2=>f (j+1) p' t' (by simpa using e1) (by simpa using e2))
section
variable{e1 e2:XY}{t:TA}{p p2 Bu:Pos}
end
section
variable[DecidableEq κ]
def aG(kvs:List (κ×V))(k:κ):Option V:=(kvs.find? λkv=>decide (kv.1=k)).map (·.2)
def putK(kvs:List (κ×V))(k:κ)(v:V):List (κ×V) :=
 if(kvs.any λkv=>decide (kv.1=k))=true then kvs.map (λkv=>if kv.1=k then(kv.1,v)else kv)else kvs++[(k,v)]
theorem uU{k:κ}:aG ([]:List (κ×V)) k=none:=rfl
theorem bE{p:κ×V}{r:List (κ×V)}{k:κ}(e:p.1=k):aG (p::r) k=some p.2:=by simp[aG,List.find?_cons,e]
theorem bL{p:κ×V}{r:List (κ×V)}{k:κ}(e:¬p.1=k):aG (p::r) k=aG r k:=by simp[aG,List.find?_cons,e]
theorem fJ(k:κ):∀kvs:List (κ×V),(kvs.any λkv=>decide (kv.1=k))=(aG kvs k).isSome
 | []=>rfl
 | p::r=>by
   rw[List.any_cons];by_cases e:p.1=k
   .simp only[bE e,d! e,Bool.true_or,Option.isSome_some]
   .rw[bL e,c! e,Bool.false_or];exact fJ k r
theorem oz(k j:κ)(y:V):∀kvs:List (κ×V),aG (kvs.map λkv=>if kv.1=k then(kv.1,y)else kv) j=(aG kvs j).map λx=>if j=k then y else x
 | []=>rfl
 | p::r=>by
   have ih:=oz k j y r;rw[XH];by_cases h:p.1=k
   .rw[b! h];by_cases e:p.1=j
    .rw[bE (p:=(p.1,y)) e,bE e,Option.map_some,b! (e.symm.trans h)]
    .rw[bL (p:=(p.1,y)) e,bL e,ih]
   .rw[a! h];by_cases e:p.1=j
    .rw[bE (p:=p) e,bE e,Option.map_some,a! (λz=>h (e.trans z))]
    .rw[bL (p:=p) e,bL e,ih]
theorem mX(k j:κ)(y:V):∀kvs:List (κ×V),aG kvs k=none->aG (kvs++[(k,y)]) j=if j=k then some y else aG kvs j
 | [],_=>by
   by_cases e:k=j
   .rw[b! e.symm];exact bE (p:=(k,y)) e
   .rw[a! (λz=>e z.symm)];exact bL (p:=(k,y)) e
 | p::r,hn=>by
   rw[Y0];have hk:¬p.1=k:=λz=>by rw[bE z]at hn;cases hn
   rw[bL hk]at hn;have ih:=mX k j y r hn;by_cases e:p.1=j
   .rw[bE e,bE e,a! (λz=>hk (e.trans z))]
   .rw[bL e,bL e,ih]
theorem bW(kvs:List (κ×V))(k j:κ)(y:V):aG (putK kvs k y) j=if j=k then some y else aG kvs j:=by
 unfold putK;by_cases a:(kvs.any λkv=>decide (kv.1=k))=true
 .rw[b! a,oz];rw[fJ]at a;by_cases e:j=k
  .obtain⟨x,hx⟩:=Option.isSome_iff_exists.mp a;rw[b! e,e,hx,Option.map_some,b! rfl]
  .rw[a! e];cases aG kvs j with
   |none=>rfl
   |some x=>rw[Option.map_some,a! e]
 .rw[a! a];refine mX k j y kvs ?_;rw[fJ]at a;cases q:aG kvs k with
  |none=>rfl
  |some x=>rw[q]at a;exact(a rfl).elim
theorem bO(kvs:List (κ×V))(k:κ)(v:V):(putK kvs k v).length<=kvs.length+1:=by
 unfold putK;split
 .rw[WO];omega
 .rw[W6,W8,List.length_nil];omega
theorem uA{kvs:List (κ×V)}{k:κ}(v:V)(h:aG kvs k=none):putK kvs k v=kvs++[(k,v)]:=by
 unfold putK;rw[fJ,h];exact a! (by decide)
theorem RelO.isSome_eq{o:Option V}{u:Option WW}(r:RelO o u):o.isSome=u.isSome:=by
 cases o with
 | none=>cases u with
   |none=>rfl
   |some _=>exact(show False from r).elim
 | some _=>cases u with
   |none=>exact(show False from r).elim
   |some _=>rfl
theorem RelO.getD{o:Option V}{u:Option WW}{d:V}{d':WW}(r:RelO o u)(rd:RelV d d'):RelV (o.getD d) (u.getD d'):=by
 cases o with
 | none=>cases u with
   |none=>exact rd
   |some _=>exact(show False from r).elim
 | some _=>cases u with
   |none=>exact(show False from r).elim
   |some _=>exact r
theorem KV.val{kvs:List (κ×V)}(r:KV kvs vs)(k:κ):RelO (aG kvs k) (valueAt vs k):=by
 unfold KV at r;induction r with
 |nil=>exact Y7
 | @cons p q ps qs h t ih =>
   obtain⟨h1,h2⟩:=h;by_cases e:p.1=k
   .have e':q.1=k:=h1.symm.trans e;have b:valueAt (q::qs) k=some q.2:=by simp[valueAt,List.find?_cons,e']
    rw[bE e,b];exact h2
   .have e':¬q.1=k:=λz=>e (h1.trans z);have b:valueAt (q::qs) k=valueAt qs k:=by simp[valueAt,List.find?_cons,e']
    rw[bL e,b];exact ih
theorem KV.any{kvs:List (κ×V)}(r:KV kvs vs)(k:κ):(kvs.any λkv=>decide (kv.1=k))=vs.any λkv=>decide (kv.1=k):=by
 unfold KV at r;induction r with
 |nil=>rfl
 |cons h t ih=>rw[List.any_cons,List.any_cons,ih,h.1]
theorem KV.repl{kvs:List (κ×V)}(r:KV kvs vs)(k:κ)(ry:RelV y u) :
 KV (kvs.map λkv=>if kv.1=k then(kv.1,y)else kv) (vs.map λkv=>if kv.1=k then(kv.1,u)else kv):=by
 unfold KV at r |-;induction r with
 |nil=>exact .nil
 | @cons p q ps qs h t ih =>
   rw[XH,XH];refine .cons ?_ ih;obtain⟨h1,h2⟩:=h;by_cases e:p.1=k
   .rw[b! e,b! (h1.symm.trans e)];exact⟨h1,ry⟩
   .rw[a! e,a! (λz=>e (h1.trans z))];exact⟨h1,h2⟩
theorem KV.put{kvs:List (κ×V)}(r:KV kvs vs)(k:κ)(ry:RelV y u):KV (putK kvs k y) (stored vs k u):=by
 unfold putK stored;rw[r.any k];by_cases e:(vs.any λkv=>decide (kv.1=k))=true
 .rw[b! e,b! e];exact r.repl k ry
 .rw[a! e,a! e];exact Paired.snoc r ⟨rfl,ry⟩
theorem KV.length{kvs:List (κ×V)}(r:KV kvs vs):kvs.length=vs.length:=W5 r
end
theorem mG{k:Key}(r:RelV (kV k) u):(aT P w).is k u=true:=by
 cases k with
 |inl i=>obtain⟨t,e⟩:=(show∃t,u=Value.int i t from r);subst e;exact oF P w i t
 |inr x=>obtain⟨t,e⟩:=(show∃t,u=Value.str x t from r);subst e;exact oA P w x t
theorem nu:∀{ks:List Key}{us:List WW},Vals (ks.map kV) us->ItemsAre (aT P w) ks us
 | [],_,r=>by rw[ZA]at r;cases r;exact .nil
 | k::ks,_,r=>by
   rw[XH]at r;cases r with
   |cons h t=>exact .cons (mG h) (nu t)
abbrev KTd(H:Hp):List (List Key×V)->List (List Key×WT×WW)->Prop:=Xz λp q=>p.1=q.1/\H q.2.1=some (.tup (p.1.map kV))/\RelV p.2 q.2.2
theorem KTd.val{xs:List (List Key×WT×WW)}(r:KTd H kvs xs)(k:List Key):RelO (aG kvs k) ((atKey xs k).map (·.2)):=by
 induction r with
 |nil=>exact Y7
 | @cons p q ps qs h t ih =>
   obtain⟨h1,_,h2⟩:=h;by_cases e:p.1=k
   .have e':q.1=k:=h1.symm.trans e;have b:atKey (q::qs) k=some q.2:=by simp[atKey,List.find?_cons,e']
    rw[bE e,b];exact h2
   .have e':¬q.1=k:=λz=>e (h1.trans z);have b:atKey (q::qs) k=atKey qs k:=by simp[atKey,List.find?_cons,e']
    rw[bL e,b];exact ih
theorem KTd.repl{xs:List (List Key×WT×WW)}(r:KTd H kvs xs)(k:List Key)(ry:RelV y u) :
 KTd H (kvs.map λkv=>if kv.1=k then(kv.1,y)else kv) (xs.map (putAt k u)):=by
 induction r with
 |nil=>exact .nil
 | @cons p q ps qs h t ih =>
   rw[XH,XH];refine .cons ?_ ih;obtain⟨h1,h2,h3⟩:=h;unfold putAt;by_cases e:p.1=k
   .rw[b! e,b! (h1.symm.trans e)];exact⟨h1,h2,ry⟩
   .rw[a! e,a! (λz=>e (h1.trans z))];exact⟨h1,h2,h3⟩
theorem KTd.put{xs:List (List Key×WT×WW)}(r:KTd H kvs xs)(k:List Key)(hb:H b=some (.tup (k.map kV)))(ry:RelV y u) :
 KTd H (putK kvs k y) (storedH xs k b u):=by
 have e:(kvs.any λkv=>decide (kv.1=k))=(atKey xs k).isSome:=by
  rw[fJ,(r.val k).isSome_eq,Option.isSome_map]
 unfold putK storedH;rw[e];by_cases q:(atKey xs k).isSome=true
 .rw[b! q,b! q];exact r.repl k ry
 .rw[a! q,a! q];exact Paired.snoc r ⟨rfl,hb,ry⟩
theorem KTd.keeps{xs:List (List Key×WT×WW)}(r:KTd H kvs xs)(ht:∀b ys,H b=some (.tup ys)->H' b=some (.tup ys)):KTd H' kvs xs :=
 Xz.mapP r λ_ _ z=>⟨z.1,ht _ _ z.2.1,z.2.2⟩
theorem xo{u:HO}(ok:HOk P w H h)(e:Rd H a u):ObjOk P w H h a u:=e.ok ok
theorem mh{kvs:List (Key×V)}(ok:HOk P w H h)(e:Rd H a (.dK kvs)):kvs.length<=Xh/\(a == YC)=false/\∃vs,KV kvs vs/\h.DictOf (aT P w) a vs :=
 show ObjOk P w H h a (.dK kvs)from xo ok e
theorem xm{kvs:List (Key×V)}(ok:HOk P w H h)(e:H a=some (.dK kvs)):kvs.length<=Xh/\(a == YC)=false/\∃vs,KV kvs vs/\h.DictOf (aT P w) a vs:=mh ok (.inl e)
theorem ie{ks:List Key}(ok:HOk P w H h)(e:H a=some (.tup (ks.map kV))):(tupleKind (aT P w)).is h ks a:=by
 obtain⟨_,its,n,r,h1⟩:=(show ObjOk P w H h a (.tup (ks.map kV))from ok a _ e);exact⟨_,its.toArray,n,h1,rfl,rfl,by simpa using nu r⟩
theorem mQ(ok:HOk P w H h)(e:Rd H a (.dT kvs)):kvs.length<=Xh/\(a == YC)=false /\
 ∃xs,KTd H kvs xs/\h.DictOfH (tupleKind (aT P w)) a xs:=by
 obtain⟨z,y,xs,r,o,es,ep,h1,h2,h3,h4,h5⟩:=(show ObjOk P w H h a (.dT kvs)from xo ok e);refine⟨z,y,xs,r,o,es,ep,h1,h2,h3,h4,λx hx=>?_,h5⟩
 have all:∀{l:List (List Key×V)}{m:List (List Key×WT×WW)},KTd H l m->∀x∈m,(tupleKind (aT P w)).is h x.1 x.2.1:=by
  intro l m q;induction q with
  |nil=>intro x hx;exact nomatch hx
  | @cons p q ps qs hq t ih =>
    intro x hx;rcases Xb.mp hx with e|hx
    .subst e;exact ie ok (by rw[<-hq.1];exact hq.2.1)
    .exact ih x hx
 exact all r x hx
theorem ou(ok:HOk P w H h)(e:H a=some (.dT kvs)):kvs.length<=Xh/\(a == YC)=false /\
 ∃xs,KTd H kvs xs/\h.DictOfH (tupleKind (aT P w)) a xs:=mQ ok (.inl e)
def DGet(H:Hp)(a:WT)(y:V)(r:Option V):Prop :=
 (∃kvs k,Rd H a (.dK kvs)/\y=kV k/\r=aG kvs k)\/∃kvs k b,Rd H a (.dT kvs)/\y=.ref b/\H b=some (.tup (k.map kV))/\r=aG kvs k
def DPut(H:Hp)(a:WT)(y v:V)(H':Hp):Prop :=
 (∃kvs k,H a=some (.dK kvs)/\y=kV k/\kvs.length<Xh/\H'=upd H a (.dK (putK kvs k v))) \/
 ∃kvs k b,H a=some (.dT kvs)/\y=.ref b/\H b=some (.tup (k.map kV))/\kvs.length<Xh/\H'=upd H a (.dT (putK kvs k v))
theorem DGet.k{kvs:List (Key×V)}{k:Key}(e:H a=some (.dK kvs)):DGet H a (kV k) (aG kvs k):=.inl ⟨kvs,k,.inl e,rfl,rfl⟩
theorem DGet.t{k:List Key}(e:H a=some (.dT kvs))(eb:H b=some (.tup (k.map kV))):DGet H a (.ref b) (aG kvs k):=.inr ⟨kvs,k,b,.inl e,rfl,eb,rfl⟩
theorem DPut.k{kvs:List (Key×V)}{k:Key}(e:H a=some (.dK kvs))(hl:kvs.length<Xh):DPut H a (kV k) v (upd H a (.dK (putK kvs k v))):=.inl ⟨kvs,k,e,rfl,hl,rfl⟩
theorem DPut.t{k:List Key}(e:H a=some (.dT kvs))(eb:H b=some (.tup (k.map kV)))(hl:kvs.length<Xh) :
 DPut H a (.ref b) v (upd H a (.dT (putK kvs k v))):=.inr ⟨kvs,k,b,e,rfl,eb,hl,rfl⟩
section
variable{r:WW}{o:Option V}
theorem Inv.big(I:Inv X Z Y H s):YC<s.1.1.size:=by
 have h:Xv<s.1.1.size:=(I.mod.glob.keeps I.bk).lt;exact Nat.lt_trans (by decide) h
theorem tO(hu:A.units+1<Zs)(I:Inv X Z Y H s)(g:DGet H a y (some v))(ry:RelV y u)(h:∀w' s',Inv X Z Y H s'->RelV v w'->Q w' s') :
 Xd (Xx X.prog X.w) A (getItem (.ref a) u) Q E s:=by
 rcases g with⟨kvs,k,e,ey,l⟩|⟨kvs,k,b,e,ey,eb,l⟩
 .subst ey;obtain⟨z,hd,vs,rel,dd⟩:=mh I.hok e;obtain⟨w',hw,Ez⟩:=RelO.some_of (v:=v) (o:=valueAt vs k) (by rw[l];exact rel.val k);exact wpAny_getItem_of (mG ry) dd.mapOf hw (h w' _ (I.tok _) Ez)
 .subst ey;cases(show u=XO b from ry);obtain⟨z,hd,xs,rel,dd⟩:=mQ I.hok e;obtain⟨w',hw,Ez⟩:=RelO.some_of (v:=v) (o:=(atKey xs k).map (·.2)) (by rw[l];exact rel.val k);obtain⟨p,hp,Bp⟩:=Yi.mp hw;refine wpAny_getItem_heap (Z5 hu) (ie I.hok eb) dd hp ?_;rw[Bp];exact h w' _ (I.tok _) Ez
theorem vB(hu:A.units+1<Zs)(I:Inv X Z Y H s)(g:DGet H a y o)(ry:RelV y u)(h:∀s',Inv X Z Y H s'->Q (.bool (!o.isSome)) s') :
 Xd (Xx X.prog X.w) A (ZQ .NotIn u (.ref a)) Q E s:=by
 rcases g with⟨kvs,k,e,ey,l⟩|⟨kvs,k,b,e,ey,eb,l⟩
 .subst ey;obtain⟨z,hd,vs,rel,dd⟩:=mh I.hok e;refine wpAny_notIn_of (mG ry) hd dd.mapOf ?_;rw[<-(rel.val k).isSome_eq,<-l];exact h _ (I.tok _)
 .subst ey;cases(show u=XO b from ry);obtain⟨z,hd,xs,rel,dd⟩:=mQ I.hok e;refine wpAny_notIn_heap (Z5 hu) (ie I.hok eb) hd dd ?_;have q:=(rel.val k).isSome_eq;rw[Option.isSome_map]at q;rw[<-q,<-l];exact h _ (I.tok _)
theorem iQ{ob:HO}(I:Inv X Z Y H s)(mu:Mut (H a))(hs:X5 a s.1 h')(he:∃q,h'.get? a=some q)(new:ObjOk X.prog X.w (upd H a ob) h' a ob) :
 Inv X Z Y (upd H a ob) {s with heap:=h',toks:=t'} :=
 I.write (x:=a) (e:=a) mu (.inl rfl) (λb q hb z=>(hs.2 b hb).trans z) he new
theorem xC{kvs:List (Key×V)}{vs:List (Key×WW)}(z:kvs.length<=Xh)(hd:(a == YC)=false)(rel:KV kvs vs)(dd:h'.DictOf (aT P w) a vs) :
 ObjOk P w H' h' a (.dK kvs):=⟨z,hd,vs,rel,dd⟩
theorem ss{Q:Unit->W3->Prop}(hu:A.units+1<Zs)(I:Inv X Z Y H s)(g:DPut H a y v H')(ry:RelV y u)(rv:RelV v r)(h:∀s',Inv X Z Y H' s'->Q () s') :
 Xd (Xx X.prog X.w) A (setItem (.ref a) u r) Q E s:=by
 rcases g with⟨kvs,k,e,ey,l,eH⟩|⟨kvs,k,b,e,ey,eb,l,eH⟩
 .subst ey eH;obtain⟨z,hd,vs,rel,dd⟩:=xm I.hok e;have hz:vs.length<=Xh:=by rw[<-rel.length];exact z
  have hl:(putK kvs k v).length<=Xh:=by have:=bO kvs k v;omega
  refine wpAny_setItem_pairs (hsz:=hz) (mG ry) dd λh' EL hs=>h _ ?_;have he:∃q,h'.get? a=some q:=let⟨q,_,_,hq,_⟩:=EL;⟨q,hq⟩
  exact iQ I (by rw[e];exact Y7) hs he (xC hl hd (rel.put k rv) EL)
 .subst ey eH;cases(show u=XO b from ry);obtain⟨z,hd,xs,rel,dd⟩:=ou I.hok e;have hz:xs.length<=Xh:=by rw[<-W5 rel];exact z
  have hl:(putK kvs k v).length<=Xh:=by have:=bO kvs k v;omega
  refine wpAny_setItem_heap (hsz:=hz) (Z5 hu) (ie I.hok eb) dd λh' EL hs=>h _ ?_;obtain⟨q,es,ep,hq,h2,h3,h4,_,h5⟩:=EL;refine iQ I (by rw[e];exact Y7) hs ⟨q,hq⟩ ⟨hl,hd,_,(rel.put k eb rv).keeps λc ys ec=>?_,q,es,ep,hq,h2,h3,h4,h5⟩;rw[af (aA ec e (λz=>nomatch z))];exact ec
end
section
variable{kvs:List (Key×V)}{k:Key}
end
def yI(i:XY):Prop:=∀ov iv,subscripted i false ov iv=operate [ov,iv] (getItem ov iv)
theorem vX{value slice:XY}{T id:String}
 (hl:typeLookup (.type T) "__getitem__"=pure (some (.builtin id))) (hs:yI slice)
 (h:Xd (Xx prog w) A (YW value env) (λo l'=>Xd (Xx prog w) A (YW slice env) (λi Bl=>Bl.TypeIs o T/\Xd (Xx prog w) A (getItem o i) Q E Bl) E l') E s) :
 Xd (Xx prog w) A (YW (.Subscript value slice pos) env) Q E s:=by
 refine Subscript_ (YB h (λo l' Au=>YB Au (λi Bl Bt=>?_) λ_ _ x=>x) λ_ _ x=>x);obtain⟨hT,Bt⟩:=Bt;unfold subscriptTail;refine WN ?_;rw[getitemInPython_of_ne hT.not_modules];refine WN (wpAny_specialOf hT hl ?_)
 have fin:Xd (Xx prog w) A (subscripted slice false o i) (λr Cm=>Xd (Xx prog w) A (letTemporaryGo value o r >>= λ_=>pure r) Q E Cm) E Bl:=by
  rw[hs o i];exact wpAny_operating (YB Bt (λr Cm CK=>WN (wpAny_letTemporaryGo (W0 CK))) λ_ _ x=>x)
 first
  |exact W0 (WN fin)
  |exact WN (W0 (WN fin))
  |exact WN fin
theorem pE{o:Option V}(I:Inv X Z Y H s)(g:DGet H a y o):s.TypeIs (.ref a) "dict":=by
 rcases g with⟨kvs,k,e,_,_⟩|⟨kvs,k,b,e,_,_,_⟩
 .obtain⟨_,_,vs,_,dd⟩:=mh I.hok e;exact dd.typeIs
 .obtain⟨_,_,xs,_,dd⟩:=mQ I.hok e;exact dd.typeIs
def vb(td ty:TE):TE:=λY H Q=>td Y H λx H1=>ty Y H1 λy H2=>∃a v,x=.ref a/\DGet H2 a y (some v)/\Q v H2
def rg(ty td:TE):TE:=λY H Q=>ty Y H λy H1=>td Y H1 λx H2=>∃a o,x=.ref a/\DGet H2 a y o/\Q (.bl (!o.isSome)) H2
def y9(td ty tv:TE):TS:=λD Y H=>tv Y H λv H1=>td Y H1 λx H2=>ty Y H2 λy H3=>∃a H4,x=.ref a/\DPut H3 a y v H4/\D.nx Y H4
section
variable{o i value:XY}{NJ:Pos}{td ty tv:TE}
theorem dA(hu:X.A.units+1<Zs)(ho:PE X o td)(hi:PE X i ty)(hs:yI i):PE X (.Subscript o i pos) (vb td ty):=by
 intro Z s Y H Q I h;refine vX PySem.F.slot_dict_getitem.lookup hs (thn (ho Z s Y H _ I h) λu s1⟨x,H1,I1,rx,q1⟩=>thn (hi Z s1 Y H1 _ I1 q1) λiv s2⟨y,H2,I2,ry,a,v,ex,g,q2⟩=>?_);subst ex;obtain rfl:u=XO a:=rx;exact⟨pE I2 g,tO hu I2 g ry λw' s3 I3 Ez=>⟨v,H2,I3,Ez,q2⟩⟩
theorem gE(hu:X.A.units+1<Zs)(hi:PE X i ty)(ho:PE X o td):PC X .NotIn i o (rg ty td):=by
 intro Z s Y H Q I h;refine thn (hi Z s Y H _ I h) λiv s1⟨y,H1,I1,ry,q1⟩=>thn (ho Z s1 Y H1 _ I1 q1) λu s2⟨x,H2,I2,rx,a,ov,ex,g,q2⟩=>?_;subst ex;obtain rfl:u=XO a:=rx;exact vB hu I2 g ry λs3 I3=>⟨.bl (!ov.isSome),H2,I3,rfl,q2⟩
theorem dI(hu:X.A.units+1<Zs)(ho:PE X o td)(hi:PE X i ty)(hv:PE X value tv)(hs:swapsWith value (some (.Subscript o i pos')) pos.line X.env=pure false) :
 PS X (.Assign [.Subscript o i pos'] value pos) (y9 td ty tv):=by
 intro Z s Y H D I h;refine wpAny_Assign_Subscript (thn (hv Z s Y H _ I h) λr s1⟨v,H1,I1,rv,q1⟩=>thn (ho Z s1 Y H1 _ I1 q1) λu s2⟨x,H2,I2,rx,q2⟩=>thn (hi Z s2 Y H2 _ I2 q2) λiv s3⟨y,H3,I3,ry,a,H4,ex,g,q3⟩=>?_) hs;subst ex;obtain rfl:u=XO a:=rx;exact ss hu I3 g ry rv λs4 I4=>⟨Y,H4,I4,q3⟩
end
theorem o7(h:X4)(hb:YC<h.objs.size):ObjOk P w H (h.push {cls:=.type "dict",data:=.dict #[]}) h.objs.size (.dK []) :=
 ⟨XB _,beq_eq_false_iff_ne.mpr (Zm (XG hb)),[],.nil,Heap.DictOf.new h⟩
theorem pF(h:X4)(hb:YC<h.objs.size):ObjOk P w H (h.push {cls:=.type "dict",data:=.dict #[]}) h.objs.size (.dT []) :=
 ⟨XB _,beq_eq_false_iff_ne.mpr (Zm (XG hb)),[],.nil,_,#[],0,W4 _ rfl,⟨rfl,rfl,rfl⟩,rfl,rfl,YT⟩
def xF:TE:=λ_ H Q=>∀p,H p=none->Q (.ref p) (upd H p (.dK []))
def xS:TE:=λ_ H Q=>∀p,H p=none->Q (.ref p) (upd H p (.dT []))
theorem kJ:PE X (.Dict [] [] pos) xF:=λZ s Y H Q I h =>
 wpAny_Dict_empty ⟨.ref s.1.1.size,_,I.laid (a:=s.1.1.size) (o:=.dK []) (t':=s.toks) (λ_ _ q=>WV _ q) (W2 _) (o7 s.1 I.big),rfl,h _ (I.hok.fresh (W2 _))⟩
theorem eM:PE X (.Dict [] [] pos) xS:=λZ s Y H Q I h =>
 wpAny_Dict_empty ⟨.ref s.1.1.size,_,I.laid (a:=s.1.1.size) (o:=.dT []) (t':=s.toks) (λ_ _ q=>WV _ q) (W2 _) (pF s.1 I.big),rfl,h _ (I.hok.fresh (W2 _))⟩
structure M2(X:Cx)(o:XY)(m:Xk)(apos:Pos)(e f:XY)(Ap:Pos):Prop where
 base:attributeBase o m X.env (YW o X.env)=YW o X.env
 few:((ZD Ap (XJ [e,f] X.env)).all (λx=>!x.1) && (backToKw Ap (keywordEach [] X.env)).all (λx=>x.1.isSome)
  && decide (([e,f]:List XY).length+([]:List Keyword).length+(if([]:List Keyword).isEmpty then 0 else 1)<30))=true
 line:(apos.endLine == Ap.line)=true
 trees:ZD Ap (XJ [e,f] X.env)=[(false,YW e X.env),(false,YW f X.env)]
def IsD(H:Hp)(a:WT):Prop:=(∃kvs,Rd H a (.dK kvs))\/∃kvs,Rd H a (.dT kvs)
theorem yi(I:Inv X Z Y H s)(d:IsD H a) :
 s.TypeIs (.ref a) "dict"/\(∀b,XO a=.ref b->∃ob,s.1.get? b=some ob/\ob.dict=none)/\(a == YC)=false:=by
 rcases d with⟨kvs,e⟩|⟨kvs,e⟩
 .obtain⟨_,hd,vs,_,dd⟩:=mh I.hok e;refine⟨dd.typeIs,λb q=>?_,hd⟩;cases q;obtain⟨ob,_,_,h1,h2,_⟩:=dd;exact⟨ob,h1,h2.2.1⟩
 .obtain⟨_,hd,xs,_,dd⟩:=mQ I.hok e;refine⟨dd.typeIs,λb q=>?_,hd⟩;cases q;obtain⟨ob,_,_,h1,h2,_⟩:=dd;exact⟨ob,h1,h2.2.1⟩
section
variable{d:V}{r:WW}{o:Option V}
theorem xz(hu:A.units+1<Zs)(I:Inv X Z Y H s)(g:DGet H a y o)(ry:RelV y u)(rd:RelV d r)(h:∀w' s',Inv X Z Y H s'->RelV (o.getD d) w'->Q w' s') :
 Xd (Xx X.prog X.w) A (call (.builtin "dict.get") [.ref a,u,r]) Q E s:=by
 rcases g with⟨kvs,k,e,ey,l⟩|⟨kvs,k,b,e,ey,eb,l⟩
 .subst ey;obtain⟨z,hd,vs,rel,dd⟩:=mh I.hok e;refine call_meetsIn PySem.F.slot_dict_get dd.typeIs PySem.F.entry_dict_get (PySem.F.args_dict_get_3 _ _ _) (meets_dict_get_default (aT X.prog X.w) a (mG ry) hd r) ⟨_,dd.mapOf,h _ _ (I.tok _) ?_⟩;rw[l];exact(rel.val k).getD rd
 .subst ey;cases(show u=XO b from ry);obtain⟨z,hd,xs,rel,dd⟩:=mQ I.hok e;refine call_meetsIn PySem.F.slot_dict_get dd.typeIs PySem.F.entry_dict_get (PySem.F.args_dict_get_3 _ _ _) (meetsH_dict_get_default (tupleKind (aT X.prog X.w)) a b hd r) ⟨Z5 hu,k,xs,ie I.hok eb,dd,h _ _ (I.tok _) ?_⟩;rw[l];exact(rel.val k).getD rd
end
def ym(td ty tx:TE):TE:=λY H Q=>td Y H λx H1=>∃a,x=.ref a/\IsD H1 a/\ty Y H1 λy H2=>tx Y H2 λz H3=>∃o,DGet H3 a y o/\Q (o.getD z) H3
section
variable{o f:XY}{apos Ap:Pos}{td ty tx:TE}
theorem tW(hu:X.A.units+1<Zs)(ho:PE X o td)(he:PE X e ty)(hf:PE X f tx)(m:M2 X o "get" apos e f Ap):PE X (.Call (.Attribute o "get" apos) [e,f] [] Ap) (ym td ty tx):=by
 intro Z s Y H Q I h;refine wpAny_Call_method m.base m.few m.line PySem.F.plainAttrs_dict PySem.F.slot_dict_get PySem.F.type_dict_get (thn (ho Z s Y H _ I h) λu s1⟨x,H1,I1,rx,a,ex,d,q1⟩=>?_);subst ex;obtain rfl:u=XO a:=rx;obtain⟨t1,t2,_⟩:=yi I1 d;refine⟨t1,t2,?_⟩;rw[m.trees]
 refine Calls.callWith_builtin rfl (Calls.evalArgs_plain (Z8 (thn (he Z s1 Y H1 _ I1 q1) λiv s2⟨y,H2,I2,ry,q2⟩ =>
  Z8 (thn (hf Z s2 Y H2 _ I2 q2) λfv s3⟨z,H3,I3,rz,ov,g,q3⟩=>Calls.spliced_nil ?_))))
 exact xz hu I3 g ry rz λw' s4 I4 Ez=>⟨_,H3,I4,Ez,q3⟩
end
section
variable{kvs:List (Key×V)}
end
inductive xb(K:WX)(T:String)(xs:List V)(H:Hp)(Q:VK):Prop
 |mk (x:_) (b:_) (t:_) (Aq:xs=[x,.ty T]) (Ar:iC K H x t) (Ax:Y3 K t (.type T)=some b) (AN:Q (.bl b) H):xb K T xs H Q
def aad(K:WX)(T:String):List V->Hp->VK->Prop:=xb K T
theorem sK{T:String}:dq X (.builtin "isinstance") (aad X.K T):=by
 intro Z s Y H xs us Q I r h;obtain⟨x,b,t,e,ty,k,q⟩:=h;exact uJ (T:=T) (b:=b) (t:=t) Z s Y H xs us Q I r ⟨x,e,ty,k,q⟩
theorem xP:Y3 K (.type "tuple") (.type "tuple")=some true:=rfl
end L2
namespace BB
open PySem L2
set_option genInjectivity true in
inductive Dv where
 |int (i:Int)
 |str (x:Xk)
 |tup (ds:List Dv)
mutual
def Dv.deep:Dv->Nat
 |.int _=>0
 |.str _=>0
 |.tup ds=>bY ds+1
def bY:List Dv->Nat
 | []=>0
 |d::ds=>max d.deep (bY ds)
end
mutual
def Dv.tot:Dv->Nat
 |.int _=>1
 |.str _=>1
 |.tup ds=>vZ ds+1
def vZ:List Dv->Nat
 | []=>0
 |d::ds=>d.tot+vZ ds
end
mutual
def DAt(H:Hp):Dv->V->Prop
 |.int i,v=>v=.int i
 |.str x,v=>v=.str x
 |.tup ds,v=>∃a vs,v=.ref a/\H a=some (.tup vs)/\DAts H ds vs
def DAts(H:Hp):List Dv->List V->Prop
 | [],vs=>vs=[]
 |d::ds,vs=>∃v r,vs=v::r/\DAt H d v/\DAts H ds r
end
theorem DAts.nil:DAts H [] []:=by rw[DAts]
theorem DAts.cons{d:Dv}{ds:List Dv}{vs:List V}(h1:DAt H d v)(h2:DAts H ds vs):DAts H (d::ds) (v::vs):=by rw[DAts];exact⟨v,vs,rfl,h1,h2⟩
theorem DAts.length:∀{ds:List Dv}{vs:List V},DAts H ds vs->vs.length=ds.length
 | [],vs,h=>by rw[DAts]at h;subst h;rfl
 | d::ds,vs,h=>by
   rw[DAts]at h;obtain⟨v,r,rfl,h1,h2⟩:=h;rw[W8,W8,h2.length]
theorem DAts.at:∀{ds:List Dv}{vs:List V}{i:Nat}{d:Dv},DAts H ds vs->ds[i]?=some d->∃v,vs[i]?=some v/\DAt H d v
 | [],vs,i,d,h,e=>by simp at e
 | d0::ds,vs,i,d,h,e=>by
   rw[DAts]at h;obtain⟨v,r,rfl,h1,h2⟩:=h;cases i with
   |zero=>simp at e;subst e;exact⟨v,rfl,h1⟩
   | succ i =>
     obtain⟨u,g1,g2⟩:=h2.at (i:=i) (by simpa using e);exact⟨u,by simpa using g1,g2⟩
theorem fL:∀{ds:List Dv}{i:Nat}{d:Dv},ds[i]?=some d->d.deep<=bY ds
 | [],i,d,e=>by simp at e
 | d0::ds,i,d,e=>by
   rw[bY];cases i with
   |zero=>simp at e;subst e;omega
   | succ i =>
     have:=fL (ds:=ds) (i:=i) (by simpa using e);omega
theorem rK:∀{ds:List Dv}{i:Nat}{d:Dv},ds[i]?=some d->d.tot<=vZ ds
 | [],i,d,e=>by simp at e
 | d0::ds,i,d,e=>by
   rw[vZ];cases i with
   |zero=>simp at e;subst e;omega
   | succ i =>
     have:=rK (ds:=ds) (i:=i) (by simpa using e);omega
theorem Dv.tot_pos(d:Dv):1<=d.tot:=by
 cases d with
 |int i=>rw[Dv.tot];omega
 |str x=>rw[Dv.tot];omega
 |tup ds=>rw[Dv.tot];omega
mutual
def Th.dv:Th->Dv
 |.knot n ks=>.tup (.str n::dvs ks)
 |.call s k=>.tup [.str q,.int s,.int k]
def dvs:List Th->List Dv
 | []=>[]
 |t::ts=>t.dv::dvs ts
end
mutual
theorem At.dv:∀{t:Th}{a:WT},At H t a->DAt H t.dv (.ref a)
 | .knot n ks,a,h=>by
   rw[At]at h;obtain⟨_,as,h1,h2⟩:=h;rw[Th.dv,DAt];exact⟨a,_,rfl,h1,.cons (by rw[DAt]) (Ats.dvs h2)⟩
 | .call s k,a,h=>by
   rw[At]at h;rw[Th.dv,DAt];exact⟨a,_,rfl,h,.cons (by rw[DAt]) (.cons (by rw[DAt]) (.cons (by rw[DAt]) .nil))⟩
theorem Ats.dvs:∀{ts:List Th}{as:List WT},Ats H ts as->DAts H (dvs ts) (as.map i!)
 | [],as,h=>by rw[Ats]at h;subst h;rw[BB.dvs];exact .nil
 | t::ts,as,h=>by
   rw[Ats]at h;obtain⟨a,r,rfl,h1,h2⟩:=h;rw[BB.dvs,XH];exact .cons (At.dv h1) (Ats.dvs h2)
end
mutual
theorem Th.dv_deep:∀t:Th,t.dv.deep<=t.tall
 | .knot n ks=>by
   have:=oN ks;rw[Th.dv,Dv.deep,bY,Dv.deep,r!];omega
 |.call s k=>by rw[Th.dv,r!];simp[Dv.deep,bY]
theorem oN:∀ts:List Th,bY (dvs ts)<=aB ts
 | []=>by rw[dvs,bY];exact XB _
 | t::ts=>by
   have:=t.dv_deep;have:=oN ts;rw[dvs,bY,aB];omega
end
theorem nN{ys:List V}{Q:VK}(ha:H a=some (.tup xs))(hb:H b=some (.tup ys))(hz:xs.length+ys.length<=1000000)(q:∀p H',j! H H'->H' p=some (.tup (xs++ys))->Q (.ref p) H'):uV K (.ref a) (.ref b) H Q:=by
 refine⟨a,b,xs,ys,rfl,rfl,k! ha,k! hb,be hz,λe=>?_,λ_ e=>?_,λ_ _ p hp=>?_⟩
 .exact q b H (.refl _) (by rw[e];exact hb)
 .exact q a H (.refl _) (by rw[e,Yz];exact ha)
 .exact q p _ (aj hp _) ad
mutual
def Th.pl(pre:List Int):Th->List (List Int×Th)
 |.knot n ks=>(pre,.knot n ks)::pls pre 0 ks
 |.call s k=>[(pre,.call s k)]
def pls(pre:List Int)(i:Int):List Th->List (List Int×Th)
 | []=>[]
 |t::ts=>t.pl (pre++[i])++pls pre (i+1) ts
end
theorem Th.pl_eq(pre:List Int)(t:Th):t.pl pre=(pre,t)::pls pre 0 t.kids:=by
 cases t with
 |knot n ks=>rw[Th.pl];rfl
 |call s k=>rw[Th.pl];simp[Th.kids,pls]
mutual
theorem Th.pl_len(pre:List Int):∀t:Th,(t.pl pre).length=t.size
 |.knot n ks=>by rw[Th.pl,w!,W8,rJ pre 0 ks]
 |.call s k=>by rw[Th.pl,w!];rfl
theorem rJ(pre:List Int)(i:Int):∀ts:List Th,(pls pre i ts).length=au ts
 | []=>by rw[pls,au];rfl
 |t::ts=>by rw[pls,au,W6,Th.pl_len _ t,rJ pre (i+1) ts]
end
def szP:List (List Int×Th)->Nat
 | []=>0
 |p::ps=>p.2.size+szP ps
def plP:List (List Int×Th)->List (List Int×Th)
 | []=>[]
 |p::ps=>p.2.pl p.1++plP ps
theorem fq:∀a b,szP (a++b)=szP a+szP b
 | [],b=>by simp[szP]
 |p::a,b=>by rw[Y0,szP,szP,fq a b,Nat.add_assoc]
theorem rO(a:List (List Int×Th)):szP a.reverse=szP a:=by
 induction a with
 |nil=>rfl
 |cons x xs ih=>rw[X9,fq,ih,szP,szP,szP];omega
theorem kY:∀a b,plP (a++b)=plP a++plP b
 | [],b=>by simp[plP]
 |p::a,b=>by rw[Y0,plP,plP,kY a b,X6]
theorem qT:∀a,(plP a).length=szP a
 | []=>rfl
 |p::a=>by rw[plP,szP,W6,Th.pl_len,qT a]
theorem r8:∀a,a.length<=szP a
 | []=>XB _
 | p::a=>by
   have:=p.2.size_pos;have:=r8 a;rw[W8,szP];omega
def eQ(pre:List Int)(i:Int):List Th->List (List Int×Th)
 | []=>[]
 |t::ts=>(pre++[i],t)::eQ pre (i+1) ts
theorem ku(pre:List Int)(i:Int):∀ts,(eQ pre i ts).length=ts.length
 | []=>rfl
 |t::ts=>by rw[eQ,W8,W8,ku pre (i+1) ts]
theorem oR(pre:List Int)(i:Int):∀ts,plP (eQ pre i ts)=pls pre i ts
 | []=>by rw[eQ,plP,pls]
 |t::ts=>by rw[eQ,plP,pls,oR pre (i+1) ts]
theorem pj(pre:List Int)(i:Int):∀ts,szP (eQ pre i ts)=au ts
 | []=>by rw[eQ,szP,au]
 |t::ts=>by rw[eQ,szP,au,pj pre (i+1) ts]
theorem pK(pre:List Int):∀(i:Int)(ts:List Th)(j:Nat)(t:Th),ts[j]?=some t->(eQ pre i ts)[j]?=some (pre++[i+j],t)
 |i,[],j,t,e=>by simp at e
 |i,u::ts,0,t,e=>by simp at e;subst e;rw[eQ];simp
 | i,u::ts,j+1,t,e=>by
   rw[eQ,List.getElem?_cons_succ,pK pre (i+1) ts j t (by simpa using e)];have:i+1+(j:Int)=i+((j+1:Nat):Int):=by omega
   rw[this]
theorem oZ(pre:List Int):∀(i:Int)(ts:List Th)(p:List Int×Th),p∈eQ pre i ts->p.1.length=pre.length+1/\p.2∈ts
 |i,[],p,h=>by rw[eQ]at h;cases h
 | i,u::ts,p,h=>by
   rw[eQ]at h;rcases Xb.mp h with rfl|h
   .exact⟨by simp,WY ..⟩
   .have:=oZ pre (i+1) ts p h;exact⟨this.1,WQ _ this.2⟩
def PAt(H:Hp)(p:List Int×Th)(a:WT):Prop:=∃pa ta,H a=some (.tup [.ref pa,.ref ta])/\H pa=some (.tup (p.1.map o!))/\At H p.2 ta
def PsAt(H:Hp)(ps:List (List Int×Th))(as:List WT):Prop:=Xz (PAt H) ps as
theorem PAt.mono(k:KT H H'){p:List Int×Th}(h:PAt H p a):PAt H' p a:=by
 obtain⟨pa,ta,h1,h2,h3⟩:=h;exact⟨pa,ta,k _ _ h1,k _ _ h2,h3.mono k⟩
theorem PsAt.mono(k:KT H H'){ps:List (List Int×Th)}{as:List WT}(h:PsAt H ps as):PsAt H' ps as:=v! (λ_ _ e=>PAt.mono k e) h
theorem P2.reverse:∀{a:List α}{b:List β},Xz F a b->Xz F a.reverse b.reverse
 |_,_,.nil=>.nil
 | _,_,.cons r t=>by
   rw[X9,X9];exact q! (P2.reverse t) (.cons r .nil)
theorem P2.snoc_inv{a:List α}{b:List β}{y:β}(h:Xz F a (b++[y])):∃us x,a=us++[x]/\Xz F us b/\F x y:=by
 have r:=P2.reverse h;rw[YE,ZO,ZW]at r;cases e:a.reverse with
 |nil=>rw[e]at r;cases r
 | cons x us =>
   rw[e]at r;cases r with
   | cons h1 h2 =>
     refine⟨us.reverse,x,?_,?_,h1⟩
     .rw[<-X9,<-e,Zy]
     .have:=P2.reverse h2;rw[Zy]at this;exact this
theorem nA{t u:Th}(h:u∈t.kids):u.tall+1<=t.tall:=by
 have:=cj h;rw[t.tall_eq];omega
theorem mi:∀{ts:List Th}{t:Th},t∈ts->t.size<=au ts
 | u::ts,t,h=>by
   rw[au];rcases Xb.mp h with rfl|h
   .omega
   .have:=mi h;omega
theorem lB(n:Nat)(ts:List Th):au (ts.take n)<=au ts:=by
 have h:=bf (ts.take n) (ts.drop n);rw[List.take_append_drop]at h;omega
mutual
def Th.kn:Th->Nat
 |.knot _ ks=>kns ks+1
 |.call _ _=>0
def kns:List Th->Nat
 | []=>0
 |t::ts=>t.kn+kns ts
end
section
variable{ext:Th->List V}{t:Th}{es:List WT}
end
def Th.isCall:Th->Bool
 |.knot _ _=>false
 |.call _ _=>true
def xK:List Int×Th->Option (List Int×Int×Int)
 |(_,.knot _ _)=>none
 |(p,.call s k)=>some (p,s,k)
def callsOf(ps:List (List Int×Th)):List (List Int×Int×Int):=ps.filterMap xK
theorem dY(a b:List (List Int×Th)):callsOf (a++b)=callsOf a++callsOf b:=List.filterMap_append
theorem d6(a:List (List Int×Th)):(callsOf a).length<=a.length:=List.length_filterMap_le _ _
def CAt(H:Hp)(c:List Int×Int×Int)(a:WT):Prop:=∃pa ca,H a=some (.tup [.ref pa,.ref ca])/\H pa=some (.tup (c.1.map o!))/\H ca=some (.tup [.int c.2.1,.int c.2.2])
def CsAt(H:Hp)(cs:List (List Int×Int×Int))(as:List WT):Prop:=Xz (CAt H) cs as
theorem CAt.mono(k:KT H H'){c:List Int×Int×Int}(h:CAt H c a):CAt H' c a:=by
 obtain⟨pa,ca,h1,h2,h3⟩:=h;exact⟨pa,ca,k _ _ h1,k _ _ h2,k _ _ h3⟩
theorem CsAt.mono(k:KT H H'){as:List WT}(h:CsAt H cs as):CsAt H' cs as:=v! (λ_ _ e=>CAt.mono k e) h
def TK(K:WX)(H:Hp)(a:WT)(xs:List V):Prop:=H a=some (.tup xs)\/∃(o:YF)(its:Array WW)(n:Nat),K.lookup a=some o/\o.cls=.type "tuple"/\o.data=.seq its n/\its.size<=Xh/\Vals xs its.toList
theorem TK.of(h:H a=some (.tup xs)):TK K H a xs:=.inl h
theorem TK.sq(h:TK K H a xs):SqT K H a xs:=by
 rcases h with h|h
 .exact k! h
 .exact .inr h
mutual
def DAtK(K:WX)(H:Hp):Dv->V->Prop
 |.int i,v=>v=.int i
 |.str x,v=>v=.str x
 |.tup ds,v=>∃a vs,v=.ref a/\TK K H a vs/\DAtsK K H ds vs
def DAtsK(K:WX)(H:Hp):List Dv->List V->Prop
 | [],vs=>vs=[]
 |d::ds,vs=>∃v r,vs=v::r/\DAtK K H d v/\DAtsK K H ds r
end
theorem DAtsK.length:∀{ds:List Dv}{vs:List V},DAtsK K H ds vs->vs.length=ds.length
 | [],vs,h=>by rw[DAtsK]at h;subst h;rfl
 | d::ds,vs,h=>by
   rw[DAtsK]at h;obtain⟨v,r,rfl,h1,h2⟩:=h;rw[W8,W8,h2.length]
theorem DAtsK.at:∀{ds:List Dv}{vs:List V}{i:Nat}{d:Dv},DAtsK K H ds vs->ds[i]?=some d->∃v,vs[i]?=some v/\DAtK K H d v
 | [],vs,i,d,h,e=>by simp at e
 | d0::ds,vs,i,d,h,e=>by
   rw[DAtsK]at h;obtain⟨v,r,rfl,h1,h2⟩:=h;cases i with
   |zero=>simp at e;subst e;exact⟨v,rfl,h1⟩
   | succ i =>
     obtain⟨u,g1,g2⟩:=h2.at (i:=i) (by simpa using e);exact⟨u,by simpa using g1,g2⟩
mutual
theorem DAt.k:∀{d:Dv}{v:V},DAt H d v->DAtK K H d v
 |.int i,v,h=>by rw[DAt]at h;rw[DAtK];exact h
 |.str x,v,h=>by rw[DAt]at h;rw[DAtK];exact h
 | .tup ds,v,h=>by
   rw[DAt]at h;rw[DAtK];obtain⟨a,vs,e,h1,h2⟩:=h;exact⟨a,vs,e,.of h1,DAts.k h2⟩
theorem DAts.k:∀{ds:List Dv}{vs:List V},DAts H ds vs->DAtsK K H ds vs
 | [],vs,h=>by rw[DAts]at h;rw[DAtsK];exact h
 | d::ds,vs,h=>by
   rw[DAts]at h;rw[DAtsK];obtain⟨v,r,e,h1,h2⟩:=h;exact⟨v,r,e,DAt.k h1,DAts.k h2⟩
end
mutual
theorem DAtK.inj(I:Inv X Z Y H s):∀{d e:Dv}{v:V},DAtK X.K H d v->DAtK X.K H e v->d=e
 |.int i,.int j,v,h,g=>by rw[DAtK]at h;rw[DAtK]at g;rw[h]at g;cases g;rfl
 |.int i,.str y,v,h,g=>by rw[DAtK]at h;rw[DAtK]at g;rw[h]at g;cases g
 |.int i,.tup es,v,h,g=>by rw[DAtK]at h;rw[DAtK]at g;obtain⟨a,vs,e,_⟩:=g;rw[h]at e;cases e
 |.str x,.int j,v,h,g=>by rw[DAtK]at h;rw[DAtK]at g;rw[h]at g;cases g
 |.str x,.str y,v,h,g=>by rw[DAtK]at h;rw[DAtK]at g;rw[h]at g;cases g;rfl
 |.str x,.tup es,v,h,g=>by rw[DAtK]at h;rw[DAtK]at g;obtain⟨a,vs,e,_⟩:=g;rw[h]at e;cases e
 |.tup ds,.int j,v,h,g=>by rw[DAtK]at h;rw[DAtK]at g;obtain⟨a,vs,e,_⟩:=h;rw[e]at g;cases g
 |.tup ds,.str y,v,h,g=>by rw[DAtK]at h;rw[DAtK]at g;obtain⟨a,vs,e,_⟩:=h;rw[e]at g;cases g
 | .tup ds,.tup es,v,h,g=>by
   rw[DAtK]at h;rw[DAtK]at g;obtain⟨a,vs,e1,h1,h2⟩:=h;obtain⟨b,ws,e2,g1,g2⟩:=g;rw[e1]at e2;cases e2;have e3:=I.tuple_inj h1.sq g1.sq;subst e3;rw[DAtsK.inj I h2 g2]
theorem DAtsK.inj(I:Inv X Z Y H s):∀{ds es:List Dv}{vs:List V},DAtsK X.K H ds vs->DAtsK X.K H es vs->ds=es
 | [],[],vs,h,g=>rfl
 | [],e::es,vs,h,g=>by rw[DAtsK]at h;rw[DAtsK]at g;obtain⟨v,r,z,_⟩:=g;rw[h]at z;cases z
 |d::ds,[],vs,h,g=>by rw[DAtsK]at h;rw[DAtsK]at g;obtain⟨v,r,z,_⟩:=h;rw[g]at z;cases z
 | d::ds,e::es,vs,h,g=>by
   rw[DAtsK]at h;rw[DAtsK]at g;obtain⟨v,r,z,h1,h2⟩:=h;obtain⟨v',r',z',g1,g2⟩:=g;rw[z]at z';cases z';rw[DAtK.inj I h1 g1,DAtsK.inj I h2 g2]
end
end BB
open BB.Th renaming dv->L!
namespace L2
open PySem PySem.Spec PySem.SeqAt PyProof.Rows BB
open Classical in
theorem qB[DecidableEq α]{Al:List WW}{ds es:List α}(p1:s.1.IsTuple a its.toArray)(p2:s.1.IsTuple b Al.toArray)(l1:its.length=ds.length)(l2:Al.length=es.length)(hu:A.units<Zs)
 (ih:∀(j:Nat)(d e:α)(u v:WW),ds[j]?=some d->es[j]?=some e->its[j]?=some u->Al[j]?=some v->EqAt A.in1 s u v (decide (d=e))):RcAt A s (.ref a) (.ref b) (decide (ds=es)):=by
 have N0:RcAt A s (.ref a) (.ref b) ((Yn (min its.toArray.size Al.toArray.size)).all (λj=>decide (ds[j]?=es[j]?)) && its.toArray.size == Al.toArray.size):=by
  refine RcAt.tuples p1 p2 hu λj h1 h2=>?_;have Dl:j<ds.length:=by rw[<-l1];simpa using h1
  have Dm:j<es.length:=by rw[<-l2];simpa using h2
  have e1:ds[j]?=some ds[j]:=WS Dl;have e2:es[j]?=some es[j]:=WS Dm;have e3:decide (ds[j]?=es[j]?)=decide (ds[j]=es[j]):=by rw[e1,e2];simp
  have g1:its[j]?=some its[j]:=WS (by rw[l1];exact Dl);have g2:Al[j]?=some Al[j]:=WS (by rw[l2];exact Dm);rw[e3];exact ih j ds[j] es[j] its[j] Al[j] e1 e2 g1 g2
 have e:decide (ds=es)=((Yn (min its.toArray.size Al.toArray.size)).all (λj=>decide (ds[j]?=es[j]?)) && its.toArray.size == Al.toArray.size):=by
  rw[Xa,Xa,l1,l2];by_cases h:ds=es
  .subst h;rw[d! rfl];symm;simp
  .rw[c! h];symm;by_cases hl:ds.length=es.length
   .rw[hl,Nat.min_self]
    have:¬((Yn es.length).all (λj=>decide (ds[j]?=es[j]?)))=true:=by
     intro z;apply h;apply List.ext_getElem?;intro j;by_cases hj:j<es.length
     .exact e! (List.all_eq_true.mp z j (ZK.mpr hj))
     .rw[Yw (by omega),Yw (by omega)]
    rw[Bool.eq_false_iff.mpr this];rfl
   .have:(ds.length == es.length)=false:=by simpa using hl
    rw[this,Bool.and_false]
 rw[e];exact N0
open Classical in
theorem mw(I:Inv X Z Y H s){ds es:List Dv}{vs ws:List V}(ha:SqT X.K H a vs)(hb:SqT X.K H b ws)(FN:DAtsK X.K H ds vs)(AS:DAtsK X.K H es ws)(hu:A.units<Zs)
 (ih:∀(j:Nat)(d e:Dv)(x y:V)(u v:WW),ds[j]?=some d->DAtK X.K H d x->DAtK X.K H e y->RelV x u->RelV y v->EqAt A.in1 s u v (decide (d=e))):RcAt A s (.ref a) (.ref b) (decide (Dv.tup ds=Dv.tup es)):=by
 obtain⟨its,r1,p1,_⟩:=I.tuple ha;obtain⟨Al,r2,p2,_⟩:=I.tuple hb;rw[show decide (Dv.tup ds=Dv.tup es)=decide (ds=es)from decide_eq_decide.mpr ⟨λz=>Dv.tup.inj z,λz=>h! _ z⟩];refine qB (show s.1.IsTuple a its.toArray from p1) (show s.1.IsTuple b Al.toArray from p2) (by rw[<-r1.length,FN.length]) (by rw[<-r2.length,AS.length]) hu λj d e u v e1 e2 e3 e4=>?_;obtain⟨x',BC,dx⟩:=FN.at e1;obtain⟨y',DS,dy⟩:=AS.at e2;obtain⟨u',EM,J3⟩:=r1.get BC;obtain⟨v',CH,FO⟩:=r2.get DS;rw[EM]at e3;rw[CH]at e4;cases e3;cases e4;exact ih j d e x' y' _ _ e1 dx dy J3 FO
open Classical in
theorem kG(I:Inv X Z Y H s):∀(n:Nat)(d e:Dv),d.tot<=n->∀(x y:V)(u v:WW)(A:XN),DAtK X.K H d x->DAtK X.K H e y->RelV x u->RelV y v->A.units+d.deep<Zs->EqAt A s u v (decide (d=e))
 |0,d,e,hn,x,y,u,v,A,hd,he,ru,rv,hu=>by have:=d.tot_pos;omega
 | n+1,.int i,.int j,hn,x,y,u,v,A,hd,he,ru,rv,hu=>by
   rw[DAtK]at hd;rw[DAtK]at he;subst hd he;obtain⟨t,rfl⟩:=ru;obtain⟨t',rfl⟩:=rv
   have e:decide (Dv.int i=Dv.int j)=(i == j):=by
    by_cases h:i=j
    .subst h;simp
    .rw[c! (λz=>h (Dv.int.inj z))];simp[h]
   rw[e];exact EqAt.int_int i t j t'
 | n+1,.int i,.str b,hn,x,y,u,v,A,hd,he,ru,rv,hu=>by
   rw[DAtK]at hd;rw[DAtK]at he;subst hd he;obtain⟨t,rfl⟩:=ru;obtain⟨t',rfl⟩:=rv;rw[c! (λz=>by cases z)];exact EqAt.int_str i t b t'
 | n+1,.int i,.tup es,hn,x,y,u,v,A,hd,he,ru,rv,hu=>by
   rw[DAtK]at hd;rw[DAtK]at he;obtain⟨a,vs,rfl,ha,_⟩:=he;subst hd;obtain⟨t,rfl⟩:=ru;cases rv;obtain⟨its,_,p,_⟩:=I.tuple (ha.sq);rw[c! (λz=>by cases z)];exact EqAt.int_tuple i t (show s.1.IsTuple a its.toArray from p) (by omega)
 | n+1,.str b,.int j,hn,x,y,u,v,A,hd,he,ru,rv,hu=>by
   rw[DAtK]at hd;rw[DAtK]at he;subst hd he;obtain⟨t,rfl⟩:=ru;obtain⟨t',rfl⟩:=rv;rw[c! (λz=>by cases z)];exact EqAt.str_int b t j t'
 | n+1,.str b,.str c,hn,x,y,u,v,A,hd,he,ru,rv,hu=>by
   rw[DAtK]at hd;rw[DAtK]at he;subst hd he;obtain⟨t,rfl⟩:=ru;obtain⟨t',rfl⟩:=rv
   have e:decide (Dv.str b=Dv.str c)=(b == c):=by
    by_cases h:b=c
    .subst h;simp
    .rw[c! (λz=>h (Dv.str.inj z))];simp[h]
   rw[e];exact EqAt.str_str b t c t'
 | n+1,.str b,.tup es,hn,x,y,u,v,A,hd,he,ru,rv,hu=>by
   rw[DAtK]at hd;rw[DAtK]at he;obtain⟨a,vs,rfl,ha,_⟩:=he;subst hd;obtain⟨t,rfl⟩:=ru;cases rv;obtain⟨its,_,p,_⟩:=I.tuple (ha.sq);rw[c! (λz=>by cases z)];exact EqAt.str_tuple b t (show s.1.IsTuple a its.toArray from p) (by omega)
 | n+1,.tup ds,.int j,hn,x,y,u,v,A,hd,he,ru,rv,hu=>by
   rw[DAtK]at hd;rw[DAtK]at he;obtain⟨a,vs,rfl,ha,_⟩:=hd;subst he;cases ru;obtain⟨t,rfl⟩:=rv;obtain⟨its,_,p,_⟩:=I.tuple (ha.sq);rw[c! (λz=>by cases z)];exact EqAt.tuple_int j t (show s.1.IsTuple a its.toArray from p) (by omega)
 | n+1,.tup ds,.str b,hn,x,y,u,v,A,hd,he,ru,rv,hu=>by
   rw[DAtK]at hd;rw[DAtK]at he;obtain⟨a,vs,rfl,ha,_⟩:=hd;subst he;cases ru;obtain⟨t,rfl⟩:=rv;obtain⟨its,_,p,_⟩:=I.tuple (ha.sq);rw[c! (λz=>by cases z)];exact EqAt.tuple_str b t (show s.1.IsTuple a its.toArray from p) (by omega)
 | n+1,.tup ds,.tup es,hn,x,y,u,v,A,hd,he,ru,rv,hu=>by
   have EN:=hd;have IU:=he;rw[DAtK]at hd;rw[DAtK]at he;obtain⟨a,vs,rfl,ha,FN⟩:=hd;obtain⟨b,ws,rfl,hb,AS⟩:=he;cases ru;cases rv;by_cases IV:a=b
   .subst IV;rw[d! (DAtK.inj I EN IU)];exact EqAt.same _
   rw[Dv.tot]at hn;rw[Dv.deep]at hu;refine EqAt.of_refs IV (mw I ha.sq hb.sq FN AS (by omega) λj d e x' y' u' v' e1 dx dy J3 FO=>?_);have q1:=rK e1;have q2:=fL e1;refine kG I n d e (by omega) x' y' u' v' A.in1 dx dy J3 FO ?_;show A.units+1+_<Zs;omega
end L2
namespace BB
open PySem PySem.Spec PyProof.Rows L2
mutual
theorem DAt.inj:∀{d e:Dv}{v:V},DAt H d v->DAt H e v->d=e
 |.int i,.int j,v,h,g=>by rw[DAt]at h;rw[DAt]at g;rw[h]at g;cases g;rfl
 |.int i,.str y,v,h,g=>by rw[DAt]at h;rw[DAt]at g;rw[h]at g;cases g
 |.int i,.tup es,v,h,g=>by rw[DAt]at h;rw[DAt]at g;obtain⟨a,vs,e,_⟩:=g;rw[h]at e;cases e
 |.str x,.int j,v,h,g=>by rw[DAt]at h;rw[DAt]at g;rw[h]at g;cases g
 |.str x,.str y,v,h,g=>by rw[DAt]at h;rw[DAt]at g;rw[h]at g;cases g;rfl
 |.str x,.tup es,v,h,g=>by rw[DAt]at h;rw[DAt]at g;obtain⟨a,vs,e,_⟩:=g;rw[h]at e;cases e
 |.tup ds,.int j,v,h,g=>by rw[DAt]at h;rw[DAt]at g;obtain⟨a,vs,e,_⟩:=h;rw[e]at g;cases g
 |.tup ds,.str y,v,h,g=>by rw[DAt]at h;rw[DAt]at g;obtain⟨a,vs,e,_⟩:=h;rw[e]at g;cases g
 | .tup ds,.tup es,v,h,g=>by
   rw[DAt]at h;rw[DAt]at g;obtain⟨a,vs,e1,h1,h2⟩:=h;obtain⟨b,ws,e2,g1,g2⟩:=g;rw[e1]at e2;cases e2;rw[h1]at g1;cases g1;rw[DAts.inj h2 g2]
theorem DAts.inj:∀{ds es:List Dv}{vs:List V},DAts H ds vs->DAts H es vs->ds=es
 | [],[],vs,h,g=>rfl
 | [],e::es,vs,h,g=>by rw[DAts]at h;rw[DAts]at g;obtain⟨v,r,z,_⟩:=g;rw[h]at z;cases z
 |d::ds,[],vs,h,g=>by rw[DAts]at h;rw[DAts]at g;obtain⟨v,r,z,_⟩:=h;rw[g]at z;cases z
 | d::ds,e::es,vs,h,g=>by
   rw[DAts]at h;rw[DAts]at g;obtain⟨v,r,z,h1,h2⟩:=h;obtain⟨v',r',z',g1,g2⟩:=g;rw[z]at z';cases z';rw[DAt.inj h1 g1,DAts.inj h2 g2]
end
end BB
namespace L2
open PySem PySem.Spec PySem.SeqAt PyProof.Rows BB
open Classical in
theorem qV(I:Inv X Z Y H s):∀(n:Nat)(d e:Dv),d.tot<=n->∀(x y:V)(u v:WW)(A:XN),DAt H d x->DAt H e y->RelV x u->RelV y v->A.units+d.deep<Zs->EqAt A s u v (decide (d=e)):=λn d e hn x y u v A hd he=>kG I n d e hn x y u v A hd.k he.k
def zC(K:WX)(B:Nat):R2:=λx y H Q=>∃a b vs ws ds es,x=.ref a/\y=.ref b/\SqT K H a vs/\SqT K H b ws/\DAts H ds vs/\DAts H es ws/\bY ds<=B/\∀b:Bool,(b=true↔ds=es)->Q (.bl b) H
open Classical in
theorem xE{B:Nat}(hu:X.A.units+B+2<Zs):OpR X (ZQ .Eq) (zC X.K B):=by
 intro Z s Y H x y v u Q I rx ry h;obtain⟨a,b,vs,ws,ds,es,rfl,rfl,ha,hb,FN,AS,hB,q⟩:=h;cases rx;cases ry
 have r:RcAt X.A s (.ref a) (.ref b) (decide (Dv.tup ds=Dv.tup es)):=mw I ha hb FN.k AS.k (by omega) λj d e x' y' u' v' e1 dx dy J3 FO=>by
  have q2:=fL e1;refine kG I _ d e (W2 _) x' y' u' v' X.A.in1 dx dy J3 FO ?_;show X.A.units+1+_<Zs;omega
 refine r X.prog X.w X.xe _ ⟨.bl (decide (Dv.tup ds=Dv.tup es)),H,I,rfl,q _ ?_⟩;constructor
 .intro z;exact Dv.tup.inj (e! z)
 .intro z;rw[z];exact d! rfl
end L2
namespace BB
open PySem L2
theorem mO:∀{ks:List Th}{i:Nat}{w x:Th},ks[i]?=some w->au (ks.set i x)+w.size=au ks+x.size
 | [],i,w,x,h=>by simp at h
 | k::ks,0,w,x,h=>by
   simp at h;subst h;rw[List.set_cons_zero,au,au];omega
 | k::ks,i+1,w,x,h=>by
   have:=mO (ks:=ks) (i:=i) (w:=w) (x:=x) (by simpa using h);rw[List.set_cons_succ,au,au];omega
end BB
namespace PySem
theorem bb_extendT(l:WT)(items:Array WW)(n:Nat)(b:WT)(B3:Array WW)(n2:Nat)(dd:Option WT)(sl:Array (Option WW))(g0:¬(!items.isEmpty && Y8 (items.size+B3.size))=true)(g1:items.size<=Xh)(g2:items.size+B3.size<=Xh+1) :
 Meets (Zp.«list.extend» ⟨[.ref l,.ref b],[]⟩) (λ_ R s=>s.1.get? l=some {cls:=.type "list",dict:=none,data:=.seq items n,slots:=#[]}/\s.1.get? b=some {cls:=.type "tuple",dict:=dd,data:=.seq B3 n2,slots:=sl}/\R (.ok (.ret Yj)) {s with heap:=s.1.update l (Zf λx=>x++B3),toks:=s.toks}) :=
 .of_wp λprog w A R s h=>by
  obtain⟨hp,g,d,tk,os⟩:=s;obtain⟨hl,hb,h⟩:=h;have f1:=AutoSeq1.idx_int;have f2:=AutoSeq1.sub_tuple_tuple;have f3:=AutoSeq1.sub_list_list;have f4:=AutoSeq1.sub_tuple_list;have f5:=AutoSeq1.sub_list_tuple;have z2:(items++B3).size<=Xh+1:=by rw[Array.size_append];exact g2
  wp_walk using(wpAny_updateSeq hl rfl (hz:=g1) (_hz':=z2)),Y9 hl,Y9 hb
  exact⟨_,rfl,h⟩
end PySem
namespace L2
open PySem PySem.Spec PyProof.Rows
def uQ(K:WX):V->List V->Hp->VK->Prop:=λx vs H Q=>∃l b xs zs,x=.ref l/\vs=[.ref b]/\H l=some (.lst xs)/\SqT K H b zs/\xs.length+zs.length<=Xh/\Q .non (upd H l (.lst (xs++zs)))
theorem lb:MtM X "list.extend" (uQ X.K):=by
 intro Z s Y H x vs v us Q I rx rv h;obtain⟨l,b,xs,zs,rfl,rfl,hH,hB,hz,q⟩:=h;cases rx;obtain⟨u,rfl,ru⟩:=rv.one;cases ru;obtain⟨z,its,n,r,hl,e⟩:=I.lstM hH;obtain⟨Al,r2,p2,_⟩:=I.tuple hB;have BI:=r2.length;obtain⟨⟨JP,IM,data2,IP⟩,e2,DB,n2,hd2⟩:=p2;simp only at DB hd2;subst DB hd2;have hsz:its.toArray.size+Al.toArray.size<=Xh:=by rw[Xa,Xa];omega
 have CJ:¬(!its.toArray.isEmpty && Y8 (its.toArray.size+Al.toArray.size))=true:=by
  rw[lE hsz,Bool.and_false];exact Xn
 refine call_meets F.slot_list_extend ⟨_,e,rfl⟩ F.entry_list_extend (F.args_list_extend_2 _ _)
  (bb_extendT l its.toArray n b Al.toArray n2 IM IP CJ (by rw[Xa];omega) (by omega)) ⟨e,e2,?_⟩
 refine⟨.non,_,I.lset (its':=its++Al) hH e (by simp) (r.append r2) ?_,rfl,q⟩;rw[W6];omega
end L2
namespace BB
open PySem L2
theorem fz:∀a b:List Th,aB (a++b)=max (aB a) (aB b)
 | [],b=>by rw[ZS,aB];omega
 |t::a,b=>by rw[Y0,aB,aB,fz a b];omega
def br(ts:List Th):List Th:=(ts.map Th.kids).flatten
theorem cP(t:Th)(ts:List Th):br (t::ts)=t.kids++br ts:=by unfold br;rw[XH,Z2]
theorem gv(a b:List Th):br (a++b)=br a++br b:=by unfold br;rw[W9,List.flatten_append]
theorem fu:∀ts:List Th,au (br ts)+ts.length=au ts
 | []=>by rfl
 | t::ts=>by
   have:=fu ts;have:=t.size_eq;rw[cP,bf,W8,au];omega
theorem iO:∀{ts:List Th},ts≠[]->aB ts=aB (br ts)+1
 | [],h=>g! rfl h
 | [t],_=>by
   have:=t.tall_eq;rw[cP,fz,aB,aB];have:aB (br [])=0:=by unfold br;rw[ZA,List.flatten_nil,aB]
   omega
 | t::u::ts,_=>by
   have h:=iO (ts:=u::ts) (by simp);have:=t.tall_eq;rw[cP,fz,aB];omega
def star:Xk:=WU "*"
theorem u5(h:Low x):x≠star:=by
 intro e;subst e;have:=h 42 (by decide +kernel);omega
open Classical in
def Th.isHole:Th->Bool
 |.knot n ks=>decide (n=star/\ks=[])
 |.call _ _=>false
def Th.isKnot(t:Th):Bool:=!t.isCall && !t.isHole
end BB
namespace PySem
open Sem (wp)
namespace F
theorem bb_entry_upd:entryFor table "dict.update.loop"=some Zp.«dict.update.loop»:=entryFor_of_tree (by kernel_rfl)
theorem bb_plain_upd:plainId "dict.update.loop"=true:=by decide +kernel
end F
section
variable{xs:Array WW}{k:Nat}
end
end PySem
open PySem.F renaming bb_plain_upd->u!,bb_entry_upd->F!
namespace L2
open PySem PySem.Spec PyProof.Rows BB
end L2
namespace BB
open PySem L2
end BB
namespace HT
open PySem PySem.Spec PyProof.Rows
theorem getItem_tuple_whole{t:WT}(ht:IsTup s.1 t items)(hs:s.1.IsSliceOf sl vl vu .none)(pl:IsPart vl lo)(pu:IsPart vu hi)
 (hw:sIx items.size 0 lo=0/\sIx items.size items.size hi=items.size) (h:Q (.ref t) s):Xd (Xx prog w) A (getItem (.ref t) (.ref sl)) Q E s:=by
 obtain⟨os,BH,CI,CB⟩:=id hs;have JQ:s.TypeIs (.ref sl) "slice":=⟨os,BH,CI⟩;have hT:s.TypeIs (.ref t) "tuple":=ht.typeIs;unfold getItem
 try with_reducible refine Yl ?_
 first|refine WN (W0 ?_)|skip
 refine WN (wpAny_sequenceKey ht.typeIs (by decide) ?_)
 refine WN (X0 (name:=WU "__getitem__") ht.typeIs XZ
  (X7 XZ ht.typeIs entry_tuple_getitem ?_ (args_tuple_getitem _ _)))
 show Xd _ _ (Builtin.Tuple.tupleItemsOf (.ref t) >>= _) _ _ s;refine WN (tupleItemsOf_ ht ?_);refine WN (ZH JQ ?_);rw[b! (by decide)];refine WN (sliceApplied_gen hs pl pu ?_)
 have N1:(((sIx items.size 0 lo:Nat):Int) == 0 && (1:Int) == 1 && (sIx items.size items.size hi - sIx items.size 0 lo) == items.size)=true:=by
  rw[hw.1,hw.2];simp
 show Xd _ _ (if(((sIx items.size 0 lo:Nat):Int) == 0 && (1:Int) == 1 && (sIx items.size items.size hi - sIx items.size 0 lo) == items.size)=true then _ else _) _ _ s;rw[b! N1];refine WN (m:=Builtin.Tuple.tupleIsExact _) ?_;unfold Builtin.Tuple.tupleIsExact;refine WN (ZH hT (W0 ?_));rw[b! (by decide)];exact WN (wpAny_rule (W0 ⟨_,rfl,W0 h⟩))
end HT
namespace L2
open PySem PySem.Spec PyProof.Rows
inductive w6(x:V)(lo:Option Int)(hi:Option Int)(H:Hp)(Q:VK):Prop
 |mk (a:_) (xs:_) (Aq:x=.ref a) (Ar:H a=some (.tup xs)) (Ax:∀p H',Same H H'->H' p=some (.tup (cR xs lo hi))->Q (.ref p) H'):w6  x lo hi H Q
def zE:V->Option Int->Option Int->Hp->VK->Prop:=w6
theorem qP:SlR X zE:=by
 intro Z s Y H x v vl vu lo hi sl Q I rx hs pl pu h;obtain⟨a,xs,rfl,ha,q⟩:=h;by_cases hw:t! xs.length 0 lo=0/\t! xs.length xs.length hi=xs.length
 .obtain⟨its,r,p1,hz⟩:=I.tuple (k! (K:=X.K) ha);have hl:=r.length;cases rx
  have e:cR xs lo hi=xs:=by
   unfold cR;rw[hw.1,hw.2,Zk,Nat.sub_zero,Zg]
  refine⟨"tuple",_,XZ.lookup,p1.typeIs,HT.getItem_tuple_whole p1 hs pl pu (by rw[Xa,<-hl];exact hw) ⟨.ref a,H,I,rfl,q a H (.refl _) (by rw[e];exact ha)⟩⟩
 .exact dX Z s Y H _ v vl vu lo hi sl Q I rx hs pl pu ⟨a,xs,rfl,k! ha,hw,λp hp=>q p _ (aj hp _) ad⟩
end L2
namespace PySem
open Sem (wp)
section
variable{od:YF}{es:Array DictEntry}
theorem bb_keyNext{en:DictEntry}{Q:Option WW->W3->Prop}(g:s.1.IsKeyIter it d i es.size ep)(g1:s.1.get? d=some od)(g2:od.data=.dict es ep)(hx:es[i]?=some en)
 (fin:∀h',h'.IsKeyIter it d (i+1) es.size ep->X5 it s.1 h'->Q (some en.key) {s with heap:=h'}):Xd (Xx prog w) A (Z6 (.ref it)) Q E s:=by
 obtain⟨o,q1,q2,q3⟩:=id g;unfold Z6;refine WN (wpAny_attempt (X0 (name:=WU "__next__") g.typeIs Zh (X7 Zh g.typeIs F.entry_dict_keyiterator_next ?_ (F.args_dict_keyiterator_next_1 _))));refine WN (W0 ?_);refine WN ?_;refine WN ?_
 first|refine WN (ZY g.typeIs (W0 ?_))|refine WN (wpAny_typeNameOf_keyiter g.typeIs (W0 ?_))
 refine WN (wpAny_fieldsOf q1 q3 ?_);have own:Zi "dict_keyiterator"=false:=by decide
 simp only[own,Y1,if_false];show Xd _ _ (if(XO d == Yj)=true then _ else _) _ _ s;rw[a! (show¬((XO d == Yj)=true)from Xn)];refine WN (W0 ?_);refine WN (Zb g1 g2 ?_);rw[a! (by simp)];refine WN (W0 ?_);refine WN (wpAny_dictEpoch g1 g2 ?_);rw[a! (by simp)];refine W0 ?_;have lt:i<es.size:=(Array.getElem?_eq_some_iff.mp hx).1;have ee:es[i]=en:=(Array.getElem?_eq_some_iff.mp hx).2;simp only[show¬((i:Int)<0)from by omega,if_false,YH,Array.getElem?_eq_getElem lt];refine WN ?_
 first|refine WN (ZY g.typeIs (W0 ?_))|refine WN (wpAny_typeNameOf_keyiter g.typeIs (W0 ?_))
 refine WN (wpAny_isOneOf_keyiter g.typeIs ?_);show Xd _ _ (setField (.ref it) 1 (Y6 ((i:Int)+1)) >>= _) _ _ s;refine WN (wpAny_setField q1 q3 (by simp) ?_);have g':(s.1.update it (Obj.mapFields (·.setIfInBounds 1 (Y6 ((i:Int)+1))))).IsKeyIter it d (i+1) es.size ep:=⟨_,YL _ q1 (Obj.isFreed_of_fields (Obj.data_mapFields q3 _)),(Obj.cls_mapFields ..).trans q2,by rw[Obj.data_mapFields q3];simp[Y6]⟩;refine WN (Yl ?_);refine WN (wpAny_isOneOf_keyiter (s:={s with heap:=s.1.update it (Obj.mapFields (·.setIfInBounds 1 (Y6 ((i:Int)+1))))}) g'.typeIs ?_);show Xd _ _ (pure es[i].key) _ _ _;rw[ee];exact W0 (W0 ⟨_,rfl,W0 (fin _ g' (YY ..))⟩)
theorem bb_keyEnd{Q:Option WW->W3->Prop}(calm:A.handled=none)(g:s.1.IsKeyIter it d i es.size ep)(g1:s.1.get? d=some od)(g2:od.data=.dict es ep)(hx:es.size<=i)
 (fin:∀h',Heap.ExtBut it s.1 h'->Q none {s with heap:=h'}):Xd (Xx prog w) A (Z6 (.ref it)) Q E s:=by
 obtain⟨o,q1,q2,q3⟩:=id g;unfold Z6;refine WN (wpAny_attempt (X0 (name:=WU "__next__") g.typeIs Zh (X7 Zh g.typeIs F.entry_dict_keyiterator_next ?_ (F.args_dict_keyiterator_next_1 _))));refine WN (W0 ?_);refine WN ?_;refine WN ?_
 first|refine WN (ZY g.typeIs (W0 ?_))|refine WN (wpAny_typeNameOf_keyiter g.typeIs (W0 ?_))
 refine WN (wpAny_fieldsOf q1 q3 ?_);have own:Zi "dict_keyiterator"=false:=by decide
 simp only[own,Y1,if_false];show Xd _ _ (if(XO d == Yj)=true then _ else _) _ _ s;rw[a! (show¬((XO d == Yj)=true)from Xn)];refine WN (W0 ?_);refine WN (Zb g1 g2 ?_);rw[a! (by simp)];refine WN (W0 ?_);refine WN (wpAny_dictEpoch g1 g2 ?_);rw[a! (by simp)];refine W0 ?_;simp only[show¬((i:Int)<0)from by omega,if_false,YH,Array.getElem?_eq_none hx];refine WN ?_
 first|refine WN (ZY g.typeIs (W0 ?_))|refine WN (wpAny_typeNameOf_keyiter g.typeIs (W0 ?_))
 show Xd _ _ (setField (.ref it) 0 .none >>= _) _ _ s;refine WN (wpAny_setField q1 q3 (by simp) ?_);show Xd _ _ (newExc (.type "StopIteration") [] >>= _) _ _ _;refine WN ?_;simp only[newExc,newTuple];refine WN (XW ?_ (by size_fits));refine WN (m:=firstArgMember _ _) (wpAny_of_eq (a:=Yj) (by first|rfl|(simp only[firstArgMember];rfl)) ?_);refine XW ?_ (by size_fits);simp only[raiseNew];refine WN (wpAny_handled ?_)
 first|rw[show A.in1.handled=none from calm]|rw[calm]
 refine WN (W0 (wpAny_throw ?_));refine WN (wpAny_isInstance (T:="StopIteration") (b:=true) ⟨_,W4 _ rfl,rfl⟩ isSubtype_stop ?_);exact W0 (fin _ (((YY ..).extBut.push _).push _))
theorem bb_keyIter(ns:(d == YC)=false)(g1:s.1.get? d=some od)(gc:od.cls=.type "dict")(g2:od.data=.dict es ep)
 (fin:Q (.ref s.1.1.size) {s with heap:=s.1.push {cls:=.type "dict_keyiterator",data:=.fields #[.ref d,.int 0 0,.int es.size 0,.int ep 0]}}):Xd (Xx prog w) A (pyIter (.ref d)) Q E s:=by
 have gT:s.TypeIs (.ref d) "dict":=⟨_,g1,gc⟩;refine wpAny_pyIter_slot gT F.slot_dict_iter (X7 F.slot_dict_iter gT F.entry_dict_iter ?_ (F.args_dict_iter_1 _));unfold Zp.«dict.__iter__»;refine WN ?_;unfold Builtin.Dict.dictSlotNone;refine WN (wpAny_notOrdered_dict gT ?_);show Xd _ _ (pure (XO d)) _ _ s;refine W0 ?_;show Xd _ _ (Builtin.Dict.showsAll d >>= _) _ _ s;unfold Builtin.Dict.showsAll;rw[a! (by rw[ns];exact Xn)];refine WN (W0 ?_);refine WN (Zb g1 g2 ?_);refine WN (wpAny_dictEpoch g1 g2 ?_);refine WN (XW (W0 ⟨_,rfl,"dict_keyiterator",_,⟨_,W4 _ rfl,rfl⟩,Zh.lookup,?_⟩));simpa[Y6]using fin
end
end PySem
namespace L2
open PySem PySem.Spec PyProof.Rows
theorem Inv.freeze{o:YF}(I:Inv X Z Y H s)(ha:H a=some (.dT kvs))(ho:s.1.get? a=some o):Inv X Z Y (upd H a (.frz o (.dT kvs))) s:=by
 have ne:∀b u,H b=some u->u≠.dT kvs->b≠a:=λb u e d z=>by rw[z,ha]at e;exact d (Xf e).symm
 have ht:∀b xs,H b=some (.tup xs)->upd H a (.frz o (.dT kvs)) b=some (.tup xs):=λb xs e=>by rw[af (ne b _ e (by intro z;cases z))];exact e
 have hw:∀c b,H b=some (.own c)->upd H a (.frz o (.dT kvs)) b=some (.own c):=λc b e=>by rw[af (ne b _ e (by intro z;cases z))];exact e
 have st:∀b u,H b=some u->ObjOk X.prog X.w (upd H a (.frz o (.dT kvs))) s.1 b u:=λb u e=>(I.hok b u e).stay (λ_ _ _ q=>q) (hw b) ht;refine I.step (g':=s.gens) (d':=s.drawn) (t':=s.toks) (ch:=[]) (λ_ z=>nomatch z) (λb ob _ _ _ e _=>e) (λb ob _ _ _ e _=>⟨ob.slots,e⟩) (λb ob _ e n=>?_) (λb ob _ e=>⟨ob,e⟩) ht (λb ob u e=>?_) (λb ps e=>⟨#[],?_⟩) (λm hm=>hm) (λb u e=>?_) I.bare
 .rw[af (λz=>by rw[z,ha]at n;cases n)];exact n
 .rw[af (ne b _ e (by intro z;cases z))];exact e
 .rw[af (ne b _ e (by intro z;cases z)),e];simp
 .by_cases hb:b=a
  .subst hb;rw[ad]at e;cases e;exact⟨ho,st _ _ ha⟩
  .rw[af hb]at e;exact st b u e
def ItD(a:WT)(o:YF):It:=⟨λi H=>∃kvs p,H a=some (.frz o (.dT kvs))/\kvs[i]?=some p,λi H x H'=>H'=H/\∀kvs,H a=some (.frz o (.dT kvs))->∃p b,kvs[i]?=some p/\x=.ref b/\H b=some (.tup (p.1.map kV)),λi H=>∃kvs,H a=some (.frz o (.dT kvs))/\kvs.length=i⟩
theorem sJ(a it:WT)(o:YF)(es:Array DictEntry)(ep:Nat)(hd:o.data=.dict es ep):Turn P w K tg (ItD a o) [it] it (λi h=>h.IsKeyIter it a i es.size ep) where
 mem:=by simp
 obj:=λi h st b hb=>by
  have e:b=it:=by simpa using hb
  subst e;obtain⟨ob,e,c,d⟩:=st;exact⟨ob,e,λv z=>by rw[d]at z;cases z⟩
 keep:=λi h h' st k=>st.at λob e=>k it (by simp) ob e
 item:=by
  intro X hP hw hK hc i Z s Y H E I hf st hg;subst hP hw hK;obtain⟨kvs,p,hq,hx⟩:=hg;obtain⟨e0,z,y,xs,r,o',Gr,Gs,h1,h2,h3,h4,h5⟩:=(show ObjOk X.prog X.w H s.1 a (.frz o (.dT kvs))from I.hok a _ hq);rw[e0]at h1;cases h1;rw[hd]at h3;cases h3;obtain⟨q',FH,hr⟩:=y! r hx;have N2:es[i]?=some (entryOfKey (tupleKind (aT X.prog X.w)) q'):=by rw[<-ZX,h4,Xj,FH];rfl
  obtain⟨f0,f1,f2,f3,f4,f5⟩:=hf it (by simp);refine bb_keyNext st e0 hd N2 λh' B8 sb=>?_;have I1:Inv X Z Y H {s with heap:=h'}:=I.turned (t':=s.toks) (λb ob hb e=>(sb.2 b hb).trans e) f0 f1 f3 f4 f5;obtain⟨ob,e,c,d⟩:=id B8;refine⟨_,rfl,nw (s:={s with heap:=h'}) e c d (by decide) ⟨.ref q'.2.1,H,I1,rfl,⟨rfl,λVC BD=>?_⟩,B8,λb hb=>(hf b hb).1⟩⟩;rw[hq]at BD;cases BD;exact⟨p,q'.2.1,hx,rfl,hr.2.1⟩
 done:=by
  intro X hP hw hK hc i Z s Y H E I hf st hg;subst hP hw hK;obtain⟨kvs,hq,hx⟩:=hg;obtain⟨e0,z,y,xs,r,o',Gr,Gs,h1,h2,h3,h4,h5⟩:=(show ObjOk X.prog X.w H s.1 a (.frz o (.dT kvs))from I.hok a _ hq);rw[e0]at h1;cases h1;rw[hd]at h3;cases h3;have hl:=W5 r
  have BI:es.size=xs.length:=by
   have:=h! Ze h4;rw[WO,Xp]at this;exact this
  obtain⟨f0,f1,f2,f3,f4,f5⟩:=hf it (by simp);exact bb_keyEnd (I.ok.hd hc) st e0 hd (by omega) λh' eb=>⟨rfl,I.turned (t':=s.toks) (λb ob hb e=>eb b ob hb e) f0 f1 f3 f4 f5⟩
 self:=λ_ _ _ _ _ st h=>wpAny_pyIter_keyiter st h
def y8(tl:TE):TI:=λY H R=>tl Y H λx H1=>∃a kvs,x=.ref a/\H1 a=some (.dT kvs)/\∀o,R (ItD a o) (upd H1 a (.frz o (.dT kvs)))
theorem wA(he:PE X e te):PI X tg e (y8 te):=by
 intro Z s Y H R I h;refine thn (he Z s Y H _ I h) λv s1⟨x,H1,I1,r1,a,kvs,ex,ha,q⟩=>?_;subst ex;cases r1;obtain⟨z,y,xs,r,o,es,ep,h1,h2,h3,h4,h5⟩:=(show ObjOk X.prog X.w H1 s1.1 a (.dT kvs)from I1.hok a _ ha);have I2:=I1.freeze ha h1;refine bb_keyIter y h1 h2.1 h3 ?_;refine⟨s1.1.1.size,[s1.1.1.size],_,_,upd H1 a (.frz o (.dT kvs)),rfl,I2.kept (t':=s1.toks) λb ob e=>WV _ e,sJ a _ o es ep h3,⟨_,W4 _ rfl,rfl,rfl⟩,λb hb=>?_,q o⟩;have e:b=s1.1.1.size:=by simpa using hb
 subst e;exact I2.fpOk (W2 _) (I2.hok.fresh (W2 _))
theorem vf{o:YF}(Pv:Nat->St->Hp->Prop)(h0:Pv 0 Y H)(hl:∀i Y H,i<=kvs.length->Pv i Y H->H a=some (.frz o (.dT kvs)))
 (hs:∀i p b Y H,kvs[i]?=some p->H b=some (.tup (p.1.map kV))->Pv i Y H->g (.ref b) Y H λAk H2=>tb {D with nx:=Pv (i+1),ct:=Pv (i+1),bk:=D.nx} Ak H2) (hd:∀Y H,Pv kvs.length Y H->D.nx Y H) :
 ∃W:Nat->Nat->St->Hp->Prop,(∃m,W 0 m Y H)/\∀i m Y H,W i m Y H ->
   ((ItD a o).stop i H/\D.nx Y H)\/((ItD a o).go i H/\∃N:St->Hp->Prop,(∀i' H',N i' H'->∃m',m'<m/\W (i+1) m' i' H')/\∀x H',(ItD a o).yld i H x H'->g x Y H' λAk H2=>tb {D with nx:=N,ct:=N,bk:=D.nx} Ak H2):=by
 refine⟨λi m Y H=>m=kvs.length - i/\i<=kvs.length/\Pv i Y H,⟨kvs.length,by simp,XB _,h0⟩,?_⟩;rintro i m Y H ⟨rfl,hi,p⟩;have q:=hl i Y H hi p;by_cases Ae:i<kvs.length
 .refine .inr ⟨⟨kvs,kvs[i],q,WS Ae⟩,Pv (i+1),λi' H' p'=>⟨kvs.length - (i+1),by omega,rfl,Ae,p'⟩,λx H' y=>?_⟩;obtain⟨e,y⟩:=y;subst e;obtain⟨p1,b,e1,rfl,e2⟩:=y kvs q;exact hs i p1 b Y _ e1 e2 p
 .have e:i=kvs.length:=by omega
  subst e;exact .inl ⟨⟨kvs,q,rfl⟩,hd Y H p⟩
end L2
namespace BB
open PySem L2
inductive Top where
 |nm (n:Xk) (m:Nat)
 |th (t:Th)
def bl:List Top->List Th
 | []=>[]
 |.nm n m::S=>.knot n ((bl S).take m)::(bl S).drop m
 |.th t::S=>t::bl S
def TopsOk:List Top->Prop
 | []=>True
 |.nm _ m::S=>m<=(bl S).length/\TopsOk S
 |.th _::S=>TopsOk S
theorem TopsOk.drop:∀{l:List Top}(i:Nat),TopsOk l->TopsOk (l.drop i)
 |l,0,h=>by rw[Zk];exact h
 | [],i+1,h=>by rw[List.drop_nil];exact h
 | .nm n m::S,i+1,h=>by
   rw[TopsOk]at h;rw[List.drop_succ_cons];exact TopsOk.drop i h.2
 | .th t::S,i+1,h=>by
   rw[TopsOk]at h;rw[List.drop_succ_cons];exact TopsOk.drop i h
theorem qe:∀l:List Top,(bl l).length<=l.length
 | []=>W2 _
 | .nm n m::S=>by
   have:=qe S;rw[bl,W8,W8,XR];omega
 | .th t::S=>by
   have:=qe S;rw[bl,W8,W8];omega
mutual
def Th.fill(f:Int->Int->Th):Th->Th
 |.knot n ks=>.knot n (fills f ks)
 |.call s k=>f s k
def fills(f:Int->Int->Th):List Th->List Th
 | []=>[]
 |t::ts=>t.fill f::fills f ts
end
theorem i7(f:Int->Int->Th):∀ts:List Th,(fills f ts).length=ts.length
 | []=>by rw[fills]
 |t::ts=>by rw[fills,W8,W8,i7 f ts]
def cT(f:Int->Int->Th):Th->Top
 |.knot n ks=>.nm n ks.length
 |.call s k=>.th (f s k)
theorem iL(f:Int->Int->Th):∀(n:Nat)(ts:List Th),au ts<=n->∀S,bl ((walks ts).map (cT f)++S)=fills f ts++bl S/\(TopsOk S->TopsOk ((walks ts).map (cT f)++S))
 |_,[],_,S=>by rw[walks,fills];exact⟨rfl,λh=>h⟩
 | 0,t::ts,hn,S=>by
   have:=t.size_pos;rw[au]at hn;omega
 | n+1,t::ts,hn,S=>by
   have hs:=t.size_eq;rw[au]at hn;have h2:=iL f n ts (by omega) S;have e:(walks (t::ts)).map (cT f)++S=cT f t::((walks t.kids).map (cT f)++((walks ts).map (cT f)++S)):=by rw[walks,t.walk_eq];simp
   have h1:=iL f n t.kids (by omega) ((walks ts).map (cT f)++S);rw[e];cases t with
   | knot nm ks =>
     simp only[Th.kids]at h1 |-;refine⟨?_,λhS=>?_⟩
     .show bl (.nm nm ks.length::_)=_;rw[bl,h1.1,h2.1,<-i7 f ks,List.take_left,List.drop_left,fills,Th.fill];rfl
     .show TopsOk (.nm nm ks.length::_);rw[TopsOk];refine⟨?_,h1.2 (h2.2 hS)⟩;rw[h1.1,W6,i7];exact YN _ _
   | call s k =>
     simp only[Th.kids,walks,ZA,ZS]at h1 |-;refine⟨?_,λhS=>?_⟩
     .show bl (.th (f s k)::_)=_;rw[bl,h2.1,fills,Th.fill];rfl
     .show TopsOk (.th (f s k)::_);rw[TopsOk];exact h2.2 hS
theorem wP(f:Int->Int->Th)(t:Th):bl (t.walk.map (cT f))=[t.fill f]/\TopsOk (t.walk.map (cT f)):=by
 have h:=iL f _ [t] (W2 _) [];have e:walks [t]=t.walk:=by simp[walks]
 rw[e,Yz]at h;refine⟨?_,h.2 (by rw[TopsOk];trivial)⟩;rw[h.1,fills,fills,bl];rfl
theorem rq(x:V)(xs:List V):cR (x::xs) none (some 1)=[x]:=by
 unfold cR;rw[show(some (1:Int))=some ((1:Nat):Int)from rfl,x!,J!,W8,Nat.min_eq_left (by omega)];rfl
end BB
namespace PySem
open Sem (wp)
end PySem
namespace L2
open PySem PySem.Spec PyProof.Rows BB
end L2
namespace BB
open PySem L2
theorem k9{k:Nat}(hr:L2.Room k A):A.units+150+2<Zs:=by
 have:=hr.un;omega
theorem ox{B:Nat}:∀{fs ks:List Th},Xz (λf t=>w! f<=t.size * B) fs ks->au fs<=au ks * B
 |_,_,.nil=>by rw[au];exact XB _
 | _,_,.cons r h=>by
   have:=ox h;rw[au,au,Nat.add_mul];omega
theorem mB(t:Th):∀n:Nat,au (Xr n t)=n * t.size
 |0=>by rw[List.replicate_zero,au,Nat.zero_mul]
 |n+1=>by rw[Yv,au,mB t n,Nat.add_mul];omega
end BB
namespace L2
open PySem PySem.Spec PySem.SeqAt PyProof.Rows BB
end L2
namespace BB
open PySem L2
end BB
namespace L2
open PySem PySem.Spec PySem.SeqAt PyProof.Rows BB
end L2
namespace BB
open PySem L2
end BB
namespace L2
open PySem PySem.Spec PyProof.Rows BB
end L2
namespace BB
open PySem L2
end BB
namespace L2
open PySem PySem.Spec PySem.Calls PyProof.Rows PySem.W
structure jw(K:Frag)(C:WT):Prop where
 exc:excIn K C [.type "ValueError",.type "Exception",.type "BaseException",.type "object"] "ValueError.__new__"=true
 ga:findIn K (.ref C) "__getattribute__"=some (some (.builtin "BaseException.__getattribute__"))
 gt:findIn K (.ref C) "__getattr__"=some none
 cl:findIn K (.ref C) "__class__"=some (some (.builtin "object.__class__"))
 mo:mroIn K C (.type "object")=some true
 mb:mroIn K C (.type "BaseException")=some true
section
variable{g:Array GenState}{d:Drawn}{t:Nat}{os:OsState}{o:YF}{K:Frag}
open Builtin Builtin.ObjectAttr Builtin.Getset_descriptor in
theorem uN{tp:WW}(X:K.In h)(hx:h.get? a=some o)(hc:o.cls=.ref C)(F:jw K C)(hq:R (.ok (.ret (.ref C))) ⟨h,g,d,t,os⟩) :
 Z7 (Xx prog w) A (.call (.builtin "getset_descriptor.__get__") ⟨[.builtin "object.__class__",.ref a,tp],[]⟩) R ⟨h,g,d,t,os⟩:=by
 have L0:Looks (Xx prog w) h (typeOf (.ref a)) (.ref C):=hc ▸ (Looks.ld hx).andThen .now;have L1:=looks_mroIn (M:=Xx prog w) X F.mo;refine codeAny_call_builtin KF.slot_gs.plain KF.entry_gs (KF.slot_gs.check _ _ _ _ _ _ _ _ KF.type_class (KF.args_gs _ _ _) ?_);unfold Zp.«getset_descriptor.__get__» descrGet;rw[dga_obj];refine WN (W0 ?_);unfold descrGetter descrCheckInstance descrNameAndClass isInstance;simp only[KF.owner_class]
 repeat lk
 refine⟨Code.quiet_builtin _ (by decide +kernel),codeAny_builtin KF.entry_class ?_⟩;unfold Zp.«object.__class__» shownTypeOf
 repeat lk
 exact hq
theorem pT{Q:Fin->W3->Prop}(X:K.In h)(hx:h.get? a=some o)(hc:o.cls=.ref C)(F:jw K C)(hq:Q (.done (.ret (.ref C))) ⟨h,g,d,t,os⟩) :
 Xd (Xx prog w) A (Zp.«object.__getattribute__» ⟨[.ref a,.str "__class__" tk],[]⟩) Q E ⟨h,g,d,t,os⟩:=by
 have f5:=PySem.F.typeOf_object_class;have f6:=PySem.F.slot_gs_get.lookup;have f7:=PySem.F.slot_gs_set.lookup;have L1:=looks_findIn (M:=Xx prog w) X F.cl
 repeat (any_goals (first|assumption|(with_reducible refine wpAny_loadPart_at hx ?_;rw[hc])|with_reducible refine L1.at ?_|wp_step))
 refine uN X hx hc F ?_
 repeat (any_goals (first|assumption|wp_step))
theorem qH{GC:WW}{Q:Unit->W3->Prop}(X:K.In h)(hx:h.get? a=some o)(hc:o.cls=.ref C)(F:jw K C)(hq:Q () ⟨h,g,d,t,os⟩) :
 Xd M A (checkBuiltinCall "BaseException.__getattribute__" ⟨[.ref a,GC],[]⟩) Q E ⟨h,g,d,t,os⟩:=by
 have hk:builtinKind "BaseException.__getattribute__"=some .slot:=by decide +kernel
 have Hd:splitId "BaseException.__getattribute__"=some ("BaseException","__getattribute__"):=by decide +kernel
 have ha:=PySem.F.args_bexc_ga (.ref a) GC;have L0:Looks M h (typeOf (.ref a)) (.ref C):=hc ▸ (Looks.ld hx).andThen .now;have L1:=looks_mroIn (M:=M) X F.mb;simp only[checkBuiltinCall,hk,Hd];refine WN ?_
 .unfold isInstance
  repeat (first|with_reducible refine L0.at ?_|with_reducible refine L1.at ?_|wp_step)
  exact hq
theorem tP(X:K.In h)(hx:h.get? a=some o)(hc:o.cls=.ref C)(F:jw K C)(hq:R (.ok (.ret (.ref C))) ⟨h,g,d,t,os⟩) :
 Z7 (Xx prog w) A (.call (.builtin "BaseException.__getattribute__") ⟨[.ref a,.str "__class__" tk],[]⟩) R ⟨h,g,d,t,os⟩ :=
 codeAny_call_builtin PySem.F.attr_ValueError.ga.plain PySem.F.entry_bexc_ga (qH X hx hc F (pT X hx hc F hq))
theorem wn{fill expr:Bool}(X:K.In h)(hx:h.get? a=some o)(hc:o.cls=.ref C)(F:jw K C)(hq:Q (.ref C) ⟨h,g,d,t,os⟩) :
 Xd (Xx prog w) A (getAttrBy (.ref a) (.str "__class__" tk) fill expr) Q E ⟨h,g,d,t,os⟩:=by
 have f3:=PySem.F.attr_ValueError.ga.bind (.ref a);have MC:(expr && onTheHeap (Value.builtin "BaseException.__getattribute__"))=false:=by cases expr <;> rfl
 have N3:(Value.builtin "BaseException.__getattribute__" == Value.builtin "object.__getattribute__")=false:=by decide +kernel
 have hx1:(onTheHeap (XO C) && Value.builtin "BaseException.__getattribute__" == Value.builtin "object.__getattribute__")=false:=by rw[N3];rfl
 have L1:=looks_findIn (M:=Xx prog w) X F.ga;have L2:=looks_findIn (M:=Xx prog w) X F.gt
 repeat (any_goals (first|assumption|(with_reducible refine wpAny_loadPart_at hx ?_;rw[hc])|with_reducible refine L1.at ?_|with_reducible refine L2.at ?_|wp_step))
 refine tP X hx hc F ?_
 repeat (any_goals (first|assumption|wp_step))
theorem sr{Q:Option WW->W3->Prop}(X:K.In h)(hx:h.get? a=some o)(hc:o.cls=.ref C)(F:jw K C)(hq:Q (some (.ref C)) ⟨h,g,d,t+1,os⟩) :
 Xd (Xx prog w) A (getAttr? (.ref a) "__class__") Q E ⟨h,g,d,t,os⟩:=by
 unfold getAttr? getAttrBy?
 repeat (any_goals (first|assumption|with_reducible apply wn X hx hc F|wp_step))
theorem uO(F:jw K C):KitX K (.ref a) (.ref C) (λh=>∃o,h.get? a=some o/\o.cls=.ref C) where
 ty:=λ_ _ _⟨_,hx,hc⟩=>hc ▸ (Looks.ld hx).andThen .now
 it:=λ_ _ X _=>by
  have hb:=F.mb;unfold mroIn clsIn at hb;split at hb
  .rename_i c' d' VD NG ho
   intro A' Q' E' s' k q;unfold isType loadHead;exact WN (wpAny_loadPart (k _ _ (X _ _ ho)) (W0 q))
  .cases hb
 ne:=λh tp dd its n sl X By=>by
  refine Bool.eq_false_iff.mpr λq=>?_;have e:C=tp:=Value.ref.inj (beq_iff_eq.mp q);subst e;have hb:=F.mb;unfold mroIn clsIn at hb;split at hb
  .rename_i c' d' VD NG ho
   have z:=(X _ _ ho).symm.trans By;cases z
  .cases hb
 ca:=λ{_ _ _ _ _ s}X⟨_,hx,hc⟩k=>by obtain⟨h,g,d,t,os⟩:=s;exact sr X hx hc F k
end
def yS:V->WW
 |.ref D=>.ref D
 |.ty n=>.type n
 |_=>.none
def v5(K:Frag)(ea C:WT):List V->Hp->VK->Prop:=λxs H Q=>∃v b,xs=[.ref ea,v]/\kitOne K (.ref C) (yS v)=some b/\Q (.bl b) H
theorem lQ{K:Frag}(hp:(ea,oe)∈X.pn)(hc:oe.cls=.ref C)(F:jw K C)(hK:X.K=K:=by rfl):dq X (.builtin "isinstance") (v5 K ea C):=by
 subst hK;intro Z s Y H xs us Q I r h;obtain⟨v,b,rfl,k,q⟩:=h;obtain⟨u,w',rfl,r1,r2⟩:=vals2 r;cases(show u=XO ea from r1)
 have hv:w'=yS v:=by
  cases v with
  |ref D=>exact r2
  |ty n=>exact r2
  |non=>exact g! k (by intro z;cases z)
  |bl _=>exact g! k (by intro z;cases z)
  |int _=>exact g! k (by intro z;cases z)
  |str _=>exact g! k (by intro z;cases z)
  |byt _=>exact g! k (by intro z;cases z)
  |flt _=>exact g! k (by intro z;cases z)
 subst hv;have hx:=(I.pin (ea,oe) (Xi _ hp)).1;exact kia_one (uO F) I.kIn ⟨oe,hx,hc⟩ k (λz=>nomatch z) λtk=>⟨.bl b,H,I.tok tk,rfl,q⟩
theorem ObjOk.there(x:ObjOk P w H h a o):∃ob,h.get? a=some ob:=by
 cases o with
 |lst xs=>obtain⟨_,_,_,_,e⟩:=x;exact⟨_,e⟩
 |tup xs=>obtain⟨_,_,_,_,e⟩:=x;exact⟨_,e⟩
 |dK kvs=>obtain⟨_,_,_,_,o,_,_,e,_⟩:=x;exact⟨_,e⟩
 |dT kvs=>obtain⟨_,_,_,_,o,_,_,e,_⟩:=x;exact⟨_,e⟩
 |set S n=>obtain⟨o,_,_,_,e,_⟩:=x;exact⟨_,e⟩
 |ins C dx fs=>obtain⟨_,_,_,e,_⟩:=x;exact⟨_,e⟩
 |own y=>obtain⟨_,e⟩:=x;exact⟨_,e⟩
 |xd fs=>obtain⟨_,⟨_,_,_,e,_⟩,_⟩:=x;exact⟨_,e⟩
 |rng lo hi=>obtain⟨_,_,_,e⟩:=x;exact⟨_,e⟩
 |frz ob u=>obtain⟨e,_⟩:=x;exact⟨_,e⟩
 |tbl ps=>exact⟨_,(show h.get? a=some _ from x)⟩
 |met f y=>exact⟨_,(show h.get? a=some _ from x)⟩
 |ext φ=>obtain⟨_,⟨_,e⟩,_⟩:=x;exact⟨_,e⟩
def CX1(P:Xm)(w:XD):CXT:=λouter H s E e s'=>∃(ea C:WT)(a0:WW)(B:X4)(H':Hp),
 e=.ref ea/\s'.os=s.os/\AllBare s'.gens/\Un (frs outer) [] H H' s.1 s'.1/\HOk P w H' s'.1/\Heap.FlyingW B outer ea (.ref C) a0 s'.1 /\
 (∀b o,s.1.get? b=some o->b∉frs outer->∃o',B.get? b=some o'/\(H b=none->o'=o))/\(∀b u,H' b=some u->∃o',B.get? b=some o')/\E (.ref C) none H'
theorem qN{B:X4}(hok:HOk P w H' h)(k1:B.StaysIn h)(k2:B.StaysIn h')(b2:∀b u,H' b=some u->∃o',B.get? b=some o'):HOk P w H' h':=λa o e =>
 (hok a o e).stay (λb u hb q=>by
  have ht:∃v,H' b=some v:=by
   rcases hb with rfl|hb
   .exact⟨_,e⟩
   .exact⟨_,hb⟩
  obtain⟨v,hv⟩:=ht;obtain⟨o',Cc⟩:=b2 b v hv;have:=k1 b o' Cc;rw[q]at this;cases this;exact k2 b _ Cc) (λ_ q=>q) λ_ _ q=>q
theorem u6{fs:List WT}{h1 h2:X4}{l:List WT}{B:X4}(u1:Un fs [] H H1 h h1)(u2:Un l [] H1 H' h1 h2)(hl:∀b o,h.get? b=some o->b∈l->b∈fs)
 (b1:∀b o,h1.get? b=some o->b∉l->∃o',B.get? b=some o'/\(H1 b=none->o'=o)) (st:B.StaysIn h') (up:h2.UpToSlots h')
 (hf:∀b∈fs,H b=none/\∃o,h.get? b=some o/\∀vs,o.data≠.fields vs) :
 Un fs [] H H' h h'/\∀b o,h.get? b=some o->b∉fs->∃o',B.get? b=some o'/\(H b=none->o'=o):=by
 have nx:∀b:WT,b∉([]:List WT):=λb=>by simp
 have bb:∀b o,h.get? b=some o->b∉fs->∃o',B.get? b=some o'/\(H b=none->o'=o):=λb o q nf=>by
  obtain⟨o1,e1⟩:=u1.there b o q (nx b);obtain⟨o',e',g⟩:=b1 b o1 e1 λz=>nf (hl b o q z);refine⟨o',e',λn=>?_⟩;have:=u1.keep b o q n nf (nx b);rw[e1]at this;cases this;exact g (u1.free b _ q n (nx b))
 have sl:∀b o,h.get? b=some o->H b=none->b∈fs->∃sl,h'.get? b=some {o with slots:=sl}:=λb o q n m=>by
  obtain⟨s1,e1⟩:=u1.slot b o q n m (nx b);obtain⟨s2,e2⟩:=u2.any e1 (u1.free b o q n (nx b)) (nx b);obtain⟨_,o0,q0,nf⟩:=hf b m;rw[q]at q0;cases q0;obtain⟨s3,e3⟩:=up b _ e2 nf;exact⟨s3,e3⟩
 refine⟨⟨λb o q n nf _=>?_,λb o q n m _=>sl b o q n m,λb o q n _=>?_,λb o q _=>?_,λb xs q=>u2.tups b xs (u1.tups b xs q),λb o u q=>u2.frzs b o u (u1.frzs b o u q),λb ps q=>?_⟩,bb⟩
 .obtain⟨o',e',g⟩:=bb b o q nf;rw[<-g n];exact st b o' e'
 .obtain⟨o1,e1⟩:=u1.there b o q (nx b);exact u2.free b o1 e1 (u1.free b o q n (nx b)) (nx b)
 .by_cases m:b∈fs
  .obtain⟨n,_⟩:=hf b m;obtain⟨s3,e3⟩:=sl b o q n m;exact⟨_,e3⟩
  .obtain⟨o',e',_⟩:=bb b o q m;exact⟨o',st b o' e'⟩
 .obtain⟨m1,e1⟩:=u1.tbls b ps q;obtain⟨m2,e2⟩:=u2.tbls b _ e1;exact⟨m1++m2,by rw[e2,Array.append_assoc]⟩
section
variable{cd:WW}{outer:List Env}{E:XK}
theorem u9{l:List Env}{L:WT}(hf:env.frame=some L):frs (env::l)=L::frs l:=by unfold frs;rw[ZG,hf]
def yp(te:TE)(C:WT)(E:XK):TS:=λ_ Y H=>te Y H λ_ H1=>E (.ref C) none H1
theorem wj(X:K.In h)(F:jw K C)(hm:mg x=some (.ref C)):OwnCls x C [.type "ValueError",.type "Exception",.type "BaseException",.type "object"] "ValueError.__new__" mg h:=by
 have q:=F.exc;refine⟨hm,?_⟩;unfold excIn at q;split at q
 .rename_i dd cd sl ho
  split at q
  .rename_i C' bm k0 k1 k2 k3 n k5 hm hs
   simp only[Bool.and_eq_true,beq_iff_eq,Bool.not_eq_true']at q;obtain⟨⟨⟨⟨⟨rfl,rfl⟩,J4⟩,ht⟩,hok⟩,Eh⟩:=q;obtain⟨nm,bs,mro,ns,qn,hd,sn,sub,ab,col,del⟩:=cd;dsimp only at hm J4 hok Eh;subst hm J4
   have IW:sl=#[k0,k1,k2,k3,some (.builtin "ValueError.__new__"),k5]:=by
    obtain⟨l⟩:=sl;simp only at hs;rw[hs]
   subst IW;exact⟨bm,ns,nm,qn,bs,hd,sn,sub,ab,col,dd,k0,k1,k2,k3,k5,_,X _ _ ho,.of_isNs (isNs_of_in X hok),nsMap_none_of_in X hok Eh,tail_of_in X ht⟩
  .cases q
 .cases q
theorem uC{e0:XY}{np Ap:Pos}(F:jw K C)(hm:mg x=some (.ref C))(he:PE (l7 (CX1 P w) P w K mg base N qual scope f cd A outer s H E) e0 te)
 (hx:(Z0 qual scope s.1.1.size f cd).kindOf x=some .globalImplicit:=by rfl)
 (Cz:XJ [e0] (Z0 qual scope s.1.1.size f cd)=[(false,YW e0 (Z0 qual scope s.1.1.size f cd))]:=by rfl) (hd:(x == ("__debug__":Xk))=false:=by decide) :
 PS (l7 (CX1 P w) P w K mg base N qual scope f cd A outer s H E) (.Raise (some (.Call (.Name x np) [e0] [] Ap)) none pos) (yp te C E):=by
 intro Z s1 Y H1 D I h;obtain⟨tl,N',nm,q,bs,hdct,sn,sub,ab,col,dd,k0,k1,k2,k3,k5,mN,hC,hN,Eh,T⟩:=(wj I.mod.kin F hm).obj
 refine wpAny_Raise_call_subT (C:=C) (nm:=nm) (q:=q) (N:=N') (bs:=bs) (bm:=tl) (hdct:=hdct) (sn:=sn) (sub:=sub) (ab:=ab) (col:=col) (dd:=dd) (k0:=k0) (k1:=k1) (k2:=k2) (k3:=k3) (k5:=k5)
  PySem.F.excBase_ValueError (mN:=mN) (T.hasType PySem.F.excBase_ValueError.hasBase) (I.ok.hd rfl) (by show(ZD Ap (XJ [e0] (Z0 qual scope s.1.1.size f cd))).any (·.1)=false;rw[Cz];rfl) Eh (gz I hx hm ⟨rfl,?_⟩ hd)
 show Xd _ _ (evalArgs _ true (ZD Ap (XJ [e0] (Z0 qual scope s.1.1.size f cd))) []) _ _ _;rw[Cz];refine Calls.evalArgs_plain (Z8 (thn (he Z s1 Y H1 _ I h) λv s2⟨y,H2,I2,r2,q2⟩=>Calls.spliced_nil ⟨rfl,by show 1<=Xh;decide,I2.bk _ _ hC,hN.keeps I2.bk,T.keeps I2.bk,λh' e hx=>?_⟩));show Xd _ _ (leaving _ _) _ _ _;have FF:=I2.stack;have hl:∀env∈Z0 qual scope s.1.1.size f cd::outer,∀a,env.frame=some a->a∈frs (Z0 qual scope s.1.1.size f cd::outer):=λenv he a ha=>List.mem_filterMap.mpr ⟨env,he,ha⟩;refine wpAny_leaves_madeW (base:=hideAll s2.1 (frs (Z0 qual scope s.1.1.size f cd::outer))) (h:=s2.1) I.ok.frames rfl (λb o z=>of_hideAll _ z) (funFrames_hide FF hl) hx λh2 t He tup tn up=>?_;have nf:∀b u,H2 b=some u->b∉frs (Z0 qual scope s.1.1.size f cd::outer):=λb u e z=>by rw[I2.stkFree b z]at e;cases e
 obtain⟨U,VE⟩:=u6 (fs:=frs outer) (H:=H) (H1:=H2) (H':=H2) (h:=s.1) (h1:=s2.1) (h2:=h') (l:=frs (Z0 qual scope s.1.1.size f cd::outer)) (B:=hideAll s2.1 (frs (Z0 qual scope s.1.1.size f cd::outer))) (h':=h2) I2.base (Un.kept hx.keeps) (λb o hb z=>by
  rw[u9 (L:=s.1.1.size) rfl]at z;rcases Xb.mp z with rfl|z
  .exact g! (Xc hb) (Yo _)
  .exact z) (λb o hb z=>⟨o,hideAll_get _ hb z,λ_=>rfl⟩) He.1 up (λb hb=>⟨I.ok.frf b hb,(I.ok.funs.mem hb).2⟩)
 have b2:∀b u,H2 b=some u->∃o',(hideAll s2.1 (frs (Z0 qual scope s.1.1.size f cd::outer))).get? b=some o':=λb u e=>by
  obtain⟨o,ho⟩:=(I2.hok b u e).there;exact⟨o,hideAll_get _ ho (nf b u e)⟩
 exact⟨e,C,.ref t,_,H2,rfl,I2.os,I2.bare,U,qN I2.hok (λb o z=>of_hideAll _ z) He.1 b2,He,VE,b2,q2⟩
end
def Cx.tryB(X:Cx)(Z:List (WT×YF))(R:St->WW->Hp->Prop):Cx:={ X with
 pn:=X.pn++Z
 xe:=λe s'=>∃AH H1 s1,Inv X Z AH H1 s1/\CX1 X.prog X.w X.stack H1 s1 (λc _ H'=>R AH c H') e s' }
def Cx.suite(X:Cx)(ea:WT)(oe:YF):Cx:={ X with
 A:=X.A.mark (some (.ref ea))
 calm:=false
 pn:=X.pn++[(ea,oe)]
 xe:=λ_ _=>False }
theorem Inv.tryB(I:Inv X Z Y H s)(R:St->WW->Hp->Prop):Inv (X.tryB Z R) [] Y H s :=
 ⟨⟨I.ok.mod,I.ok.kind,I.ok.glob,I.ok.blt,I.ok.above,I.ok.inj,I.ok.has,I.ok.cab,I.ok.hd,I.ok.frames,I.ok.stk,I.ok.exf,I.ok.bs,I.ok.bsz,I.ok.noex,I.ok.exfs,I.ok.funs,I.ok.frf⟩,
   I.os,I.bare,I.base,I.loc,I.cell,I.free,I.freeC,λp hp=>I.pin p (by simpa[Cx.tryB]using hp),I.hok,I.len⟩
theorem Inv.untryB{R:St->WW->Hp->Prop}{Cd:List (WT×YF)}(I:Inv (X.tryB Z R) Cd Y H s):Inv X Z Y H s :=
 ⟨⟨I.ok.mod,I.ok.kind,I.ok.glob,I.ok.blt,I.ok.above,I.ok.inj,I.ok.has,I.ok.cab,I.ok.hd,I.ok.frames,I.ok.stk,I.ok.exf,I.ok.bs,I.ok.bsz,I.ok.noex,I.ok.exfs,I.ok.funs,I.ok.frf⟩,
   I.os,I.bare,I.base,I.loc,I.cell,I.free,I.freeC,λp hp=>I.pin p (Xi _ hp),I.hok,I.len⟩
theorem Inv.suite(I:Inv X Z Y H s)(h:s.1.get? ea=some oe/\H ea=none/\ea≠X.env.locals/\ea∉X.fs/\∀v,oe.data≠.cell v):Inv (X.suite ea oe) Z Y H s :=
 ⟨⟨I.ok.mod,I.ok.kind,I.ok.glob,I.ok.blt,I.ok.above,I.ok.inj,I.ok.has,I.ok.cab,(λz=>nomatch z),I.ok.frames,I.ok.stk,I.ok.exf,I.ok.bs,I.ok.bsz,I.ok.noex,I.ok.exfs,I.ok.funs,I.ok.frf⟩,
   I.os,I.bare,I.base,I.loc,I.cell,I.free,I.freeC,λp hp=>by
    have hp:p∈(X.pn++[(ea,oe)])++Z:=hp;rcases W7.mp hp with hp|hp
    .rcases W7.mp hp with hp|hp
     .exact I.pin p (Xi _ hp)
     .obtain rfl:=WZ.mp hp;exact h
    .exact I.pin p (Xl _ hp),I.hok,I.len⟩
theorem Inv.unsuite(I:Inv (X.suite ea oe) Z Y H s)(hd:X.calm=true->X.A.handled=none):Inv X Z Y H s :=
 ⟨⟨I.ok.mod,I.ok.kind,I.ok.glob,I.ok.blt,I.ok.above,I.ok.inj,I.ok.has,I.ok.cab,hd,I.ok.frames,I.ok.stk,I.ok.exf,I.ok.bs,I.ok.bsz,I.ok.noex,I.ok.exfs,I.ok.funs,I.ok.frf⟩,
   I.os,I.bare,I.base,I.loc,I.cell,I.free,I.freeC,λp hp=>I.pin p (by
    show p∈(X.pn++[(ea,oe)])++Z;rcases W7.mp hp with hp|hp
    .exact Xi _ (Xi _ hp)
    .exact Xl _ hp),I.hok,I.len⟩
theorem name_goes{Q:Unit->W3->Prop}(I:Inv X Z Y H s)(hN:X.N.Nodup)(hi:X.N[i]?=some x)(hx:X.env.scope.names.lookup x=some .local)
 (h:∀s',Inv X Z (Y.set i none) H s'->Q () s'):Xd M A (do bindName X.env x .none;unbindBehindTheSuite X.env x pos) Q E s:=by
 have G5:(X.env.scope.kind == .class ||(X.env.scope.kind == .module && X.env.locals != X.env.globals))=false:=by rw[I.ok.kind];rfl
 refine WN (wpAny_bindName (fV (v:=.non) I hN hi (.inl hx) rfl (λs1 I1=>?_) (.inr hx)));unfold unbindBehindTheSuite;refine wpAny_onRaise (YB (E:=λ_ _=>False) ?_ (λ_ _ z=>z) λ_ _ z=>z.elim);obtain⟨m,hn,hl⟩:=id I1.loc;have Eu:i<Y.length:=by rw[I.len];exact(glE hi)
 obtain⟨u,ru,lu⟩:=hl i x .non hi (X2 Eu) (.inl hx)
 have hv:m x=some Yj:=by
  rcases lu with⟨_,e⟩|⟨k,_⟩
  .cases(show u=Yj from ru);exact e
  .have BC:X.env.kindOf x=some .local:=hx;rw[BC]at k;rcases k with k|k <;> cases k
 refine wpAny_unbindName_local hx hn hv G5 λh' u' IK hs=>?_;obtain⟨oL,_,_,Ss,_⟩:=id hn;have IJ:∀b o,X.s₀.heap.get? b=some o->b≠X.env.locals:=λb o e=>XG (Xy (Xc e) I.ok.above);refine h _ ⟨I1.ok,I1.os,I1.bare,⟨λb o e n hb hx=>(hs.2 b (IJ b o e)).trans (I1.base.keep b o e n hb hx),λb o e n hb hx=>?_,I1.base.free,λb o e hx=>?_,I1.base.tups,I1.base.frzs,I1.base.tbls⟩,⟨_,IK,λj y v' e1 e2 e3=>?_⟩,λy c e=>?_,I1.free,I1.freeC,λp hp=>?_,?_,by simpa using I.len⟩
 .obtain⟨sl,e1⟩:=I1.base.slot b o e n hb hx;exact⟨sl,(hs.2 b (IJ b o e)).trans e1⟩
 .obtain⟨o',e1⟩:=I1.base.there b o e hx;exact⟨o',(hs.2 b (IJ b o e)).trans e1⟩
 .by_cases hj:j=i
  .subst hj;rw[X2 Eu]at e2;cases e2
  .rw[Yq (Zm hj)]at e2;obtain⟨u2,r2,q2⟩:=hl j y v' e1 (by rw[Yq (Zm hj)];exact e2) e3;refine⟨u2,r2,?_⟩;rcases q2 with⟨k,e⟩|⟨k,c,e,z⟩
   .refine .inl ⟨k,?_⟩;have:y≠x:=λe=>hj (ko hN e1 (e ▸ hi));simp[this,e]
   .exact .inr ⟨k,c,e,z.sameBut hs (I1.cne y c e)⟩
 .obtain⟨w',z⟩:=I1.cell y c e;exact⟨w',z.sameBut hs (I1.cne y c e)⟩
 .obtain⟨e,n,ne,nf,d⟩:=I1.pin p hp;exact⟨(hs.2 p.1 ne).trans e,n,ne,nf,d⟩
 .intro b ob e;refine(I1.hok b ob e).stay (λc w' hc q=>(hs.2 c ?_).trans q) (λ_ q=>q) λ_ _ q=>q;rintro rfl;rcases hc with rfl|hc
  .rw[I1.free]at e;cases e
  .rw[I1.free]at hc;cases hc
structure Hit(K:Frag)(C Ch:WT):Prop where
 exc:jw K C
 hit:exmOne K (.ref C) (.ref Ch)=some true
def Ends.as(D:Ends)(i:Nat):Ends:={nx:=λY H=>D.nx (Y.set i none) H,rt:=D.rt,bk:=λY H=>D.bk (Y.set i none) H,ct:=λY H=>D.ct (Y.set i none) H}
def xJ(K:Frag)(Ch:WT)(i:Nat)(ts:WT->WT->TS)(D:Ends):St->WW->Hp->Prop:=λAH c H'=>∃C,c=.ref C/\Hit K C Ch/\∀ea,H' ea=none->ts ea C (D.as i) (AH.set i (some (.ref ea))) H'
def zb(K:Frag)(Ch:WT)(i:Nat)(tb:(St->WW->Hp->Prop)->TS)(ts:WT->WT->TS):TS:=λD Y H=>tb (xJ K Ch i ts D) D Y H
theorem SP.untryB{R:St->WW->Hp->Prop}{f:Flow}(h:SP (X.tryB Z R) [] D f s'):SP X Z D f s':=by
 cases f with
 |next=>obtain⟨i',H',I,q⟩:=h;exact⟨i',H',I.untryB,q⟩
 |brk=>obtain⟨i',H',I,q⟩:=h;exact⟨i',H',I.untryB,q⟩
 |cont=>obtain⟨i',H',I,q⟩:=h;exact⟨i',H',I.untryB,q⟩
 |ret u=>obtain⟨v,i',H',I,r,q⟩:=h;exact⟨v,i',H',I.untryB,r,q⟩
theorem sI{Ch:WT}{cx n:Xk}{np J5:Pos}{suite:List YA}{b0:YA}{tb:(St->WW->Hp->Prop)->TS}{ts:WT->WT->TS}
 (hb:∀Z R,PSs (X.tryB Z R) body (tb R)) (hs:∀ea oe C,oe.cls=.ref C->jw X.K C->PSs (X.suite ea oe) (b0::suite) (ts ea C))
 (hN:X.N.Nodup) (hi:X.N[i]?=some n) (hn:X.env.scope.names.lookup n=some .local) (Cz:X.stack=X.env::X.outer) (J6:X.env.frame=some X.env.locals) (hg:Gl X cx) (hm:X.mg cx=some (.ref Ch))
 (hd:(cx == ("__debug__":Xk))=false:=by decide) :
 PS X (.Try body [.ExceptHandler (some (.Name cx np)) (some n) (b0::suite) J5] [] [] pos) (zb X.K Ch i tb ts):=by
 intro Z s Y H D I h;refine wpAny_Try_except ?_;have AZ:=hb Z (xJ X.K Ch i ts D) [] s Y H D (I.tryB _) h;refine YB AZ (λf s1 q=>?_) λe s1 q=>?_
 .have q':=SP.untryB q;cases f with
  |next=>exact wpAny_execs_nil q'
  |brk=>exact q'
  |cont=>exact q'
  |ret u=>exact q'
 .obtain⟨AH,H1,s0,I1,ea,C,a0,B,H',rfl,BH,J7,un,hok,He,b1,b2,C',NT,hit,q⟩:=q;cases NT;rw[Cz]at He;have N4:X.A.frames=some (X.env::X.outer):=by rw[<-Cz];exact I1.ok.frames
  have inv:∀(h6:X4)(tk:Nat),Heap.FlyingW B (X.env::X.outer) ea (.ref C) a0 h6->s1.1.UpToSlots h6->Inv X Z AH H' {s1 with heap:=h6}:=λh6 tk Dn up=>by
   obtain⟨U,_⟩:=u6 (fs:=frs X.stack) (H:=H1) (H1:=H1) (h:=s0.1) (h1:=s0.1) (h':=h6) (l:=frs X.stack) (B:=B) Un.refl un (λb o _ z=>z) b1 Dn.1 up (λb hb=>⟨I1.stkFree b hb,(I1.stack.mem hb).2⟩);exact I1.call' (s':={s1 with heap:=h6}) (ch:=[]) BH U (qN hok He.1 Dn.1 b2) J7 λ_ z=>nomatch z
  refine wpAny_looks_onW N4 J6 He λh4 J8 VF=>?_;refine wpAny_landsW J8 λh5 Hf VG=>?_;have J':=VF.trans VG;have I5:=inv h5 0 Hf J';obtain⟨o5,VH,VI⟩:=Hf.there;refine wpAny_handleBy_cons (codeAny_handlers_test ?_) (by intro q;cases q);have I5m:Inv (X.wish X.xe) Z AH H' {s1 with heap:=h5}:=I5;refine Calls.Name_function_global I5.ok.kind hg (Calls.loadGlobal_global (by rw[I5.ok.glob];exact I5.mod.glob.keeps I5.bk) hm ?_) hd;refine(exm_one (M:=Xx X.prog X.w) (h:=h5) I5.kIn (VI ▸ (Looks.ld VH).andThen .now) hit.hit).here ?_;refine codeAny_handlers_suite_as ?_;refine lands_againW (s:={s1 with heap:=h5}) Hf λh6 Dn VJ=>?_;have I6:=inv h6 0 Dn (J'.trans VJ);obtain⟨oe,vs,Ft,Fo,SM,_⟩:=Dn.first
  have DF:H' ea=none:=by
   cases z:H' ea with
   |none=>rfl
   | some u =>
     obtain⟨o',Cc⟩:=b2 ea u z;rw[Dn.2.1]at Cc;cases Cc
  have N5:ea∉frs (X.env::X.outer):=λz=>by
   obtain⟨_,o,ho,nf⟩:=Dn.2.2.1.mem z;rw[Ft]at ho;cases ho;exact nf vs SM
  rw[u9 J6]at N5;have IS:Inv (X.suite ea oe) Z AH H' {s1 with heap:=h6}:=I6.suite ⟨Ft,DF,λz=>N5 (z ▸ WY),λz=>N5 (WQ _ z),λv z=>by rw[SM]at z;cases z⟩;refine fV (X:=X.suite ea oe) (v:=.ref ea) IS hN hi (.inl hn) rfl (λs7 I7=>?_) (.inr hn);refine YB (hs ea oe C Fo hit.exc Z s7 _ H' (D.as i) I7 (q ea DF)) (λf s8 q8=>?_) λ_ _ z=>Ye z
  have fin:∀{EC:St}{H8:Hp}{Q:Unit->W3->Prop},Inv (X.suite ea oe) Z EC H8 s8->(∀s9,Inv X Z (EC.set i none) H8 s9->Q () s9)->Xd (Xx X.prog X.w) X.A (do bindName X.env n .none;unbindBehindTheSuite X.env n J5) Q X.xe s8:=λ{EC H8 Q}J k =>
   name_goes (J.unsuite I1.ok.hd) hN hi hn k
  cases f with
  |next=>obtain⟨EC,H8,J,q⟩:=q8;exact fin J λs9 J9=>⟨_,H8,J9,q⟩
  |brk=>obtain⟨EC,H8,J,q⟩:=q8;exact fin J λs9 J9=>⟨_,H8,J9,q⟩
  |cont=>obtain⟨EC,H8,J,q⟩:=q8;exact fin J λs9 J9=>⟨_,H8,J9,q⟩
  |ret u=>obtain⟨v,EC,H8,J,r,q⟩:=q8;exact fin J λs9 J9=>⟨v,_,H8,J9,r,q⟩
def vd(sp:Sp)(dvs:List V)(R:St->WW->Hp->Prop)(t:TA):TE:=λY H Q=>t Y H λvs H1=>sp (vs++dvs) H1 Q λc _ H'=>R Y c H'
theorem tX{R:St->WW->Hp->Prop}{k:Nat}{dvs:List V}{ds:List WW}{p:Pos}{es:List XY}{t:TA}
 (F:FnOk X.prog X.w X.K X.mg X.base (CX1 X.prog X.w) k f fd ps sp) (hr:Room k X.A) (hg:Gl X x) (hm:X.mg x=some (.ref f)) (hk:YJ X.K (.ref f)=true) (hb:Binds X.K fd ps ds) (hd:Vals dvs ds)
 (ha:PA (X.tryB Z R) (e::es) t) (Df:(x == ("__debug__":Xk))=false:=by decide) (he:XJ (e::es) X.env=(false,YW e X.env)::XJ es X.env:=by rfl) (AV:(ZD pos (XJ es X.env)).any (·.1)=false:=by rfl) :
 PE (X.tryB Z R) (.Call (.Name x p) (e::es) [] pos) (vd sp dvs R t):=by
 intro Cd s Y H Q I h;refine Yu (gz I hg hm ?_ Df);refine PySem.W.callWith_K (h₀:=X.base) I.ok.mod.kin hk (thn (ha pos Cd s Y H _ I h) λus s1⟨vs,H1,I1,r,q⟩=>⟨I1.kIn,?_⟩) he AV;have r2:Vals (vs++dvs) (us++ds):=r.append hd;have hl:(us++ds).length=ps.length:=by rw[<-r2.length];exact F.len _ _ _ _ q
 refine wpAny_call (codeAny_mono (F.run X.A X.stack s1 H1 ⟨us,[]⟩ (us++ds) (vs++dvs) Q _ hr I1.env0 (hb s1 us I1.kIn hl) r2 q) λr s' hq=>?_);cases r with
 |error e=>exact⟨Y,H1,s1,I1.untryB,hq⟩
 | ok fl =>
   cases fl with
   |ret u=>exact I1.after hq
   |next=>exact Ye hq
   |brk=>exact Ye hq
   |cont=>exact Ye hq
theorem sV{K:Frag}{Ch:WT}{tb:(St->WW->Hp->Prop)->TS}{ts:WT->WT->TS}(R:St->WW->Hp->Prop)(h1:∀R':St->WW->Hp->Prop,(∀AH c H',R AH c H'->R' AH c H')->tb R' D Y H)
 (h2:∀AH c H',R AH c H'->xJ K Ch i ts D AH c H'):zb K Ch i tb ts D Y H:=h1 _ h2
theorem jv:(ea,oe)∈(X.suite ea oe).pn:=Xl _ (WZ.mpr rfl)
open PySem.SeqAt
theorem xD{k:Nat}(hr:Room k A):A.units+2<Zs:=by
 have:=hr.units;omega
def y3(K:WX):R2:=λx y H Q=>∃(a b:WT)(bs cs:List Bool),x=.ref a/\y=.ref b/\SqL K H a (bs.map V.bl)/\SqL K H b (cs.map V.bl)/\Q (.bl (bs == cs)) H
theorem rc{bs:List Bool}(r:Vals (bs.map V.bl) us):us=bs.map ZM:=by
 induction bs generalizing us with
 |nil=>cases r;rfl
 | cons b bs ih =>
   cases r with
   | cons r1 r2 =>
     rw[ih r2];cases(show _=ZM b from r1);rfl
theorem wu{bs cs:List Bool}(hl:bs.length=cs.length):(Yn bs.length).all (λj=>(bs.getD j false == cs.getD j false))=(bs == cs):=by
 induction bs generalizing cs with
 | nil=>cases cs with
   |nil=>rfl
   |cons c cs=>cases hl
 | cons b bs ih=>cases cs with
   |nil=>cases hl
   | cons c cs =>
     rw[W8,List.range_succ_eq_map,List.all_cons,List.all_map];show((b == c) && _)=_;have:=ih (cs:=cs) (by simpa using hl);rw[List.cons_beq_cons,<-this];rfl
theorem wD(hu:X.A.units+2<Zs):OpR X (ZQ .Eq) (y3 X.K):=by
 intro Z s Y H x y v u Q I rx ry h;obtain⟨a,b,bs,cs,rfl,rfl,ha,hb,q⟩:=h;cases rx;cases ry;obtain⟨its,r1,p1,_⟩:=I.list ha;obtain⟨Al,r2,p2,_⟩:=I.list hb;have e1:=rc r1;have e2:=rc r2;subst e1 e2;by_cases hl:bs.length=cs.length
 .have hsz:(bs.map ZM).toArray.size=(cs.map ZM).toArray.size:=by simp[hl]
  refine RcAt.lists (e:=λj=>(bs.getD j false == cs.getD j false)) p1.isList p2.isList hsz (by omega) (λj h1 h2=>?_) X.prog X.w X.xe _ ?_
  .have Dl:j<bs.length:=by simpa using h1
   have Dm:j<cs.length:=by simpa using h2
   have z1:bs.getD j false=bs[j]:=by simp[List.getD,Dl]
   have z2:cs.getD j false=cs[j]:=by simp[List.getD,Dm]
   have y1:(bs.map ZM).toArray[j]=ZM bs[j]:=by simp
   have y2:(cs.map ZM).toArray[j]=ZM cs[j]:=by simp
   rw[z1,z2,y1,y2];exact EqAt.bool_bool _ _
  .refine⟨.bl (bs == cs),H,I,?_,q⟩;rw[<-wu hl];simp;rfl
 .refine RcAt.lists_lengths p1.isList p2.isList (by simpa using hl) (by omega) X.prog X.w X.xe _ ⟨.bl (bs == cs),H,I,?_,q⟩;have:(bs == cs)=false:=beq_eq_false_iff_ne.mpr λz=>hl (by rw[z]);rw[this];rfl
end L2
namespace BB
open PySem
end BB
namespace L2
open PySem PySem.Spec PySem.Calls PyProof.Rows BB
end L2
namespace PySem
end PySem
namespace L2
open PySem PySem.Spec PySem.Calls PyProof.Rows BB
end L2
namespace BB
open PySem L2
theorem rC(zs:List α)(f:α->V)(hz:zs.length=xs.length)(hn:xs.length<=1000000)
 (Ha:∀i H2,j! H H2->i<xs.length->J.go i H2) (BZ:∀H2,j! H H2->J.stop xs.length H2) (Dk:∀(i:Nat)H2 x H3,j! H H2->i<xs.length->J.yld i H2 x H3->H3=H2/\xs[i]?=some x)
 (hb:∀(i:Nat)x z H2(R:VK)(W':Hp->Prop),xs[i]?=some x->zs[i]?=some z->j! H H2->(∀H3,j! H2 H3->R (f z) H3)->g x (cσ js Y) H2 λAk H3=>tt Ak H3 λb H4=>if b=true then te Ak H4 R else W' H4)
 (Ba:∀D H',H D=none->j! H H'->H' D=some (.lst (zs.map f))->fin D H') :
 ∀D,H D=none->∃(n:Nat)(W:Nat->Hp->Prop),W 0 (upd H D (.lst []))/\fH js g tt te Y J D n W λH'=>fin D H':=by
 intro D hD;refine⟨xs.length,λi H'=>i<=xs.length/\j! H H'/\H' D=some (.lst ((zs.take i).map f)),⟨XB _,aj hD _,by rw[ad];rfl⟩,?_⟩;rintro i H' ⟨hi,s1,e1⟩;by_cases Ae:i<xs.length
 .refine .inr ⟨Ae,Ha i H' s1 Ae,λv H1 hy=>?_⟩;obtain⟨e,hx⟩:=Dk i H' v H1 s1 Ae hy;subst e;obtain⟨z,DG⟩:∃z,zs[i]?=some z:=⟨_,WS (by omega)⟩;refine hb i v z _ _ _ hx DG s1 λH3 s3=>⟨_,s3 _ _ e1,?_,Ae,aF (s1.trans s3) hD,?_⟩
  .rw[WO,XI];have:Xh=16777216:=Zr;omega
  .rw[ad,take_snoc DG,W9];rfl
 .have Cq:i=xs.length:=by omega
  subst Cq;refine .inl ⟨BZ _ s1,Ba D H' hD s1 ?_⟩;rw[e1,Yr (by omega)]
theorem fN(zs:List α)(f:α->V)(hS:SqT K H a xs)(hz:zs.length=xs.length)(hn:xs.length<=1000000)
 (hb:∀(i:Nat)x z H2(R:VK)(W':Hp->Prop),xs[i]?=some x->zs[i]?=some z->j! H H2->(∀H3,j! H2 H3->R (f z) H3)->g x (cσ js Y) H2 λAk H3=>tt Ak H3 λb H4=>if b=true then te Ak H4 R else W' H4)
 (Ba:∀D H',H D=none->j! H H'->H' D=some (.lst (zs.map f))->fin D H') :
 ∀D,H D=none->∃(n:Nat)(W:Nat->Hp->Prop),W 0 (upd H D (.lst []))/\fH js g tt te Y (Itt K a) D n W λH'=>fin D H' :=
 rC zs f hz hn (λi H2 s hi=>⟨xs,xs[i],s.seqT hS,WS hi⟩) (λH2 s=>⟨xs,s.seqT hS,W2 _⟩) (λi H2 x H3 s hi hy=>⟨hy.1,hy.2 xs (s.seqT hS)⟩) hb Ba
theorem dM(zs:List α)(f:α->V)(hS:SqL K H a xs)(hz:zs.length=xs.length)(hn:xs.length<=1000000)
 (hb:∀(i:Nat)x z H2(R:VK)(W':Hp->Prop),xs[i]?=some x->zs[i]?=some z->j! H H2->(∀H3,j! H2 H3->R (f z) H3)->g x (cσ js Y) H2 λAk H3=>tt Ak H3 λb H4=>if b=true then te Ak H4 R else W' H4)
 (Ba:∀D H',H D=none->j! H H'->H' D=some (.lst (zs.map f))->fin D H') :
 ∀D,H D=none->∃(n:Nat)(W:Nat->Hp->Prop),W 0 (upd H D (.lst []))/\fH js g tt te Y (Itl K a) D n W λH'=>fin D H' :=
 rC zs f hz hn (λi H2 s hi=>⟨xs,xs[i],s.seq hS,WS hi⟩) (λH2 s=>⟨xs,s.seq hS,W2 _⟩) (λi H2 x H3 s hi hy=>⟨hy.1,hy.2 xs (s.seq hS)⟩) hb Ba
end BB
namespace HT
open PySem PySem.Spec PyProof.Rows
theorem adjust_back(n:Nat):ZF none none (-1) (n:Int)=((n:Int) - 1,-1):=rfl
theorem places_back(n:Nat):Yt ((n:Int) - 1) (-1) (-1)=n:=by
 unfold Yt;have h1:¬((-1:Int) > 0):=by omega
 simp only[h1,if_false];by_cases h:n=0
 .subst h;decide
 .have h2:((n:Int) - 1) > -1:=by omega
  simp only[h2,if_true];rw[show(- -1:Int)=1 by decide,Int.ediv_one];omega
theorem pick_back(xs:Array WW):((Yn xs.size).filterMap λ(m:Nat)=>xs[(((xs.size:Nat):Int) - 1+(m:Int) * (-1)).toNat]?).toArray=xs.toList.reverse.toArray:=by
 congr 1
 have e:∀m∈Yn xs.size,xs[(((xs.size:Nat):Int) - 1+(m:Int) * (-1)).toNat]?=xs.toList.reverse[m]?:=by
  intro m hm;have C5:=ZK.mp hm;rw[List.getElem?_reverse (by rw[Xp];exact C5),ZX,Xp];congr 1;omega
 have f:∀(l:List Nat)(f g:Nat->Option WW),(∀m∈l,f m=g m)->l.filterMap f=l.filterMap g:=by
  intro l f g;induction l with
  |nil=>intro _;rfl
  | cons y ys ih =>
    intro h;rw[ZG,ZG,h y (by simp),ih (λm hm=>h m (by simp[hm]))]
 rw[f _ _ _ e]
 have gl:∀(ys:List WW),(Yn ys.length).filterMap (λm=>ys[m]?)=ys:=by
  intro ys;have:=pick_run ys.toArray 0 ys.length;simp only[List.filterMap_map]at this
  have e3:((λx=>ys.toArray[x]?) ∘ λx=>0+x)=λm=>ys[m]?:=by
   funext m;simp
  rw[e3]at this;rw[this];simp
 have:=gl xs.toList.reverse;rw[YV,Xp]at this;exact this
theorem sliceApplied_back{t:Tok}{Q:Int×Int×Nat->W3->Prop}(hs:s.1.IsSliceOf sl .none .none (.int (-1) t))
 (h:Q ((n:Int) - 1,-1,n) s):Xd (Xx prog w) A (Builtin.Slice.sliceApplied (.ref sl) (pure (n:Int))) Q E s:=by
 obtain⟨os,BH,CI,CB⟩:=id hs;unfold Builtin.Slice.sliceApplied Builtin.Slice.sliceFields;refine WN (WN (X3 BH CB (x:=.none) rfl (WN (X3 BH CB (x:=.none) rfl (WN (X3 BH CB (x:=.int (-1) t) rfl (W0 ?_)))))));refine WN (slicePart_int ?_);show Xd _ _ (if((-1:Int) == 0)=true then _ else _) _ _ s;rw[a! (by decide)];refine WN (slicePart_none (WN (slicePart_none (WN (W0 ?_)))));show Xd _ _ (match ZF none none (-1) (n:Int)with|(lo,hi)=>pure (lo,(-1:Int),Yt lo hi (-1))) _ _ s;rw[adjust_back n];show Xd _ _ (pure ((n:Int) - 1,(-1:Int),Yt ((n:Int) - 1) (-1) (-1))) _ _ s;rw[places_back];exact W0 h
theorem getItem_tuple_back{t:WT}(ht:IsTup s.1 t items)(hs:s.1.IsSliceOf sl .none .none (.int (-1) tk))
 (h:Q (.ref s.1.1.size) {s with heap:=s.1.push {cls:=.type "tuple",data:=.seq items.toList.reverse.toArray}})
 (hsz:items.size<=Xh):Xd (Xx prog w) A (getItem (.ref t) (.ref sl)) Q E s:=by
 have Br:sizeOk (.seq items.toList.reverse.toArray):=by
  show items.toList.reverse.toArray.size<=Xh;rw[Xa,YV,Xp];exact hsz
 obtain⟨os,BH,CI,CB⟩:=id hs;have JQ:s.TypeIs (.ref sl) "slice":=⟨os,BH,CI⟩;unfold getItem
 try with_reducible refine Yl ?_
 first|refine WN (W0 ?_)|skip
 refine WN (wpAny_sequenceKey ht.typeIs (by decide) ?_)
 refine WN (X0 (name:=WU "__getitem__") ht.typeIs XZ
  (X7 XZ ht.typeIs entry_tuple_getitem ?_ (args_tuple_getitem _ _)))
 show Xd _ _ (Builtin.Tuple.tupleItemsOf (.ref t) >>= _) _ _ s;refine WN (tupleItemsOf_ ht ?_);refine WN (ZH JQ ?_);rw[b! (by decide)];refine WN (sliceApplied_back hs ?_)
 have BL:¬((((items.size:Nat):Int) - 1 == 0 && (-1:Int) == 1 && items.size == items.size)=true):=by
  simp
 show Xd _ _ (if(((items.size:Nat):Int) - 1 == 0 && (-1:Int) == 1 && items.size == items.size)=true then _ else _) _ _ s;rw[a! BL,pick_back]
 first
  |exact WN (m:=Yx _) (XW (W0 ⟨_,rfl,W0 h⟩) Br)
  |exact WN (m:=Yx _) (XW (WN (W0 (W0 ⟨_,rfl,W0 h⟩))) Br)
  |exact WN (WN (m:=Yx _) (XW (W0 (W0 ⟨_,rfl,W0 h⟩)) Br))
  |exact WN (WN (m:=Yx _) (XW (W0 ⟨_,rfl,W0 h⟩) Br))
end HT
namespace L2
open PySem PySem.Spec PyProof.Rows
section
variable{p2 p3 p4:Pos}
def BkR(X:Cx)(r:V->Hp->VK->Prop):Prop :=
 ∀(Z:List (WT×YF))(s:W3)(Y:St)(H:Hp)(x:V)(v:WW)(t:Tok)(sl:WT)(Q:VK),Inv X Z Y H s->RelV x v->s.1.IsSliceOf sl .none .none (.int (-1) t)->r x H Q ->
   ∃T id,typeLookup (.type T) "__getitem__"=pure (some (.builtin id))/\s.TypeIs v T/\Xd (Xx X.prog X.w) X.A (getItem v (.ref sl)) (EP X Z Y Q) X.xe s
def tBk(r:V->Hp->VK->Prop)(te:TE):TE:=λY H Q=>te Y H λx H1=>r x H1 Q
theorem rQ{r:V->Hp->VK->Prop}(hr:BkR X r)(he:PE X e te):PE X (.Subscript e (.Slice none none (some (.UnaryOp .USub (.Constant (.int 1) 0 p3) p4)) p2) pos) (tBk r te):=by
 intro Z s Y H Q I h;refine Subscript_ (thn (he Z s Y H _ I h) λv s1⟨x,H1,I1,r1,q1⟩=>?_);refine wpAny_Slice ?_;rw[evalPart_none];refine W0 ?_;refine W0 ?_;have N6:PO X (some (.UnaryOp .USub (.Constant (.int 1) 0 p3) p4)) (xi (tUn (rU λi=>.int (-i)) (tC (.int 1)))):=bp (wW uT ai);refine thn (N6 Z s1 Y H1 (λo H'=>o=some (-1)/\r x H' Q) I1 ⟨1,rfl,_,rfl,rfl,q1⟩) λvs s2⟨o,H2,I2,ps,ho,q2⟩=>?_;subst ho;cases ps with
 | int i t =>
   have I4:Inv X Z Y H2 {s2 with heap:=s2.1.push {cls:=.type "slice",data:=.fields #[.none,.none,.int (-1) t]}}:=I2.kept (t':=s2.toks) λb ob q=>WV _ q;obtain⟨T,id,hT,ht,hg⟩:=hr Z {s2 with heap:=s2.1.push {cls:=.type "slice",data:=.fields #[.none,.none,.int (-1) t]}} Y H2 x v t s2.1.1.size Q I4 r1 (Heap.IsSliceOf.new ..) q2;show Xd (Xx X.prog X.w) X.A (subscriptTail e (.Slice none none (some (.UnaryOp .USub (.Constant (.int 1) 0 p3) p4)) p2) v (.ref s2.1.1.size)) (EP X Z Y Q) X.xe {s2 with heap:=s2.1.push {cls:=.type "slice",data:=.fields #[.none,.none,.int (-1) t]}};exact tail_any (ops:=[v,.ref s2.1.1.size]) ht hT hg (by with_unfolding_all rfl)
def zH(K:WX):V->Hp->VK->Prop:=λx H Q=>∃a xs,x=.ref a/\SqT K H a xs/\∀p,H p=none->Q (.ref p) (upd H p (.tup xs.reverse))
def zY(K:WX):V->Hp->VK->Prop:=λx H Q=>∃a xs,x=.ref a/\SqL K H a xs/\∀p,H p=none->Q (.ref p) (upd H p (.lst xs.reverse))
theorem Vals.rev(r:Vals xs us):Vals xs.reverse us.reverse:=by
 induction r with
 |nil=>exact .nil
 |cons r1 r2 ih=>rw[X9,X9];exact ih.append (.cons r1 .nil)
theorem yh:BkR X (zH X.K):=by
 intro Z s Y H x v t sl Q I rx hs h;obtain⟨a,xs,rfl,hx,q⟩:=h;cases rx;obtain⟨its,r,ht,hz⟩:=I.tuple hx;have hlen:its.toArray.size=xs.length:=by rw[Xa];exact r.length.symm
 refine⟨"tuple",_,XZ.lookup,ht.typeIs,?_⟩;refine HT.getItem_tuple_back ht hs ?_ (by rw[hlen];exact hz);refine⟨.ref s.1.1.size,_,I.laid (t':=s.toks) (o:=.tup xs.reverse) (λb ob q=>WV _ q) (W2 _) ?_,rfl,q _ (I.hok.fresh (W2 _))⟩;exact⟨by rw[YV];exact hz,_,0,r.rev,W4 _ rfl⟩
theorem lI(its:List WW):slicePick its.toArray none none (some (-1))=its.reverse.toArray:=by
 unfold slicePick;have e:sliceBounds none none (some (-1)) its.toArray.size=((its.toArray.size:Int) - 1,-1,-1):=rfl;rw[e];unfold sliceRange;have h1:¬((-1:Int) > 0):=by omega
 simp only[h1,if_false]
 have hc:(if((its.toArray.size:Nat):Int) - 1 > -1 then(((its.toArray.size:Nat):Int) - 1 - -1 - -1 - 1) / (- -1)else 0).toNat=its.toArray.size:=by
  by_cases h:its.toArray.size=0
  .rw[h];decide
  .rw[b! (by omega),show(- -1:Int)=1 by decide,Int.ediv_one];omega
 rw[hc,List.filterMap_map];have:=HT.pick_back its.toArray;rw[<-this];congr 1;congr 1;funext m;show its.toArray[(((its.toArray.size:Nat):Int) - 1+-1 * (m:Int)).toNat]?=_;rw[Int.mul_comm]
theorem vV:BkR X (zY X.K):=by
 intro Z s Y H x v t sl Q I rx hs h;obtain⟨a,xs,rfl,hx,q⟩:=h;cases rx;obtain⟨its,r,ht,hz⟩:=I.list hx;have hlen:=r.length;refine⟨"list",_,slot_list_getitem.lookup,ht.isList.typeIs,?_⟩;refine wpAny_getItem_list_slice ht.isList hs .none .none (.int _ _) (by simp) ?_ (by rw[Xa] <;> omega);rw[lI];refine⟨.ref s.1.1.size,_,I.laid (t':=s.toks) (o:=.lst xs.reverse) (λb ob q=>WV _ q) (W2 _) ?_,rfl,q _ (I.hok.fresh (W2 _))⟩;exact⟨by rw[YV];exact hz,_,0,r.rev,W4 _ rfl⟩
end
open PySem.Calls
def pI(z:Xk)(n:Nat):Xk:=⟨(Xr n z.cps).foldl (·++·) #[]⟩
theorem oQ(c:Nat):∀(n:Nat)(a:Array Nat),(Xr n #[c]).foldl (·++·) a=a++(Xr n c).toArray
 |0,a=>by simp
 | n+1,a=>by
   rw[Yv,List.foldl_cons,oQ c n,Yv,Array.append_assoc];congr 1;simp
theorem lO(c n:Nat):pI ⟨#[c]⟩ n=⟨(Xr n c).toArray⟩:=by
 unfold pI;rw[oQ];simp
theorem iK(c n:Nat):(pI ⟨#[c]⟩ n).length=n:=by
 rw[lO];show(Xr n c).toArray.size=n;simp
def yF:R2:=λx y H Q=>∃(c:Nat)(n:Int),x=.str ⟨#[c]⟩/\y=.int n/\1<=n/\n<=1000/\Q (.str (pI ⟨#[c]⟩ n.toNat)) H
theorem wo:OpR X (binaryOp .Mult) yF:=by
 intro Z s Y H x y v u Q I rx ry h;obtain⟨c,n,rfl,rfl,h1,h2,q⟩:=h;obtain⟨t,rfl⟩:=rx;obtain⟨t',rfl⟩:=ry;have hlen:(⟨#[c]⟩:Xk).length=1:=rfl;refine PySem.P.mul_str ?_ ?_ ?_ ?_
 .rw[c! (by omega),c! (by omega)];rfl
 .intro _ _;rw[hlen]
  have:(1:Int)<=(2 ^ 63 - 1) / n:=by
   rw[Int.le_ediv_iff_mul_le (by omega)];omega
  show¬((1:Nat):Int) > (2 ^ 63 - 1) / n;omega
 .intro _ _;rw[hlen,Nat.one_mul];have:Xh=16777216:=Zr;exact c! (by omega)
 .rw[a! (by omega)];by_cases hn:n=1
  .subst hn;rw[b! (by rfl)];exact⟨.str ⟨#[c]⟩,H,I,⟨_,rfl⟩,by rw[show pI ⟨#[c]⟩ (1:Int).toNat=⟨#[c]⟩from lO c 1]at q;exact q⟩
  .rw[a! (by rw[hlen];simp;omega)];refine⟨?_,⟨.str (pI ⟨#[c]⟩ n.toNat),H,I.tok _,⟨_,rfl⟩,q⟩⟩;show(pI ⟨#[c]⟩ n.toNat).length<=Xh;have:Xh=16777216:=Zr;rw[iK];omega
def y6(i j:Int):Prop:=0<j/\j<2 ^ 62
theorem ux:OpR X (binaryOp .FloorDiv) (rI y6 λi j=>.int (i / j)):=opI λi j _ _ _ _ _ hc q=>by
 have h1:(0:Int)<j:=hc.1;have h2:j<2 ^ 62:=hc.2;refine floordiv_int (by omega) (by rw[Int.fdiv_eq_ediv_of_nonneg i (by omega)];exact q) (.inl (PyProof.noPylong_of_log2 ?_));have:j.natAbs.log2<62:=(Nat.log2_lt (by omega)).mpr (by omega);omega
def isStr(z:Xk):WW->Bool
 |.str y _=>y == z
 |_=>false
def rZ(K:WX):V->List V->Hp->VK->Prop:=λx vs H Q=>∃(l:WT)(zs:List Xk)(z:Xk)(j:Nat),x=.ref l/\vs=[.str z]/\SqL K H l (zs.map H!)/\zs[j]?=some z/\(∀i,i<j->zs[i]?≠some z)/\zs.length<=100000/\Q (.int (j:Nat)) H
theorem mS:MtM X "list.index" (rZ X.K):=by
 intro Z s Y H x vs v us Q I rx rv h;obtain⟨l,zs,z,j,rfl,rfl,hS,hj,BL,hz,q⟩:=h;cases rx;obtain⟨u,rfl,t,rfl⟩:=rv.one;obtain⟨its,r,pl,_⟩:=I.list hS;have hlen:=r.length;rw[WO]at hlen;obtain⟨⟨cls,dd,data,sl⟩,ho,hc,n,hd⟩:=pl.isList;simp only at hc hd;subst hc hd;have Ct:j<zs.length:=(glE hj)
 have get:∀m,m<zs.length->∃y t',its[m]?=some (.str y t')/\zs[m]?=some y:=λm hm=>by
  obtain⟨v,hv,rv⟩:=r.get (i:=m) (x:=.str zs[m]) (by rw[Xj,WS hm];rfl);obtain⟨t',rfl⟩:=rv;exact⟨_,t',hv,WS hm⟩
 refine call_meets ZI ⟨_,ho,rfl⟩ PySem.F.entry_list_index (PySem.F.args_list_index_2 _ _)
  (SeqAt.list_indexAt l its.toArray n dd sl (.str z t) (isStr z) j (by rw[Xa];omega) (by omega) ?_ ?_) ⟨ho,λy hy=>?_,⟨.int (j:Nat),H,I.tok _,⟨_,rfl⟩,q⟩⟩
 .obtain⟨y,t',h1,h2⟩:=get j Ct;rw[hj]at h2;cases h2
  have h3:its.toArray[j]'(by rw[Xa];omega)=.str z t':=by
   rw[WS (by omega)]at h1;simpa using h1
  rw[h3];show(z == z)=true;simp
 .intro m hm Ae;obtain⟨y,t',h1,h2⟩:=get m (by omega)
  have h3:its.toArray[m]'hm=.str y t':=by
   rw[WS (by omega)]at h1;simpa using h1
  rw[h3];show(y == z)=false;refine Bool.eq_false_iff.mpr λe=>BL m Ae ?_;rw[h2,beq_iff_eq.mp e]
 .have DS:y∈its:=by simpa using hy
  obtain⟨m,hm,rfl⟩:=List.getElem_of_mem DS;obtain⟨y,t',h1,h2⟩:=get m (by omega);rw[WS hm]at h1;have h3:=Xf h1;rw[h3];exact SeqAt.EqAt.str_str _ _ _ _
end L2
namespace BB
open PySem L2
structure bq(ks:List (Xk×Int)):Prop where
 ne:1<=ks.length
 le:ks.length<=8
 low:∀k∈ks,Low k.1/\k.1.length<=8
 num:∀k∈ks,0<=k.2/\k.2<=3
 zero:∃k∈ks,k.2=0
 nd:∀(i j:Nat)(k l:Xk×Int),ks[i]?=some k->ks[j]?=some l->k.1=l.1->i=j
mutual
def Th.FitS(ks:List (Xk×Int))(S C:Int):Th->Prop
 |.knot n ts=>(n,(ts.length:Int))∈ks/\FitSs ks S C ts
 |.call s k=>0<=s/\s<S/\0<=k/\k<C
def FitSs(ks:List (Xk×Int))(S C:Int):List Th->Prop
 | []=>True
 |t::ts=>t.FitS ks S C/\FitSs ks S C ts
end
theorem FitSs.of{ks:List (Xk×Int)}{C:Int}:∀{ts:List Th},(∀t∈ts,t.FitS ks S C)->FitSs ks S C ts
 | [],_=>by rw[FitSs];trivial
 | t::ts,h=>by
   rw[FitSs];exact⟨h t (WY ..),FitSs.of λu hu=>h u (WQ _ hu)⟩
theorem eJ(h:∀t∈ts,t.tall<=n):aB ts<=n:=by
 induction ts with
 |nil=>rw[aB];exact XB _
 | cons t ts ih =>
   rw[aB];have h1:=h t (WY ..);have h2:=ih λu hu=>h u (WQ _ hu);omega
def SameB(l:WT)(H H':Hp):Prop:=∀b o,b≠l->H b=some o->H' b=some o
theorem SameB.refl:SameB l H H:=λ_ _ _ e=>e
theorem SameB.trans{A B C:Hp}(h:SameB l A B)(k:SameB l B C):SameB l A C:=λb o hb e=>k b o hb (h b o hb e)
theorem SameB.of(h:j! H H'):SameB l H H':=λb o _ e=>h b o e
theorem SameB.set:SameB l H (upd H l o):=λb o hb e=>by rw[af hb];exact e
theorem SameB.kt(h:SameB l H H')(e:H l=some (.lst xs)):KT H H':=λb ys eb=>h b _ (aA eb e (by intro z;cases z)) eb
theorem SameB.free{p:WT}(h:SameB l H H')(e:H' l=some o)(hp:H' p=none):H p=none:=by
 cases hh:H p with
 |none=>rfl
 | some o' =>
   by_cases z:p=l
   .rw[z,e]at hp;cases hp
   .rw[h p o' z hh]at hp;cases hp
def RowAt(H:Hp)(row:List Th)(a:WT):Prop:=∃as:List WT,H a=some (.tup (as.map i!))/\Ats H row as
theorem RowAt.mono(k:KT H H'){row:List Th}(h:RowAt H row a):RowAt H' row a:=by
 obtain⟨as,h1,h2⟩:=h;exact⟨as,k _ _ h1,h2.mono k⟩
structure qR(ins outs:List (Xk×Int))(S:Int)(deep:Nat)(row:List Th):Prop where
 len:row.length=ins.length
 fit:∀(j:Nat)(t:Th)(k:Xk×Int),row[j]?=some t->ins[j]?=some k->t.FitS outs S k.2/\t.tall<=deep+1
structure BookAt(H:Hp)(ins outs:List (Xk×Int))(head:Th)(rows:List (List Th))(r ia oa ha ra:WT)(Aw Az AA:List WT):Prop where
 bk:H r=some (.tup [.ref ia,.ref oa,.ref ha,.ref ra])
 inE:H ia=some (.tup (Aw.map i!))
 inK:KsAt H ins Aw
 outE:H oa=some (.tup (Az.map i!))
 outK:KsAt H outs Az
 hd:At H head ha
 rl:H ra=some (.tup (AA.map i!))
 rw:Xz (RowAt H) rows AA
theorem BookAt.mono(k:KT H H'){head:Th}{r ia oa ha ra:WT}{Aw Az AA:List WT}(b:BookAt H ins outs head rows r ia oa ha ra Aw Az AA):BookAt H' ins outs head rows r ia oa ha ra Aw Az AA :=
 ⟨k _ _ b.bk,k _ _ b.inE,b.inK.mono k,k _ _ b.outE,b.outK.mono k,b.hd.mono k,k _ _ b.rl,v! (λ_ _ e=>e.mono k) b.rw⟩
structure dj(ins outs:List (Xk×Int))(S:Int)(deep:Nat)(head:Th)(rows:List (List Th)):Prop where
 len:(rows.length:Int)=S
 row:∀row∈rows,qR ins outs S deep row
 hdf:head.FitS outs S 1
 hdt:head.tall<=2
def dw:Xk:=WU "aeio"
def gum:Xk:=WU "gumleafs"
theorem vS:Low gum:=by unfold Low;decide +kernel
theorem jh{z:Xk}(h:n<=z.length):(cE z none (some (n:Int))).cps.toList=z.cps.toList.take n/\(cE z none (some (n:Int))).length=n:=by
 have hz:z.cps.toList.length=z.length:=Xp
 have e:(cE z none (some (n:Int))).cps.toList=z.cps.toList.take n:=by
  show(jT z.cps.toList none (some (n:Int))).toArray.toList=_;rw[List.toList_toArray];unfold jT;rw[x!,J!,hz,Nat.min_eq_left h];simp
 refine⟨e,?_⟩;show(cE z none (some (n:Int))).cps.size=n;rw[<-Xp,e,XI,hz];omega
def lp(begun:Bool)(c0:Nat)(stem:Xk)(at':Int)(L:List Nat)(p:Nat):Xk :=
 if begun then pI ⟨#[c0]⟩ (1+p)else cE stem none (some at')++⟨#[L.getD p 0]⟩++cE stem (some at') none
theorem yt{at':Int}{L:List Nat}(hL:∀(p r:Nat)(c:Nat),L[p]?=some c->L[r]?=some c->p=r){p r:Nat}(hp:p<L.length)(hr:r<L.length)(h:lp begun c0 stem at' L p=lp begun c0 stem at' L r):p=r:=by
 unfold lp at h;cases begun with
 | true =>
   simp only[if_true]at h;have:=h! Str.length h;rw[iK,iK]at this;omega
 | false =>
   simp only[Y1,if_false]at h;have h2:=h! (λz:Xk=>z.cps.toList) h;have h3:((cE stem none (some at')).cps++#[L.getD p 0]++(cE stem (some at') none).cps).toList=((cE stem none (some at')).cps++#[L.getD r 0]++(cE stem (some at') none).cps).toList:=h2;rw[Ym,Ym,Ym,Ym]at h3;have h4:=List.append_cancel_right h3;have h5:=List.append_cancel_left h4;have h6:L.getD p 0=L.getD r 0:=by simpa using h5
   refine hL p r (L.getD r 0) ?_ ?_
   .rw[<-h6,List.getD,WS hp];rfl
   .rw[List.getD,WS hr];rfl
theorem xy{at':Int}{L:List Nat}(hc:97<=c0/\c0<=122)(hs:Low stem)(hL:∀c∈L,97<=c/\c<=122){p:Nat}(hp:p<L.length):Low (lp begun c0 stem at' L p):=by
 unfold lp;cases begun with
 | true =>
   simp only[if_true];rw[lO];intro c BR;have N7:c∈Xr (1+p) c0:=by simpa using BR
   rw[ZC N7];exact hc
 | false =>
   simp only[Y1,if_false];have h1:L.getD p 0∈L:=by rw[List.getD,WS hp];exact List.getElem_mem hp
   have h2:=hL _ h1;exact rS (rS (nY hs _ _) (we h2.1 h2.2)) (nY hs _ _)
structure o8(letters:Xk):Prop where
 len:letters.length=4
 low:Low (letters++dw)
 inj:∀(p r c:Nat),(letters++dw).cps.toList[p]?=some c->(letters++dw).cps.toList[r]?=some c->p=r
theorem pq{letters:Xk}(h1:letters.length=4)(h2:((letters++dw).cps.toList.all λc=>decide (97<=c/\c<=122))=true)(h3:(letters++dw).cps.toList.Nodup):o8 letters:=by
 refine⟨h1,λc hc=>e! (List.all_eq_true.mp h2 c hc),λp r c hp hr=>?_⟩;obtain⟨p1,p2⟩:=Xw.mp hp;obtain⟨r1,r2⟩:=Xw.mp hr;exact(List.getElem_inj h3).mp (p2.trans r2.symm)
theorem rX:o8 (WU "bdhk"):=pq (by decide +kernel) (by decide +kernel) (by decide +kernel)
theorem wJ:o8 (WU "npwz"):=pq (by decide +kernel) (by decide +kernel) (by decide +kernel)
def Step(ins:List (Xk×Int))(rows:List (List Th))(s k:Int)(ks:List Th)(p h:Th):Prop :=
 0<=s/\0<=k/\ks[k.toNat]?=some h/\∃(m:Xk)(hs:List Th)(c:Int)(j:Nat)(row:List Th),h=.knot m hs/\ins[j]?=some (m,c)/\rows[s.toNat]?=some row/\row[j]?=some p
inductive Res(ins:List (Xk×Int))(rows:List (List Th)):Th->Th->Th->Th->Prop
 |stop (n:Xk) (ts:List Th) (k:Th):Res ins rows (.knot n ts) k (.knot n ts) k
 |step {s c:Int} {n:Xk} {ks:List Th} {p h p' k':Th}:Step ins rows s c ks p h->Res ins rows p h p' k'->Res ins rows (.call s c) (.knot n ks) p' k'
theorem gg{ks:List (Xk×Int)}:∀{ts:List Th},Fits ks ts->∀t∈ts,t.Fit ks
 | [],_,t,ht=>by cases ht
 | a::ts,h,t,ht=>by
   rw[Fits]at h;rcases Xb.mp ht with rfl|ht
   .exact h.1
   .exact gg h.2 t ht
theorem je{ks:List (Xk×Int)}{C:Int}:∀{ts:List Th},FitSs ks S C ts->∀t∈ts,t.FitS ks S C
 | [],_,t,ht=>by cases ht
 | a::ts,h,t,ht=>by
   rw[FitSs]at h;rcases Xb.mp ht with rfl|ht
   .exact h.1
   .exact je h.2 t ht
theorem wx{d:Nat}{head:Th}(ok:dj ins outs S d head rows){s c:Int}{ks:List Th}(hf:(K! s c).FitS outs S (ks.length:Int))(hk:∀h∈ks,h.Fit ins) :
 ∃p m hs,Step ins rows s c ks p (.knot m hs)/\p.FitS outs S (hs.length:Int)/\(∀h∈hs,h.Fit ins)/\(p! m hs)∈ks:=by
 rw[Th.FitS]at hf;obtain⟨s0,s1,c0,c1⟩:=hf;have hlen:=ok.len;obtain⟨h,hh⟩:∃h,ks[c.toNat]?=some h:=⟨_,WS (by omega)⟩;have hm:=WR hh;have Aa:=hk h hm;cases h with
 |call a b=>rw[E!]at Aa;exact Aa.elim
 | knot m hs =>
   rw[E!]at Aa;obtain⟨j,hj⟩:=Xe.mp Aa.1;obtain⟨row,Af⟩:∃row,rows[s.toNat]?=some row:=⟨_,WS (by omega)⟩;have CM:=ok.row row (WR Af);have Ct:=(glE hj);obtain⟨p,hp⟩:∃p,row[j]?=some p:=⟨_,WS (by rw[CM.len];exact Ct)⟩;exact⟨p,m,hs,⟨s0,c0,hh,m,hs,_,j,row,rfl,hj,Af,hp⟩,(CM.fit j p _ hp hj).1,gg Aa.2,hm⟩
def Bk(H:Hp)(ins outs:List (Xk×Int))(head:Th)(rows:List (List Th))(r:WT):Prop:=∃ia oa ha ra Aw Az AA,BookAt H ins outs head rows r ia oa ha ra Aw Az AA
theorem Bk.mono(k:KT H H'){head:Th}{r:WT}(b:Bk H ins outs head rows r):Bk H' ins outs head rows r:=by
 obtain⟨ia,oa,ha,ra,Aw,Az,AA,b⟩:=b;exact⟨ia,oa,ha,ra,Aw,Az,AA,b.mono k⟩
end BB
open BB.Th renaming FitS->G!
namespace L2
open PySem PySem.Spec PySem.Calls PyProof.Rows PySem.SeqAt
end L2
namespace BB
open PySem L2
mutual
inductive Out(ins:List (Xk×Int))(rows:List (List Th)):Th->Th->Th->Prop
 |mk {p k:Th} {n:Xk} {ts:List Th} {k':Th} {os:List Th}:Res ins rows p k (.knot n ts) k'->Outs ins rows ts k' os->Out ins rows p k (.knot n os)
inductive Outs(ins:List (Xk×Int))(rows:List (List Th)):List Th->Th->List Th->Prop
 |nil (k:Th):Outs ins rows [] k []
 |cons {t k o:Th} {ts os:List Th}:Out ins rows t k o->Outs ins rows ts k os->Outs ins rows (t::ts) k (o::os)
end
theorem Out.step{s c:Int}{n:Xk}{ks:List Th}{h o:Th}(st:Step ins rows s c ks p h)(g:Out ins rows p h o):Out ins rows (.call s c) (.knot n ks) o:=by
 cases g with
 |mk r os=>exact .mk (.step st r) os
theorem Out.unstep{s c:Int}{n:Xk}{ks:List Th}{o:Th}(g:Out ins rows (.call s c) (.knot n ks) o):∃p h,Step ins rows s c ks p h/\Out ins rows p h o:=by
 cases g with
 | mk r os =>
   cases r with
   |step st r=>exact⟨_,_,st,.mk r os⟩
theorem Out.unknot{n:Xk}{k o:Th}(g:Out ins rows (.knot n ts) k o):∃os,o=.knot n os/\Outs ins rows ts k os:=by
 cases g with
 | mk r os =>
   cases r with
   |stop=>exact⟨_,rfl,os⟩
theorem Outs.length:∀{ts:List Th}{k:Th}{os:List Th},Outs ins rows ts k os->os.length=ts.length
 |_,_,_,.nil _=>rfl
 |_,_,_,.cons _ h=>by rw[W8,W8,Outs.length h]
theorem Outs.get:∀{ts:List Th}{k:Th}{os:List Th}(i:Nat){t o:Th},Outs ins rows ts k os->ts[i]?=some t->os[i]?=some o->Out ins rows t k o
 |_,_,_,i,t,o,.nil _,h1,h2=>by simp at h1
 | _,_,_,0,t,o,.cons g _,h1,h2=>by
   simp at h1 h2;subst h1;subst h2;exact g
 |_,_,_,i+1,t,o,.cons _ g,h1,h2=>Outs.get i g (by simpa using h1) (by simpa using h2)
theorem oW(g:bq ins){s c:Int}{ks:List Th}{h h':Th}(a:Step ins rows s c ks p h)(b:Step ins rows s c ks p' h'):p=p'/\h=h':=by
 obtain⟨_,_,a1,m,hs,c1,j,row,a2,a3,a4,a5⟩:=a;obtain⟨_,_,b1,m',Hh,N8,j',Cu,b2,b3,b4,b5⟩:=b;rw[a1]at b1;cases b1;rw[a2]at b2;cases b2;rw[a4]at b4;cases b4;have:=g.nd j j' _ _ a3 b3 rfl;subst this;rw[a5]at b5;cases b5;exact⟨rfl,rfl⟩
theorem wq(g:bq ins){k p1 k1:Th}(a:Res ins rows p k p1 k1):∀{p2 k2:Th},Res ins rows p k p2 k2->p1=p2/\k1=k2:=by
 induction a with
 |stop n ts k=>intro p2 k2 b;cases b;exact⟨rfl,rfl⟩
 | step st r ih =>
   intro p2 k2 b;cases b with
   | step B8 r' =>
     obtain⟨rfl,rfl⟩:=oW g st B8;exact ih r'
theorem sQ(g:bq ins):∀(N:Nat),(∀(p k o o':Th),o.size<=N->Out ins rows p k o->Out ins rows p k o'->o=o')/\(∀(ts:List Th)(k:Th)(os DQ:List Th),au os<=N->Outs ins rows ts k os->Outs ins rows ts k DQ->os=DQ):=by
 intro N;induction N with
 | zero =>
   refine⟨λp k o o' h=>?_,λts k os DQ h a b=>?_⟩
   .have:=o.size_pos;omega
   .cases a with
    |nil=>cases b;rfl
    | cons x y =>
      rename_i o _ _
      have:=o.size_pos;rw[au]at h;omega
 | succ N ih =>
   have h1:∀(p k o o':Th),o.size<=N+1->Out ins rows p k o->Out ins rows p k o'->o=o':=by
    intro p k o o' h a b;cases a with
    | mk r os =>
      cases b with
      | mk r' DQ =>
        obtain⟨e1,e2⟩:=wq g r r';cases e1;subst e2;rw[w!]at h;rw[ih.2 _ _ _ _ (by omega) os DQ]
   refine⟨h1,λts=>?_⟩;induction ts with
   |nil=>intro k os DQ h a b;cases a;cases b;rfl
   | cons t ts VL =>
     intro k os DQ h a b;cases a with
     | cons x y =>
       cases b with
       | cons x' y' =>
         rw[au]at h;rw[h1 _ _ _ _ (by omega) x x',VL _ _ _ (by omega) y y']
theorem j6(g:bq ins){k o o':Th}(a:Out ins rows p k o)(b:Out ins rows p k o'):o=o':=(sQ g o.size).1 p k o o' (W2 _) a b
theorem uZ{d:Nat}{head:Th}(ok:dj ins outs S d head rows):∀(N:Nat)(n:Xk)(ks:List Th),(p! n ks).tall<=N->(∀h∈ks,h.Fit ins) ->
 ∀(M:Nat)(p:Th),p.size<=M->p.FitS outs S (ks.length:Int)->∃o,Out ins rows p (.knot n ks) o/\o.Fit outs:=by
 intro N;induction N with
 |zero=>intro n ks h;rw[r!]at h;omega
 | succ N ih =>
   intro n ks hN hk M;induction M with
   |zero=>intro p h;have:=p.size_pos;omega
   | succ M VM =>
     intro p hM hf;cases p with
     | call s c =>
       obtain⟨p',m,hs,st,C6,hh,hm⟩:=wx ok hf hk;have:=cj hm;rw[r!]at hN;obtain⟨o,h1,h2⟩:=ih m hs (by omega) hh _ p' (W2 _) C6;exact⟨o,.step st h1,h2⟩
     | knot m ts =>
       rw[G!]at hf;rw[w!]at hM
       have all:∀us:List Th,au us<=M->FitSs outs S (ks.length:Int) us->∃os,Outs ins rows us (.knot n ks) os/\Fits outs os:=by
        intro us;induction us with
        |nil=>intro _ _;exact⟨[],.nil _,by rw[Fits];trivial⟩
        | cons u us VN =>
          intro h1 h2;rw[au]at h1;rw[FitSs]at h2;obtain⟨o,g1,g2⟩:=VM u (by omega) h2.1;obtain⟨os,g3,g4⟩:=VN (by omega) h2.2;exact⟨o::os,.cons g1 g3,by rw[Fits];exact⟨g2,g4⟩⟩
       obtain⟨os,g1,g2⟩:=all ts (by omega) hf.2;refine⟨.knot m os,.mk (.stop m ts _) g1,?_⟩;rw[E!,g1.length];exact⟨hf.1,g2⟩
def SzAt(H:Hp)(ins:List (Xk×Int))(rows:List (List Th))(h:Th)(a:WT):Prop:=∃es:List WT,H a=some (.lst (es.map i!))/\es.length=rows.length/\∀(s:Int)(o:Th),Out ins rows (.call s 0) (.knot YI [h]) o->∃e,es[s.toNat]?=some e/\H e=some (.tup [.int (o.size:Nat),.int (o.tall:Nat)])
theorem SzAt.same(s:j! H H'){h:Th}(g:SzAt H ins rows h a):SzAt H' ins rows h a:=by
 obtain⟨es,h1,h2,h3⟩:=g;refine⟨es,s _ _ h1,h2,λst o ho=>?_⟩;obtain⟨e,g1,g2⟩:=h3 st o ho;exact⟨e,g1,s _ _ g2⟩
theorem uH{s c:Int}{ks:List Th}{h:Th}(st:Step ins rows s c ks p h):Step ins rows s 0 [h] p h:=by
 obtain⟨a1,a2,a3,r⟩:=st;exact⟨a1,Int.le_refl _,rfl,r⟩
theorem SzAt.keep(k:KT H H'){h:Th}(ha:∀o,H a=some o->H' a=some o)(g:SzAt H ins rows h a):SzAt H' ins rows h a:=by
 obtain⟨es,h1,h2,h3⟩:=g;refine⟨es,ha _ h1,h2,λst o ho=>?_⟩;obtain⟨e,g1,g2⟩:=h3 st o ho;exact⟨e,g1,k _ _ g2⟩
theorem rV{R:α->β->Prop}:∀(xs:List α),(∀x∈xs,∃y,R x y)->∃ys:List β,ys.length=xs.length/\∀(i:Nat)(x:α)(y:β),xs[i]?=some x->ys[i]?=some y->R x y
 | [],_=>⟨[],rfl,λi x y h=>by simp at h⟩
 | x::xs,h=>by
   obtain⟨y,hy⟩:=h x (WY ..);obtain⟨ys,h1,h2⟩:=rV xs λz hz=>h z (WQ _ hz);refine⟨y::ys,by rw[W8,W8,h1],λi a b ha hb=>?_⟩;cases i with
   | zero =>
     simp at ha hb;subst ha;subst hb;exact hy
   |succ i=>exact h2 i a b (by simpa using ha) (by simpa using hb)
end BB
namespace L2
open PySem PySem.Spec PyProof.Rows
section
variable{p p2 Bu:Pos}
end
end L2
namespace BB
open PySem L2
theorem i4{F:Hp->α->WT->Prop}(zs:List α)(hF:∀H1 H2 z p,KT H1 H2->F H1 z p->F H2 z p)(hz:zs.length=xs.length)(hn:xs.length<=1000000)
 (Ha:∀i H2,j! H H2->i<xs.length->J.go i H2) (BZ:∀H2,j! H H2->J.stop xs.length H2) (Dk:∀(i:Nat)H2 x H3,j! H H2->i<xs.length->J.yld i H2 x H3->H3=H2/\xs[i]?=some x)
 (hb:∀(i:Nat)x z H2(R:VK)(W':Hp->Prop),xs[i]?=some x->zs[i]?=some z->j! H H2->(∀H3 p,j! H2 H3->F H3 z p->R (.ref p) H3)->g x (cσ js Y) H2 λAk H3=>tt Ak H3 λb H4=>if b=true then te Ak H4 R else W' H4)
 (Ba:∀D H' as,H D=none->j! H H'->H' D=some (.lst (as.map i!))->Xz (F H') zs as->fin D H') :
 ∀D,H D=none->∃(n:Nat)(W:Nat->Hp->Prop),W 0 (upd H D (.lst []))/\fH js g tt te Y J D n W λH'=>fin D H':=by
 intro D hD;refine⟨xs.length,λi H'=>i<=xs.length/\j! H H'/\∃as:List WT,H' D=some (.lst (as.map i!))/\Xz (F H') (zs.take i) as,⟨XB _,aj hD _,[],by rw[ad];rfl,.nil⟩,?_⟩;rintro i H' ⟨hi,s1,as,e1,hp⟩;by_cases Ae:i<xs.length
 .refine .inr ⟨Ae,Ha i H' s1 Ae,λv H1 hy=>?_⟩;obtain⟨e,hx⟩:=Dk i H' v H1 s1 Ae hy;subst e;obtain⟨z,DG⟩:∃z,zs[i]?=some z:=⟨_,WS (by omega)⟩;have hl:(zs.take i).length=as.length:=W5 hp;rw[XI]at hl;refine hb i v z _ _ _ hx DG s1 λH3 p s3 N9=>⟨_,s3 _ _ e1,?_,Ae,aF (s1.trans s3) hD,as++[p],?_,?_⟩
  .rw[WO];have:Xh=16777216:=Zr;omega
  .rw[ad,W9];rfl
  .have kt:KT H3 (upd H3 D (.lst (as.map i!++[.ref p]))):=bx (s3 _ _ e1);rw[take_snoc DG];exact q! (v! (λx y e=>hF _ _ _ _ ((n! s3).trans kt) e) hp) (.cons (hF _ _ _ _ kt N9) .nil)
 .have Cq:i=xs.length:=by omega
  subst Cq;refine .inl ⟨BZ _ s1,Ba D H' as hD s1 e1 ?_⟩;rw[Yr (by omega)]at hp;exact hp
theorem vQ{F:Hp->α->WT->Prop}(zs:List α)(hF:∀H1 H2 z p,KT H1 H2->(∀o,H1 p=some o->H2 p=some o)->F H1 z p->F H2 z p)(hz:zs.length=xs.length)(hn:xs.length<=1000000)
 (Ha:∀i H2,j! H H2->i<xs.length->J.go i H2) (BZ:∀H2,j! H H2->J.stop xs.length H2) (Dk:∀(i:Nat)H2 x H3,j! H H2->i<xs.length->J.yld i H2 x H3->H3=H2/\xs[i]?=some x)
 (hb:∀(i:Nat)x z H2(R:VK)(W':Hp->Prop),xs[i]?=some x->zs[i]?=some z->j! H H2->(∀H3 p,j! H2 H3->H2 p=none->F H3 z p->R (.ref p) H3)->g x (cσ js Y) H2 λAk H3=>tt Ak H3 λb H4=>if b=true then te Ak H4 R else W' H4)
 (Ba:∀D H' as,H D=none->j! H H'->H' D=some (.lst (as.map i!))->Xz (F H') zs as->fin D H') :
 ∀D,H D=none->∃(n:Nat)(W:Nat->Hp->Prop),W 0 (upd H D (.lst []))/\fH js g tt te Y J D n W λH'=>fin D H':=by
 intro D hD;refine⟨xs.length,λi H'=>i<=xs.length/\j! H H'/\∃as:List WT,H' D=some (.lst (as.map i!))/\Xz (λz a=>F H' z a/\a≠D) (zs.take i) as,⟨XB _,aj hD _,[],by rw[ad];rfl,.nil⟩,?_⟩;rintro i H' ⟨hi,s1,as,e1,hp⟩;by_cases Ae:i<xs.length
 .refine .inr ⟨Ae,Ha i H' s1 Ae,λv H1 hy=>?_⟩;obtain⟨e,hx⟩:=Dk i H' v H1 s1 Ae hy;subst e;obtain⟨z,DG⟩:∃z,zs[i]?=some z:=⟨_,WS (by omega)⟩;have hl:(zs.take i).length=as.length:=W5 hp;rw[XI]at hl;refine hb i v z _ _ _ hx DG s1 λH3 p s3 np N9=>⟨_,s3 _ _ e1,?_,Ae,aF (s1.trans s3) hD,as++[p],?_,?_⟩
  .rw[WO];have:Xh=16777216:=Zr;omega
  .rw[ad,W9];rfl
  .have kt:KT H3 (upd H3 D (.lst (as.map i!++[.ref p]))):=bx (s3 _ _ e1);have DU:p≠D:=λz=>by rw[z,e1]at np;cases np
   rw[take_snoc DG];exact q! (v! (λx y e=>⟨hF _ _ _ _ ((n! s3).trans kt) (λo ho=>by rw[af e.2];exact s3 _ _ ho) e.1,e.2⟩) hp) (.cons ⟨hF _ _ _ _ kt (λo ho=>by rw[af DU];exact ho) N9,DU⟩ .nil)
 .have Cq:i=xs.length:=by omega
  subst Cq;refine .inl ⟨BZ _ s1,Ba D H' as hD s1 e1 ?_⟩;rw[Yr (by omega)]at hp;exact v! (λ_ _ e=>e.1) hp
end BB
namespace L2
open PySem PySem.Spec PyProof.Rows
theorem FnOk.x0{k:Nat}{SN:Sp}(F:FnOk P w K mg base (CX1 P w) k f fd ps SN)
 (h:∀vs H Q E,sp vs H Q E->SN vs H Q λ_ _ _=>False):FnOk P w K mg base CX0 k f fd ps sp :=
 ⟨λvs H Q E q=>F.len vs H Q _ (h _ _ _ _ q),λA outer s H args us vs Q E hr he hb hv hs=>codeAny_mono (F.run A outer s H args us vs Q _ hr he hb hv (h _ _ _ _ hs)) λr s' hc=>by
  cases r with
  | error e =>
    obtain⟨_,_,_,_,_,_,_,_,_,_,_,_,_,hE⟩:=(show CX1 P w outer H s (λ_ _ _=>False) e s' from hc);exact hE.elim
  |ok v=>cases v <;> exact hc⟩
theorem us1:∀{us:List α},us.length=1->∃a,us=[a]
 | [a],_=>⟨a,rfl⟩
theorem us2:∀{us:List α},us.length=2->∃a b,us=[a,b]
 | [a,b],_=>⟨a,b,rfl⟩
theorem us3:∀{us:List α},us.length=3->∃a b c,us=[a,b,c]
 | [a,b,c],_=>⟨a,b,c,rfl⟩
theorem us4:∀{us:List α},us.length=4->∃a b c d,us=[a,b,c,d]
 | [a,b,c,d],_=>⟨a,b,c,d,rfl⟩
theorem us5:∀{us:List α},us.length=5->∃a b c d e,us=[a,b,c,d,e]
 | [a,b,c,d,e],_=>⟨a,b,c,d,e,rfl⟩
end L2
namespace PySem
open Sem (wp)
section
variable{K:Type}[DecidableEq K]{knd:HeapKind prog w K}
end
end PySem
namespace L2
open PySem PySem.Spec PyProof.Rows BB
end L2
namespace BB
open PySem L2
end BB
namespace PySem
open Sem (wp)
section
variable{I:WT}{wr:List WT}{G:Array GenState->Array GenState->Prop}{P:Nat->WW->Prop}{St:Nat->W3->Prop}
end
end PySem
namespace L2
open PySem PySem.Spec PyProof.Rows
section
variable{o:XY}{to:TE}{p2 Bu apos Ap:Pos}
end
end L2
namespace PySem
open Sem (wp)
namespace F
theorem bb_list_nokeys:typeLookup (.type "list") "keys"=pure none:=by rw[typeLookup_type,builtinLookup_eq_fast];kernel_rfl
end F
section
variable{xs:Array WW}{k:Nat}
theorem bb_nokeysL{Q:Option WW->W3->Prop}(hA:A.handled=none)(hx:s.1.get? a=some {cls:=.type "list",data:=.seq xs k})
 (q:∀h' tk,(∀b o,s.1.get? b=some o->h'.get? b=some o)->Q none {s with heap:=h',toks:=tk}):Xd (Xx prog w) A (getAttr? (.ref a) "keys") Q E s:=by
 obtain⟨hp,g,d,tk,os⟩:=s;have gT:∀z,(⟨hp,g,d,z,os⟩:W3).TypeIs (.ref a) "list":=λ_=>⟨_,hx,rfl⟩;have g1:=sub_AttributeError;have g3:=F.slot_list_getattribute.lookup;have g4:=F.slot_list_getattribute.bind (.ref a);have g5:=am_list_getattr_none;unfold getAttr? getAttrBy? getAttrBy
 repeat (any_goals (first|assumption|exact gT _|((with_reducible show Xd _ _ (call (Value.builtin "list.__getattribute__") _ _) _ _ _);refine call_meets F.slot_list_getattribute (gT _) am_entry_list_getattribute (F.args_list_getattribute_2 _ _) (meets_getattribute_miss_list a xs k #[] "keys" _ F.bb_list_nokeys (by decide +kernel) (by decide)) ⟨hx,hA,λh' VO e BC=>?_⟩)|wp_step))
 obtain⟨t',u',he⟩:=BC.there;show Xd _ _ (getattributeRaised _ _ _ _ _ _ _) _ _ _;unfold getattributeRaised
 repeat (any_goals (first|assumption|wp_step))
 exact q h' VO BC.keeps
end
end PySem
namespace L2
open PySem PySem.Spec PyProof.Rows
def dB:List (List Key×V)->List (List Key×V)->List (List Key×V)
 |kvs,[]=>kvs
 |kvs,p::ps=>dB (putK kvs p.1 p.2) ps
def PrA(H:Hp)(pr:List Key×V)(pa:WT):Prop:=∃ka,H pa=some (.tup [.ref ka,pr.2])/\H ka=some (.tup (pr.1.map kV))
theorem tN{r:WW}{k:List Key}{Q:Unit->W3->Prop}(hu:(tupleKind (aT X.prog X.w)).room A)(I:Inv X Z Y H s)(e:H a=some (.dT kvs))(eb:H b=some (.tup (k.map kV)))(l:kvs.length<Xh)(rv:RelV v r)(h:∀h' tk,X5 a s.1 h'->Inv X Z Y (upd H a (.dT (putK kvs k v))) {s with heap:=h',toks:=tk}->Q () {s with heap:=h',toks:=tk}) :
 Xd (Xx X.prog X.w) A (dictSet a (.ref b) r) Q E s:=by
 obtain⟨z,hd,xs,rel,dd⟩:=ou I.hok e;have hz:xs.length<=Xh:=by rw[<-W5 rel];exact z
 have hl:(putK kvs k v).length<=Xh:=by have:=bO kvs k v;omega
 refine wpAny_dictSet_heap (hsz:=hz) hu (ie I.hok eb) dd λh' EL hs=>h _ _ hs ?_;obtain⟨q,es,ep,hq,h2,h3,h4,_,h5⟩:=EL;refine iQ I (by rw[e];exact Y7) hs ⟨q,hq⟩ ⟨hl,hd,_,(rel.put k eb rv).keeps λc ys ec=>?_,q,es,ep,hq,h2,h3,h4,h5⟩;rw[af (aA ec e (λz=>nomatch z))];exact ec
theorem qD{prs:List (List Key×V)}{ps:List WT}(hh:A.handled=none)(hu:A.units+8<Zs)(hn:prs.length<=10000) :
 ∀(m i:Nat)(s:W3)(tk:Tok)(H:Hp)(kvs:List (List Key×V)),prs.length - i=m->i<=prs.length->Inv X Z Y H s->H d=some (.dT kvs)->kvs.length<=i->jy X Z H it->s.1.IsListIter it l i->H l=some (.lst (ps.map i!))->Xz (PrA H) prs ps ->
   (∀s',Inv X Z Y (upd H d (.dT (dB kvs (prs.drop i)))) s'->R (.ok (.ret .none)) s') ->
   Z7 (Xx X.prog X.w) A (.builtin "dict.update.loop" ⟨[.ref d,.ref it,.int i tk,.none],[]⟩) R s:=by
 intro m;induction m with
 | zero =>
   intro i s tk H kvs hk hi I ed AM hf hit el BS hR;have B9:i=prs.length:=by omega
   subst B9;obtain⟨its,rv,p,hz⟩:=I.list (l! (K:=X.K) el);have AV:prs.length=ps.length:=W5 BS;have hl:=rv.length;rw[WO]at hl;obtain⟨f0,f1,f2,f3,f4,f5⟩:=hf;refine codeAny_builtin F! ?_;rw[ZL u! _];show Xd _ A.in1 (Z6 (.ref it) >>= _) _ _ s;refine WN (wpAny_pyNext_list_end hh hit p.isList (by simp;omega) λh' eb=>?_);refine WN (W0 (W0 ?_));refine hR _ ?_;rw[List.drop_length]
   have e0:upd H d (.dT (dB kvs []))=H:=by
    funext b;by_cases hb:b=d
    .rw[hb,ad,ed];rfl
    .rw[af hb]
   rw[e0];exact I.turned (t':=s.toks) (λb o hb e=>eb b o hb e) f0 f1 f3 f4 f5
 | succ m ih =>
   intro i s tk H kvs hk hi I ed AM hf hit el BS hR;have Ae:i<prs.length:=by omega
   have AV:prs.length=ps.length:=W5 BS;obtain⟨its,rv,p,hz⟩:=I.list (l! (K:=X.K) el);have hl:=rv.length;rw[WO]at hl;obtain⟨pa,Ei,ka,CN,AQ⟩:=y! BS (WS Ae);have hx:(ps.map i!)[i]?=some (.ref pa):=by rw[Xj,Ei];rfl
   obtain⟨u,Ka,ru⟩:=rv.get hx;cases ru;obtain⟨f0,f1,f2,f3,f4,f5⟩:=id hf;refine codeAny_builtin F! ?_;rw[ZL u! _];show Xd _ A.in1 (Z6 (.ref it) >>= _) _ _ s;refine WN (wpAny_pyNext_list_item hit p.isList (x:=.ref pa) (by simpa using Ka) λh1 Hi GD=>?_);have I1:Inv X Z Y H {s with heap:=h1}:=I.turned (t':=s.toks) (λb o hb e=>(GD.2 b hb).trans e) f0 f1 f3 f4 f5;obtain⟨_,Al,n2,Oa,e2⟩:=(show ObjOk X.prog X.w H h1 pa (.tup [.ref ka,(prs[i]).2])from I1.hok pa _ CN)
   obtain⟨vv,rfl,Ob⟩:∃vv,Al=[.ref ka,vv]/\RelV (prs[i]).2 vv:=by
    cases Oa with
    | cons a b =>
      cases b with
      | cons c d =>
        cases d;cases a;exact⟨_,rfl,c⟩
   have Oc:(⟨h1,s.gens,s.drawn,s.toks,s.os⟩:W3).TypeIs (.ref pa) "tuple":=⟨_,e2,rfl⟩;refine WN (Yl ?_);refine WN (wpAny_tryCatch ?_);unfold Builtin.Dict.pairItems;refine WN (ZH Oc ?_);rw[b! (by decide)];refine WN (YM e2 rfl (W0 ?_));show Xd _ _ (holding [.ref ka,vv] (dictSet d (.ref ka) vv)) _ _ _;refine Yl (tN (k:=(prs[i]).1) ?_ I1 ed AQ (by have:=fm;rw[Zr];omega) Ob λh2 MD Gx I2=>?_)
   .exact Z5 (by omega)
   refine W0 ⟨plainId_quiet u! _,?_⟩
   have EO:Y6 ((i:Int)+1)=.int ((i+1:Nat):Int) 0:=by
    show Value.int ((i:Int)+1) 0=_;rw[show((i+1:Nat):Int)=(i:Int)+1 by omega]
   rw[EO];have Hj:it≠d:=λz=>by rw[z,ed]at f0;cases f0
   refine ih (i+1) _ 0 _ (putK kvs (prs[i]).1 (prs[i]).2) (by omega) Ae I2 ad (by have:=bO kvs (prs[i]).1 (prs[i]).2;omega) ⟨by rw[af Hj];exact f0,f1,f2,f3,f4,f5⟩ ?_ ?_ ?_ λs' I'=>hR s' ?_
   .obtain⟨o,g1,r⟩:=Hi;exact⟨o,(Gx.2 it Hj).trans g1,r⟩
   .rw[af (aA el ed (λz=>nomatch z))];exact el
   .refine v! (λx y e=>?_) BS;obtain⟨VP,g1,g2⟩:=e;exact⟨VP,by rw[af (aA g1 ed (λz=>nomatch z))];exact g1,by rw[af (aA g2 ed (λz=>nomatch z))];exact g2⟩
   .rw[iN]at I';rw[List.drop_eq_getElem_cons Ae];exact I'
def ye:List V->Hp->VK->Prop:=λxs H Q=>∃(l:WT)(ps:List WT)(prs:List (List Key×V)),xs=[.ref l]/\H l=some (.lst (ps.map i!))/\Xz (PrA H) prs ps/\prs.length<=10000/\∀d,H d=none->Q (.ref d) (upd H d (.dT (dB [] prs)))
theorem kh(hu:X.A.units+12<Zs)(hc:X.calm=true):dq X (.type "dict") ye:=by
 intro Z s Y H xs us Q I r h;obtain⟨l,ps,prs,rfl,el,BS,hn,q⟩:=h;obtain⟨u,rfl,rx⟩:=vals1 r;cases rx;obtain⟨z,its,n,rv,e⟩:=(show ObjOk X.prog X.w H s.1 l (.lst (ps.map i!))from I.hok l _ el);refine callType_codes (Q₁:=λobj l'=>obj=.ref s.1.1.size/\l'={s with heap:=s.1.push {cls:=.type "dict",data:=.dict #[]}}) PySem.F.kt_called_dict (PySem.F.kt_typeCall_dict_1 _) PySem.F.entry_dict_init (kt_code_dict_new _ ⟨rfl,rfl⟩) ?_;rintro obj l' ⟨rfl,rfl⟩;have gn:(s.1.push {cls:=.type "dict",data:=.dict #[]}).DictOf (aT X.prog X.w) s.1.1.size []:=Heap.DictOf.new s.1;have gt:(s.1.push {cls:=.type "dict",data:=.dict #[]}).get? l=some {cls:=.type "list",data:=.seq its.toArray n}:=WV _ e;refine⟨gn.typeIs,PySem.F.args_dict_init_2 _ _,?_⟩;have EN:=I.hok.fresh (W2 s.1.1.size);have I1:Inv X Z Y (upd H s.1.1.size (.dT [])) {s with heap:=s.1.push {cls:=.type "dict",data:=.dict #[]}}:=I.laid (a:=s.1.1.size) (o:=.dT []) (t':=s.toks) (λ_ _ q=>WV _ q) (W2 _) (pF s.1 I.big);unfold Zp.«dict.__init__»;refine WN ?_;unfold Builtin.Dict.selfAndRest;refine WN (wpAny_notOrdered_dict gn.typeIs ?_);show Xd _ _ (pure (s.1.1.size,[XO l])) _ _ _;refine W0 ?_;show Xd _ _ (Builtin.Dict.updateFrom "dict.__init__" s.1.1.size (.ref l) [] .none) _ _ _;unfold Builtin.Dict.updateFrom;refine WN (ZH (T:="list") ⟨_,gt,rfl⟩ ?_);rw[b! (by decide)];refine WN (bb_nokeysL (A:=X.A.in1.in1) (I.ok.hd hc) gt λh1 Fu k1=>?_);have I2:Inv X Z Y (upd H s.1.1.size (.dT [])) {s with heap:=h1,toks:=Fu}:=I1.kept (t':=Fu) λb o e=>k1 b o e;simp only[Option.isNone_none,if_true];refine WN (wpAny_rule ?_);obtain⟨od,es,ep,Od,VQ⟩:=id gn;have Ae:s.1.1.size<h1.objs.size:=Xc (k1 _ _ Od);refine WN (wpAny_pyIter_list (l:=l) (items:=its.toArray) ⟨_,k1 _ _ gt,rfl,n,rfl⟩ ?_);refine W0 ⟨plainId_quiet u! _,?_⟩;have DV:l≠s.1.1.size:=ar el EN
 have Hk:Xz (PrA (upd H s.1.1.size (.dT []))) prs ps:=v! (λx y e=>by
  obtain⟨ka,g1,g2⟩:=e;exact⟨ka,by rw[af (ar g1 EN)];exact g1,by rw[af (ar g2 EN)];exact g2⟩) BS
 have Eh:(upd H s.1.1.size (.dT [])) h1.objs.size=none:=I2.hok.fresh (W2 _);refine qD (A:=X.A.in1) (d:=s.1.1.size) (it:=h1.objs.size) (l:=l) (prs:=prs) (ps:=ps) (I.ok.hd hc) (by show X.A.units+1+8<Zs;omega) hn prs.length 0 _ 0 (upd H s.1.1.size (.dT [])) [] (Nat.sub_zero _) (XB _) (I2.kept (t':=Fu) λb o e=>WV _ e) ad (W2 _) (I2.fpOk (W2 _) Eh) ⟨_,W4 _ rfl,rfl,rfl⟩ (by rw[af DV];exact el) Hk λs' I'=>?_;rw[iN,Zk]at I';exact⟨rfl,.ref s.1.1.size,_,I',rfl,q _ EN⟩
end L2
namespace BB
open PySem L2
theorem qQ{k:Nat}(hr:L2.Room k A):A.units+12<Zs:=by
 have:=hr.units;omega
mutual
theorem rj(pre:List Int):∀t:Th,(t.pl pre).map (·.2)=t.walk
 | .knot n ks=>by
   rw[Th.pl_eq,z!,XH];show p! n ks::(pls pre 0 ks).map (·.2)=p! n ks::walks ks;rw[mE pre 0 ks]
 |.call s k=>by rw[Th.pl_eq,z!,XH];rfl
theorem mE(pre:List Int)(i:Int):∀ts:List Th,(pls pre i ts).map (·.2)=walks ts
 | []=>by rw[pls,walks];rfl
 |t::ts=>by rw[pls,walks,W9,rj _ t,mE pre (i+1) ts]
end
theorem qU{t:Th}{s k:Int}(h:K! s k∈t.walk):∃c∈callsOf (t.pl []),c.2=(s,k):=by
 rw[<-rj [] t]at h;obtain⟨p,hp,e⟩:=Xq.mp h;refine⟨(p.1,s,k),?_,rfl⟩;unfold callsOf;refine List.mem_filterMap.mpr ⟨p,hp,?_⟩;obtain⟨a,b⟩:=p;dsimp only at e;rw[e];rfl
theorem jK{R:List Key->V->Prop}:∀(prs kvs:List (List Key×V)),(∀k v,aG kvs k=some v->R k v)->(∀p∈prs,R p.1 p.2) ->
 (∀k v,aG (dB kvs prs) k=some v->R k v)/\(∀k,((∃v,aG kvs k=some v)\/∃p∈prs,p.1=k)->∃v,aG (dB kvs prs) k=some v)
 | [],kvs,h1,_=>⟨h1,λk h=>by
   rcases h with h|⟨p,hp,_⟩
   .exact h
   .cases hp⟩
 | p::prs,kvs,h1,h2=>by
   have ih:=jK (R:=R) prs (putK kvs p.1 p.2) (λk v hv=>by
    rw[bW]at hv;by_cases e:k=p.1
    .rw[b! e]at hv;cases hv;rw[e];exact h2 p (WY ..)
    .rw[a! e]at hv;exact h1 k v hv) (λx hx=>h2 x (WQ _ hx))
   refine⟨ih.1,λk h=>ih.2 k ?_⟩;by_cases e:k=p.1
   .left;exact⟨p.2,by rw[bW,b! e]⟩
   .rcases h with⟨v,hv⟩|⟨x,hx,SO⟩
    .left;exact⟨v,by rw[bW,a! e];exact hv⟩
    .rcases Xb.mp hx with rfl|hx
     .exact g! SO.symm e
     .exact .inr ⟨x,hx,SO⟩
end BB
namespace PySem
theorem bb_zip_next0{TI TO:WT}{k:Nat}{xs:Array WW}{x y a b:WW}{Q:Option WW->W3->Prop}(D:ZipApart z TI TO i1 i2 l1 l2)
 (hz:IsZip s.1 z TI TO .none) (hTI:ZE s.1 TI (.ref i1) (.ref i2)) (hTO:ZE s.1 TO a b)
 (h1:s.1.IsTupleIter i1 l1 k) (h2:s.1.IsTupleIter i2 l2 k) (CC:s.1.IsTuple l1 xs) (BI:s.1.IsTuple l2 ys) (hx:xs[k]?=some x) (hy:ys[k]?=some y)
 (hQ:∀h',IsZip h' z TI TO (Y6 s.1.1.size)->ZE h' TO x y->h'.IsTupleIter i1 l1 (k+1)->h'.IsTupleIter i2 l2 (k+1)->ZE h' s.1.1.size x y->h'.objs.size=s.1.1.size+1 ->
  (∀c o,c≠z->c≠TO->c≠i1->c≠i2->s.1.get? c=some o->h'.get? c=some o)->Q (some (.ref s.1.1.size)) {s with heap:=h'}) :
 Xd (Xx prog w) A (Z6 (.ref z)) Q E s:=by
 have hT:s.TypeIs (.ref z) "zip":=⟨_,hz,rfl⟩;unfold Z6;refine WN (wpAny_attempt (X0 (name:=WU "__next__") hT F.slot_zip_next (X7 F.slot_zip_next hT F.entry_zip_next ?_ (F.args_zip_next_1 _))));exact bb_zip_itemA D hz hTI hTO h1 h2 CC BI hx hy λh' a1 a2 a3 a4 a5 a6 a7=>W0 (hQ h' a1 a2 a3 a4 a5 a6 a7)
end PySem
namespace L2
open PySem PySem.Spec PyProof.Rows
def Itz(K:WX)(a b:WT):It:=⟨λi H=>∃xs ys x y,SqT K H a xs/\SqT K H b ys/\xs[i]?=some x/\ys[i]?=some y,λi H v H'=>∃p x y,H p=none/\v=.ref p/\H'=upd H p (.tup [x,y])/\(∀xs,SqT K H a xs->xs[i]?=some x)/\(∀ys,SqT K H b ys->ys[i]?=some y),λi H=>∃xs ys,SqT K H a xs/\SqT K H b ys/\(xs.length<=i\/ys.length<=i)⟩
structure ZTn(z TI TO i1 i2 a b:WT)(i:Nat)(h:X4):Prop where
 ap:ZipApart z TI TO i1 i2 a b
 zip:IsZip h z TI TO .none
 hTI:ZE h TI (.ref i1) (.ref i2)
 hTO:∃u v,ZE h TO u v
 h1:h.IsTupleIter i1 a i
 h2:h.IsTupleIter i2 b i
theorem uD{k1}(a b z TI TO i1 i2:WT):Turn P w K (.Tuple elts k1 pos) (Itz K a b) [z,TI,TO,i1,i2] z (ZTn z TI TO i1 i2 a b) where
 mem:=by simp
 obj:=λi h st c hc=>by
  obtain⟨D,hz,hTI,⟨u,v,hTO⟩,⟨o1,a1,a2,a3⟩,⟨o2,b1,b2,b3⟩⟩:=st;simp only[Xb,ZJ,or_false]at hc;rcases hc with rfl|rfl|rfl|rfl|rfl
  .exact⟨_,hz,λv z=>by cases z⟩
  .exact⟨_,hTI,λv z=>by cases z⟩
  .exact⟨_,hTO,λv z=>by cases z⟩
  .exact⟨o1,a1,λv z=>by rw[a3]at z;cases z⟩
  .exact⟨o2,b1,λv z=>by rw[b3]at z;cases z⟩
 keep:=λi h h' st k=>by
  obtain⟨D,hz,hTI,⟨u,v,hTO⟩,⟨o1,a1,a2⟩,⟨o2,b1,b2⟩⟩:=st;exact⟨D,k _ (by simp) _ hz,k _ (by simp) _ hTI,⟨u,v,k _ (by simp) _ hTO⟩,⟨o1,k _ (by simp) _ a1,a2⟩,⟨o2,k _ (by simp) _ b1,b2⟩⟩
 item:=by
  intro X hP hw hK hc i Z s Y H E I hf st hg;subst hP hw hK;obtain⟨xs,ys,x,y,DW,DX,hx,hy⟩:=hg;obtain⟨ia,FP,pa,ER⟩:=I.tuple DW;obtain⟨ib,FQ,pb,Kb⟩:=I.tuple DX;obtain⟨u,hu,ru⟩:=FP.get hx;obtain⟨v,hv,rv⟩:=FQ.get hy;obtain⟨D,hz,hTI,⟨ta,tb,hTO⟩,h1,h2⟩:=st
  have lt:∀c∈[z,TI,TO,i1,i2],c<s.1.1.size:=λc hc=>by
   simp only[Xb,ZJ,or_false]at hc;rcases hc with rfl|rfl|rfl|rfl|rfl
   .exact Xc hz
   .exact Xc hTI
   .exact Xc hTO
   .obtain⟨o,e,_⟩:=h1;exact Xc e
   .obtain⟨o,e,_⟩:=h2;exact Xc e
  refine bb_zip_next0 D hz hTI hTO h1 h2 (show s.1.IsTuple a ia.toArray from pa) (show s.1.IsTuple b ib.toArray from pb) (by simpa using hu) (by simpa using hv) λDl a1 a2 a3 a4 a5 a6 a7=>?_;refine⟨_,rfl,wpAny_letOwnedTupleGo_zip a1 λDm g1 sb=>?_⟩;replace sb:X5 z Dl Dm:=sb;have FK:H s.1.1.size=none:=I.hok.fresh (W2 _)
  have IA:Inv X Z Y (upd H s.1.1.size (.tup [x,y])) {s with heap:=s.1.push {cls:=.type "tuple",data:=.seq #[u,v]},toks:=s.toks} :=
   I.laid (o:=.tup [x,y]) (λb ob q=>WV _ q) (W2 _) ⟨by show 2<=Xh;decide,[u,v],0,.cons ru (.cons rv .nil),W4 _ rfl⟩
  have VS:s.1.1.size≠z:=Nat.ne_of_gt (lt z (by simp));refine⟨.ref s.1.1.size,upd H s.1.1.size (.tup [x,y]),?_,rfl,⟨_,x,y,FK,rfl,rfl,λzs Fv=>by rw[I.tuple_inj Fv DW];exact hx,λzs Fv=>by rw[I.tuple_inj Fv DX];exact hy⟩,?_,λc hc=>?_⟩
  .have IB:Inv X Z Y (upd H s.1.1.size (.tup [x,y])) {s with heap:=Dm,toks:=s.toks}:=by
    refine Inv.turnedL (s:={s with heap:=s.1.push {cls:=.type "tuple",data:=.seq #[u,v]},toks:=s.toks}) (h':=Dm) (fp:=[z,TI,TO,i1,i2]) (t':=s.toks) IA (λc o hc q=>?_) λc hc=>?_
    .have n1:c≠z:=λe=>hc (by simp[e]);have n2:c≠TO:=λe=>hc (by simp[e]);have n3:c≠i1:=λe=>hc (by simp[e]);have n4:c≠i2:=λe=>hc (by simp[e]);rw[sb.2 c n1];by_cases Bg:c=s.1.1.size
     .subst Bg;have q':(s.1.push {cls:=.type "tuple",data:=.seq #[u,v]}).get? s.1.1.size=some o:=q;rw[W4 _ rfl]at q';rw[<-q'];exact a5
     .have q':(s.1.push {cls:=.type "tuple",data:=.seq #[u,v]}).get? c=some o:=q;rw[Heap.get?_push_ne _ _ _ Bg]at q';exact a7 c o n1 n2 n3 n4 q'
    .obtain⟨f0,f1⟩:=hf c hc;exact⟨by rw[af (XG (lt c hc))];exact f0,f1⟩
   exact IB
  .have sT:∀c o,c≠z->Dl.get? c=some o->Dm.get? c=some o:=λc o hc e=>(sb.2 c hc).trans e;refine⟨D,g1,sT _ _ D.TIz (a7 _ _ D.TIz D.TITO D.TIi1 D.TIi2 hTI),⟨_,_,sT _ _ D.TOz a2⟩,?_,?_⟩
   .obtain⟨o,e,r⟩:=a3;exact⟨o,sT _ _ D.i1z e,r⟩
   .obtain⟨o,e,r⟩:=a4;exact⟨o,sT _ _ D.i2z e,r⟩
  .rw[af (XG (lt c hc))];exact(hf c hc).1
 done:=by
  intro X hP hw hK hc i Z s Y H E I hf st hg;subst hP hw hK;obtain⟨xs,ys,DW,DX,CL⟩:=hg;obtain⟨ia,FP,pa,ER⟩:=I.tuple DW;obtain⟨ib,FQ,pb,Kb⟩:=I.tuple DX;have Hm:=FP.length;have VT:=FQ.length;obtain⟨D,hz,hTI,hTO,h1,h2⟩:=st;refine bb_zip_done (show X.A.handled=none from I.ok.hd hc) ⟨D,.inl hz,hTI,hTO,h1,h2,pa,pb⟩ ?_ λh' kp=>⟨rfl,?_⟩
  .rcases CL with h|h
   .exact .inl (by simp;omega)
   .exact .inr (by simp;omega)
  exact I.turnedL (fp:=[z,TI,TO,i1,i2]) (t':=s.toks) (λc o hc q=>kp c o (λhm=>hc (by simp only[Xb,ZJ,or_false]at hm |-;rcases hm with h|h|h|h <;> simp[h])) q) hf
 self:=λ_ _ _ _ _ st h=>wpAny_pyIter_zip st.zip h
section
variable{e1 e2:XY}{t:TA}{p2 Bu:Pos}
def zN(K:WX)(t:TA):TI:=λY H R=>t Y H λvs H1=>∃a b,vs=[.ref a,.ref b]/\(∃xs,SqT K H1 a xs)/\(∃ys,SqT K H1 b ys)/\R (Itz K a b) H1
theorem yo{k1}(g2:Gl X "zip")(m2:X.mg "zip"=none)(ha:PA X [e1,e2] t)
 (h2:XJ [e1,e2] X.env=(false,YW e1 X.env)::XJ [e2] X.env:=by rfl) (h3:(ZD Bu (XJ [e2] X.env)).any (·.1)=false:=by rfl):PI X (.Tuple elts k1 pos) (.Call (.Name "zip" p2) [e1,e2] [] Bu) (zN X.K t):=by
 intro Z s Y H R I h;refine Yu (fR I g2 m2 boot_zip ?_);refine YQ (thn (ha Bu Z s Y H _ I h) λus s2⟨vs,H2,I2,r,a,b,ev,⟨xs,DW⟩,⟨ys,DX⟩,q⟩=>?_) h2 h3;subst ev;obtain⟨u1,u2,rfl,r1,r2⟩:=vals2 r;cases r1;cases r2;obtain⟨ia,FP,pa,ER⟩:=I2.tuple DW;obtain⟨ib,FQ,pb,Kb⟩:=I2.tuple DX;have AR:a<s2.1.1.size:=by obtain⟨o,e,_⟩:=pa;exact Xc e
 have BM:b<s2.1.1.size:=by obtain⟨o,e,_⟩:=pb;exact Xc e
 refine bb_call_zip (show s2.1.IsTuple a ia.toArray from pa) (show s2.1.IsTuple b ib.toArray from pb) λh' z1 z2 z3 z4 z5 z6 z7=>?_;have D:ZipApart (s2.1.1.size+4) (s2.1.1.size+2) (s2.1.1.size+3) s2.1.1.size (s2.1.1.size+1) a b:=zipApart_new AR BM;refine wpAny_pyIter_zip (s:={s2 with heap:=h'}) z1 ?_;refine⟨s2.1.1.size+4,[s2.1.1.size+4,s2.1.1.size+2,s2.1.1.size+3,s2.1.1.size,s2.1.1.size+1],_,_,H2,rfl,I2.kept (t':=s2.toks) z7,uD a b _ _ _ _ _,⟨D,z1,z2,⟨_,_,z3⟩,z4,z5⟩,λc hc=>?_,q⟩
 have BR:s2.1.1.size<=c:=by
  simp only[Xb,ZJ,or_false]at hc;rcases hc with h|h|h|h|h <;> rw[h]
  .exact YN _ _
  .exact YN _ _
  .exact YN _ _
  .exact W2 _
  .exact YN _ _
 exact I2.fpOk BR (I2.hok.fresh BR)
end
end L2
namespace BB
open PySem L2
noncomputable section
local instance:DecidableEq Th:=λ_ _=>Classical.propDecidable _
mutual
def post:Th->List Th->List Th
 |.knot n ks,L=>if p! n ks∈aY ks L then aY ks L else aY ks L++[.knot n ks]
 |.call s k,L=>if K! s k∈L then L else L++[.call s k]
def aY:List Th->List Th->List Th
 | [],L=>L
 |t::ts,L=>aY ts (post t L)
end
theorem post_eq(t:Th)(L:List Th):post t L=if t∈aY t.kids L then aY t.kids L else aY t.kids L++[t]:=by
 cases t with
 |knot n ks=>rw[post];rfl
 |call s k=>rw[post,Th.kids,aY]
theorem du:∀(a b:List Th)(L:List Th),aY (a++b) L=aY b (aY a L)
 | [],b,L=>by rw[ZS,aY]
 |t::a,b,L=>by rw[Y0,aY,aY,du a b]
def ce(L:List Th):Prop:=∀t∈L,∀u∈t.kids,u∈L
theorem uG:∀(n:Nat),(∀(t:Th)(L:List Th),t.size<=n->ce L->L.Nodup->(∃M,post t L=L++M/\∀u∈M,u.size<=t.size)/\ce (post t L)/\(post t L).Nodup/\t∈post t L) /\
 (∀(ts:List Th)(L:List Th),au ts<=n->ce L->L.Nodup->(∃M,aY ts L=L++M/\∀u∈M,u.size<=au ts)/\ce (aY ts L)/\(aY ts L).Nodup/\∀t∈ts,t∈aY ts L):=by
 intro n;induction n with
 | zero =>
   refine⟨λt L h=>?_,λts L h hc hn=>?_⟩
   .have:=t.size_eq;omega
   .cases ts with
    |nil=>rw[aY];exact⟨⟨[],by simp,λu hu=>by cases hu⟩,hc,hn,λt ht=>by cases ht⟩
    | cons t ts =>
      rw[au]at h;have:=t.size_eq;omega
 | succ n ih =>
   have hT:∀(t:Th)(L:List Th),t.size<=n+1->ce L->L.Nodup->(∃M,post t L=L++M/\∀u∈M,u.size<=t.size)/\ce (post t L)/\(post t L).Nodup/\t∈post t L:=by
    intro t L h hc hn;have hs:=t.size_eq;obtain⟨⟨M,hM,ME⟩,h2,h3,h4⟩:=ih.2 t.kids L (by omega) hc hn;rw[post_eq];by_cases hm:t∈aY t.kids L
    .rw[b! hm];exact⟨⟨M,hM,λu hu=>by have:=ME u hu;omega⟩,h2,h3,hm⟩
    .rw[a! hm];refine⟨⟨M++[t],by rw[hM,X6],λu hu=>?_⟩,λx hx u hu=>?_,?_,Xl _ (WY ..)⟩
     .rcases W7.mp hu with hu|hu
      .have:=ME u hu;omega
      .rw[WZ.mp hu];exact W2 _
     .rcases W7.mp hx with hx|hx
      .exact Xi _ (h2 x hx u hu)
      .rw[WZ.mp hx]at hu;exact Xi _ (h4 u hu)
     .rw[YG];refine⟨h3,by simp,λa ha b hb=>?_⟩;rw[WZ.mp hb];exactλz=>hm (z ▸ ha)
   refine⟨hT,λts=>?_⟩;induction ts with
   |nil=>intro L _ hc hn;rw[aY];exact⟨⟨[],by simp,λu hu=>by cases hu⟩,hc,hn,λt ht=>by cases ht⟩
   | cons t ts Oe =>
     intro L h hc hn;rw[au]at h;obtain⟨⟨M,hM,ME⟩,h2,h3,h4⟩:=hT t L (by omega) hc hn;obtain⟨⟨N,hN,VU⟩,g2,g3,g4⟩:=Oe (post t L) (by omega) h2 h3;rw[aY];refine⟨⟨M++N,by rw[hN,hM,X6],λu hu=>?_⟩,g2,g3,λx hx=>?_⟩
     .rw[au];rcases W7.mp hu with hu|hu
      .have:=ME u hu;omega
      .have:=VU u hu;omega
     .rcases Xb.mp hx with rfl|hx
      .rw[hN];exact Xi _ h4
      .exact g4 x hx
theorem j2(t:Th){L:List Th}(hc:ce L)(hn:L.Nodup):(∃M,post t L=L++M/\∀u∈M,u.size<=t.size)/\ce (post t L)/\(post t L).Nodup/\t∈post t L:=(uG t.size).1 t L (W2 _) hc hn
theorem jD:∀(n:Nat),(∀(t:Th)(L:List Th),t.size<=n->ce L->t∈L->post t L=L)/\(∀(ts:List Th)(L:List Th),au ts<=n->ce L->(∀t∈ts,t∈L)->aY ts L=L):=by
 intro n;induction n with
 | zero =>
   refine⟨λt L h=>?_,λts L h hc hm=>?_⟩
   .have:=t.size_eq;omega
   .cases ts with
    |nil=>rw[aY]
    | cons t ts =>
      rw[au]at h;have:=t.size_eq;omega
 | succ n ih =>
   have hT:∀(t:Th)(L:List Th),t.size<=n+1->ce L->t∈L->post t L=L:=by
    intro t L h hc hm;have hs:=t.size_eq;rw[post_eq,ih.2 t.kids L (by omega) hc (hc t hm),b! hm]
   refine⟨hT,λts=>?_⟩;induction ts with
   |nil=>intro L _ _ _;rw[aY]
   | cons t ts Oe =>
     intro L h hc hm;rw[au]at h;rw[aY,hT t L (by omega) hc (hm t (WY ..))];exact Oe L (by omega) hc λx hx=>hm x (WQ _ hx)
theorem qM{t:Th}{L:List Th}(hc:ce L)(h:t∈L):post t L=L:=(jD t.size).1 t L (W2 _) hc h
theorem lG{L:List Th}(hc:ce L)(h:∀t∈ts,t∈L):aY ts L=L:=(jD (au ts)).2 ts L (W2 _) hc h
theorem vo{t c:Th}{pre rest L:List Th}(hc:ce L)(hn:L.Nodup)(hk:t.kids=pre++c::rest)(hp:∀u∈pre,u∈L):post t L=post t (post c L):=by
 obtain⟨⟨M,hM,_⟩,h2,h3,h4⟩:=j2 c hc hn;have e1:aY t.kids L=aY rest (post c L):=by rw[hk,du,lG hc hp,aY]
 have e2:aY t.kids (post c L)=aY rest (post c L):=by
  rw[hk,du,lG h2 (λu hu=>by rw[hM];exact Xi _ (hp u hu)),aY,qM h2 h4]
 rw[post_eq,post_eq t (post c L),e1,e2]
theorem sk{t:Th}{L:List Th}(hc:ce L)(hk:∀u∈t.kids,u∈L)(h:t∉L):post t L=L++[t]:=by
 rw[post_eq,lG hc hk,a! h]
def finish:List Th->List Th->List Th
 | [],L=>L
 |t::ts,L=>finish ts (post t L)
end
end BB
namespace PySem
open Sem (wp)
section
variable{K:Type}[DecidableEq K]{knd:HeapKind prog w K}
theorem bb_setDefault_heap{xs:List (K×WT×WW)}{k:K}{v:WW}(hu:knd.room A)(Cn:knd.is s.1 k a)(hm:s.1.DictOfH knd d xs)
 (Hn:∀p,atKey xs k=some p->Q p.2 {s with toks:=s.toks+knd.draws k})
 (G9:atKey xs k=none->∀h',h'.DictOfH knd d (storedH xs k a v)->X5 d s.1 h'->Q v {s with heap:=h',toks:=s.toks+knd.draws k})
 (hsz:xs.length<=Xh):Xd (Xx prog w) A (dictSetDefault d (.ref a) v) Q E s:=by
 obtain⟨o,es,ep,ho,hc,hd,he,MF,hn⟩:=hm;unfold dictSetDefault
 try with_reducible refine Yl ?_
 refine WN (knd.pyHash hu Cn ?_);refine WN (wpAny_dictFind_heap (s:={s with toks:=s.toks+knd.draws k}) hu Cn ho hd he MF hn ?_ ?_)
 .intro BL;have Of:k∉xs.map (·.1):=not_mem_keys_of_get BL
  refine WN (wpAny_rule (WN (wpAny_updateDictKeys (hz:=by have e:=size_of_entries he;omega) (s:={s with toks:=s.toks+knd.draws k}) ho hd (W0 (G9 (atKey_none_of_get BL) _ ⟨_,_,ep+1,YL _ ho (Obj.isFreed_of_dict (Obj.data_mapDictKeys hd _)),
   hc.mapDictKeys _,Obj.data_mapDictKeys hd _,?_,?_,?_⟩ (YY ..))))))
  .rw[storedH_new (atKey_none_of_get BL)];simp[he,entryOfKey]
  .rw[storedH_new (atKey_none_of_get BL)];intro x hx;rcases W7.mp hx with hx|hx
   .exact knd.keeps (MF x hx) ho hd (YY ..)
   .simp only[WZ]at hx;subst hx;exact knd.keeps Cn ho hd (YY ..)
  .rw[storedH_new (atKey_none_of_get BL)];rw[W9,YG];refine⟨hn,by simp,?_⟩;intro x hx y hy;simp only[XH,ZA,WZ]at hy;subst hy;exactλe=>Of (e ▸ hx)
 .intro j p hj;have h1:=Hn _ (atKey_of_get hn hj);refine WN (Zb (s:={s with toks:=s.toks+knd.draws k}) ho hd ?_);rw[entry_at he j,hj];exact WN (wpAny_rule (W0 h1))
theorem bb_meets_setdefault(knd:HeapKind prog w K)(d a:WT)(dflt:WW)(hd:(d == YC)=false) :
 MeetsIn prog w (Zp.«dict.setdefault» ⟨[.ref d,.ref a,dflt],[]⟩) (λA R s=>knd.room A.in1/\∃k xs,knd.is s.1 k a/\s.1.DictOfH knd d xs/\xs.length<=Xh /\
  (∀p,atKey xs k=some p->R (.ok (.ret p.2)) {s with toks:=s.toks+knd.draws k}) /\
  (atKey xs k=none->∀h',h'.DictOfH knd d (storedH xs k a dflt)->X5 d s.1 h'->R (.ok (.ret dflt)) {s with heap:=h',toks:=s.toks+knd.draws k})) :=
 .of_wp λA R s⟨hu,k,xs,Cn,hm,hz,h1,h2⟩=>by
  unfold Zp.«dict.setdefault»;refine WN ?_;unfold Builtin.Dict.keyAndDefault;have hT:s.TypeIs (.ref d) "dict":=hm.typeIs;refine WN (wpAny_notOrdered_dict hT ?_);show Xd _ _ (pure (d,XO a,some dflt)) _ _ s;refine W0 ?_;show Xd _ _ (if(d == YC)=true then _ else(dictSetDefault d (.ref a) dflt >>= _)) _ _ s;rw[a! (by rw[hd];exact Xn)];exact WN (bb_setDefault_heap hu Cn hm (λp hp=>W0 ⟨_,rfl,h1 p hp⟩) (λhn h' C5 Hh=>W0 ⟨_,rfl,h2 hn h' C5 Hh⟩) hz)
end
end PySem
namespace L2
open PySem PySem.Spec PyProof.Rows
def vI:V->List V->Hp->VK->Prop:=λx vs H Q=>∃(a b:WT)(v:V)(k:List Key)(kvs:List (List Key×V)),x=.ref a/\vs=[.ref b,v]/\H a=some (.dT kvs)/\H b=some (.tup (k.map kV))/\kvs.length<Xh /\
 (∀u,aG kvs k=some u->Q u H)/\(aG kvs k=none->Q v (upd H a (.dT (putK kvs k v))))
theorem lZ(hu:X.A.units+1<Zs):MtM X "dict.setdefault" vI:=by
 intro Z s Y H x vs v us Q I rx rv h;obtain⟨a,b,y,k,kvs,rfl,rfl,e,eb,l,q1,q2⟩:=h;cases rx;cases rv with
 |cons r1 rv =>
 cases rv with
 |cons r2 rv =>
 cases rv;cases r1;obtain⟨z,hd,xs,rel,dd⟩:=ou I.hok e;have hz:xs.length<=Xh:=by rw[<-W5 rel];exact z
 have hl:(putK kvs k y).length<=Xh:=by have:=bO kvs k y;omega
 have hT:s.TypeIs (.ref a) "dict":=dd.typeIs;refine call_meetsIn PySem.F.slot_dict_setdefault hT PySem.F.entry_dict_setdefault (PySem.F.args_dict_setdefault_3 _ _ _) (bb_meets_setdefault (tupleKind (aT X.prog X.w)) a b _ hd) ⟨Z5 hu,k,xs,ie I.hok eb,dd,hz,λp hp=>?_,λhn h' EL hs=>?_⟩
 .have hr:=rel.val k;rw[hp]at hr;cases hv:aG kvs k with
  |none=>rw[hv]at hr;exact hr.elim
  | some u =>
    rw[hv]at hr;exact⟨u,H,I.tok _,hr,q1 u hv⟩
 .have hr:=rel.val k;rw[hn]at hr;cases hv:aG kvs k with
  |some u=>rw[hv]at hr;exact hr.elim
  | none =>
    refine⟨y,_,?_,r2,q2 hv⟩;obtain⟨q,es,ep,hq,h2,h3,h4,_,h5⟩:=EL;refine iQ I (by rw[e];exact Y7) hs ⟨q,hq⟩ ⟨hl,hd,_,(rel.put k eb r2).keeps λc ys ec=>?_,q,es,ep,hq,h2,h3,h4,h5⟩;rw[af (aA ec e (λz=>nomatch z))];exact ec
end L2
namespace PySem
open Sem (wp)
theorem bb_key_loop{S:WT}{es:Array DictEntry}{od:YF}(hh:A.in1.handled=none)(hz:es.size<=Xh)(Ho:S≠it)(Kc:S≠d)(Hj:d≠it)(g2:od.data=.dict es ep)(res:WW) :
 ∀(k i:Nat)(s:W3)(acc:Array WW)(c:Nat),es.size - i=k->i<=es.size->s.1.IsKeyIter it d i es.size ep->s.1.get? d=some od->s.1.get? S=some {cls:=.type "list",dict:=none,data:=.seq acc c,slots:=#[]}->acc.toList=(es.toList.take i).map (·.key) ->
 (∀h' DY c',(∀b o,b≠S->b≠it->s.1.get? b=some o->h'.get? b=some o)->h'.get? S=some {cls:=.type "list",dict:=none,data:=.seq DY c',slots:=#[]}->DY.toList=es.toList.map (·.key)->R (.ok (.ret res)) {s with heap:=h'}) ->
 Z7 (Xx prog w) A (.builtin "list.extend.loop" ⟨[.ref S,.ref it,res],[]⟩) R s:=by
 intro k;induction k with
 | zero =>
   intro i s acc c hk hi hit hd hS Cv hR;have B9:i=es.size:=by omega
   subst B9;refine codeAny_builtin F.entry_extend_loop ?_;rw[ZL F.plain_extend_loop _];show Xd _ A.in1 (Z6 (.ref it) >>= _) _ _ s;refine WN (bb_keyEnd hh hit hd g2 (W2 _) λh' BD=>W0 ?_);refine hR h' acc c (λb o _ hb e=>BD b o hb e) (BD _ _ Ho hS) ?_;rw[Cv,Yr (by rw[Xp];omega)]
 | succ k ih =>
   intro i s acc c hk hi hit hd hS Cv hR;have Ae:i<es.size:=by omega
   refine codeAny_builtin F.entry_extend_loop ?_;rw[ZL F.plain_extend_loop _];show Xd _ A.in1 (Z6 (.ref it) >>= _) _ _ s;have hx:es[i]?=some es[i]:=Array.getElem?_eq_getElem Ae
   have AR:acc.size=i:=by
    have:=h! Ze Cv;rw[Xp,WO,XI,Xp]at this;omega
   refine WN (bb_keyNext hit hd g2 hx λh' Og BD=>?_);have MG:=(BD.2 S Ho).trans hS;have JJ:=(BD.2 d Hj).trans hd;show Xd _ A.in1 (updateSeq S (·.push es[i].key) >>= _) _ _ _;refine WN ?_;have IX:∀b o,b≠S->h'.get? b=some o->(h'.update S (Zf (·.push es[i].key))).get? b=some o:=λb o hb e=>(Zo _ _ (Zm hb)).trans e
   refine wpAny_updateSeq MG rfl (W0 ⟨plainId_quiet F.plain_extend_loop _,ih (i+1) _ (acc.push es[i].key) _ (by omega) Ae (Og.at λo e=>IX _ _ (Zm Ho) e) (IX _ _ (Zm Kc) JJ) (YL _ MG rfl) ?_ λMH DY c' Oh Oi Kd=>?_⟩)
    (by rw[AR];omega) (by show(acc.push _).size<=Xh+1;rw[Array.size_push,AR];omega)
   .rw[Array.toList_push,Cv,Yp,WS (by rw[Xp];exact Ae),W9];simp
   .exact hR MH DY c' (λb o hb Bg e=>Oh b o hb Bg (IX b o hb ((BD.2 b Bg).trans e))) Oi Kd
theorem bb_list_keys{es:Array DictEntry}{od:YF}(hh:A.in1.in1.handled=none)(ns:(d == YC)=false)(hd:s.1.get? d=some od)(gc:od.cls=.type "dict")(g2:od.data=.dict es ep)(hz:es.size<=Xh)
 (hQ:∀h' acc c,(∀b o,s.1.get? b=some o->h'.get? b=some o)->h'.get? s.1.1.size=some {cls:=.type "list",dict:=none,data:=.seq acc c,slots:=#[]}->acc.toList=es.toList.map (·.key)->Q (.ref s.1.1.size) {s with heap:=h'}) :
 Xd (Xx prog w) A (call (.type "list") [.ref d]) Q E s:=by
 have IY:=Xc hd;have Kc:s.1.1.size≠d:=Nat.ne_of_gt IY
 refine callType_codes (Q₁:=λobj l'=>obj=.ref s.1.1.size/\l'={s with heap:=s.1.push {cls:=.type "list",data:=.seq #[]}}) F.called_list (F.typeCall_list_1 _) F.entry_list_init
  (code_list_new _ ⟨rfl,rfl⟩) λobj l' Au=>?_
 obtain⟨rfl,rfl⟩:=Au;have hS:(s.1.push {cls:=.type "list",data:=.seq #[]}).get? s.1.1.size=some {cls:=.type "list",data:=.seq #[]}:=W4 _ rfl;refine⟨⟨_,hS,rfl⟩,F.args_list_init_2 _ _,?_⟩;show Xd _ A.in1.in1 (do let old <-Builtin.List.listItems (.ref s.1.1.size);Builtin.List.listUpdate (.ref s.1.1.size) (λ_=>#[]);letGo old.toList.reverse;Builtin.List.listExtendWith (.ref s.1.1.size) (.ref d) .none) _ _ _;refine WN ?_;unfold Builtin.List.listItems;refine WN (YM hS rfl (W0 ?_));refine WN (wpAny_updateSeq hS rfl ?_);have GF:=YL (Zf (λ_=>(#[]:Array WW))) hS rfl;refine WN (wpAny_letGo ?_);have CO:((s.1.push {cls:=.type "list",data:=.seq #[]}).update s.1.1.size (Zf (λ_=>(#[]:Array WW)))).objs.size=s.1.1.size+1:=by rw[Heap.size_update,Yk]
 generalize hH:(s.1.push {cls:=.type "list",data:=.seq #[]}).update s.1.1.size (Zf (λ_=>(#[]:Array WW)))=H2 at GF CO |-
 have old:∀b o,s.1.get? b=some o->H2.get? b=some o:=λb o e=>by
  rw[<-hH,Zo _ _ (Zm (XG (Xc e)))];exact WV _ e
 obtain⟨c2,VV⟩:∃c,H2.get? s.1.1.size=some {cls:=.type "list",data:=.seq #[] c}:=⟨_,GF⟩;have hd2:=old _ _ hd;have VX:({s with heap:=H2}:W3).TypeIs (.ref d) "dict":=⟨_,hd2,gc⟩;unfold Builtin.List.listExtendWith;refine WN (ZH VX ?_);have h1:Builtin.List.listSameRef (.ref s.1.1.size) (.ref d)=false:=by simp[Builtin.List.listSameRef,Kc]
 have h2:(Value.type "dict" == Value.type "list")=false:=by decide
 have h3:(Value.type "dict" == Value.type "tuple")=false:=by decide
 simp only[h1,h2,h3,Bool.or_false,Y1,if_false];refine WN (bb_keyIter (s:={s with heap:=H2}) ns hd2 gc g2 ?_);refine WN (Yl ?_);have Hq:(H2.push {cls:=.type "dict_keyiterator",data:=.fields #[.ref d,.int 0 0,.int es.size 0,.int ep 0]}).IsKeyIter H2.objs.size d 0 es.size ep:=⟨_,W4 _ rfl,rfl,rfl⟩;have ES:∀b o,H2.get? b=some o->(H2.push {cls:=.type "dict_keyiterator",data:=.fields #[.ref d,.int 0 0,.int es.size 0,.int ep 0]}).get? b=some o:=λb o e=>WV _ e;have FR:s.1.1.size≠H2.objs.size:=by rw[CO];omega
 have Oj:d≠H2.objs.size:=by rw[CO];exact XG (Nat.lt_succ_of_lt IY)
 show Xd _ _ _ _ _ ({s with heap:=H2.push {cls:=.type "dict_keyiterator",data:=.fields #[.ref d,.int 0 0,.int es.size 0,.int ep 0]}}:W3);generalize H2.push {cls:=.type "dict_keyiterator",data:=.fields #[.ref d,.int 0 0,.int es.size 0,.int ep 0]}=H3 at Hq ES |-;have SR:=ES _ _ hd2;have Ol:=ES _ _ VV;have Om:({s with heap:=H3}:W3).TypeIs (.ref d) "dict":=⟨_,SR,gc⟩
 have key:∀(h:X4)(c₁:Nat),h.IsKeyIter H2.objs.size d 0 es.size ep->(∀b o,b≠s.1.1.size->H3.get? b=some o->h.get? b=some o)->h.get? s.1.1.size=some {cls:=.type "list",data:=.seq #[] c₁} ->
  Z7 (Xx prog w) A.in1 (.builtin "list.extend.loop" ⟨[.ref s.1.1.size,.ref H2.objs.size,.none],[]⟩) (wants (λr Bl=>r=.none/\Q (.ref s.1.1.size) Bl) E) {s with heap:=h}:=by
  intro h c₁ hit hk Ke;refine bb_key_loop hh hz FR Kc Oj g2 .none es.size 0 _ #[] c₁ rfl (XB _) hit (hk _ _ (Zm Kc) SR) Ke rfl λh' DY c' hm MG Cv=>?_;refine⟨rfl,hQ h' DY c' (λb o e=>?_) MG Cv⟩;have hb:=XG (Xc e);exact hm b o hb (by rw[CO];exact XG (Nat.lt_succ_of_lt (Xc e))) (hk b o hb (ES b o (old b o e)))
 unfold Builtin.List.listLengthHint;refine WN (wpAny_specialOf Om F.slot_dict_len.lookup ?_);generalize hid:("dict.__len__":String)=VY
 wp_delta
 rw[show splitId VY=some ("dict","__len__")from by subst hid;decide +kernel];subst hid;refine WN (wpAny_isInstance (T:="dict") (b:=true) Om (by rw[isSubtype_type];kernel_rfl) ?_);refine wpAny_ite_split (λIV=>g! IV (by decide)) (λ_=>?_);refine wpAny_ite_split (λ_=>?_) (λIV=>g! (by decide +kernel) IV);refine WN (ZH Om ?_);refine W0 ?_;refine wpAny_ite_split (λ_=>?_) (λ_=>W0 ⟨plainId_quiet F.plain_extend_loop _,key _ c2 Hq (λb o _ e=>e) Ol⟩);refine WN (wpAny_rule ?_);refine WN ?_;show Xd _ _ (updateSeq s.1.1.size (·.push .none) >>= λ_=>updateSeq s.1.1.size (·.pop)) _ _ _;refine WN (wpAny_updateSeq Ol rfl ?_);have GG:=YL (Zf (·.push Yj)) Ol rfl;refine wpAny_updateSeq (hz:=by seq_fits) GG rfl ?_;have Kf:=YL (Zf (·.pop)) GG rfl
 have IX:∀b o,b≠s.1.1.size->H3.get? b=some o->((H3.update s.1.1.size (Zf (·.push Yj))).update s.1.1.size (Zf (·.pop))).get? b=some o :=
  λb o hb e=>(Zo _ _ (Zm hb)).trans ((Zo _ _ (Zm hb)).trans e)
 exact W0 ⟨plainId_quiet F.plain_extend_loop _,key _ _ (Hq.at λo e=>IX _ _ (Zm FR) e) IX Kf⟩
end PySem
namespace L2
open PySem PySem.Spec PyProof.Rows
def yv:List V->Hp->VK->Prop:=λxs H Q=>∃(a:WT)(kvs:List (List Key×V)),xs=[.ref a]/\H a=some (.dT kvs)/\∀(l:WT)(bs:List WT),H l=none->Xz (λkv b=>H b=some (.tup (kv.1.map kV))) kvs bs->Q (.ref l) (upd H l (.lst (bs.map i!)))
theorem uE{ys:List (List Key×WT×WW)}(rel:KTd H kvs ys):Xz (λkv b=>H b=some (.tup (kv.1.map kV))) kvs (ys.map λy=>y.2.1):=by
 induction rel with
 |nil=>exact .nil
 |cons h t ih=>exact .cons h.2.1 ih
theorem gu(hc:X.calm=true):dq X (.type "list") yv:=by
 intro Z s Y H xs us Q I r h;obtain⟨a,kvs,rfl,e,q⟩:=h;obtain⟨u,rfl,rx⟩:=vals1 r;cases rx;obtain⟨z,hd,ys,rel,dd⟩:=ou I.hok e;have hT:=dd.typeIs;obtain⟨o,es,ep,ho,hcx,hdt,he,MF,hn⟩:=dd;obtain⟨o',Cc,Am⟩:=hT;have eo:o'=o:=Xf (Cc.symm.trans ho);subst eo;have hl:kvs.length=ys.length:=W5 rel
 have Bw:es.toList.map (·.key)=ys.map λy=>XO y.2.1:=by
  rw[he,YU];rfl
 have hsz:es.size<=Xh:=by
  have:=h! Ze Bw;rw[WO,WO,Xp]at this;omega
 have hh:X.A.in1.in1.handled=none:=I.ok.hd hc;refine bb_list_keys hh hd Cc Am hdt hsz λh' acc c hk hS Cv=>?_;have hp:Xz (λkv b=>H b=some (.tup (kv.1.map kV))) kvs (ys.map λy=>y.2.1):=uE rel;refine⟨.ref s.1.1.size,upd H s.1.1.size (.lst ((ys.map λy=>y.2.1).map i!)),?_,rfl,q _ _ I.fresh hp⟩;refine I.laid (t':=s.toks) hk (W2 _) ⟨by rw[WO,WO];omega,acc.toList,c,?_,hS⟩;rw[Cv,Bw];clear hn MF he Bw Cv hS hl z rel hp q;induction ys with
 |nil=>exact .nil
 |cons y ys ih=>exact .cons rfl ih
open BB
theorem yz{es:List Dv}{ws:List V}(r1:Vals ws its)(AS:DAts H es ws)(j:Nat)(z:WW)(hz:its[j]?=some z):∃e y',es[j]?=some e/\DAt H e y'/\RelV y' z:=by
 have hj:j<its.length:=(glE hz);have l1:=r1.length;have l2:=AS.length;have Hr:j<es.length:=by omega
 obtain⟨y',DS,dy⟩:=AS.at (WS Hr);obtain⟨v',CH,FO⟩:=r1.get DS;rw[hz]at CH;cases CH;exact⟨_,y',WS Hr,dy,FO⟩
theorem t9{z:WW}{e e':Dv}{y' Kg:V}(h1:DAt H e y')(h2:RelV y' z)(h3:DAt H e' Kg)(h4:RelV Kg z):e=e':=by
 have:=h2.inj h4;subst this;exact h1.inj h3
def wG(K:WX)(B:Nat):R2:=λx y H Q=>∃b ws d es,y=.ref b/\SqL K H b ws/\DAt H d x/\DAts H es ws/\bY es<=B/\∀r:Bool,(r=true↔d∉es)->Q (.bl r) H
open Classical in
theorem tj{B:Nat}(hu:X.A.units+B+2<Zs):OpR X (ZQ .NotIn) (wG X.K B):=by
 intro Z s Y H x y v u Q I rx ry h;obtain⟨b,ws,d,es,rfl,hb,hd,AS,hB,q⟩:=h;cases ry;obtain⟨its,r1,p1,_⟩:=I.list hb;have l1:=r1.length;have l2:=AS.length;refine SeqAt.notIn_listAt (λz=>decide (∃y',DAt H d y'/\RelV y' z)) p1.isList (λz hz=>?_) ⟨.bl _,H,I,rfl,q _ ?_⟩
 .obtain⟨j,hj⟩:=Xe.mp (show z∈its by simpa using hz);obtain⟨e,y',he,dy,ry⟩:=yz r1 AS j z hj;have hq:=fL he
  have e3:decide (∃y',DAt H d y'/\RelV y' z)=decide (e=d):=by
   by_cases h:e=d
   .rw[d! h,d! ⟨y',h ▸ dy,ry⟩]
   .rw[c! h,c!];rintro⟨Kg,h1,h2⟩;exact h (t9 dy ry h1 h2)
  rw[e3];refine qV I _ e d (W2 _) y' x z v X.A.in1 dy hd ry rx ?_;show X.A.units+1+_<Zs;omega
 .rw[Bool.not_eq_true',<-Bool.not_eq_true];refine not_congr ?_;constructor
  .intro z;obtain⟨v',h1,h2⟩:=Array.any_eq_true'.mp z;obtain⟨j,hj⟩:=Xe.mp (show v'∈its by simpa using h1);obtain⟨e,y',he,dy,ry⟩:=yz r1 AS j v' hj;obtain⟨Kg,h3,h4⟩:=e! h2;rw[<-t9 dy ry h3 h4];exact WR he
  .intro z;obtain⟨j,hj⟩:=Xe.mp z;obtain⟨y',DS,dy⟩:=AS.at hj;obtain⟨v',CH,FO⟩:=r1.get DS;refine Array.any_eq_true'.mpr ⟨v',?_,d! ⟨y',dy,FO⟩⟩;have:=WR CH;simpa using this
def wc(K:WX)(B:Nat):V->List V->Hp->VK->Prop:=λx vs H Q=>∃(l:WT)(y:V)(ws:List V)(d:Dv)(es:List Dv)(j:Nat),x=.ref l/\vs=[y]/\SqL K H l ws/\DAt H d y/\DAts H es ws/\bY es<=B/\es[j]?=some d/\(∀i,i<j->es[i]?≠some d)/\es.length<=100000/\Q (.int (j:Nat)) H
open Classical in
theorem tF{B:Nat}(hu:X.A.units+B+4<Zs):MtM X "list.index" (wc X.K B):=by
 intro Z s Y H x vs v us Q I rx rv h;obtain⟨l,y,ws,d,es,j,rfl,rfl,hS,hd,AS,hB,hj,BL,hz,q⟩:=h;cases rx;obtain⟨u,rfl,ru⟩:=rv.one;obtain⟨its,r,pl,_⟩:=I.list hS;have hlen:=r.length;have BI:=AS.length;obtain⟨⟨cls,dd,data,sl⟩,ho,hc,n,hdt⟩:=pl.isList;simp only at hc hdt;subst hc hdt;have Ct:j<es.length:=(glE hj)
 have Oo:∀(m:Nat)(z:WW),its[m]?=some z->∃e y',es[m]?=some e/\DAt H e y'/\RelV y' z/\decide (∃y',DAt H d y'/\RelV y' z)=decide (e=d):=λm z hz=>by
  obtain⟨e,y',he,dy,ry⟩:=yz r AS m z hz;refine⟨e,y',he,dy,ry,?_⟩;by_cases h:e=d
  .rw[d! h,d! ⟨y',h ▸ dy,ry⟩]
  .rw[c! h,c!];rintro⟨Kg,h1,h2⟩;exact h (t9 dy ry h1 h2)
 refine call_meets ZI ⟨_,ho,rfl⟩ PySem.F.entry_list_index (PySem.F.args_list_index_2 _ _)
  (SeqAt.list_indexAt l its.toArray n dd sl u (λz=>decide (∃y',DAt H d y'/\RelV y' z)) j (by rw[Xa];omega) (by omega) ?_ ?_) ⟨ho,λy hy=>?_,⟨.int (j:Nat),H,I.tok _,⟨_,rfl⟩,q⟩⟩
 .obtain⟨e,y',he,dy,ry,e3⟩:=Oo j (its.toArray[j]'(by rw[Xa];omega)) (by simp);rw[hj]at he;cases he;rw[e3];exact d! rfl
 .intro m hm Ae;obtain⟨e,y',he,dy,ry,e3⟩:=Oo m (its.toArray[m]'hm) (by simp);rw[e3];exact c! λz=>BL m Ae (by rw[he,z])
 .have DS:y∈its:=by simpa using hy
  obtain⟨m,hm⟩:=Xe.mp DS;obtain⟨e,y',he,dy,ry,e3⟩:=Oo m y hm;rw[e3];have hq:=fL he;refine qV I _ e d (W2 _) y' _ y u _ dy hd ry ru ?_;show X.A.units+1+_<Zs;omega
end L2
namespace PySem
open Sem (wp)
section
variable{K:Type}[DecidableEq K](knd:HeapKind prog w K)(d:WT)
theorem bb_meets_len(hd:(d == YC)=false) :
 MeetsIn prog w (Zp.«dict.__len__» ⟨[.ref d],[]⟩) (λ_ R s=>∃xs,s.1.DictOfH knd d xs/\R (.ok (.ret (.int xs.length s.toks))) {s with toks:=s.toks+1}) :=
 .of_wp λA R s⟨xs,hm,h⟩=>by
  obtain⟨o,es,ep,ho,hc,Oq,he,hp,hn⟩:=hm;show Xd _ _ (dictSize d >>= _) _ _ s;unfold dictSize;refine WN (WN (Zb ho Oq (W0 ?_)));show Xd _ _ (Builtin.Dict.pendingCount d >>= _) _ _ s;refine WN (wpAny_pendingCount_other hd ?_);refine wpAny_ret_mkInt ?_
  have:es.size=xs.length:=by
   have:=h! Ze he;rw[WO,Xp]at this;exact this
  rw[Nat.add_zero,this];exact h
end
section
variable{K:Type}[DecidableEq K]{knd:HeapKind prog w K}
theorem bb_call_len{xs:List (K×WT×WW)}(hd:(d == YC)=false)(hm:s.1.DictOfH knd d xs)(Aa:(xs.length:Int)<2 ^ 63)
 (h:Q (.int xs.length (s.toks+1)) {s with toks:=s.toks+1+1}):Xd (Xx prog w) A (call (.builtin "len") [.ref d]) Q E s:=by
 refine Calls.call_function_entry kind_len plain_len entry_len (args_len1 _) ?_;unfold Zp.«len»;refine WN (m:=oneArg "len" _) (W0 ?_)
 refine WN (m:=callSpecial? (.ref d) (WU "__len__")) (X0 (name:=WU "__len__") hm.typeIs F.slot_dict_len
  (call_meetsIn F.slot_dict_len hm.typeIs F.entry_dict_len (F.args_dict_len_1 _) (bb_meets_len knd d hd) ⟨xs,hm,?_⟩))
 show Xd _ _ _ _ _ {s with toks:=s.toks+1};refine WN (Yl (W0 ?_));refine WN (wpAny_letGo ?_);show Xd _ _ (if((xs.length:Nat):Int)<0 then _ else _) _ _ _;rw[a! (by omega)];show Xd _ _ (if((xs.length:Nat):Int) >= 2 ^ 63 then _ else _) _ _ _;rw[a! (by omega)];exact WN (wpAny_mkInt (W0 ⟨_,rfl,h⟩))
end
end PySem
namespace L2
open PySem PySem.Spec PyProof.Rows
def yY:List V->Hp->VK->Prop:=λxs H Q=>∃(a:WT)(kvs:List (List Key×V)),xs=[.ref a]/\H a=some (.dT kvs)/\Q (.int kvs.length) H
theorem mR:dq X (.builtin "len") yY:=by
 intro Z s Y H xs us Q I r h;obtain⟨a,kvs,rfl,e,q⟩:=h;obtain⟨u,rfl,rx⟩:=vals1 r;cases rx;obtain⟨z,hd,ys,rel,dd⟩:=ou I.hok e;have hl:kvs.length=ys.length:=W5 rel;refine bb_call_len hd dd (by rw[Zr]at z;omega) ?_;rw[<-hl];exact⟨.int kvs.length,H,I.tok _,⟨_,rfl⟩,q⟩
end L2
namespace BB
open PySem L2
def fb(e:Xk×List Nat):List Key:=.inr e.1::e.2.map λ(i:Nat)=>(Xo ((i:Nat):Int):Key)
theorem uo{e f:Xk×List Nat}(h:fb e=fb f):e=f:=by
 obtain⟨n,is⟩:=e;obtain⟨m,js⟩:=f;unfold fb at h;obtain⟨h1,h2⟩:=List.cons.inj h
 have h3:is=js:=by
  clear h h1;induction is generalizing js with
  | nil=>cases js with
    |nil=>rfl
    |cons j js=>cases h2
  | cons i is ih=>cases js with
    |nil=>cases h2
    | cons j js =>
      rw[XH,XH]at h2;obtain⟨g1,g2⟩:=List.cons.inj h2;have g3:=Sum.inl.inj g1;rw[ih js g2,show i=j by omega]
 rw[h3];cases Sum.inr.inj h1;rfl
def kvsOf(E:List (Xk×List Nat)):List (List Key×V):=E.zipIdx.map λz=>(fb z.1,o! (z.2:Nat))
theorem eG(E:List (Xk×List Nat)):(kvsOf E).length=E.length:=by unfold kvsOf;rw[WO,List.length_zipIdx]
theorem pL(E:List (Xk×List Nat))(e:Xk×List Nat):kvsOf (E++[e])=kvsOf E++[(fb e,o! (E.length:Nat))]:=by
 unfold kvsOf;rw[List.zipIdx_append,W9];simp
theorem tI{E:List (Xk×List Nat)}{p:List Key×V}(h:p∈kvsOf E):∃i e,p=(fb e,o! (i:Nat))/\E[i]?=some e:=by
 unfold kvsOf at h;obtain⟨z,hz,rfl⟩:=Xq.mp h;exact⟨z.2,z.1,rfl,ZT.mp hz⟩
theorem kB{E:List (Xk×List Nat)}{e:Xk×List Nat}{u:V}(h:aG (kvsOf E) (fb e)=some u):∃i:Nat,u=.int (i:Nat)/\E[i]?=some e:=by
 unfold aG at h;obtain⟨p,hp,rfl⟩:=Yi.mp h;obtain⟨i,f,rfl,hf⟩:=tI (List.mem_of_find?_eq_some hp);have hq:=List.find?_some hp;have:=e! (show decide (fb f=fb e)=true from hq);rw[uo this]at hf;exact⟨i,rfl,hf⟩
theorem kN{E:List (Xk×List Nat)}{e:Xk×List Nat}(h:aG (kvsOf E) (fb e)=none):e∉E/\putK (kvsOf E) (fb e) (.int (E.length:Nat))=kvsOf (E++[e]):=by
 unfold aG at h;have h1:=Option.map_eq_none_iff.mp h;rw[List.find?_eq_none]at h1;refine⟨λhm=>?_,?_⟩
 .obtain⟨i,hi⟩:=Xe.mp hm;refine h1 (fb e,o! (i:Nat)) ?_ (d! rfl);unfold kvsOf;exact Xq.mpr ⟨(e,i),ZT.mpr hi,rfl⟩
 .rw[pL];unfold putK;rw[a!];intro z;obtain⟨p,hp,Bp⟩:=List.any_eq_true.mp z;exact h1 p hp Bp
structure Cl(E:List (Xk×List Nat))(Ts:List Th):Prop where
 len:E.length=Ts.length
 nd:Ts.Nodup
 ent:∀(i:Nat)(e:Xk×List Nat),E[i]?=some e->∃kids,Ts[i]?=some (.knot e.1 kids)/\Xz (λid u=>id<i/\Ts[id]?=some u) e.2 kids
theorem io{l:List α}(h:l.Nodup){x:α}(hi:l[i]?=some x)(hj:l[j]?=some x):i=j:=by
 obtain⟨h1,e1⟩:=Xw.mp hi;obtain⟨h2,e2⟩:=Xw.mp hj;rcases Nat.lt_trichotomy i j with z|z|z
 .exact g! (e1.trans e2.symm) (List.pairwise_iff_getElem.mp h i j h1 h2 z)
 .exact z
 .exact g! (e2.trans e1.symm) (List.pairwise_iff_getElem.mp h j i h2 h1 z)
theorem nO(h:Ts.Nodup):∀{ids js:List Nat}{kids:List Th},Xz (λid u=>Ts[id]?=some u) ids kids->Xz (λid u=>Ts[id]?=some u) js kids->ids=js
 |_,_,_,.nil,.nil=>rfl
 |_,_,_,.cons a b,.cons c d=>by rw[io h a c,nO h b d]
theorem pG:∀{ids:List Nat}{ks js:List Th},Xz (λid u=>Ts[id]?=some u) ids ks->Xz (λid u=>Ts[id]?=some u) ids js->ks=js
 |_,_,_,.nil,.nil=>rfl
 | _,_,_,.cons a b,.cons c d=>by
   rw[a]at c;cases c;rw[pG b d]
theorem Cl.found{E:List (Xk×List Nat)}(c:Cl E Ts){n:Xk}{ids:List Nat}{kids:List Th}(h:E[i]?=some (n,ids))(hp:Xz (λid u=>Ts[id]?=some u) ids kids):Ts[i]?=some (.knot n kids):=by
 obtain⟨ks,h1,h2⟩:=c.ent i _ h;rw[pG hp (v! (λ_ _ z=>z.2) h2)];exact h1
theorem Cl.snoc{E:List (Xk×List Nat)}(c:Cl E Ts){n:Xk}{ids:List Nat}{kids:List Th}(hn:(n,ids)∉E)(hp:Xz (λid u=>Ts[id]?=some u) ids kids):Cl (E++[(n,ids)]) (Ts++[.knot n kids]):=by
 have up:∀{id:Nat}{u:Th},Ts[id]?=some u->(Ts++[p! n kids])[id]?=some u:=λ{id u}h=>by
  rw[XA (glE h)];exact h
 refine⟨by rw[W6,W6,c.len];rfl,?_,λi e he=>?_⟩
 .rw[YG];refine⟨c.nd,by simp,λa ha b hb z=>?_⟩;rw[WZ.mp hb]at z;subst z;obtain⟨i,hi⟩:=Xe.mp ha;have BJ:i<E.length:=by rw[c.len];exact(glE hi)
  obtain⟨ks,h1,h2⟩:=c.ent i _ (WS BJ);rw[hi]at h1;have h3:=Xf h1;injection h3 with h4 h5;subst h5;have h6:=nO c.nd hp (v! (λ_ _ z=>z.2) h2);refine hn ?_;have:(n,ids)=E[i]:=Prod.ext h4 h6;rw[this];exact List.getElem_mem BJ
 .by_cases hi:i<E.length
  .rw[XA hi]at he;obtain⟨ks,h1,h2⟩:=c.ent i e he;exact⟨ks,up h1,v! (λ_ _ z=>⟨z.1,up z.2⟩) h2⟩
  .rw[XX (by omega)]at he
   have h0:i - E.length=0:=by
    have:=(glE he);simp at this;omega
   rw[h0]at he;cases he;have VZ:i=Ts.length:=by have:=c.len;omega
   subst VZ;refine⟨kids,by simp,v! (λid u z=>⟨(glE z),up z⟩) hp⟩
def fkv(F:List Nat):List (Key×V):=F.zipIdx.map λz=>((Xo ((z.1:Nat):Int):Key),o! (z.2:Nat))
theorem wI(F:List Nat):(fkv F).length=F.length:=by unfold fkv;rw[WO,List.length_zipIdx]
theorem uc(F:List Nat)(i:Nat):fkv (F++[i])=fkv F++[((Xo ((i:Nat):Int):Key),o! (F.length:Nat))]:=by
 unfold fkv;rw[List.zipIdx_append,W9];simp
theorem vy{F:List Nat}{p:Key×V}(h:p∈fkv F):∃i id,p=((Xo ((id:Nat):Int):Key),o! (i:Nat))/\F[i]?=some id:=by
 unfold fkv at h;obtain⟨z,hz,rfl⟩:=Xq.mp h;exact⟨z.2,z.1,rfl,ZT.mp hz⟩
theorem vJ{a b:Nat}(h:(Xo ((a:Nat):Int):Key)=Xo ((b:Nat):Int)):a=b:=by
 have:=Sum.inl.inj h;omega
theorem ip{F:List Nat}{u:V}(h:aG (fkv F) (Xo ((id:Nat):Int):Key)=some u):∃i:Nat,u=.int (i:Nat)/\F[i]?=some id:=by
 unfold aG at h;obtain⟨p,hp,rfl⟩:=Yi.mp h;obtain⟨i,f,rfl,hf⟩:=vy (List.mem_of_find?_eq_some hp);have hq:=List.find?_some hp;have:=e! (show decide ((Xo ((f:Nat):Int):Key)=Xo ((id:Nat):Int))=true from hq);rw[vJ this]at hf;exact⟨i,rfl,hf⟩
theorem iH{F:List Nat}(h:aG (fkv F) (Xo ((id:Nat):Int):Key)=none):id∉F/\∀v,putK (fkv F) (Xo ((id:Nat):Int):Key) v=fkv F++[(Xo ((id:Nat):Int),v)]:=by
 unfold aG at h;have h1:=Option.map_eq_none_iff.mp h;rw[List.find?_eq_none]at h1;refine⟨λhm=>?_,λv=>?_⟩
 .obtain⟨i,hi⟩:=Xe.mp hm;refine h1 (Xo ((id:Nat):Int),o! (i:Nat)) ?_ (d! rfl);unfold fkv;exact Xq.mpr ⟨(id,i),ZT.mpr hi,rfl⟩
 .unfold putK;rw[a!];intro z;obtain⟨p,hp,Bp⟩:=List.any_eq_true.mp z;exact h1 p hp Bp
theorem wy{F:List Nat}(h:id∉F):aG (fkv F) (Xo ((id:Nat):Int):Key)=none:=by
 cases hv:aG (fkv F) (Xo ((id:Nat):Int):Key)with
 |none=>rfl
 | some u =>
   obtain⟨i,_,hi⟩:=ip hv;exact g! (WR hi) h
theorem qm(F:List Nat)(id:Nat):(aG (fkv F) (Xo ((id:Nat):Int):Key)).isSome=decide (id∈F):=by
 cases hv:aG (fkv F) (Xo ((id:Nat):Int):Key)with
 |none=>rw[c! (iH hv).1];rfl
 | some u =>
   obtain⟨i,_,hi⟩:=ip hv;rw[d! (WR hi)];rfl
def unt(N:Nat)(F:List Nat):Nat:=((Yn N).filter λi=>decide (i∉F)).length
theorem xM{N:Nat}{F:List Nat}{a:Nat}(h1:a<N)(h2:a∉F):unt N (F++[a])<unt N F:=by
 unfold unt
 have e:((Yn N).filter λi=>decide (i∉F++[a]))=(((Yn N).filter λi=>decide (i∉F)).filter λi=>decide (i≠a)):=by
  rw[List.filter_filter];congr 1;funext i;simp only[W7,WZ,not_or];by_cases h3:i∈F <;> by_cases h4:i=a <;> simp[h3,h4]
 rw[e];refine List.length_filter_lt_length_iff_exists.mpr ⟨a,?_,by simp⟩;exact ZU.mpr ⟨ZK.mpr h1,d! h2⟩
theorem size_pos(t:Th):0<t.size:=by cases t <;> (rw[w!];omega)
open PySem.Builtin PySem.Builtin.Str
theorem v7{y:Xk}(h:x.cps.toList=y.cps.toList):x=y:=by
 apply Str.ext';exact Array.toList_inj.mp h
end BB
namespace L2
open PySem PySem.Spec PySem.Calls PyProof.Rows BB
section
variable{Y:List (Option V)}
end
open PySem.Builtin PySem.Builtin.Str
end L2
namespace BB
open PySem L2
theorem join_cons(sep x:Xk)(xs:List Xk):Str.join sep (x::xs)=if xs=[]then x else x++sep++Str.join sep xs:=by
 cases xs with
 |nil=>rfl
 |cons y ys=>rfl
section
variable{t:Th}{es:List WT}
end
end BB
namespace L2
open PySem PySem.Spec PyProof.Rows BB
open PySem.W
open PySem.Calls
end L2
namespace BB
open PySem L2 PySem.Builtin PySem.Builtin.Str
end BB
namespace L2
open PySem PySem.Spec PySem.Calls PyProof.Rows PySem.Builtin PySem.Builtin.Str BB
end L2
namespace BB
open PySem L2
end BB
namespace L2
open PySem PySem.Spec PyProof.Rows
open PySem.Calls
structure FvOk(P:Xm)(w:XD)(K:WX)(mg:Xk->Option WW)(base:X4)(CX:CXT)(k:Nat)(f:WT)(sp:Sp):Prop where
 fn:∀(A:XN)(outer:List Env)(s:W3)(H:Hp)(vs:List V)(Q:VK)(E:XK),Env0 P w K mg base A outer s H->sp vs H Q E->PySem.W.FnAt f s.1
 run:∀(A:XN)(outer:List Env)(s:W3)(H:Hp)(us:List WW)(vs:List V)(Q:VK)(E:XK),Room k A->Env0 P w K mg base A outer s H->Vals vs us->sp vs H Q E ->
  Z7 (Xx P w) A (.call (.ref f) ⟨us,[]⟩) (CR CX outer P w H s Q E) s
theorem FvOk.of{k:Nat}(F:FnOk P w K mg base CX k f fd ps sp)(G:Fun K x qual st f fd)(hb:Binds K fd ps []):FvOk P w K mg base CX k f sp where
 fn:=λA outer s H vs Q E e0 h=>by
  obtain⟨oc,od,kV,doc,pm,an,Aj,ct,Ey,rfl,lk,_⟩:=G.ex;exact⟨_,_,_,_,(e0.bs _ _ (e0.mod.kin _ _ lk)).1⟩
 run:=λA outer s H us vs Q E hr e0 r h=>by
  have KX:K.In s.1:=e0.mod.kin.keeps λb o e=>(e0.bs b o e).1;have hl:us.length=ps.length:=by rw[<-r.length];exact F.len _ _ _ _ h
  have:=hb s us KX (by rw[Yz];exact hl);rw[Yz]at this;exact F.run A outer s H ⟨us,[]⟩ us vs Q E hr e0 this r h
section
variable{k:Nat}{E:XK}{p:Pos}{es:List XY}{t:TA}
def vk(P:Xm)(w:XD)(K:WX)(mg:Xk->Option WW)(base:X4)(CX:CXT)(k i:Nat)(E:XK)(t:TA):TE:=λY H Q=>∃f sp,Y[i]?=some (some (.ref f))/\FvOk P w K mg base CX k f sp/\t Y H λvs H1=>sp vs H1 Q E
theorem pM{E:WW->W3->Prop}{q:WT}{rest:List XY}(h:Xd M A (spliced (ZD pos (XJ (e::rest) env))) (λvs l'=>PySem.W.FnAt q l'.heap/\Xd M A (call (.ref q) ([]++vs)) Q E l') E s)
 (he:XJ (e::rest) env=(false,YW e env)::XJ rest env) (Dg:(ZD pos (XJ rest env)).any (·.1)=false) :
 Xd M A (callWith pos (.ref q) [] (ZD pos (XJ (e::rest) env)) []) Q E s:=by
 rw[he]at h |-;exact PySem.W.callWith_of (by show((false ||(ZD pos (XJ rest env)).any (·.1)) ||false)=false;rw[Dg];rfl) PySem.W.keeps_F (evalArgs_plain h)
theorem kT(hN:X.N[i]?=some x)(hv:Vis X.env.scope x)(hr:Room k X.A)(hx:Passes CX X E)(ha:PA X (e::es) t)(Df:(x == ("__debug__":Xk))=false:=by decide)(Ck:(x == ("__classdict__":Xk))=false:=by decide)
 (he:XJ (e::es) X.env=(false,YW e X.env)::XJ es X.env:=by rfl) (AV:(ZD pos (XJ es X.env)).any (·.1)=false:=by rfl) :
 PE X (.Call (.Name x p) (e::es) [] pos) (vk X.prog X.w X.K X.mg X.base CX k i E t):=by
 intro Z s Y H Q I h;obtain⟨f,sp,Ot,F,q⟩:=h;refine Yu (thn (ve (X:=X) hN hv Df Ck Z s Y H (λv H1=>v=.ref f/\t Y H1 λvs H2=>sp vs H2 Q E) I ⟨_,Ot,rfl,q⟩) λu s1⟨v,H1,I1,r,e1,q1⟩=>?_);subst e1;obtain rfl:u=XO f:=r;refine pM (thn (ha pos Z s1 Y H1 _ I1 q1) λus s2⟨vs,H2,I2,r2,q2⟩=>⟨F.fn X.A X.stack s2 H2 vs Q E I2.env0 q2,?_⟩) he AV;refine wpAny_call (codeAny_mono (F.run X.A X.stack s2 H2 ([]++us) vs Q E hr I2.env0 r2 q2) λr s' hq=>?_);cases r with
 |error e=>exact hx Z Y H2 s2 e s' I2 hq
 | ok fl =>
   cases fl with
   |ret u=>exact I2.after hq
   |next=>exact Ye hq
   |brk=>exact Ye hq
   |cont=>exact Ye hq
end
def fgt(S:List WT)(H:Hp):Hp:=λb=>if b∈S then none else H b
def rst(S:List WT)(H H':Hp):Hp:=λb=>if b∈S then H b else H' b
theorem jg{S:List WT}(h:b∈S):fgt S H b=none:=b! h
theorem bM{S:List WT}(h:b∉S):fgt S H b=H b:=a! h
theorem pO{S:List WT}(h:b∈S):rst S H H' b=H b:=b! h
theorem de{S:List WT}(h:b∉S):rst S H H' b=H' b:=a! h
theorem uh{S:List WT}(h:fgt S H b=some o):b∉S/\H b=some o:=by
 by_cases hb:b∈S
 .rw[jg hb]at h;cases h
 .exact⟨hb,by rw[bM hb]at h;exact h⟩
def Exts(S:List WT)(H:Hp):Prop:=∀b∈S,∃φ,H b=some (.ext φ)
theorem Exts.out{S:List WT}(x:Exts S H)(e:H b=some o)(n:∀φ,o≠.ext φ):b∉S:=λz=>by
 obtain⟨φ,h⟩:=x b z;rw[e]at h;exact n φ (Xf h)
theorem HOk.fgt{S:List WT}(x:HOk P w H h)(hS:Exts S H):HOk P w (fgt S H) h:=λa o e=>by
 obtain⟨ha,e'⟩:=uh e;exact(x a o e').stay (λ_ _ _ q=>q) (λb q=>by rw[bM (hS.out q (by intro φ z;cases z))];exact q) λb xs q=>by rw[bM (hS.out q (by intro φ z;cases z))];exact q
theorem HOk.rst{S:List WT}(x:HOk P w H h)(x':HOk P w H' h')(hS:Exts S H)(hk:∀b∈S,∀o,h.get? b=some o->h'.get? b=some o)(hn:∀b∈S,H' b=none):HOk P w (rst S H H') h':=λa o e=>by
 by_cases ha:a∈S
 .rw[pO ha]at e;obtain⟨φ,V0⟩:=hS a ha;have e2:=V0;rw[e]at e2;cases e2;obtain⟨p,⟨ob,q⟩,st⟩:=x a _ e;exact⟨st _ _ p (λo z=>hk a ha o z),⟨ob,hk a ha ob q⟩,st⟩
 .rw[de ha]at e;have out:∀b u,H' b=some u->b∉S:=λb u q z=>by rw[hn b z]at q;cases q
  exact(x' a o e).stay (λ_ _ _ q=>q) (λb q=>by rw[de (out b _ q)];exact q) λb xs q=>by rw[de (out b _ q)];exact q
def CellAt(H:Hp)(c:WT)(v:V):Prop:=∃φ,H c=some (.ext φ)/\∀h:X4,φ h->∃u,RelV v u/\h.IsCell c (some u)
def CodeAt(H:Hp)(c:WT)(qual:Xk):Prop:=∃φ,H c=some (.ext φ)/\∀h:X4,φ h->h.CodeRec (.ref c) qual
def wO(H:Hp)(cl:List (Xk×WT))(ns:List Xk)(ws:List V):Prop:=Xz (λ(x:Xk)(v:V)=>∃c,cl.lookup x=some c/\CellAt H c v) ns ws
def LamAt(H:Hp)(f c':WT)(name qual:Xk)(params:Arguments)(body:XY)(scope:ZN)(cl:List (Xk×WT)):Prop:=∃φ,H f=some (.ext φ)/\∀h:X4,φ h->∃pm CP,h.get? f=some (Zt name qual params body scope cl pm c' CP)
theorem CodeAt.mono(s:Same H H'){q:Xk}(h:CodeAt H c q):CodeAt H' c q:=by
 obtain⟨φ,h1,h2⟩:=h;exact⟨φ,s _ _ h1,h2⟩
theorem LamAt.mono(s:Same H H'){body:XY}(h:LamAt H f c' name qual params body scope cl):LamAt H' f c' name qual params body scope cl:=by
 obtain⟨φ,h1,h2⟩:=h;exact⟨φ,s _ _ h1,h2⟩
theorem CellAt.now(x:HOk P w H h)(z:CellAt H c v):∃u,RelV v u/\h.IsCell c (some u):=by
 obtain⟨φ,h1,h2⟩:=z;exact h2 h (x c _ h1).1
def cxL(P:Xm)(w:XD)(K:WX)(mg:Xk->Option WW)(base:X4)(N:List Xk)(qual:Xk)(scope:ZN)(f:WT)(cd:WW)(cl:List (Xk×WT))(A:XN)(outer:List Env)(s:W3)(H:Hp):Cx where
 prog:=P
 w:=w
 K:=K
 mg:=mg
 base:=base
 A:=A.deeper (PySem.W.envX qual scope s.1.1.size f cd cl)
 N:=N
 s₀:=s
 H₀:=fgt (cl.map (·.2)) H
 env:=PySem.W.envX qual scope s.1.1.size f cd cl
 outer:=outer
 stack:=PySem.W.envX qual scope s.1.1.size f cd cl::outer
 ex:=[]
 calm:=true
 fn:=λ_=>false
 pn:=[]
 xe:=λ_ _=>False
structure px(N ps:List Xk)(cl:List (Xk×WT))(sc:ZN):Prop where
 kind:sc.kind=.function
 co:sc.isCoroutine=false
 gen:sc.isGenerator=false
 nocell:∀x∈sc.names,x.2≠.cell
 nd:N.Nodup
 pre:N.take ps.length=ps
 par:∀x∈ps,sc.names.lookup x=some .local
 fre:∀x∈N.drop ps.length,sc.names.lookup x=some .free
 has:∀x,sc.names.lookup x=some .free->∃c,cl.lookup x=some c
 inj:∀x y c,cl.lookup x=some c->cl.lookup y=some c->x=y
theorem jM(h:cl.lookup x=some c):c∈cl.map (·.2):=Xq.mpr ⟨(x,c),Yc h,rfl⟩
theorem nh:∀{l:List (Xk×WW)}{x:Xk}{u:WW},(l.map (·.1)).Nodup->(x,u)∈l->l.lookup x=some u
 | [],_,_,_,h=>by cases h
 | (y,v)::l,x,u,nd,h=>by
   rw[XH,Yg]at nd;rw[YZ];rcases Xb.mp h with e|e
   .cases e;rw[beq_self_eq_true]
   .have Ay:(x == y)=false:=by
     rw[beq_eq_false_iff_ne];intro z;subst z;exact nd.1 (Xq.mpr ⟨_,e,rfl⟩)
    rw[Ay];exact nh nd.2 e
theorem pD(nd:ps.Nodup)(hl:us.length=ps.length)(h1:ps[i]?=some x)(h2:us[i]?=some u):(ps.zip us).reverse.lookup x=some u:=by
 refine nh ?_ ?_
 .rw[List.map_reverse,List.map_fst_zip (by omega)];exact(List.pairwise_reverse.mpr (nd.imp λh z=>h z.symm))
 .rw[List.mem_reverse];exact WR (YD.mpr ⟨h1,h2⟩)
theorem xU{k:Nat}{body:XY}
 (S:px N ps cl scope) (bind:∀(pm CP:WW)(us:List WW),us.length=ps.length->bindArgs (PySem.W.kla_fn name qual params body scope cl pm (.ref c') CP) ⟨us,[]⟩=pure (ps.zip us))
 (BX:∀vs H Q E,sp vs H Q E->vs.length=ps.length/\LamAt H f c' name qual params body scope cl/\CodeAt H c' qual/\Exts (cl.map (·.2)) H/\∀x c,cl.lookup x=some c->∃v,CellAt H c v)
 (AZ:∀(A:XN)(outer:List Env)(s:W3)(H:Hp)(vs:List V)(Q:VK)(E:XK),Room k (A.deeper (PySem.W.envX qual scope s.1.1.size f (.ref c') cl))->sp vs H Q E ->
  ∃t ws,wO H cl (N.drop ps.length) ws/\PE (cxL P w K mg base N qual scope f (.ref c') cl A outer s H) body t/\t (vs.map some++ws.map some) (fgt (cl.map (·.2)) H) λv H'=>Q v (rst (cl.map (·.2)) H H')) :
 FvOk P w K mg base CX0 (k+1) f sp where
 fn:=λA outer s H vs Q E e0 h=>by
  obtain⟨_,⟨φ,h1,h2⟩,_⟩:=BX _ _ _ _ h;obtain⟨pm,CP,e⟩:=h2 _ (e0.hok f _ h1).1;exact⟨_,_,_,_,e⟩
 run:=λA outer s H us vs Q E hr e0 r h=>by
  obtain⟨hl,⟨φ,h1,h2⟩,⟨ψ,g1,g2⟩,hx,MI⟩:=BX _ _ _ _ h;obtain⟨pm,CP,ef⟩:=h2 _ (e0.hok f _ h1).1;have Ou:=g2 _ (e0.hok c' _ g1).1;have DR:us.length=ps.length:=by rw[<-r.length];exact hl
  have Ov:∀y∈ps.zip us,scope.names.lookup y.1=some .local:=λ⟨n,v⟩hy=>S.par n (List.of_mem_zip hy).1;refine PySem.W.kla_callFunE hr.depth ef rfl S.co S.gen rfl Ou ?_;rw[show bindArgs _ _=_ from bind pm CP us DR];refine W0 (wpAny_newFunctionEnv S.nocell Ov (λAu Dh Fq=>?_) S.kind);have CQ:∀b o,s.1.get? b=some o->Au.get? b=some o:=λb o e=>Fq.extBut b o (XG (Xc e)) (WV _ e);refine⟨e0.mod.nolimit.keeps λb o e=>CQ b o (e0.bs b o e).1,?_⟩;show Z7 _ _ (.expr body (PySem.W.envX qual scope s.1.1.size f (.ref c') cl)) _ _;obtain⟨t,ws,AS,ht,hq⟩:=AZ A outer s H vs Q E (hr.deeper _) h;have DC:(N.drop ps.length).length=ws.length:=W5 AS;have AV:ps.length<=N.length:=by have:=h! Ze S.pre;rw[XI]at this;omega
  have Am:∀x c,cl.lookup x=some c->c∈cl.map (·.2):=λx c e=>jM e
  have Ae:∀c∈cl.map (·.2),c<s.1.1.size:=λc hc=>by
   obtain⟨IZ,e⟩:=hx c hc;exact e0.hok.lt e
  have Ht:∀x c,cl.lookup x=some c->∃v,Au.IsCell c v:=λx c e=>by
   obtain⟨v,hv⟩:=MI x c e;obtain⟨u,_,o,ho,hd⟩:=hv.now e0.hok;exact⟨_,o,CQ _ _ ho,hd⟩
  have Ja:∀b,H b=none->fgt (cl.map (·.2)) H b=none:=λb e=>by
   by_cases hb:b∈cl.map (·.2)
   .exact jg hb
   .rw[bM hb];exact e
  have Mz:ps.Nodup:=by rw[<-S.pre];exact S.nd.sublist (List.take_sublist _ _)
  have I:Inv (cxL P w K mg base N qual scope f (.ref c') cl A outer s H) [] (vs.map some++ws.map some) (fgt (cl.map (·.2)) H) {s with heap:=Au,toks:=s.toks+(ps.zip us).length}:=by
   refine⟨⟨e0.mod,S.kind,rfl,rfl,W2 _,S.inj,λx hx=>?_,λx c hf _=>(by cases hf),λ_=>hr.hd,Around.frames_deeper e0.frames,.inr ⟨rfl,rfl⟩,λb z=>(by cases z),λb o e=>⟨(e0.bs b o e).1,?_⟩,e0.bsz,λb _ _ z=>(by cases z),λb z=>(by cases z),e0.funs,λb hb=>?_⟩,
    rfl,e0.bare,Un.kept CQ,⟨_,Dh,λi x v e1 e2 e3=>?_⟩,Ht,?_,λx c e=>jg (Am x c e),λp hp=>(by cases hp),?_,?_⟩
   .have BC:scope.names.lookup x=some .cell\/scope.names.lookup x=some .free:=hx;rcases BC with z|z
    .exact g! rfl (S.nocell _ (Yc z))
    .exact S.has x z
   .exact Ja b (e0.bs b o e).2
   .exact Ja b (e0.frf b hb)
   .by_cases hi:i<vs.length
    .rw[XA (by rw[WO];exact hi),Xj]at e2;obtain⟨v',CH,e4⟩:=Yi.mp e2;cases e4;obtain⟨u,hu,rv⟩:=r.get CH
     have hp:ps[i]?=some x:=by
      rw[<-S.pre,List.getElem?_take_of_lt (by omega)];exact e1
     exact⟨u,rv,.inl ⟨S.par x (WR hp),pD Mz DR hp hu⟩⟩
    .rw[XX (by rw[WO];omega),Xj,WO]at e2;obtain⟨v',CH,e4⟩:=Yi.mp e2;cases e4
     have hd:(N.drop ps.length)[i - vs.length]?=some x:=by
      rw[List.getElem?_drop,hl,show ps.length+(i - ps.length)=i by omega];exact e1
     obtain⟨w',BU,c,hc,Av⟩:=y! AS hd;rw[CH]at BU;cases BU;obtain⟨u,ru,o,ho,Jb⟩:=Av.now e0.hok;exact⟨u,ru,.inr ⟨.inr (S.fre x (WR hd)),c,hc,o,CQ _ _ ho,Jb⟩⟩
   .exact Ja _ (e0.hok.fresh (W2 _))
   .exact(e0.hok.fgt hx).kept CQ
   .show(vs.map some++ws.map some).length=N.length;rw[W6,WO,WO,<-DC,XR];omega
  refine PySem.W.kla_codeExpr (YB (ht [] _ _ _ _ I hq) (λu s' DA=>?_) λe s' z=>z.elim);obtain⟨v,H',I',rv,q'⟩:=DA;have un:Un (frs outer) [] (fgt (cl.map (·.2)) H) H' s.1 s'.1:=I'.base
  have kS:∀b∈cl.map (·.2),∀o,s.1.get? b=some o->s'.1.get? b=some o:=λb hb o e=>un.keep b o e (jg hb) (λz=>by
   obtain⟨IZ,e'⟩:=hx b hb;rw[e0.frf b z]at e';cases e') (by simp)
  have V1:∀b∈cl.map (·.2),H' b=none:=λb hb=>by
   obtain⟨IZ,e'⟩:=hx b hb;obtain⟨_,⟨o,ho⟩,_⟩:=e0.hok b _ e';exact un.free b o ho (jg hb) (by simp)
  have nS:∀b,H b=none->b∉cl.map (·.2):=λb e hb=>by
   obtain⟨IZ,e'⟩:=hx b hb;rw[e]at e';cases e'
  refine⟨v,rst (cl.map (·.2)) H H',I'.os,I'.bare,⟨λb o e n hb BC=>un.keep b o e (Ja b n) hb BC,λb o e n hb BC=>un.slot b o e (Ja b n) hb BC,λb o e n BC=>?_,λb o e BC=>un.there b o e BC,λb xs e=>?_,λb o u' e=>?_,λb pp e=>?_⟩,HOk.rst e0.hok I'.hok hx kS V1,rv,q'⟩
  .rw[de (nS b n)];exact un.free b o e (Ja b n) BC
  .have hb:=hx.out e (by intro IZ z;cases z);rw[de hb];exact un.tups b xs (by rw[bM hb];exact e)
  .have hb:=hx.out e (by intro IZ z;cases z);rw[de hb];exact un.frzs b o u' (by rw[bM hb];exact e)
  .have hb:=hx.out e (by intro IZ z;cases z);rw[de hb];exact un.tbls b pp (by rw[bM hb];exact e)
structure Lam(mg:Xk->Option WW)(base:X4)(c P:WT):Prop where
 hd:PySem.W.CodeHd base c P
 bl:base.BuiltinsAt mg P
def SameT(P:WT)(H H':Hp):Prop:=∀b o,b≠P->H b=some o->H' b=some o
def tabOf(pos:Pos)(c':WT):Array WW:=#[Y6 pos.line,Y6 pos.col,.ref c']
def TabSt(H:Hp)(P:WT)(pos:Pos)(qual:Xk):Prop:=H P=some (.tbl #[])\/∃c',H P=some (.tbl (tabOf pos c'))/\CodeAt H c' qual
theorem TabSt.mono(s:Same H H'){P:WT}(h:TabSt H P pos qual):TabSt H' P pos qual:=by
 rcases h with h|⟨c',h1,h2⟩
 .exact .inl (s _ _ h)
 .exact .inr ⟨c',s _ _ h1,h2.mono s⟩
theorem Same.t(s:Same H H')(P:WT):SameT P H H':=λb o _ e=>s b o e
theorem SameT.kt{P:WT}(s:SameT P H H'){pp:Array WW}(hP:H P=some (.tbl pp)):BB.KT H H':=λb xs e=>s b _ (λz=>by rw[z,hP]at e;cases e) e
theorem TabSt.kt{P:WT}(t:TabSt H P pos qual)(s:SameT P H H'):BB.KT H H':=by
 rcases t with h|⟨_,h,_⟩
 .exact s.kt h
 .exact s.kt h
theorem t8(pos:Pos)(c':WT):TriplesOk (tabOf pos c').toList:=trivial
theorem sN(pos:Pos)(c':WT):codeAmong pos (tabOf pos c').toList=some (.ref c'):=by
 show codeAmong pos [Y6 pos.line,Y6 pos.col,.ref c']=_;simp[codeAmong,Y6]
def zO(X:Cx)(P:WT)(pos:Pos)(params:Arguments)(body:XY)(scope:ZN)(cl:List (Xk×WT)):TE:=λ_ H Q=>TabSt H P pos (X.env.qual++"<lambda>") /\
 ∀f c' H',SameT P H H'->H' P=some (.tbl (tabOf pos c'))->CodeAt H' c' (X.env.qual++"<lambda>")->LamAt H' f c' "<lambda>" (X.env.qual++"<lambda>") params body scope cl->H f=none->Q (.ref f) H'
theorem xH{P:WT}{body:XY}(L:Lam X.mg X.base c P)(hc:X.env.code=.ref c)(Am:closureFor scope X.env=pure cl)(Ow:defaultsOf params X.env=([],[]):=by rfl) :
 PE X (.Lambda params body scope pos) (zO X P pos params body scope cl):=by
 intro Z s Y H Q I h;obtain⟨tab,q⟩:=h;have Ox:s.1.Ns Xv X.mg:=I.mod.glob.keeps I.bk;have C:PySem.W.CodeHd s.1 c P:=L.hd.keeps I.bk
 have hb:s.1.BuiltinsAt X.mg P:=by
  obtain⟨bm,o,h1,h2,h3,h4,h5,h6⟩:=L.bl;exact⟨bm,o,h1,h2,h3,h4,I.bk _ _ h5,h6⟩
 refine PySem.W.kla_eval Ow ?_;rcases tab with hP|⟨c',hP,Fp⟩
 .have MJ:s.1.get? P=some (PySem.W.tabObj #[]):=I.hok P _ hP
  have V2:Xv≠P:=λz=>by
   obtain⟨o,es,ep,e,d,_⟩:=Ox;rw[z,MJ]at e;cases e;cases d
  refine PySem.W.kla_makeFunction Am I.ok.glob Ox hc C MJ trivial rfl V2 hb λc' CP h' tk hx Jc Ae Kh SS=>?_;have hsz:s.1.1.size<=h'.objs.size:=XS Jc (Za Ae);have SU:H c'=none:=I.hok.fresh Jc;have nf:H h'.objs.size=none:=I.hok.fresh hsz;have V3:c'≠h'.objs.size:=XG Ae;have V4:P≠c':=λz=>by rw[z,SU]at hP;cases hP
  have V5:P≠h'.objs.size:=λz=>by rw[z,nf]at hP;cases hP
  have kp:∀b o,b≠P->s.1.get? b=some o->(h'.push (Zt "<lambda>" (X.env.qual++"<lambda>") params body scope cl ((X.mg "__name__").getD .none) c' CP)).get? b=some o:=λb o n e=>WV _ (hx b o n e);obtain⟨H',MK⟩:∃H',H'=upd (upd (upd H P (.tbl (tabOf pos c'))) c' (.ext λh=>h.CodeRec (.ref c') (X.env.qual++"<lambda>"))) h'.objs.size (.ext λh=>h.get? h'.objs.size=some (Zt "<lambda>" (X.env.qual++"<lambda>") params body scope cl ((X.mg "__name__").getD .none) c' CP)):=⟨_,rfl⟩;have eP:H' P=some (.tbl (tabOf pos c')):=by rw[MK,af V5,af V4,ad]
  have ec:H' c'=some (.ext λh=>h.CodeRec (.ref c') (X.env.qual++"<lambda>")):=by rw[MK,af V3,ad]
  have ef:H' h'.objs.size=some (.ext λh=>h.get? h'.objs.size=some (Zt "<lambda>" (X.env.qual++"<lambda>") params body scope cl ((X.mg "__name__").getD .none) c' CP)):=by rw[MK,ad]
  have eo:∀b,b≠P->b≠c'->b≠h'.objs.size->H' b=H b:=λb n1 n2 n3=>by rw[MK,af n3,af n2,af n1]
  have es:∀b o,H b=some o->b≠P->H' b=some o:=λb o e n=>by rw[eo b n (λz=>by rw[z,SU]at e;cases e) (λz=>by rw[z,nf]at e;cases e)];exact e
  have un:Un X.fs [] H H' s.1 (h'.push (Zt "<lambda>" (X.env.qual++"<lambda>") params body scope cl ((X.mg "__name__").getD .none) c' CP)):=by
   have nP:∀b,H b=none->b≠P:=λb n z=>by rw[z,hP]at n;cases n
   refine⟨λb o e n _ _=>kp b o (nP b n) e,λb o e n _ _=>⟨o.slots,kp b o (nP b n) e⟩,λb o e n _=>?_,λb o e _=>?_,λb xs e=>es b _ e (λz=>by rw[z,hP]at e;cases e),λb o u e=>es b _ e (λz=>by rw[z,hP]at e;cases e),λb pp e=>?_⟩
   .rw[eo b (nP b n) (XG (Xy (Xc e) Jc)) (XG (Xy (Xc e) hsz))];exact n
   .by_cases hb:b=P
    .exact⟨_,by rw[hb];exact WV _ SS⟩
    .exact⟨o,kp b o hb e⟩
   .by_cases hb:b=P
    .subst hb;rw[hP]at e;cases e;exact⟨tabOf pos c',by rw[eP];simp⟩
    .exact⟨#[],by rw[es b _ e hb];simp⟩
  have hok:HOk X.prog X.w H' (h'.push (Zt "<lambda>" (X.env.qual++"<lambda>") params body scope cl ((X.mg "__name__").getD .none) c' CP)):=λa o e=>by
   by_cases ha:a=P
   .subst ha;rw[eP]at e;cases e;exact WV _ SS
   by_cases BR:a=c'
   .subst BR;rw[ec]at e;cases e;refine⟨Kh.push _,?_,λh1 h2 z k=>?_⟩
    .obtain⟨_,oc,_,_,e1,e2,_⟩:=Kh;cases e1;exact⟨oc,WV _ e2⟩
    .obtain⟨_,oc,vs,t,e1,e2,e3⟩:=z;cases e1;exact⟨_,oc,vs,t,rfl,k _ e2,e3⟩
   by_cases C6:a=h'.objs.size
   .subst C6;rw[ef]at e;cases e;exact⟨W4 _ rfl,⟨_,W4 _ rfl⟩,λh1 h2 z k=>k _ z⟩
   rw[eo a ha BR C6]at e;refine(I.hok a o e).stay (λb u hb z=>kp b u ?_ z) (λb z=>es b _ z (λy=>by rw[y,hP]at z;cases z)) λb xs z=>es b _ z (λy=>by rw[y,hP]at z;cases z);rcases hb with hb|hb
   .rw[hb];exact ha
   .exactλy=>by rw[y,hP]at hb;cases hb
  refine⟨.ref h'.objs.size,H',I.un un hok,rfl,q _ c' H' (λb o n e=>es b o e n) eP ⟨_,ec,λ_ z=>z⟩ ⟨_,ef,λ_ z=>⟨_,_,z⟩⟩ nf⟩
 .have MJ:s.1.get? P=some (PySem.W.tabObj (tabOf pos c')):=I.hok P _ hP;refine PySem.W.kla_makeFunctionHit Am I.ok.glob Ox hc C MJ (t8 pos c') (sN pos c') hb λCP h' tk hk hsz=>?_;have nf:H h'.objs.size=none:=I.hok.fresh hsz
  have I':=I.laid (h':=h'.push {cls:=.type "function",data:=.func (PySem.W.kla_fn "<lambda>" (X.env.qual++"<lambda>") params body scope cl ((X.mg "__name__").getD .none) (.ref c') CP)}) (a:=h'.objs.size) (t':=tk)
   (o:=.ext λh=>h.get? h'.objs.size=some (Zt "<lambda>" (X.env.qual++"<lambda>") params body scope cl ((X.mg "__name__").getD .none) c' CP)) (λb u e=>WV _ (hk b u e)) hsz ⟨W4 _ rfl,⟨_,W4 _ rfl⟩,λh1 h2 z k=>k _ z⟩
  have sm:Same H (upd H h'.objs.size (.ext λh=>h.get? h'.objs.size=some (Zt "<lambda>" (X.env.qual++"<lambda>") params body scope cl ((X.mg "__name__").getD .none) c' CP))):=aj nf _;exact⟨.ref h'.objs.size,_,I',rfl,q _ c' _ (sm.t P) (sm _ _ hP) (Fp.mono sm) ⟨_,ad,λ_ z=>⟨_,_,z⟩⟩ nf⟩
section
variable{k:Nat}{p:Pos}{es:List XY}{t:TA}
def Trk(X:Cx)(Y:St)(cl:List (Xk×WT))(H H':Hp):Prop:=(∀b∈cl.map (·.2),H b=none)/\(∀b,b∉cl.map (·.2)->H' b=H b)/\Exts (cl.map (·.2)) H'/\∀(i:Nat)(y:Xk)(v:V)(c:WT),X.N[i]?=some y->Y[i]?=some (some v)->cl.lookup y=some c->CellAt H' c v
def xA(X:Cx)(cl:List (Xk×WT))(sp:Sp)(t:TA):TE:=λY H Q=>t Y H λvs H1=>∀H2,Trk X Y cl H1 H2->sp vs H2 (λv H3=>(∀b∈cl.map (·.2),H3 b=H2 b)/\Q v (fgt (cl.map (·.2)) H3)) E0
theorem Trk.same(t:Trk X Y cl H H'):Same H H':=λb o e=>by
 rw[t.2.1 b (λz=>by rw[t.1 b z]at e;cases e)];exact e
structure pH(X:Cx)(cl:List (Xk×WT)):Prop where
 look:∀y c,(y,c)∈cl->X.env.cells.lookup y=some c
 fn:∀y c,(y,c)∈cl->X.fn y=true
 kind:∀y c,(y,c)∈cl->X.env.kindOf y=some .cell
theorem zP{y:Xk}(h1:X.env.cells.lookup y=some c)(h2:X.fn y=true)(h3:X.env.kindOf y=some .cell):pH X [(y,c)] :=
 ⟨λ_ _ h=>by cases WZ.mp h;exact h1,λ_ _ h=>by cases WZ.mp h;exact h2,λ_ _ h=>by cases WZ.mp h;exact h3⟩
theorem ub(F:FnOk X.prog X.w X.K X.mg X.base CX0 k f fd ps sp)(hr:Room k X.A)(hg:Gl X x)(hm:X.mg x=some (.ref f))(hk:YJ X.K (.ref f)=true)(hb:Binds X.K fd ps [])(oc:pH X cl)
 (ha:PA X (e::es) t) (Df:(x == ("__debug__":Xk))=false:=by decide) (he:XJ (e::es) X.env=(false,YW e X.env)::XJ es X.env:=by rfl) (AV:(ZD pos (XJ es X.env)).any (·.1)=false:=by rfl) :
 PE X (.Call (.Name x p) (e::es) [] pos) (xA X cl sp t):=by
 intro Z s Y H Q I h;refine Yu (gz I hg hm ?_ Df);refine PySem.W.callWith_K (h₀:=X.base) I.ok.mod.kin hk (thn (ha pos Z s Y H _ I h) λus s1⟨vs,H1,I1,r,q⟩=>⟨I1.kIn,?_⟩) he AV
 have Bm:∀b∈cl.map (·.2),∃y,(y,b)∈cl:=λb hb=>by
  obtain⟨⟨y,c⟩,h1,h2⟩:=Xq.mp hb;cases h2;exact⟨y,h1⟩
 have Av:∀b∈cl.map (·.2),∃v o,s1.1.get? b=some o/\o.data=.cell v:=λb hb=>by
  obtain⟨y,hy⟩:=Bm b hb;obtain⟨v,o,h1,h2⟩:=I1.cell y b (oc.look y b hy);exact⟨v,o,h1,h2⟩
 have CG:∀b∈cl.map (·.2),H1 b=none:=λb hb=>by
  obtain⟨y,hy⟩:=Bm b hb;exact I1.freeC y b (oc.look y b hy)
 obtain⟨H2,SV⟩:∃H2:Hp,H2=λb=>if b∈cl.map (·.2)then some (.ext λh=>h.get? b=s1.1.get? b/\(h.get? b).isSome=true)else H1 b:=⟨_,rfl⟩
 have Ki:∀b∈cl.map (·.2),H2 b=some (.ext λh=>h.get? b=s1.1.get? b/\(h.get? b).isSome=true):=λb hb=>by rw[SV];exact b! hb
 have BN:∀b,b∉cl.map (·.2)->H2 b=H1 b:=λb hb=>by rw[SV];exact a! hb
 have N3:Exts (cl.map (·.2)) H2:=λb hb=>⟨_,Ki b hb⟩;have Kj:∀b u,H1 b=some u->b∉cl.map (·.2):=λb u z hb=>by rw[CG b hb]at z;cases z
 have Oy:HOk X.prog X.w H2 s1.1:=λa o ea=>by
  by_cases hb:a∈cl.map (·.2)
  .rw[Ki a hb]at ea;cases ea;obtain⟨v,o,h1,h2⟩:=Av a hb
   exact⟨⟨rfl,by rw[h1];rfl⟩,⟨o,h1⟩,λg1 g2 z y=>by
    obtain⟨ob,SW⟩:=Option.isSome_iff_exists.mp z.2;have:=y ob SW;exact⟨by rw[this,<-SW];exact z.1,by rw[this];rfl⟩⟩
  .rw[BN a hb]at ea;exact(I1.hok a o ea).stay (λ_ _ _ z=>z) (λb z=>by rw[BN b (Kj b _ z)];exact z) λb xs z=>by rw[BN b (Kj b _ z)];exact z
 have A8:∀b o,X.base.get? b=some o->b∉cl.map (·.2):=λb o z hb=>by
  obtain⟨y,hy⟩:=Bm b hb;have h1:=I1.ok.cab y b (oc.fn y b hy) (oc.look y b hy);exact g! (Xy (Xc z) (XS I1.ok.bsz h1)) (Yo _)
 have Kk:∀b∈frs X.stack,b∉cl.map (·.2):=λb hb hc=>by
  obtain⟨y,hy⟩:=Bm b hc;rcases Xb.mp (I1.stkSub b hb)with z|z
  .exact I1.cne y b (oc.look y b hy) z
  .obtain⟨_,o,ho,_⟩:=I1.ok.funs.mem z;have h1:=I1.ok.cab y b (oc.fn y b hy) (oc.look y b hy);exact g! (Xy (Xc ho) h1) (Yo _)
 have e0:=I1.env0;have e2:Env0 X.prog X.w X.K X.mg X.base X.A X.stack s1 H2:=⟨e0.frames,e0.mod,λb o z=>⟨(e0.bs b o z).1,by rw[BN b (A8 b o z)];exact(e0.bs b o z).2⟩,e0.bsz,e0.funs,λb hb=>by rw[BN b (Kk b hb)];exact e0.frf b hb,Oy,e0.bare⟩
 have Oz:Trk X Y cl H1 H2:=by
  refine⟨CG,BN,N3,λi y v c hN Ot hc=>?_⟩;have SX:(y,c)∈cl:=Yc hc;have V6:=oc.look y c SX;have Fw:=oc.kind y c SX;obtain⟨m,hn,hl⟩:=I1.loc;obtain⟨u,ru,l⟩:=hl i y v hN Ot (.inr (.inl Fw));rcases l with⟨z,_⟩|⟨_,c2,DB,z⟩
  .rw[Fw]at z;cases z
  .rw[V6]at DB;cases DB;refine⟨_,Ki c (jM hc),λh z'=>⟨u,ru,?_⟩⟩;obtain⟨o,ho,hd⟩:=z;exact⟨o,by rw[z'.1];exact ho,hd⟩
 have BX:=q H2 Oz;have hl:us.length=ps.length:=by rw[<-r.length];exact F.len _ _ _ _ BX
 have Bo:=hb s1 us I1.kIn (by rw[Yz];exact hl);rw[Yz]at Bo;refine wpAny_call (codeAny_mono (F.run X.A X.stack s1 H2 ⟨us,[]⟩ us vs _ _ hr e2 Bo r BX) λrr s' hq=>?_);cases rr with
 |error e=>exact Ye hq
 | ok fl =>
   cases fl with
   |next=>exact Ye hq
   |brk=>exact Ye hq
   |cont=>exact Ye hq
   | ret u =>
     obtain⟨v,H3,os,bare,un,Kl,rv,hS,q3⟩:=hq;have V7:Exts (cl.map (·.2)) H3:=λb hb=>⟨_,(hS b hb).trans (Ki b hb)⟩;have kS:∀b∈cl.map (·.2),s'.1.get? b=s1.1.get? b:=λb hb=>((Kl b _ ((hS b hb).trans (Ki b hb))).1).1;refine⟨v,fgt (cl.map (·.2)) H3,I1.call' (ch:=[]) os ⟨λb o z n hb BC=>?_,λb o z n hb BC=>?_,λb o z n BC=>?_,λb o z BC=>un.there b o z BC,λb xs z=>?_,λb o u' z=>?_,λb pp z=>?_⟩ (Kl.fgt V7) bare (λb z=>by cases z),rv,q3⟩
     .by_cases hc:b∈cl.map (·.2)
      .rw[kS b hc];exact z
      .exact un.keep b o z (by rw[BN b hc];exact n) hb BC
     .exact un.slot b o z (by rw[BN b (Kk b hb)];exact n) hb BC
     .by_cases hc:b∈cl.map (·.2)
      .exact jg hc
      .rw[bM hc];exact un.free b o z (by rw[BN b hc];exact n) BC
     .have hc:=Kj b _ z;rw[bM hc];exact un.tups b xs (by rw[BN b hc];exact z)
     .have hc:=Kj b _ z;rw[bM hc];exact un.frzs b o u' (by rw[BN b hc];exact z)
     .have hc:=Kj b _ z;rw[bM hc];exact un.tbls b pp (by rw[BN b hc];exact z)
end
theorem vY{P:WT}(F:Fun K x qual st f fd)(hn:XU K Xv x=some (some (.ref f)))(ht:PySem.W.tabIn K x=some (c,P)):fd.code=.ref c:=by
 obtain⟨oc,od,kV,doc,pm,an,Aj,ct,Ey,rfl,lk,Ck⟩:=F.ex;unfold PySem.W.tabIn at ht;rw[hn]at ht;simp only[lk]at ht;show Aj=.ref c;cases Aj with
 | ref c2 =>
   simp only[YR]at ht;split at ht
   .split at ht
    .cases ht;rfl
    .cases ht
   .cases ht
 |_=>simp[YR]at ht
theorem tq{mb:Xk->Option WW}{k:Nat}{fa T:WT}{l':W3}{vs:List WW}{ns:List Int}
 (KX:K.In l'.heap) (Dh:l'.heap.Ns Xv mg) (hb:l'.heap.Ns builtinsNs mb) (OA:∀x:Xk,x≠"__name__"->mb x=bootBuiltins x) (OB:l'.heap.NoLimit) (hg:l'.gens=#[])
 (ha:l'.heap.get? a=some {cls:=.type "list",data:=.seq vs.toArray}) (hi:IntsAre vs ns) (hl:ns.length<=Xh) (hr:Room k callerA)
 (hC:PySem.W.CodeHd l'.heap c T) (hT:l'.heap.get? T=some (PySem.W.tabObj #[])) (BM:l'.heap.BuiltinsAt mg T) (OC:K.lookup T=none)
 (F:∀base:X4,K.In base->base.Ns Xv mg->Lam mg base c T->FnOk P w K mg base CX k fa fd [x] sp) (Km:∀(s:W3)(u:WW),BindsTo s fd ⟨[u],[]⟩ [(x,u)])
 (BX:∀H:Hp,SqL K H a (ns.map o!)->H T=some (.tbl #[])->sp [.ref a] H (λv _=>v=.bl true) λ_ _ _=>False)
 (OD:∀H e s',CX [] H l' (λ_ _ _=>False) e s'->False) :
 Z7 (Xx P w) callerA (.call (.ref fa) ⟨[.ref a],[]⟩) (λr s'=>r=.ok (.ret (.bool true))/\OldK l'.heap s'.1/\s'.os=l'.os/\AllBare s'.gens) l':=by
 have rv:=mn hi;have OE:=hi.length;have SY:a≠T:=λz=>by rw[z,hT]at ha;cases ha
 have core:∀H:Hp,(∀b,H b=none\/(∃o xs,H b=some (.frz o (.lst xs)))\/(b=T/\H b=some (.tbl #[])))->H T=some (.tbl #[])->SqL K H a (ns.map o!)->HOk P w H l'.heap->(∀b,H b≠none->b=a\/b=T)->(H a≠none->K.lookup a=none) ->
  Z7 (Xx P w) callerA (.call (.ref fa) ⟨[.ref a],[]⟩) (λr s'=>r=.ok (.ret (.bool true))/\OldK l'.heap s'.1/\s'.os=l'.os/\AllBare s'.gens) l':=by
  intro H hO OF hS hok hA hK;have BV:∀{b:WT}{o:YF},l'.heap.get? b=some o->H b=none->(lT l'.heap H).get? b=some o:=λe n=>tZ e n
  have OG:∀{b:WT}{o:YF},l'.heap.get? b=some o->(∀xs n,o.data≠.seq xs n)->(∀xs,o.data≠.fields xs\/o.cls≠.none)->H b=none:=λ{b o}e d1 d2=>by
   cases q:H b with
   |none=>rfl
   | some u =>
     rcases hA b (by rw[q];simp)with e'|e'
     .subst e';rw[ha]at e;cases e;exact g! rfl (d1 _ _)
     .subst e';rw[hT]at e;cases e;rcases d2 #[]with z|z
      .exact g! rfl z
      .exact g! rfl z
  have ML:∀{b:WT}{m:Xk->Option WW},l'.heap.Ns b m->(lT l'.heap H).Ns b m:=λ{b m}⟨o,es,ep,e,d,r⟩=>⟨o,es,ep,BV e (OG e (λxs n=>by rw[d];exactλz=>nomatch z) (λxs=>.inl (by rw[d];exactλz=>nomatch z))),d,r⟩
  have S7:K.In (lT l'.heap H):=λb o e=>BV (KX b o e) (by
   cases q:H b with
   |none=>rfl
   | some u =>
     rcases hA b (by rw[q];simp)with e'|e'
     .subst e';rw[hK (by rw[q];simp)]at e;cases e
     .subst e';rw[OC]at e;cases e)
  have hM:Mod K mg (lT l'.heap H):=⟨S7,ML Dh,⟨mb,ML hb,OA⟩,let⟨mc,h1,h2⟩:=OB;⟨mc,ML h1,h2⟩⟩
  have hL:Lam mg (lT l'.heap H) c T:=by
   refine⟨?_,?_⟩
   .obtain⟨o,V8,file,tf,flags,tg,V9,text,tt,e1,r1,r2,r3⟩:=hC;exact⟨o,V8,file,tf,flags,tg,V9,text,tt,BV e1 (OG e1 (λxs n=>by rw[r2];exactλz=>nomatch z) (λxs=>.inr (by rw[r1];exactλz=>nomatch z))),r1,r2,r3⟩
   .obtain⟨bm,o,h1,h2,h3,h4,h5,h6,h7,h8⟩:=BM;exact⟨bm,o,h1,h2,h3,h4,BV h5 (OG h5 (λxs n=>by rw[h8];exactλz=>nomatch z) (λxs=>.inl (by rw[h8];exactλz=>nomatch z))),h6,h7,h8⟩
  have e0:Env0 P w K mg (lT l'.heap H) callerA [] l' H:=⟨rfl,hM,λb o e=>wz e,Nat.le_of_eq (sY _ _),trivial,λb hb=>g! (show b∈([]:List WT)from hb) (by simp),hok,.of_eq hg⟩;refine codeAny_mono ((F _ S7 (ML Dh) hL).run callerA [] l' H ⟨[.ref a],[]⟩ [.ref a] [.ref a] _ _ hr e0 (Km l' (.ref a)) (.cons rfl .nil) (BX H hS OF)) λr s' h=>?_;cases r with
  |error e=>exact(OD H e s' h).elim
  | ok fl =>
    cases fl with
    |next=>exact Ye h
    |brk=>exact Ye h
    |cont=>exact Ye h
    | ret u =>
      obtain⟨v,H',os,bare,un,CS,r',q⟩:=h;have q':v=.bl true:=q;subst q';obtain rfl:u=ZM true:=r';refine⟨rfl,⟨λb o e=>?_,λb o e=>un.there b o e (by simp)⟩,os,bare⟩;cases q:H b with
      |none=>exact .inl (un.keep b o e q (by intro z;exact g! (show b∈([]:List WT)from z) (by simp)) (by simp))
      | some u =>
        rcases hO b with z|⟨ob,xs,z⟩|⟨rfl,z⟩
        .rw[q]at z;cases z
        .have z2:=un.frzs b ob _ z;obtain⟨e1,_⟩:=hok b _ z;obtain⟨e2,_⟩:=CS b _ z2;rw[e]at e1;cases e1;exact .inl e2
        .obtain⟨more,z2⟩:=un.tbls b _ z;have e2:s'.1.get? b=some {cls:=.none,data:=.fields (#[]++more)}:=CS b _ z2;rw[hT]at e;cases e;exact .inr (.inl ⟨(hC.tab hT).isCodeTable,rfl,#[],more,rfl,e2⟩)
 have S8:∀H:Hp,ObjOk P w H l'.heap T (.tbl #[]):=λ_=>hT;cases hk:K.lookup a with
 | some o =>
   have e:=KX a o hk;rw[ha]at e;cases e;refine core (λb=>if b=T then some (.tbl #[])else none) (λb=>?_) (b! rfl) (.inr ⟨_,vs.toArray,_,hk,rfl,rfl,rfl,by rw[Xa,OE];exact hl,by simpa using rv⟩) (λb u z=>?_) (λb z=>?_) λz=>g! (a! SY) z
   .by_cases hb:b=T
    .exact .inr (.inr ⟨hb,b! hb⟩)
    .exact .inl (a! hb)
   .by_cases hb:b=T
    .have z':=(b! hb).symm.trans z;cases z';rw[hb];exact S8 _
    .have z':=(a! hb).symm.trans z;cases z'
   .by_cases hb:b=T
    .exact .inr hb
    .exact g! (a! hb) z
 | none =>
   refine core (λb=>if b=T then some (.tbl #[])else if b=a then some (.frz {cls:=.type "list",data:=.seq vs.toArray} (.lst (ns.map o!)))else none) (λb=>?_) (b! rfl) (.inl (.inr ⟨{cls:=.type "list",data:=.seq vs.toArray},(a! SY).trans (b! rfl)⟩)) (λb u z=>?_) (λb z=>?_) λ_=>hk
   .by_cases hb:b=T
    .exact .inr (.inr ⟨hb,b! hb⟩)
    .by_cases Bo:b=a
     .exact .inr (.inl ⟨_,_,(a! hb).trans (b! Bo)⟩)
     .exact .inl ((a! hb).trans (a! Bo))
   .by_cases hb:b=T
    .have z':=(b! hb).symm.trans z;cases z';rw[hb];exact S8 _
    .have z':=(a! hb).symm.trans z;by_cases Bo:b=a
     .have z2:=(b! Bo).symm.trans z';cases z2;subst Bo;exact⟨ha,by rw[WO];exact hl,vs,_,rv,ha⟩
     .have z2:=(a! Bo).symm.trans z';cases z2
   .by_cases hb:b=T
    .exact .inr hb
    .by_cases Bo:b=a
     .exact .inl Bo
     .exact g! ((a! hb).trans (a! Bo)) z
def tabAt(o:YF):Option WT:=match o.data with
 | .fields vs=>(match(vs[11]?:Option WW)with
   |some (.ref P)=>some P
   |_=>none)
 |_=>none
theorem yb{T:WT}{sl:Array (Option WW)}{ot:YF}(hn:XU K Xv x=some (some (.ref f)))(hl:K.lookup f=some ⟨oc,od,.func fd,sl⟩)(hc:fd.code=.ref c)(ho:K.lookup c=some ot)(ht:tabAt ot=some T):PySem.W.tabIn K x=some (c,T):=by
 unfold PySem.W.tabIn;rw[hn];simp only[hl,hc,ho];obtain⟨o1,o2,o3,o4⟩:=ot;unfold tabAt at ht;cases o3 with
 | fields vs =>
   simp only at ht |-;split at ht
   .rename_i e
    cases ht;simp only[e]
   .cases ht
 |_=>cases ht
theorem uW{l:PySem.W.OpenLaw}{k:Nat}{q:Xm}{d dt:DefRec}{K:Params->WX}{CX:XD->CXT}{sp:XD->WT->Sp}{tn:Xk}
 (hn:l.most=some n) (My:n<=Xh) (hdf:d.params.defaults=[]) (hr:Room k callerA) (hq:(recsOf q).find? (λe=>e.name == tn)=some dt)
 (hY:∀(w:XD)(h:X4),YP w h->(K w.params).In h)
 (F:∀(w:XD)(mg:Xk->Option WW)(fa:WT)(h:X4),(K w.params).In h->h.Ns Xv mg->mg d.name=some (.ref fa) ->
  ∃(fd:YO)(c T:WT),(∀(s:W3)(u:WW),BindsTo s fd ⟨[u],[]⟩ [(x,u)])/\PySem.W.tabIn (K w.params) tn=some (c,T)/\(K w.params).lookup T=none /\
    ∀base:X4,(K w.params).In base->base.Ns Xv mg->Lam mg base c T->FnOk l.prog w (K w.params) mg base (CX w) k fa fd [x] (sp w T))
 (BX:∀(w:XD)(T:WT)(H:Hp)(a:WT)(ns:List Int),ns.length<=n->SqL (K w.params) H a (ns.map o!)->H T=some (.tbl #[])->sp w T [.ref a] H (λv _=>v=.bl true) λ_ _ _=>False)
 (OD:∀(w:XD)(H:Hp)(s:W3)(e:WW)(s':W3),CX w [] H s (λ_ _ _=>False) e s'->False) :
 PySem.W.WalkO q loose XP YP l.row.toRowW d [] (λf vs=>PySem.call f vs):=by
 refine Att.attach_call hn hdf λw s₀ l' mg mb fa o pm cd doc a vs ns G Y ho hd Ck JR G' hints hlen hg=>?_;have KX:=hY w _ Y;obtain⟨fd,c,T,hb,ht,OC,hF⟩:=F w mg fa _ KX G.T.g JR;obtain⟨hC,hT⟩:=PySem.W.tab_of G.T KX hq ht
 have BM:l'.heap.BuiltinsAt mg T:=by
  obtain⟨bm,ob,b1,b2,b3,b4,b5,b6⟩:=G.T.bmain;refine⟨bm,ob,b1,b2,λz=>?_,λz=>?_,b3,b4,b5,b6⟩
  .obtain⟨o',es,ep,e,d',_⟩:=G.T.g;rw[z,e]at b3;cases b3;rw[d']at b6;cases b6
  .rw[z,hT]at b3;cases b3;cases b4
 exact tq KX G.T.g G.T.b G.T.builtins G.T.nolimit hg G' hints (XS hlen My) hr hC hT BM OC hF hb (λH hS OF=>BX w T H a ns hlen hS OF) λH e s'=>OD w H l' e s'
end L2
namespace BB
open PySem L2
section
variable{head:Th}
end
end BB
namespace L2
open PySem PySem.Spec PySem.SeqAt PyProof.Rows
section
variable{o i value:XY}{td ty tv:TE}
end
end L2
namespace BB
open PySem L2
mutual
def cnT:Th->Nat
 |.knot _ ks=>oK ks
 |.call _ _=>1
def oK:List Th->Nat
 | []=>0
 |t::ts=>cnT t+oK ts
end
section
variable{mid:List (Xk×Int)}{S1 S2:Int}{GH GI:Th}{GJ GK:List (List Th)}
end
end BB
namespace L2
open PySem PySem.Spec PySem.Calls PyProof.Rows
end L2
namespace BB
open PySem L2
mutual
def lc:Th->Nat
 |.call _ _=>1
 |.knot _ ks=>if lcs ks=0 then 0 else lcs ks+1
def lcs:List Th->Nat
 | []=>0
 |t::ts=>max (lc t) (lcs ts)
end
mutual
theorem gA{ks:List (Xk×Int)}{C:Int}(g:bq ks):∀t:Th,t.FitS ks S C->2 * t.size+1<=3 ^ t.tall/\3 * cnT t<=3 ^ lc t
 | .call _ _,_=>by
   rw[w!,r!,cnT,lc];exact⟨by decide,by decide⟩
 | .knot n ts,h=>by
   rw[G!]at h;obtain⟨h1,h2⟩:=lC g ts h.2
   have hw:ts.length<=3:=by
    have:=(g.num _ h.1).2;have h2:((ts.length:Nat):Int)<=3:=this;omega
   rw[w!,r!,cnT,lc];refine⟨?_,?_⟩
   .rw[Nat.pow_succ];have hp:1<=3 ^ aB ts:=Nat.pow_pos (by decide);have:ts.length * (3 ^ aB ts - 1)<=3 * (3 ^ aB ts - 1):=Nat.mul_le_mul_right _ hw;omega
   .have:ts.length * 3 ^ lcs ts<=3 * 3 ^ lcs ts:=Nat.mul_le_mul_right _ hw;split
    .rename_i hz
     rw[hz]at h2 this;have h3:=m8 g ts h.2 hz;omega
    .rw[Nat.pow_succ];omega
theorem lC{ks:List (Xk×Int)}{C:Int}(g:bq ks):∀ts:List Th,FitSs ks S C ts->2 * au ts<=ts.length * (3 ^ aB ts - 1)/\3 * oK ts<=ts.length * 3 ^ lcs ts
 | [],_=>by
   rw[au,oK];exact⟨XB _,XB _⟩
 | t::ts,h=>by
   rw[FitSs]at h;obtain⟨h1,h2⟩:=gA g t h.1;obtain⟨h3,h4⟩:=lC g ts h.2;rw[au,oK,aB,lcs,W8];have a1:3 ^ t.tall<=3 ^ max t.tall (aB ts):=Zx (by decide) (Nat.le_max_left ..);have a2:3 ^ aB ts<=3 ^ max t.tall (aB ts):=Zx (by decide) (Nat.le_max_right ..);have b1:3 ^ lc t<=3 ^ max (lc t) (lcs ts):=Zx (by decide) (Nat.le_max_left ..);have b2:3 ^ lcs ts<=3 ^ max (lc t) (lcs ts):=Zx (by decide) (Nat.le_max_right ..);have a3:ts.length * (3 ^ aB ts - 1)<=ts.length * (3 ^ max t.tall (aB ts) - 1):=Nat.mul_le_mul_left _ (by omega);have b3:ts.length * 3 ^ lcs ts<=ts.length * 3 ^ max (lc t) (lcs ts):=Nat.mul_le_mul_left _ b2;rw[Nat.add_mul,Nat.add_mul];omega
theorem m8{ks:List (Xk×Int)}{C:Int}(g:bq ks):∀ts:List Th,FitSs ks S C ts->lcs ts=0->oK ts=0
 | [],_,_=>by rw[oK]
 | t::ts,h,hz=>by
   rw[FitSs]at h;rw[lcs]at hz;have h1:=(gA g t h.1).2;rw[show lc t=0 by omega]at h1;rw[oK,m8 g ts h.2 (by omega)];omega
end
theorem xN{t:Th}(h:t∈ts):t.size<=au ts:=by
 induction ts with
 |nil=>cases h
 | cons u ts ih =>
   rw[au];rcases Xb.mp h with rfl|h
   .omega
   .have:=ih h;omega
section
variable{mid:List (Xk×Int)}{S1 S2:Int}{GH GI:Th}{GJ GK:List (List Th)}{V' Wa Wb Wc Wd We Wf:Nat}
end
end BB
namespace L2
open PySem PySem.Spec PySem.Calls PyProof.Rows
end L2
namespace BB
open PySem L2
section
variable{k0 k1 k2 k3:List (Xk×Int)}{SA SB SC:Int}{a0 b0 c0:Th}{S9 Ta Tb:List (List Th)}
end
section
variable{mid:List (Xk×Int)}{S1 S2:Int}{GH GI:Th}{GJ GK:List (List Th)}{V' Wa Wb Wc Wd We Wf:Nat}
end
theorem hid{G:Prop}(k:∀F:Prop,(G->F)->F):G:=k G id
inductive Ex1{A0:Type}(p:A0->Prop):Prop
 |mk (x0:A0) (h:p x0):Ex1 p
inductive Ex2{A0 A1:Type}(p:A0->A1->Prop):Prop
 |mk (x0:A0) (x1:A1) (h:p x0 x1):Ex2 p
inductive Ex3{A0 A1 A2:Type}(p:A0->A1->A2->Prop):Prop
 |mk (x0:A0) (x1:A1) (x2:A2) (h:p x0 x1 x2):Ex3 p
inductive Ex4{A0 A1 A2 A3:Type}(p:A0->A1->A2->A3->Prop):Prop
 |mk (x0:A0) (x1:A1) (x2:A2) (x3:A3) (h:p x0 x1 x2 x3):Ex4 p
inductive Ex5{A0 A1 A2 A3 A4:Type}(p:A0->A1->A2->A3->A4->Prop):Prop
 |mk (x0:A0) (x1:A1) (x2:A2) (x3:A3) (x4:A4) (h:p x0 x1 x2 x3 x4):Ex5 p
inductive Ex6{A0 A1 A2 A3 A4 A5:Type}(p:A0->A1->A2->A3->A4->A5->Prop):Prop
 |mk (x0:A0) (x1:A1) (x2:A2) (x3:A3) (x4:A4) (x5:A5) (h:p x0 x1 x2 x3 x4 x5):Ex6 p
inductive Ex7{A0 A1 A2 A3 A4 A5 A6:Type}(p:A0->A1->A2->A3->A4->A5->A6->Prop):Prop
 |mk (x0:A0) (x1:A1) (x2:A2) (x3:A3) (x4:A4) (x5:A5) (x6:A6) (h:p x0 x1 x2 x3 x4 x5 x6):Ex7 p
inductive Ex8{A0 A1 A2 A3 A4 A5 A6 A7:Type}(p:A0->A1->A2->A3->A4->A5->A6->A7->Prop):Prop
 |mk (x0:A0) (x1:A1) (x2:A2) (x3:A3) (x4:A4) (x5:A5) (x6:A6) (x7:A7) (h:p x0 x1 x2 x3 x4 x5 x6 x7):Ex8 p
inductive An2(a0 a1:Prop):Prop
 |mk (h0:a0) (h1:a1):An2 a0 a1
inductive An3(a0 a1 a2:Prop):Prop
 |mk (h0:a0) (h1:a1) (h2:a2):An3 a0 a1 a2
inductive An4(a0 a1 a2 a3:Prop):Prop
 |mk (h0:a0) (h1:a1) (h2:a2) (h3:a3):An4 a0 a1 a2 a3
inductive An5(a0 a1 a2 a3 a4:Prop):Prop
 |mk (h0:a0) (h1:a1) (h2:a2) (h3:a3) (h4:a4):An5 a0 a1 a2 a3 a4
inductive An6(a0 a1 a2 a3 a4 a5:Prop):Prop
 |mk (h0:a0) (h1:a1) (h2:a2) (h3:a3) (h4:a4) (h5:a5):An6 a0 a1 a2 a3 a4 a5
inductive An7(a0 a1 a2 a3 a4 a5 a6:Prop):Prop
 |mk (h0:a0) (h1:a1) (h2:a2) (h3:a3) (h4:a4) (h5:a5) (h6:a6):An7 a0 a1 a2 a3 a4 a5 a6
inductive An8(a0 a1 a2 a3 a4 a5 a6 a7:Prop):Prop
 |mk (h0:a0) (h1:a1) (h2:a2) (h3:a3) (h4:a4) (h5:a5) (h6:a6) (h7:a7):An8 a0 a1 a2 a3 a4 a5 a6 a7
inductive An9(a0 a1 a2 a3 a4 a5 a6 a7 a8:Prop):Prop
 |mk (h0:a0) (h1:a1) (h2:a2) (h3:a3) (h4:a4) (h5:a5) (h6:a6) (h7:a7) (h8:a8):An9 a0 a1 a2 a3 a4 a5 a6 a7 a8
inductive xu(a0 a1 a2 a3 a4 a5 a6 a7 a8 a9:Prop):Prop
 |mk (h0:a0) (h1:a1) (h2:a2) (h3:a3) (h4:a4) (h5:a5) (h6:a6) (h7:a7) (h8:a8) (h9:a9):xu a0 a1 a2 a3 a4 a5 a6 a7 a8 a9
inductive zm(a0 a1 a2 a3 a4 a5 a6 a7 a8 a9 Kn:Prop):Prop
 |mk (h0:a0) (h1:a1) (h2:a2) (h3:a3) (h4:a4) (h5:a5) (h6:a6) (h7:a7) (h8:a8) (h9:a9) (Wg:Kn):zm a0 a1 a2 a3 a4 a5 a6 a7 a8 a9 Kn
inductive xR(a0 a1 a2 a3 a4 a5 a6 a7 a8 a9 Kn Tc a12 a13:Prop):Prop
 |mk (h0:a0) (h1:a1) (h2:a2) (h3:a3) (h4:a4) (h5:a5) (h6:a6) (h7:a7) (h8:a8) (h9:a9) (Wg:Kn) (h11:Tc) (h12:a12) (h13:a13):xR a0 a1 a2 a3 a4 a5 a6 a7 a8 a9 Kn Tc a12 a13
end BB
namespace L2
open PySem PySem.Spec PyProof.Rows
end L2
namespace BB
open PySem L2
section
variable{d:Nat}{head:Th}
end
end BB
namespace L2
open PySem PySem.Spec PyProof.Rows
def vp(H H1 H2:Hp):Prop:=∀b,H2 b=H1 b\/∃o u,H1 b=some (.frz o u)/\H b=some u/\H2 b=some u
theorem xI{o:YF}{u:HO}(h:u=.frz o u):False:=by
 have:=h! sizeOf h;simp at this
theorem Inv.thaw{AH:St}{s1:W3}(I:Inv X Z Y H s)(I1:Inv X Z AH H1 s1)(h:vp H H1 H2):Inv X Z AH H2 s1:=by
 have keep:∀b u,H1 b=some u->(∀o v,u≠.frz o v)->H2 b=some u:=λb u e n=>by
  rcases h b with z|⟨o,v,z,_⟩
  .rw[z];exact e
  .rw[e]at z;cases z;exact g! rfl (n o v)
 have non:∀b,H1 b=none->H2 b=none:=λb e=>by
  rcases h b with z|⟨o,v,z,_⟩
  .rw[z];exact e
  .rw[e]at z;cases z
 have ht:∀b xs,H1 b=some (.tup xs)->H2 b=some (.tup xs):=λb xs e=>keep b _ e (λ_ _ z=>nomatch z);have hw:∀c b,H1 b=some (.own c)->H2 b=some (.own c):=λc b e=>keep b _ e (λ_ _ z=>nomatch z);refine⟨I1.ok,I1.os,I1.bare,⟨I1.base.keep,I1.base.slot,λb o e n x=>non b (I1.base.free b o e n x),I1.base.there,λb xs e=>ht b xs (I1.base.tups b xs e),λb o u e=>?_,λb ps e=>?_⟩,I1.loc,I1.cell,non _ I1.free,λx c e=>non _ (I1.freeC x c e),λp hp=>?_,λb u e=>?_,I1.len⟩
 .have e1:=I1.base.frzs b o u e;have e2:=I.base.frzs b o u e;rcases h b with z|⟨o',v,z,z2,_⟩
  .rw[z];exact e1
  .rw[e1]at z;cases z;rw[e2]at z2;exact(xI (Xf z2).symm).elim
 .obtain⟨more,e1⟩:=I1.base.tbls b ps e;exact⟨more,keep b _ e1 (λ_ _ z=>nomatch z)⟩
 .obtain⟨a1,a2,a3⟩:=I1.pin p hp;exact⟨a1,non _ a2,a3⟩
 .rcases h b with z|⟨o,v,z,_,z3⟩
  .rw[z]at e;exact(I1.hok b u e).stay (λ_ _ _ q=>q) (hw b) ht
  .rw[z3]at e;cases e;obtain⟨_,k⟩:=(show ObjOk X.prog X.w H1 s1.1 b (.frz o u)from I1.hok b _ z);exact k.stay (λ_ _ _ q=>q) (hw b) ht
def yV(t:TS):TS:=λD Y H=>t {D with nx:=λAH H1=>∃H2,vp H H1 H2/\D.nx AH H2} Y H
theorem j9{t:TS}(h:PS X st t):PS X st (yV t):=λZ s Y H D I q=>thn (h Z s Y H _ I q) λf s' r=>by
 cases f with
 | next =>
   obtain⟨AH,H1,I1,H2,th,q2⟩:=r;exact⟨AH,H2,I.thaw I1 th,q2⟩
 |brk=>exact r
 |cont=>exact r
 |ret u=>exact r
def oj(t:TE):TE:=λY H Q=>t Y H λv H1=>∃H2,vp H H1 H2/\Q v H2
theorem rm{t:TE}(h:PE X e t):PE X e (oj t):=λZ s Y H Q I q=>thn (h Z s Y H _ I q) λv s' r=>by
 obtain⟨x,H1,I1,rv,H2,th,q2⟩:=r;exact⟨x,H2,I.thaw I1 th,rv,q2⟩
theorem d8:entryFor table "dict_itemiterator.__iter__"=some Zp.«dict_keyiterator.__iter__»:=entryFor_alias (id':="dict_keyiterator.__iter__") (by kernel_rfl) rfl (by decide +kernel) (by kernel_rfl)
theorem Inv.freezeK{kvs:List (Key×V)}{o:YF}(I:Inv X Z Y H s)(ha:H a=some (.dK kvs))(ho:s.1.get? a=some o):Inv X Z Y (upd H a (.frz o (.dK kvs))) s:=by
 have ne:∀b u,H b=some u->u≠.dK kvs->b≠a:=λb u e d z=>by rw[z,ha]at e;exact d (Xf e).symm
 have ht:∀b xs,H b=some (.tup xs)->upd H a (.frz o (.dK kvs)) b=some (.tup xs):=λb xs e=>by rw[af (ne b _ e (by intro z;cases z))];exact e
 have hw:∀c b,H b=some (.own c)->upd H a (.frz o (.dK kvs)) b=some (.own c):=λc b e=>by rw[af (ne b _ e (by intro z;cases z))];exact e
 have st:∀b u,H b=some u->ObjOk X.prog X.w (upd H a (.frz o (.dK kvs))) s.1 b u:=λb u e=>(I.hok b u e).stay (λ_ _ _ q=>q) (hw b) ht;refine I.step (g':=s.gens) (d':=s.drawn) (t':=s.toks) (ch:=[]) (λ_ z=>nomatch z) (λb ob _ _ _ e _=>e) (λb ob _ _ _ e _=>⟨ob.slots,e⟩) (λb ob _ e n=>?_) (λb ob _ e=>⟨ob,e⟩) ht (λb ob u e=>?_) (λb ps e=>⟨#[],?_⟩) (λm hm=>hm) (λb u e=>?_) I.bare
 .rw[af (λz=>by rw[z,ha]at n;cases n)];exact n
 .rw[af (ne b _ e (by intro z;cases z))];exact e
 .rw[af (ne b _ e (by intro z;cases z)),e];simp
 .by_cases hb:b=a
  .subst hb;rw[ad]at e;cases e;exact⟨ho,st _ _ ha⟩
  .rw[af hb]at e;exact st b u e
theorem j5{o:YF}{es:Array DictEntry}{kvs:List (Key×V)}(hd:o.data=.dict es ep)(k:ObjOk P w H h a (.frz o (.dK kvs))) :
 ∃vs,KV kvs vs/\h.DictAt (aT P w) a vs ep/\vs.length=kvs.length:=by
 obtain⟨e0,z,y,vs,rel,o',Gr,Gs,h1,h2,h3,h4⟩:=k;rw[e0]at h1;cases h1;rw[hd]at h3;cases h3;exact⟨vs,rel,⟨o,es,e0,h2,hd,h4⟩,(W5 rel).symm⟩
theorem vF{k:Key}{v:WW}(h:(aT P w).is k v=true):RelV (kV k) v:=by
 rcases bD h with⟨i,tk,e1,e2⟩|⟨x,tk,e1,e2⟩
 .rw[e1];exact⟨tk,e2⟩
 .rw[e1];exact⟨tk,e2⟩
def ItI(a:WT)(o:YF)(kvs:List (Key×V)):It :=
 ⟨λi H=>H a=some (.frz o (.dK kvs))/\i<kvs.length,
  λi H v H'=>∃p kv,H p=none/\v=.ref p/\H'=upd H p (.tup [kV kv.1,kv.2])/\kvs[i]?=some kv,
  λi H=>H a=some (.frz o (.dK kvs))/\kvs.length<=i⟩
theorem qG{k1}(a it:WT)(o:YF)(es:Array DictEntry)(ep:Nat)(kvs:List (Key×V))(hd:o.data=.dict es ep) :
 Turn P w K (.Tuple elts k1 pos) (ItI a o kvs) [it] it (λi h=>∃ok ov,IsItemIter h it a i kvs.length ep ok ov) where
 mem:=by simp
 obj:=λi h st b hb=>by
  obtain⟨ok,ov,e⟩:=st;have eb:b=it:=by simpa using hb
  subst eb;exact⟨_,e,λv z=>by cases z⟩
 keep:=λi h h' st k=>by
  obtain⟨ok,ov,e⟩:=st;exact⟨ok,ov,k it (by simp) _ e⟩
 item:=by
  intro X hP hw hK hc i Z s Y H E I hf st hg;subst hP hw hK;obtain⟨hq,Ae⟩:=hg;obtain⟨ok,ov,hit⟩:=st;obtain⟨vs,rel,dat,hlen⟩:=j5 hd (I.hok a _ hq);obtain⟨kv,Ag⟩:∃kv,kvs[i]?=some kv:=⟨_,WS Ae⟩;obtain⟨xv,OI,r1,r2⟩:=y! rel Ag;rw[<-hlen]at hit;have BJ:it<s.1.1.size:=Xc hit;obtain⟨f0,f1,f2,f3,f4,f5⟩:=hf it (by simp);refine wpAny_pyNext_items_item hit dat (k:=xv.1) (v:=xv.2) OI λkey h1 Cn BO Hu hsz ET=>?_;refine⟨_,rfl,wpAny_letOwnedTupleGo_items BO λh2 g1 sb=>?_⟩;replace sb:X5 it h1 h2:=sb;have FK:H s.1.1.size=none:=I.hok.fresh (W2 _)
  have IA:Inv X Z Y (upd H s.1.1.size (.tup [kV kv.1,kv.2])) {s with heap:=s.1.push {cls:=.type "tuple",data:=.seq #[key,xv.2]},toks:=s.toks} :=
   I.laid (o:=.tup [kV kv.1,kv.2]) (λb ob q=>WV _ q) (W2 _) ⟨by show 2<=Xh;decide,[key,xv.2],0,.cons (by rw[r1];exact vF Cn) (.cons r2 .nil),W4 _ rfl⟩
  refine⟨.ref s.1.1.size,upd H s.1.1.size (.tup [kV kv.1,kv.2]),?_,rfl,⟨_,kv,FK,rfl,rfl,Ag⟩,⟨_,_,by rw[<-hlen];exact g1⟩,λc hc=>?_⟩
  .refine Inv.turnedL (s:={s with heap:=s.1.push {cls:=.type "tuple",data:=.seq #[key,xv.2]},toks:=s.toks}) (h':=h2) (fp:=[it]) (t':=s.toks) IA (λc oc hc q=>?_) λc hc=>?_
   .have n1:c≠it:=λe=>hc (by simp[e]);rw[sb.2 c n1];by_cases Bg:c=s.1.1.size
    .subst Bg;have q':(s.1.push {cls:=.type "tuple",data:=.seq #[key,xv.2]}).get? s.1.1.size=some oc:=q;rw[W4 _ rfl]at q';rw[<-q'];exact Hu
    .have q':(s.1.push {cls:=.type "tuple",data:=.seq #[key,xv.2]}).get? c=some oc:=q;rw[Heap.get?_push_ne _ _ _ Bg]at q';exact ET c oc n1 q'
   .have e:c=it:=by simpa using hc
    subst e;exact⟨by rw[af (XG BJ)];exact f0,f1,f2,f3,f4,f5⟩
  .have e:c=it:=by simpa using hc
   subst e;rw[af (XG BJ)];exact f0
 done:=by
  intro X hP hw hK hc i Z s Y H E I hf st hg;subst hP hw hK;obtain⟨hq,Jc⟩:=hg;obtain⟨ok,ov,hit⟩:=st;obtain⟨vs,rel,dat,hlen⟩:=j5 hd (I.hok a _ hq);rw[<-hlen]at hit;obtain⟨f0,f1,f2,f3,f4,f5⟩:=hf it (by simp);exact wpAny_pyNext_items_end (I.ok.hd hc) hit dat (Yw (by omega)) λh' eb=>⟨rfl,I.turned (t':=s.toks) (λb ob hb e=>eb b ob hb e) f0 f1 f3 f4 f5⟩
 self:=by
  intro A i s Q E st h;obtain⟨ok,ov,e⟩:=st;have hT:s.TypeIs (.ref it) "dict_itemiterator":=⟨_,e,rfl⟩;refine wpAny_pyIter_slot hT Z3 (X7 Z3 hT d8 ?_ (F.args_dict_itemiterator_iter_1 _));exact W0 ⟨_,rfl,"dict_itemiterator",_,hT,Ys.lookup,h⟩
section
variable{apos Ap:Pos}
def vh(tl:TE):TI:=λY H R=>tl Y H λx H1=>∃a kvs,x=.ref a/\H1 a=some (.dK kvs)/\∀o,R (ItI a o kvs) (upd H1 a (.frz o (.dK kvs)))
theorem lP{k1}(he:PE X e te)(A8:attributeBase e "items" X.env (YW e X.env)=YW e X.env:=by rfl)(Bs:(apos.endLine == Ap.line)=true:=by rfl) :
 PI X (.Tuple elts k1 pos) (.Call (.Attribute e "items" apos) [] [] Ap) (vh te):=by
 intro Z s Y H R I h;refine wpAny_Call_method0_late A8 Bs (thn (he Z s Y H _ I h) λv s1⟨x,H1,I1,r1,a,kvs,ex,ha,q⟩=>?_);subst ex;cases r1;obtain⟨z,y,vs,rel,dd⟩:=(show ObjOk X.prog X.w H1 s1.1 a (.dK kvs)from I1.hok a _ ha);obtain⟨o,es,ep,h1,h2,h3,h4⟩:=id dd;have hlen:kvs.length=vs.length:=W5 rel;have dat:s1.1.DictAt (aT X.prog X.w) a vs ep:=⟨o,es,h1,h2,h3,h4⟩;refine⟨"dict","dict.items",F.plainAttrs_dict,F.slot_dict_items,F.type_dict_items,dd.typeIs,dd.mapOf.noDict,?_⟩;refine method_meetsIn F.slot_dict_items F.entry_dict_items rfl (PySem.evalArgs_none ⟨rfl,dd.typeIs,F.args_dict_items_1 _,_,meets_dict_items (aT X.prog X.w) a y,⟨vs,dd⟩,?_⟩);have I2:=I1.freezeK ha h1;refine wpAny_pyIter_items (kvs:=vs) (ep:=ep) ⟨_,W4 _ rfl,rfl,rfl⟩ (dat.push _) ?_;generalize hN:((s1.1.push {cls:=.type "dict_items",data:=.fields #[.ref a]}).objs.size)=n;have hn:n=s1.1.1.size+1:=by rw[<-hN,Yk]
 have kept:∀b ob,s1.1.get? b=some ob->((s1.1.push {cls:=.type "dict_items",data:=.fields #[.ref a]}).push {cls:=.type "dict_itemiterator",data:=.fields #[.none,.bool false,.ref a,.int 0 0,.int vs.length 0,.int ep 0,.none,.none]}).get? b=some ob:=λb ob e=>WV _ (WV _ e);have hz:s1.1.1.size<=n:=by omega
 refine⟨n,[n],_,_,upd H1 a (.frz o (.dK kvs)),rfl,I2.kept (t':=s1.toks) kept,qG a n o es ep kvs h3,⟨.none,.none,?_⟩,λb hb=>?_,q o⟩
 .rw[<-hN,hlen];exact W4 _ rfl
 .have e:b=n:=by simpa using hb
  subst e;exact I2.fpOk hz (I2.hok.fresh hz)
theorem mM{o:YF}{kvs:List (Key×V)}(Pv:Nat->St->Hp->Prop)(h0:Pv 0 Y H)(hl:∀i Y H,i<=kvs.length->Pv i Y H->H a=some (.frz o (.dK kvs)))
 (hs:∀i kv p Y H,kvs[i]?=some kv->H p=none->Pv i Y H->g (.ref p) Y (upd H p (.tup [kV kv.1,kv.2])) λAk H2=>tb {D with nx:=Pv (i+1),ct:=Pv (i+1),bk:=D.nx} Ak H2) (hd:∀Y H,Pv kvs.length Y H->D.nx Y H) :
 ∃W:Nat->Nat->St->Hp->Prop,(∃m,W 0 m Y H)/\∀i m Y H,W i m Y H ->
   ((ItI a o kvs).stop i H/\D.nx Y H)\/((ItI a o kvs).go i H/\∃N:St->Hp->Prop,(∀i' H',N i' H'->∃m',m'<m/\W (i+1) m' i' H')/\∀x H',(ItI a o kvs).yld i H x H'->g x Y H' λAk H2=>tb {D with nx:=N,ct:=N,bk:=D.nx} Ak H2):=by
 refine⟨λi m Y H=>m=kvs.length - i/\i<=kvs.length/\Pv i Y H,⟨kvs.length,by simp,XB _,h0⟩,?_⟩;rintro i m Y H ⟨rfl,hi,p⟩;have q:=hl i Y H hi p;by_cases Ae:i<kvs.length
 .refine .inr ⟨⟨q,Ae⟩,Pv (i+1),λi' H' p'=>⟨kvs.length - (i+1),by omega,rfl,Ae,p'⟩,λx H' y=>?_⟩;obtain⟨pa,kv,hp,rfl,rfl,Ag⟩:=y;exact hs i kv pa Y H Ag hp p
 .have e:i=kvs.length:=by omega
  subst e;exact .inl ⟨⟨q,W2 _⟩,hd Y H p⟩
end
def ItW(a:WT)(o:YF)(kvs:List (Key×V)):It :=
 ⟨λi H=>H a=some (.frz o (.dK kvs))/\i<kvs.length,λi H v H'=>H'=H/\∃k,kvs[i]?=some (k,v),λi H=>H a=some (.frz o (.dK kvs))/\kvs.length<=i⟩
theorem pw(a it:WT)(o:YF)(es:Array DictEntry)(ep:Nat)(kvs:List (Key×V))(hd:o.data=.dict es ep) :
 Turn P w K tg (ItW a o kvs) [it] it (λi h=>h.IsValIter it a i kvs.length ep) where
 mem:=by simp
 obj:=λi h st b hb=>by
  have e:b=it:=by simpa using hb
  subst e;obtain⟨ob,e,c,d⟩:=st;exact⟨ob,e,λv z=>by rw[d]at z;cases z⟩
 keep:=λi h h' st k=>st.at λob e=>k it (by simp) ob e
 item:=by
  intro X hP hw hK hc i Z s Y H E I hf st hg;subst hP hw hK;obtain⟨hq,Ae⟩:=hg;obtain⟨vs,rel,dat,hlen⟩:=j5 hd (I.hok a _ hq);obtain⟨kv,Ag⟩:∃kv,kvs[i]?=some kv:=⟨_,WS Ae⟩;obtain⟨xv,OI,r1,r2⟩:=y! rel Ag;rw[<-hlen]at st;obtain⟨f0,f1,f2,f3,f4,f5⟩:=hf it (by simp);refine wpAny_pyNext_values_item st dat (k:=xv.1) (v:=xv.2) OI λh' B8 sb=>?_;have I1:Inv X Z Y H {s with heap:=h'}:=I.turned (t':=s.toks) (λb ob hb e=>(sb.2 b hb).trans e) f0 f1 f3 f4 f5;rw[hlen]at B8;obtain⟨ob,e,c,d⟩:=id B8;exact⟨_,rfl,nw (s:={s with heap:=h'}) e c d (by decide) ⟨kv.2,H,I1,r2,⟨rfl,kv.1,Ag⟩,B8,λb hb=>(hf b hb).1⟩⟩
 done:=by
  intro X hP hw hK hc i Z s Y H E I hf st hg;subst hP hw hK;obtain⟨hq,Jc⟩:=hg;obtain⟨vs,rel,dat,hlen⟩:=j5 hd (I.hok a _ hq);rw[<-hlen]at st;obtain⟨f0,f1,f2,f3,f4,f5⟩:=hf it (by simp);exact wpAny_pyNext_values_end (I.ok.hd hc) st dat (Yw (by omega)) λh' eb=>⟨rfl,I.turned (t':=s.toks) (λb ob hb e=>eb b ob hb e) f0 f1 f3 f4 f5⟩
 self:=λ_ _ _ _ _ st h=>wpAny_pyIter_valiter st h
section
variable{apos Ap:Pos}
def wK(tl:TE):TI:=λY H R=>tl Y H λx H1=>∃a kvs,x=.ref a/\H1 a=some (.dK kvs)/\∀o,R (ItW a o kvs) (upd H1 a (.frz o (.dK kvs)))
theorem sw(he:PE X e te)(A8:attributeBase e "values" X.env (YW e X.env)=YW e X.env:=by rfl)(Bs:(apos.endLine == Ap.line)=true:=by rfl) :
 PI X tg (.Call (.Attribute e "values" apos) [] [] Ap) (wK te):=by
 intro Z s Y H R I h;refine wpAny_Call_method0_late A8 Bs (thn (he Z s Y H _ I h) λv s1⟨x,H1,I1,r1,a,kvs,ex,ha,q⟩=>?_);subst ex;cases r1;obtain⟨z,y,vs,rel,dd⟩:=(show ObjOk X.prog X.w H1 s1.1 a (.dK kvs)from I1.hok a _ ha);obtain⟨o,es,ep,h1,h2,h3,h4⟩:=id dd;have hlen:kvs.length=vs.length:=W5 rel;have dat:s1.1.DictAt (aT X.prog X.w) a vs ep:=⟨o,es,h1,h2,h3,h4⟩;refine⟨"dict","dict.values",F.plainAttrs_dict,F.slot_dict_values,F.type_dict_values,dd.typeIs,dd.mapOf.noDict,?_⟩;refine method_meetsIn F.slot_dict_values F.entry_dict_values rfl (PySem.evalArgs_none ⟨rfl,dd.typeIs,F.args_dict_values_1 _,_,meets_dict_values (aT X.prog X.w) a y,⟨vs,dd⟩,?_⟩);have I2:=I1.freezeK ha h1;refine wpAny_pyIter_values (kvs:=vs) (ep:=ep) ⟨_,W4 _ rfl,rfl,rfl⟩ (dat.push _) ?_;generalize hN:((s1.1.push {cls:=.type "dict_values",data:=.fields #[.ref a]}).objs.size)=n;have hn:n=s1.1.1.size+1:=by rw[<-hN,Yk]
 have hz:s1.1.1.size<=n:=by omega
 refine⟨n,[n],_,_,upd H1 a (.frz o (.dK kvs)),rfl,I2.kept (t':=s1.toks) (λb ob e=>WV _ (WV _ e)),pw a n o es ep kvs h3,?_,λb hb=>?_,q o⟩
 .rw[<-hN,hlen];exact⟨_,W4 _ rfl,rfl,rfl⟩
 .have e:b=n:=by simpa using hb
  subst e;exact I2.fpOk hz (I2.hok.fresh hz)
theorem qF{o:YF}{kvs:List (Key×V)}(Pv:Nat->St->Hp->Prop)(h0:Pv 0 Y H)(hl:∀i Y H,i<=kvs.length->Pv i Y H->H a=some (.frz o (.dK kvs)))
 (hs:∀i kv Y H,kvs[i]?=some kv->Pv i Y H->g kv.2 Y H λAk H2=>tb {D with nx:=Pv (i+1),ct:=Pv (i+1),bk:=D.nx} Ak H2) (hd:∀Y H,Pv kvs.length Y H->D.nx Y H) :
 ∃W:Nat->Nat->St->Hp->Prop,(∃m,W 0 m Y H)/\∀i m Y H,W i m Y H ->
   ((ItW a o kvs).stop i H/\D.nx Y H)\/((ItW a o kvs).go i H/\∃N:St->Hp->Prop,(∀i' H',N i' H'->∃m',m'<m/\W (i+1) m' i' H')/\∀x H',(ItW a o kvs).yld i H x H'->g x Y H' λAk H2=>tb {D with nx:=N,ct:=N,bk:=D.nx} Ak H2):=by
 refine⟨λi m Y H=>m=kvs.length - i/\i<=kvs.length/\Pv i Y H,⟨kvs.length,by simp,XB _,h0⟩,?_⟩;rintro i m Y H ⟨rfl,hi,p⟩;have q:=hl i Y H hi p;by_cases Ae:i<kvs.length
 .refine .inr ⟨⟨q,Ae⟩,Pv (i+1),λi' H' p'=>⟨kvs.length - (i+1),by omega,rfl,Ae,p'⟩,λx H' y=>?_⟩;obtain⟨rfl,k,Ag⟩:=y;exact hs i (k,x) Y _ Ag p
 .have e:i=kvs.length:=by omega
  subst e;exact .inl ⟨⟨q,W2 _⟩,hd Y H p⟩
end
end L2
namespace PySem
open Sem (wp)
section
variable{od:YF}{es:Array DictEntry}{ok ov:WW}
theorem bb_put{vs:Array WW}{x:WW}{Q:Unit->W3->Prop}(e:s.1.get? it=some {cls:=.type "dict_itemiterator",dict:=none,data:=.fields vs,slots:=#[]})(hj:j<vs.size)
 (k:∀h',h'.get? it=some {cls:=.type "dict_itemiterator",dict:=none,data:=.fields (vs.setIfInBounds j x),slots:=#[]}->X5 it s.1 h'->Q () {s with heap:=h'}):Xd (Xx prog w) A (setField (.ref it) j x) Q E s :=
 Y5 e hj λh' e' sb=>k h' e' sb
theorem bb_itemNextT{en:DictEntry}{Q:Option WW->W3->Prop}(g:IsItemIter s.1 it d i es.size ep ok ov)(g1:s.1.get? d=some od)(g2:od.data=.dict es ep)(hx:es[i]?=some en)
 (fin:∀h',IsItemIterOut h' it d (i+1) es.size ep en.key en.val s.1.1.size->h'.get? s.1.1.size=some {cls:=.type "tuple",data:=.seq #[en.key,en.val]}->(∀b o,b≠it->s.1.get? b=some o->h'.get? b=some o)->Q (some (.ref s.1.1.size)) {s with heap:=h'}) :
 Xd (Xx prog w) A (Z6 (.ref it)) Q E s:=by
 obtain⟨h0,gn,dr,tk,os⟩:=s;have gT:Shared.TypeIs ⟨h0,gn,dr,tk,os⟩ (.ref it) "dict_itemiterator":=⟨_,g,rfl⟩;have own:Zi "dict_itemiterator"=true:=by decide
 have lt:i<es.size:=(Array.getElem?_eq_some_iff.mp hx).1;have ee:es[i]=en:=(Array.getElem?_eq_some_iff.mp hx).2;have BJ:it<h0.objs.size:=Xc g;unfold Z6;refine WN (wpAny_attempt (X0 (name:=WU "__next__") gT Ys (X7 Ys gT F.entry_dict_itemiterator_next ?_ (F.args_dict_itemiterator_next_1 _))));refine WN (W0 (WN (WN ?_)));first|refine WN (ZP gT (W0 ?_))|refine WN (wpAny_typeNameOf_itemiter gT (W0 ?_))
 refine WN (wpAny_fieldsOf g rfl ?_);simp only[own,if_true];show Xd _ _ (if(XO d == Yj)=true then _ else _) _ _ _;rw[a! (show¬((XO d == Yj)=true)from Xn)];refine WN (W0 (WN (Zb g1 g2 ?_)));rw[a! (by simp)];refine WN (W0 (WN (wpAny_dictEpoch g1 g2 ?_)));rw[a! (by simp)];refine W0 ?_;simp only[show¬((i:Int)<0)from by omega,if_false,YH,Array.getElem?_eq_getElem lt];rw[ee];refine WN ?_;first|refine WN (ZP gT (W0 ?_))|refine WN (wpAny_typeNameOf_itemiter gT (W0 ?_))
 refine WN (wpAny_isOneOf_itemiter gT ?_);show Xd _ _ (setField (.ref it) 3 (Y6 ((i:Int)+1)) >>= _) _ _ _;refine WN (bb_put g (by simp) λh1 e1 GD=>?_);replace GD:X5 it h0 h1:=GD
 replace e1:IsItemIter h1 it d (i+1) es.size ep ok ov:=by
  have e:((i+1:Nat):Int)=(i:Int)+1:=by omega
  unfold IsItemIter;rw[e];simpa[Y6]using e1
 have Td:Shared.TypeIs ⟨h1,gn,dr,tk,os⟩ (.ref it) "dict_itemiterator":=⟨_,e1,rfl⟩;refine WN (Yl (WN (wpAny_isOneOf_itemiter Td (WN (wpAny_isOneOf_itemiter Td ?_)))));show Xd _ _ (Builtin.Dict_items.pairFromOwner (.ref it) 6 en.key en.val) _ _ ⟨h1,gn,dr,tk,os⟩;unfold Builtin.Dict_items.pairFromOwner;refine WN (wpAny_newTuple ?_);have z1:h1.objs.size=h0.objs.size:=GD.1;have e2:IsItemIter (h1.push {cls:=.type "tuple",data:=.seq #[en.key,en.val]}) it d (i+1) es.size ep ok ov:=WV _ e1;have t2:(h1.push {cls:=.type "tuple",data:=.seq #[en.key,en.val]}).get? h0.objs.size=some {cls:=.type "tuple",data:=.seq #[en.key,en.val]}:=by rw[<-z1];exact W4 _ rfl
 have k2:∀b o,b≠it->h0.get? b=some o->(h1.push {cls:=.type "tuple",data:=.seq #[en.key,en.val]}).get? b=some o:=λb o hb q=>WV _ (GD.extBut b o hb q);rw[z1];generalize h1.push {cls:=.type "tuple",data:=.seq #[en.key,en.val]}=h2 at e2 t2 k2 |-;show Xd _ _ (Builtin.Dict_items.ownedTupleIsFree (.ref it) >>= _) _ _ ⟨h2,gn,dr,tk,os⟩;refine WN ?_;unfold Builtin.Dict_items.ownedTupleIsFree;refine WN (X3 e2 rfl (x:=.none) rfl (W0 ?_));simp only[if_true];refine WN (X3 e2 rfl (x:=ok) rfl (WN (X3 e2 rfl (x:=ov) rfl ?_)));refine WN (bb_put e2 (by simp) λh3 e3 OJ=>?_);replace OJ:X5 it h2 h3:=OJ;refine WN (bb_put e3 (by simp) λh4 e4 OK=>?_);replace OK:X5 it h3 h4:=OK;refine WN (bb_put e4 (by simp) λh5 e5 OL=>?_);replace OL:X5 it h4 h5:=OL;refine WN (bb_put e5 (by simp) λh6 e6 OM=>?_);replace OM:X5 it h5 h6:=OM;have up:∀b o,b≠it->h2.get? b=some o->h6.get? b=some o:=λb o hb q=>OM.extBut b o hb (OL.extBut b o hb (OK.extBut b o hb (OJ.extBut b o hb q)));exact WN (wpAny_letGo (W0 (W0 ⟨_,rfl,W0 (fin h6 (by unfold IsItemIterOut;simpa[Y6]using e6) (up _ _ (Nat.ne_of_gt BJ) t2) λb o hb q=>up b o hb (k2 b o hb q))⟩)))
theorem bb_itemEndT{Q:Option WW->W3->Prop}(calm:A.handled=none)(g:IsItemIter s.1 it d i es.size ep ok ov)(g1:s.1.get? d=some od)(g2:od.data=.dict es ep)(hx:es.size<=i)
 (fin:∀h',Heap.ExtBut it s.1 h'->Q none {s with heap:=h'}):Xd (Xx prog w) A (Z6 (.ref it)) Q E s:=by
 have gT:s.TypeIs (.ref it) "dict_itemiterator":=⟨_,g,rfl⟩;have own:Zi "dict_itemiterator"=true:=by decide
 unfold Z6;refine WN (wpAny_attempt (X0 (name:=WU "__next__") gT Ys (X7 Ys gT F.entry_dict_itemiterator_next ?_ (F.args_dict_itemiterator_next_1 _))));refine WN (W0 (WN (WN ?_)));first|refine WN (ZP gT (W0 ?_))|refine WN (wpAny_typeNameOf_itemiter gT (W0 ?_))
 refine WN (wpAny_fieldsOf g rfl ?_);simp only[own,if_true];show Xd _ _ (if(XO d == Yj)=true then _ else _) _ _ s;rw[a! (show¬((XO d == Yj)=true)from Xn)];refine WN (W0 (WN (Zb g1 g2 ?_)));rw[a! (by simp)];refine WN (W0 (WN (wpAny_dictEpoch g1 g2 ?_)));rw[a! (by simp)];refine W0 ?_;simp only[show¬((i:Int)<0)from by omega,if_false,YH,Array.getElem?_eq_none hx];refine WN ?_;first|refine WN (ZP gT (W0 ?_))|refine WN (wpAny_typeNameOf_itemiter gT (W0 ?_))
 show Xd _ _ (setField (.ref it) 2 .none >>= _) _ _ s;refine WN (wpAny_setField g rfl (by simp) ?_);show Xd _ _ (newExc (.type "StopIteration") [] >>= _) _ _ _;refine WN ?_;simp only[newExc,newTuple];refine WN (XW ?_ (by size_fits));refine WN (m:=firstArgMember _ _) (wpAny_of_eq (a:=Yj) (by first|rfl|(simp only[firstArgMember];rfl)) ?_);refine XW ?_ (by size_fits);simp only[raiseNew];refine WN (wpAny_handled ?_);rw[show A.in1.handled=none from calm];refine WN (W0 (wpAny_throw ?_));refine WN (wpAny_isInstance (T:="StopIteration") (b:=true) ⟨_,W4 _ rfl,rfl⟩ isSubtype_stop ?_);exact W0 (fin _ (((YY ..).extBut.push _).push _))
theorem bb_itemsT(ns:(d == YC)=false)(gT:s.TypeIs (.ref d) "dict")(fin:Q (.ref s.1.1.size) {s with heap:=s.1.push {cls:=.type "dict_items",data:=.fields #[.ref d]}}):Xd (Xx prog w) A (call (.builtin "dict.items") [.ref d]) Q E s:=by
 refine X7 F.slot_dict_items gT F.entry_dict_items ?_ (F.args_dict_items_1 _);unfold Zp.«dict.items»;refine WN ?_;unfold Builtin.Dict.noArgs;refine WN (wpAny_notOrdered_dict gT ?_);show Xd _ _ (pure d) _ _ s;refine W0 ?_;show Xd _ _ (Builtin.Dict.showsAll d >>= _) _ _ s;unfold Builtin.Dict.showsAll;rw[a! (by rw[ns];exact Xn)];exact WN (W0 (WN (XW (W0 ⟨_,rfl,fin⟩))))
theorem bb_itemsIterT{v:WT}(hv:s.1.IsItemsView v d)(g1:s.1.get? d=some od)(g2:od.data=.dict es ep)
 (fin:Q (.ref s.1.1.size) {s with heap:=s.1.push {cls:=.type "dict_itemiterator",data:=.fields #[.none,.bool false,.ref d,.int 0 0,.int es.size 0,.int ep 0,.none,.none]}}):Xd (Xx prog w) A (pyIter (.ref v)) Q E s:=by
 obtain⟨o,e1,e2,e3⟩:=id hv;have own:Zi "dict_itemiterator"=true:=by decide
 refine wpAny_pyIter_slot hv.typeIs F.slot_dict_items_iter (X7 F.slot_dict_items_iter hv.typeIs F.entry_dict_items_iter ?_ (F.args_dict_items_iter_1 _));unfold Zp.«dict_items.__iter__»;refine WN (W0 (WN ?_));unfold Builtin.Dict_items.dictOf;refine WN (X3 e1 e3 (x:=.ref d) rfl (W0 ?_));refine WN ?_;unfold Builtin.Dict_items.newIterator;refine WN (Zb g1 g2 (WN (wpAny_dictEpoch g1 g2 ?_)));simp only[own,if_true];refine XW (W0 ⟨_,rfl,"dict_itemiterator",_,⟨_,W4 _ rfl,rfl⟩,Ys.lookup,?_⟩) (by simp only[sizeOk,Builtin.Dict_items.ownedTupleFields,Xa,W6,W8,List.length_nil,Zr];omega);simpa[Y6,Builtin.Dict_items.ownedTupleFields]using fin
end
end PySem
namespace L2
open PySem PySem.Spec PyProof.Rows
def yG(a:WT)(o:YF)(kvs:List (List Key×V)):It :=
 ⟨λi H=>H a=some (.frz o (.dT kvs))/\i<kvs.length,
  λi H v H'=>∃p b kv,H p=none/\v=.ref p/\H'=upd H p (.tup [.ref b,kv.2])/\kvs[i]?=some kv/\H b=some (.tup (kv.1.map kV)),
  λi H=>H a=some (.frz o (.dT kvs))/\kvs.length<=i⟩
theorem oy{k1}(a it:WT)(o:YF)(es:Array DictEntry)(ep:Nat)(kvs:List (List Key×V))(hd:o.data=.dict es ep) :
 Turn P w K (.Tuple elts k1 pos) (yG a o kvs) [it] it (λi h=>∃ok ov,IsItemIter h it a i es.size ep ok ov) where
 mem:=by simp
 obj:=λi h st b hb=>by
  obtain⟨ok,ov,e⟩:=st;have eb:b=it:=by simpa using hb
  subst eb;exact⟨_,e,λv z=>by cases z⟩
 keep:=λi h h' st k=>by
  obtain⟨ok,ov,e⟩:=st;exact⟨ok,ov,k it (by simp) _ e⟩
 item:=by
  intro X hP hw hK hc i Z s Y H E I hf st hg;subst hP hw hK;obtain⟨hq,Ae⟩:=hg;obtain⟨ok,ov,hit⟩:=st;obtain⟨e0,z,y,xs,r,o',Gr,Gs,h1,h2,h3,h4,h5⟩:=(show ObjOk X.prog X.w H s.1 a (.frz o (.dT kvs))from I.hok a _ hq);rw[e0]at h1;cases h1;rw[hd]at h3;cases h3;obtain⟨kv,Ag⟩:∃kv,kvs[i]?=some kv:=⟨_,WS Ae⟩;obtain⟨q',FH,hr⟩:=y! r Ag;have N2:es[i]?=some (entryOfKey (tupleKind (aT X.prog X.w)) q'):=by rw[<-ZX,h4,Xj,FH];rfl
  have BJ:it<s.1.1.size:=Xc hit;obtain⟨f0,f1,f2,f3,f4,f5⟩:=hf it (by simp);refine bb_itemNextT hit e0 hd N2 λh1 BO Hu ET=>?_;refine⟨_,rfl,wpAny_letOwnedTupleGo_items BO λh2 g1 sb=>?_⟩;replace sb:X5 it h1 h2:=sb;have FK:H s.1.1.size=none:=I.hok.fresh (W2 _)
  have IA:Inv X Z Y (upd H s.1.1.size (.tup [.ref q'.2.1,kv.2])) {s with heap:=s.1.push {cls:=.type "tuple",data:=.seq #[.ref q'.2.1,q'.2.2]},toks:=s.toks} :=
   I.laid (o:=.tup [.ref q'.2.1,kv.2]) (λb ob q=>WV _ q) (W2 _) ⟨by show 2<=Xh;decide,[.ref q'.2.1,q'.2.2],0,.cons rfl (.cons hr.2.2 .nil),W4 _ rfl⟩
  refine⟨.ref s.1.1.size,upd H s.1.1.size (.tup [.ref q'.2.1,kv.2]),?_,rfl,⟨_,q'.2.1,kv,FK,rfl,rfl,Ag,hr.2.1⟩,⟨_,_,g1⟩,λc hc=>?_⟩
  .refine Inv.turnedL (s:={s with heap:=s.1.push {cls:=.type "tuple",data:=.seq #[.ref q'.2.1,q'.2.2]},toks:=s.toks}) (h':=h2) (fp:=[it]) (t':=s.toks) IA (λc oc hc q=>?_) λc hc=>?_
   .have n1:c≠it:=λe=>hc (by simp[e]);rw[sb.2 c n1];by_cases Bg:c=s.1.1.size
    .subst Bg;have q2:(s.1.push {cls:=.type "tuple",data:=.seq #[.ref q'.2.1,q'.2.2]}).get? s.1.1.size=some oc:=q;rw[W4 _ rfl]at q2;rw[<-q2];exact Hu
    .have q2:(s.1.push {cls:=.type "tuple",data:=.seq #[.ref q'.2.1,q'.2.2]}).get? c=some oc:=q;rw[Heap.get?_push_ne _ _ _ Bg]at q2;exact ET c oc n1 q2
   .have e:c=it:=by simpa using hc
    subst e;exact⟨by rw[af (XG BJ)];exact f0,f1,f2,f3,f4,f5⟩
  .have e:c=it:=by simpa using hc
   subst e;rw[af (XG BJ)];exact f0
 done:=by
  intro X hP hw hK hc i Z s Y H E I hf st hg;subst hP hw hK;obtain⟨hq,Jc⟩:=hg;obtain⟨ok,ov,hit⟩:=st;obtain⟨e0,z,y,xs,r,o',Gr,Gs,h1,h2,h3,h4,h5⟩:=(show ObjOk X.prog X.w H s.1 a (.frz o (.dT kvs))from I.hok a _ hq);rw[e0]at h1;cases h1;rw[hd]at h3;cases h3;have hl:=W5 r
  have BI:es.size=xs.length:=by
   have:=h! Ze h4;rw[WO,Xp]at this;exact this
  obtain⟨f0,f1,f2,f3,f4,f5⟩:=hf it (by simp);exact bb_itemEndT (I.ok.hd hc) hit e0 hd (by omega) λh' eb=>⟨rfl,I.turned (t':=s.toks) (λb ob hb e=>eb b ob hb e) f0 f1 f3 f4 f5⟩
 self:=by
  intro A i s Q E st h;obtain⟨ok,ov,e⟩:=st;have hT:s.TypeIs (.ref it) "dict_itemiterator":=⟨_,e,rfl⟩;refine wpAny_pyIter_slot hT Z3 (X7 Z3 hT d8 ?_ (F.args_dict_itemiterator_iter_1 _));exact W0 ⟨_,rfl,"dict_itemiterator",_,hT,Ys.lookup,h⟩
section
variable{apos Ap:Pos}
def rW(tl:TE):TI:=λY H R=>tl Y H λx H1=>∃a kvs,x=.ref a/\H1 a=some (.dT kvs)/\∀o,R (yG a o kvs) (upd H1 a (.frz o (.dT kvs)))
theorem sj{k1}(he:PE X e te)(A8:attributeBase e "items" X.env (YW e X.env)=YW e X.env:=by rfl)(Bs:(apos.endLine == Ap.line)=true:=by rfl) :
 PI X (.Tuple elts k1 pos) (.Call (.Attribute e "items" apos) [] [] Ap) (rW te):=by
 intro Z s Y H R I h;refine wpAny_Call_method0_late A8 Bs (thn (he Z s Y H _ I h) λv s1⟨x,H1,I1,r1,a,kvs,ex,ha,q⟩=>?_);subst ex;cases r1;obtain⟨z,y,xs,r,dd⟩:=(show ObjOk X.prog X.w H1 s1.1 a (.dT kvs)from I1.hok a _ ha);obtain⟨o,es,ep,h1,h2,h3,h4,h5⟩:=id dd;have gT:s1.TypeIs (.ref a) "dict":=⟨_,h1,h2.1⟩;refine⟨"dict","dict.items",F.plainAttrs_dict,F.slot_dict_items,F.type_dict_items,gT,λc e=>by cases e;exact⟨_,h1,h2.2.1⟩,?_⟩;refine Calls.callWith_builtin rfl (PySem.evalArgs_none (bb_itemsT y gT ?_));have I2:=I1.freeze ha h1;refine bb_itemsIterT (d:=a) (od:=o) (es:=es) (ep:=ep) ⟨_,W4 _ rfl,rfl,rfl⟩ (WV _ h1) h3 ?_;generalize hN:((s1.1.push {cls:=.type "dict_items",data:=.fields #[.ref a]}).objs.size)=n;have hn:n=s1.1.1.size+1:=by rw[<-hN,Yk]
 have hz:s1.1.1.size<=n:=by omega
 refine⟨n,[n],_,_,upd H1 a (.frz o (.dT kvs)),rfl,I2.kept (t':=s1.toks) (λb ob e=>WV _ (WV _ e)),oy a n o es ep kvs h3,⟨.none,.none,?_⟩,λb hb=>?_,q o⟩
 .rw[<-hN];exact W4 _ rfl
 .have e:b=n:=by simpa using hb
  subst e;exact I2.fpOk hz (I2.hok.fresh hz)
end
def t4(K:WX)(a b:WT):It:=⟨λi H=>∃xs ys x y,SqL K H a xs/\SqL K H b ys/\xs[i]?=some x/\ys[i]?=some y,λi H v H'=>∃p x y,H p=none/\v=.ref p/\H'=upd H p (.tup [x,y])/\(∀xs,SqL K H a xs->xs[i]?=some x)/\(∀ys,SqL K H b ys->ys[i]?=some y),λi H=>∃xs ys,SqL K H a xs/\SqL K H b ys/\(xs.length<=i\/ys.length<=i)⟩
structure zZ(z TI TO i1 i2 a b:WT)(i:Nat)(h:X4):Prop where
 ap:ZipApart z TI TO i1 i2 a b
 zip:IsZip h z TI TO .none
 hTI:ZE h TI (.ref i1) (.ref i2)
 hTO:∃u v,ZE h TO u v
 h1:h.IsListIter i1 a i
 h2:h.IsListIter i2 b i
theorem tm{k1}(a b z TI TO i1 i2:WT):Turn P w K (.Tuple elts k1 pos) (t4 K a b) [z,TI,TO,i1,i2] z (zZ z TI TO i1 i2 a b) where
 mem:=by simp
 obj:=λi h st c hc=>by
  obtain⟨D,hz,hTI,⟨u,v,hTO⟩,⟨o1,a1,a2,a3⟩,⟨o2,b1,b2,b3⟩⟩:=st;simp only[Xb,ZJ,or_false]at hc;rcases hc with rfl|rfl|rfl|rfl|rfl
  .exact⟨_,hz,λv z=>by cases z⟩
  .exact⟨_,hTI,λv z=>by cases z⟩
  .exact⟨_,hTO,λv z=>by cases z⟩
  .exact⟨o1,a1,λv z=>by rw[a3]at z;cases z⟩
  .exact⟨o2,b1,λv z=>by rw[b3]at z;cases z⟩
 keep:=λi h h' st k=>by
  obtain⟨D,hz,hTI,⟨u,v,hTO⟩,⟨o1,a1,a2⟩,⟨o2,b1,b2⟩⟩:=st;exact⟨D,k _ (by simp) _ hz,k _ (by simp) _ hTI,⟨u,v,k _ (by simp) _ hTO⟩,⟨o1,k _ (by simp) _ a1,a2⟩,⟨o2,k _ (by simp) _ b1,b2⟩⟩
 item:=by
  intro X hP hw hK hc i Z s Y H E I hf st hg;subst hP hw hK;obtain⟨xs,ys,x,y,DW,DX,hx,hy⟩:=hg;obtain⟨ia,FP,pa,ER⟩:=I.list DW;obtain⟨ib,FQ,pb,Kb⟩:=I.list DX;obtain⟨u,hu,ru⟩:=FP.get hx;obtain⟨v,hv,rv⟩:=FQ.get hy;obtain⟨D,hz,hTI,⟨ta,tb,hTO⟩,h1,h2⟩:=st
  have lt:∀c∈[z,TI,TO,i1,i2],c<s.1.1.size:=λc hc=>by
   simp only[Xb,ZJ,or_false]at hc;rcases hc with rfl|rfl|rfl|rfl|rfl
   .exact Xc hz
   .exact Xc hTI
   .exact Xc hTO
   .obtain⟨o,e,_⟩:=h1;exact Xc e
   .obtain⟨o,e,_⟩:=h2;exact Xc e
  refine wpAny_pyNext_zip_item D hz hTI hTO h1 h2 pa.isList pb.isList (by simpa using hu) (by simpa using hv) λDl a1 a2 a3 a4 a5 a6 a7=>?_;refine⟨_,rfl,wpAny_letOwnedTupleGo_zip a1 λDm g1 sb=>?_⟩;replace sb:X5 z Dl Dm:=sb;have FK:H s.1.1.size=none:=I.hok.fresh (W2 _)
  have IA:Inv X Z Y (upd H s.1.1.size (.tup [x,y])) {s with heap:=s.1.push {cls:=.type "tuple",data:=.seq #[u,v]},toks:=s.toks} :=
   I.laid (o:=.tup [x,y]) (λb ob q=>WV _ q) (W2 _) ⟨by show 2<=Xh;decide,[u,v],0,.cons ru (.cons rv .nil),W4 _ rfl⟩
  have VS:s.1.1.size≠z:=Nat.ne_of_gt (lt z (by simp));refine⟨.ref s.1.1.size,upd H s.1.1.size (.tup [x,y]),?_,rfl,⟨_,x,y,FK,rfl,rfl,λzs Fv=>by rw[I.list_inj Fv DW];exact hx,λzs Fv=>by rw[I.list_inj Fv DX];exact hy⟩,?_,λc hc=>?_⟩
  .have IB:Inv X Z Y (upd H s.1.1.size (.tup [x,y])) {s with heap:=Dm,toks:=s.toks}:=by
    refine Inv.turnedL (s:={s with heap:=s.1.push {cls:=.type "tuple",data:=.seq #[u,v]},toks:=s.toks}) (h':=Dm) (fp:=[z,TI,TO,i1,i2]) (t':=s.toks) IA (λc o hc q=>?_) λc hc=>?_
    .have n1:c≠z:=λe=>hc (by simp[e]);have n2:c≠TO:=λe=>hc (by simp[e]);have n3:c≠i1:=λe=>hc (by simp[e]);have n4:c≠i2:=λe=>hc (by simp[e]);rw[sb.2 c n1];by_cases Bg:c=s.1.1.size
     .subst Bg;have q':(s.1.push {cls:=.type "tuple",data:=.seq #[u,v]}).get? s.1.1.size=some o:=q;rw[W4 _ rfl]at q';rw[<-q'];exact a5
     .have q':(s.1.push {cls:=.type "tuple",data:=.seq #[u,v]}).get? c=some o:=q;rw[Heap.get?_push_ne _ _ _ Bg]at q';exact a7 c o n1 n2 n3 n4 q'
    .obtain⟨f0,f1⟩:=hf c hc;exact⟨by rw[af (XG (lt c hc))];exact f0,f1⟩
   exact IB
  .have sT:∀c o,c≠z->Dl.get? c=some o->Dm.get? c=some o:=λc o hc e=>(sb.2 c hc).trans e;refine⟨D,g1,sT _ _ D.TIz (a7 _ _ D.TIz D.TITO D.TIi1 D.TIi2 hTI),⟨_,_,sT _ _ D.TOz a2⟩,?_,?_⟩
   .obtain⟨o,e,r⟩:=a3;exact⟨o,sT _ _ D.i1z e,r⟩
   .obtain⟨o,e,r⟩:=a4;exact⟨o,sT _ _ D.i2z e,r⟩
  .rw[af (XG (lt c hc))];exact(hf c hc).1
 done:=by
  intro X hP hw hK hc i Z s Y H E I hf st hg;subst hP hw hK;obtain⟨xs,ys,DW,DX,CL⟩:=hg;obtain⟨ia,FP,pa,ER⟩:=I.list DW;obtain⟨ib,FQ,pb,Kb⟩:=I.list DX;have Hm:=FP.length;have VT:=FQ.length;obtain⟨D,hz,hTI,hTO,h1,h2⟩:=st;obtain⟨ta,tb,hTO⟩:=hTO;refine wpAny_pyNext_zip_end (I.ok.hd hc) D hz hTI hTO h1 h2 pa.isList pb.isList ?_ λh' kp=>⟨rfl,?_⟩
  .rcases CL with h|h
   .exact .inl (by simp;omega)
   .exact .inr (by simp;omega)
  exact I.turnedL (fp:=[z,TI,TO,i1,i2]) (t':=s.toks) (λc o hc q=>kp c o (λe=>hc (by simp[e])) (λe=>hc (by simp[e])) (λe=>hc (by simp[e])) (λe=>hc (by simp[e])) q) hf
 self:=λ_ _ _ _ _ st h=>wpAny_pyIter_zip st.zip h
section
variable{e1 e2:XY}{t:TA}{p2 Bu:Pos}
def yD(K:WX)(t:TA):TI:=λY H R=>t Y H λvs H1=>∃a b,vs=[.ref a,.ref b]/\(∃xs,SqL K H1 a xs)/\(∃ys,SqL K H1 b ys)/\R (t4 K a b) H1
theorem wB{k1}(g2:Gl X "zip")(m2:X.mg "zip"=none)(ha:PA X [e1,e2] t)
 (h2:XJ [e1,e2] X.env=(false,YW e1 X.env)::XJ [e2] X.env:=by rfl) (h3:(ZD Bu (XJ [e2] X.env)).any (·.1)=false:=by rfl):PI X (.Tuple elts k1 pos) (.Call (.Name "zip" p2) [e1,e2] [] Bu) (yD X.K t):=by
 intro Z s Y H R I h;refine Yu (fR I g2 m2 boot_zip ?_);refine YQ (thn (ha Bu Z s Y H _ I h) λus s2⟨vs,H2,I2,r,a,b,ev,⟨xs,DW⟩,⟨ys,DX⟩,q⟩=>?_) h2 h3;subst ev;obtain⟨u1,u2,rfl,r1,r2⟩:=vals2 r;cases r1;cases r2;obtain⟨ia,FP,pa,ER⟩:=I2.list DW;obtain⟨ib,FQ,pb,Kb⟩:=I2.list DX;have AR:a<s2.1.1.size:=by obtain⟨o,e,_⟩:=pa.isList;exact Xc e
 have BM:b<s2.1.1.size:=by obtain⟨o,e,_⟩:=pb.isList;exact Xc e
 refine call_zip_2 pa.isList pb.isList λh' z1 z2 z3 z4 z5 z6 z7=>?_;have D:ZipApart (s2.1.1.size+4) (s2.1.1.size+2) (s2.1.1.size+3) s2.1.1.size (s2.1.1.size+1) a b:=zipApart_new AR BM;refine wpAny_pyIter_zip (s:={s2 with heap:=h'}) z1 ?_;refine⟨s2.1.1.size+4,[s2.1.1.size+4,s2.1.1.size+2,s2.1.1.size+3,s2.1.1.size,s2.1.1.size+1],_,_,H2,rfl,I2.kept (t':=s2.toks) z7,tm a b _ _ _ _ _,⟨D,z1,z2,⟨_,_,z3⟩,z4,z5⟩,λc hc=>?_,q⟩
 have BR:s2.1.1.size<=c:=by
  simp only[Xb,ZJ,or_false]at hc;rcases hc with h|h|h|h|h <;> rw[h]
  .exact YN _ _
  .exact YN _ _
  .exact YN _ _
  .exact W2 _
  .exact YN _ _
 exact I2.fpOk BR (I2.hok.fresh BR)
end
def eN:List (Key×V)->List (Key×V)->List (Key×V)
 |kvs,[]=>kvs
 |kvs,p::ps=>eN (putK kvs p.1 p.2) ps
def PrK(H:Hp)(pr:Key×V)(pa:WT):Prop:=H pa=some (.tup [kV pr.1,pr.2])
theorem qE{r key:WW}{k:Key}{kvs:List (Key×V)}{Q:Unit->W3->Prop}(I:Inv X Z Y H s)(e:H a=some (.dK kvs))(rk:RelV (kV k) key)(l:kvs.length<Xh)(rv:RelV v r)(h:∀h' tk,X5 a s.1 h'->Inv X Z Y (upd H a (.dK (putK kvs k v))) {s with heap:=h',toks:=tk}->Q () {s with heap:=h',toks:=tk}) :
 Xd (Xx X.prog X.w) A (dictSet a key r) Q E s:=by
 obtain⟨z,hd,xs,rel,dd⟩:=xm I.hok e;have hz:xs.length<=Xh:=by rw[<-rel.length];exact z
 have hl:(putK kvs k v).length<=Xh:=by have:=bO kvs k v;omega
 refine wpAny_dictSet_pairs (mG rk) dd (λh' EL hs=>h _ _ hs ?_) hz;obtain⟨q,es,ep,hq,rest⟩:=id EL;exact iQ I (by rw[e];exact Y7) hs ⟨q,hq⟩ ⟨hl,hd,_,rel.put k rv,EL⟩
theorem qC{prs:List (Key×V)}{ps:List WT}(hh:A.handled=none)(hu:A.units+8<Zs)(hn:prs.length<=10000) :
 ∀(m i:Nat)(s:W3)(tk:Tok)(H:Hp)(kvs:List (Key×V)),prs.length - i=m->i<=prs.length->Inv X Z Y H s->H d=some (.dK kvs)->kvs.length<=i->jy X Z H it->s.1.IsListIter it l i->H l=some (.lst (ps.map i!))->Xz (PrK H) prs ps ->
   (∀s',Inv X Z Y (upd H d (.dK (eN kvs (prs.drop i)))) s'->R (.ok (.ret .none)) s') ->
   Z7 (Xx X.prog X.w) A (.builtin "dict.update.loop" ⟨[.ref d,.ref it,.int i tk,.none],[]⟩) R s:=by
 intro m;induction m with
 | zero =>
   intro i s tk H kvs hk hi I ed AM hf hit el BS hR;have B9:i=prs.length:=by omega
   subst B9;obtain⟨its,rv,p,hz⟩:=I.list (l! (K:=X.K) el);have AV:prs.length=ps.length:=W5 BS;have hl:=rv.length;rw[WO]at hl;obtain⟨f0,f1,f2,f3,f4,f5⟩:=hf;refine codeAny_builtin F! ?_;rw[ZL u! _];show Xd _ A.in1 (Z6 (.ref it) >>= _) _ _ s;refine WN (wpAny_pyNext_list_end hh hit p.isList (by simp;omega) λh' eb=>?_);refine WN (W0 (W0 ?_));refine hR _ ?_;rw[List.drop_length]
   have e0:upd H d (.dK (eN kvs []))=H:=by
    funext b;by_cases hb:b=d
    .rw[hb,ad,ed];rfl
    .rw[af hb]
   rw[e0];exact I.turned (t':=s.toks) (λb o hb e=>eb b o hb e) f0 f1 f3 f4 f5
 | succ m ih =>
   intro i s tk H kvs hk hi I ed AM hf hit el BS hR;have Ae:i<prs.length:=by omega
   have AV:prs.length=ps.length:=W5 BS;obtain⟨its,rv,p,hz⟩:=I.list (l! (K:=X.K) el);have hl:=rv.length;rw[WO]at hl;obtain⟨pa,Ei,CN⟩:=y! BS (WS Ae);have hx:(ps.map i!)[i]?=some (.ref pa):=by rw[Xj,Ei];rfl
   obtain⟨u,Ka,ru⟩:=rv.get hx;cases ru;obtain⟨f0,f1,f2,f3,f4,f5⟩:=id hf;refine codeAny_builtin F! ?_;rw[ZL u! _];show Xd _ A.in1 (Z6 (.ref it) >>= _) _ _ s;refine WN (wpAny_pyNext_list_item hit p.isList (x:=.ref pa) (by simpa using Ka) λh1 Hi GD=>?_);have I1:Inv X Z Y H {s with heap:=h1}:=I.turned (t':=s.toks) (λb o hb e=>(GD.2 b hb).trans e) f0 f1 f3 f4 f5;obtain⟨_,Al,n2,Oa,e2⟩:=(show ObjOk X.prog X.w H h1 pa (.tup [kV (prs[i]).1,(prs[i]).2])from I1.hok pa _ CN)
   obtain⟨kk,vv,rfl,Wh,Ob⟩:∃kk vv,Al=[kk,vv]/\RelV (kV (prs[i]).1) kk/\RelV (prs[i]).2 vv:=by
    cases Oa with
    | cons a b =>
      cases b with
      | cons c d =>
        cases d;exact⟨_,_,rfl,a,c⟩
   have Oc:(⟨h1,s.gens,s.drawn,s.toks,s.os⟩:W3).TypeIs (.ref pa) "tuple":=⟨_,e2,rfl⟩;refine WN (Yl ?_);refine WN (wpAny_tryCatch ?_);unfold Builtin.Dict.pairItems;refine WN (ZH Oc ?_);rw[b! (by decide)];refine WN (YM e2 rfl (W0 ?_));show Xd _ _ (holding [kk,vv] (dictSet d kk vv)) _ _ _;refine Yl (qE (k:=(prs[i]).1) I1 ed Wh (by have:=fm;rw[Zr];omega) Ob λh2 MD Gx I2=>?_);refine W0 ⟨plainId_quiet u! _,?_⟩
   have EO:Y6 ((i:Int)+1)=.int ((i+1:Nat):Int) 0:=by
    show Value.int ((i:Int)+1) 0=_;rw[show((i+1:Nat):Int)=(i:Int)+1 by omega]
   rw[EO];have Hj:it≠d:=λz=>by rw[z,ed]at f0;cases f0
   refine ih (i+1) _ 0 _ (putK kvs (prs[i]).1 (prs[i]).2) (by omega) Ae I2 ad (by have:=bO kvs (prs[i]).1 (prs[i]).2;omega) ⟨by rw[af Hj];exact f0,f1,f2,f3,f4,f5⟩ ?_ ?_ ?_ λs' I'=>hR s' ?_
   .obtain⟨o,g1,r⟩:=Hi;exact⟨o,(Gx.2 it Hj).trans g1,r⟩
   .rw[af (aA el ed (λz=>nomatch z))];exact el
   .refine v! (λx y e=>?_) BS;show upd H d _ y=_;rw[af (aA (show H y=some (.tup [kV x.1,x.2])from e) ed (λz=>nomatch z))];exact e
   .rw[iN]at I';rw[List.drop_eq_getElem_cons Ae];exact I'
def wf:List V->Hp->VK->Prop:=λxs H Q=>∃(l:WT)(ps:List WT)(prs:List (Key×V)),xs=[.ref l]/\H l=some (.lst (ps.map i!))/\Xz (PrK H) prs ps/\prs.length<=10000/\∀d,H d=none->Q (.ref d) (upd H d (.dK (eN [] prs)))
theorem j1(hu:X.A.units+12<Zs)(hc:X.calm=true):dq X (.type "dict") wf:=by
 intro Z s Y H xs us Q I r h;obtain⟨l,ps,prs,rfl,el,BS,hn,q⟩:=h;obtain⟨u,rfl,rx⟩:=vals1 r;cases rx;obtain⟨z,its,n,rv,e⟩:=(show ObjOk X.prog X.w H s.1 l (.lst (ps.map i!))from I.hok l _ el);refine callType_codes (Q₁:=λobj l'=>obj=.ref s.1.1.size/\l'={s with heap:=s.1.push {cls:=.type "dict",data:=.dict #[]}}) PySem.F.kt_called_dict (PySem.F.kt_typeCall_dict_1 _) PySem.F.entry_dict_init (kt_code_dict_new _ ⟨rfl,rfl⟩) ?_;rintro obj l' ⟨rfl,rfl⟩;have gn:(s.1.push {cls:=.type "dict",data:=.dict #[]}).DictOf (aT X.prog X.w) s.1.1.size []:=Heap.DictOf.new s.1;have gt:(s.1.push {cls:=.type "dict",data:=.dict #[]}).get? l=some {cls:=.type "list",data:=.seq its.toArray n}:=WV _ e;refine⟨gn.typeIs,PySem.F.args_dict_init_2 _ _,?_⟩;have EN:=I.hok.fresh (W2 s.1.1.size);have I1:Inv X Z Y (upd H s.1.1.size (.dK [])) {s with heap:=s.1.push {cls:=.type "dict",data:=.dict #[]}}:=I.laid (a:=s.1.1.size) (o:=.dK []) (t':=s.toks) (λ_ _ q=>WV _ q) (W2 _) (o7 s.1 I.big);unfold Zp.«dict.__init__»;refine WN ?_;unfold Builtin.Dict.selfAndRest;refine WN (wpAny_notOrdered_dict gn.typeIs ?_);show Xd _ _ (pure (s.1.1.size,[XO l])) _ _ _;refine W0 ?_;show Xd _ _ (Builtin.Dict.updateFrom "dict.__init__" s.1.1.size (.ref l) [] .none) _ _ _;unfold Builtin.Dict.updateFrom;refine WN (ZH (T:="list") ⟨_,gt,rfl⟩ ?_);rw[b! (by decide)];refine WN (bb_nokeysL (A:=X.A.in1.in1) (I.ok.hd hc) gt λh1 Fu k1=>?_);have I2:Inv X Z Y (upd H s.1.1.size (.dK [])) {s with heap:=h1,toks:=Fu}:=I1.kept (t':=Fu) λb o e=>k1 b o e;simp only[Option.isNone_none,if_true];refine WN (wpAny_rule ?_);obtain⟨od,es,ep,Od,VQ⟩:=id gn;have Ae:s.1.1.size<h1.objs.size:=Xc (k1 _ _ Od);refine WN (wpAny_pyIter_list (l:=l) (items:=its.toArray) ⟨_,k1 _ _ gt,rfl,n,rfl⟩ ?_);refine W0 ⟨plainId_quiet u! _,?_⟩;have DV:l≠s.1.1.size:=ar el EN
 have Hk:Xz (PrK (upd H s.1.1.size (.dK []))) prs ps:=v! (λx y e=>by
  show upd H s.1.1.size _ y=_;rw[af (ar (show H y=some (.tup [kV x.1,x.2])from e) EN)];exact e) BS
 have Eh:(upd H s.1.1.size (.dK [])) h1.objs.size=none:=I2.hok.fresh (W2 _);refine qC (A:=X.A.in1) (d:=s.1.1.size) (it:=h1.objs.size) (l:=l) (prs:=prs) (ps:=ps) (I.ok.hd hc) (by show X.A.units+1+8<Zs;omega) hn prs.length 0 _ 0 (upd H s.1.1.size (.dK [])) [] (Nat.sub_zero _) (XB _) (I2.kept (t':=Fu) λb o e=>WV _ e) ad (W2 _) (I2.fpOk (W2 _) Eh) ⟨_,W4 _ rfl,rfl,rfl⟩ (by rw[af DV];exact el) Hk λs' I'=>?_;rw[iN,Zk]at I';exact⟨rfl,.ref s.1.1.size,_,I',rfl,q _ EN⟩
end L2
namespace BB
open PySem L2
theorem iA(pre:List Int)(n:Xk)(ts:List Th):callsOf (Th.pl pre (.knot n ts))=callsOf (pls pre 0 ts):=by
 rw[Th.pl];rfl
theorem i3(pre:List Int)(s k:Int):callsOf (Th.pl pre (.call s k))=[(pre,s,k)]:=by
 rw[Th.pl];rfl
theorem iD(pre:List Int)(i:Int)(t:Th)(ts:List Th):callsOf (pls pre i (t::ts))=callsOf (t.pl (pre++[i]))++callsOf (pls pre (i+1) ts):=by
 rw[pls,dY]
structure MxC(f:Int->Int->Int)(d:Int)(cs:List (List Int×Int×Int))(own m:Int):Prop where
 lo:own<=m
 all:∀c∈cs,(c.1.length:Int) - d+f c.2.1 c.2.2<=m
 some:m=own\/∃c∈cs,m=(c.1.length:Int) - d+f c.2.1 c.2.2
mutual
theorem o9{f:Int->Int->Int}(k:Th):∀(p:Th)(pre:List Int)(o:Th),Out ins rows p k o->(∀c∈callsOf (p.pl pre),∀oc,Out ins rows (.call c.2.1 c.2.2) k oc->f c.2.1 c.2.2=(oc.tall:Nat))->MxC f pre.length (callsOf (p.pl pre)) (p.tall:Nat) (o.tall:Nat)
 | .call s c,pre,o,ho,hf=>by
   rw[i3]at hf |-;have e:=hf _ (WZ.mpr rfl) o ho;have h1:=Th.tall_eq o;have h2:(K! s c).tall=1:=by rw[r!]
   simp only at e;refine⟨by rw[h2];omega,λc hc=>?_,.inr ⟨_,WZ.mpr rfl,?_⟩⟩
   .rw[WZ.mp hc];simp only;omega
   .simp only;omega
 | .knot n ts,pre,o,ho,hf=>by
   obtain⟨os,rfl,BH⟩:=ho.unknot;rw[iA]at hf |-;obtain⟨a,b,c⟩:=mF k ts pre 0 os BH hf;have h1:(p! n ts).tall=aB ts+1:=by rw[r!]
   have h2:(p! n os).tall=aB os+1:=by rw[r!]
   refine⟨by omega,λc hc=>?_,?_⟩
   .have:=b c hc;omega
   .rcases c with c|⟨x,hx,c⟩
    .exact .inl (by omega)
    .exact .inr ⟨x,hx,by omega⟩
theorem mF{f:Int->Int->Int}(k:Th):∀(ts:List Th)(pre:List Int)(i:Int)(os:List Th),Outs ins rows ts k os->(∀c∈callsOf (pls pre i ts),∀oc,Out ins rows (.call c.2.1 c.2.2) k oc->f c.2.1 c.2.2=(oc.tall:Nat))->MxC f (pre.length+1) (callsOf (pls pre i ts)) (aB ts:Nat) (aB os:Nat)
 | [],pre,i,os,ho,hf=>by
   cases ho;rw[pls];exact⟨Int.le_refl _,λc hc=>(by cases hc),.inl rfl⟩
 | t::ts,pre,i,os,ho,hf=>by
   cases ho with
   | @cons _ _ o' _ DQ h1 h2 =>
   rw[iD]at hf |-;obtain⟨a1,b1,c1⟩:=o9 k t (pre++[i]) _ h1 λc hc=>hf c (Xi _ hc);obtain⟨a2,b2,c2⟩:=mF k ts pre (i+1) _ h2 λc hc=>hf c (Xl _ hc);have hl:((pre++[i]).length:Int)=pre.length+1:=by rw[W6];rfl
   rw[hl]at b1 c1;have e1:aB (t::ts)=max t.tall (aB ts):=by rw[aB]
   have e2:aB (o'::DQ)=max o'.tall (aB DQ):=by rw[aB]
   refine⟨by omega,λc hc=>?_,?_⟩
   .rcases W7.mp hc with hc|hc
    .have:=b1 c hc;omega
    .have:=b2 c hc;omega
   .by_cases h:aB DQ<=o'.tall
    .rcases c1 with c1|⟨x,hx,c1⟩
     .exact .inl (by omega)
     .exact .inr ⟨x,Xi _ hx,by omega⟩
    .rcases c2 with c2|⟨x,hx,c2⟩
     .exact .inl (by omega)
     .exact .inr ⟨x,Xl _ hx,by omega⟩
end
def ky(c:Int×Int):List Key:=[Xo c.1,Xo c.2]
theorem jf{a b:Int×Int}(h:ky a=ky b):a=b:=by
 obtain⟨a1,a2⟩:=a;obtain⟨b1,b2⟩:=b;simp only[ky,List.cons.injEq,Sum.inl.injEq,and_true]at h;rw[h.1,h.2]
abbrev CLs:=List ((Int×Int)×Int)
def dE(es:CLs):List (List Key×V):=es.map λe=>(ky e.1,o! e.2)
def gF(es:CLs)(k:Int×Int)(v:Int):CLs:=if k∈es.map (·.1)then es.map (λe=>if e.1=k then(e.1,v)else e)else es++[(k,v)]
def fT:CLs->Int×Int->Option Int
 | [],_=>none
 |e::es,k=>if e.1=k then some e.2 else fT es k
theorem r6(k:Int×Int):∀es:CLs,aG (dE es) (ky k)=(fT es k).map o!
 | []=>rfl
 | e::es=>by
   show aG ((ky e.1,o! e.2)::dE es) (ky k)=_;rw[fT];by_cases h:e.1=k
   .rw[b! h,bE (by rw[h])];rfl
   .rw[a! h,bL (λz=>h (jf z)),r6 k es]
theorem xr(k:Int×Int)(es:CLs):((dE es).any λkv=>decide (kv.1=ky k))=decide (k∈es.map (·.1)):=by
 rw[Bool.eq_iff_iff,List.any_eq_true,decide_eq_true_iff];constructor
 .rintro⟨x,hx,hk⟩;obtain⟨e,he,rfl⟩:=Xq.mp hx;exact Xq.mpr ⟨e,he,jf (e! hk)⟩
 .intro h;obtain⟨e,he,rfl⟩:=Xq.mp h;exact⟨_,Xq.mpr ⟨e,he,rfl⟩,d! rfl⟩
theorem wN(es:CLs)(k:Int×Int)(v:Int):putK (dE es) (ky k) (.int v)=dE (gF es k v):=by
 unfold putK gF;rw[xr];by_cases h:k∈es.map (·.1)
 .rw[b! (d! h),b! h];unfold dE;rw[YU,YU];refine List.map_congr_left λe he=>?_;simp only[Function.comp];by_cases g:e.1=k
  .rw[b! (by rw[g]),b! g]
  .rw[a! (λz=>g (jf z)),a! g]
 .rw[a! (λz=>h (e! z)),a! h];unfold dE;rw[W9];rfl
theorem uL{es:CLs}{k:Int×Int}{v:Int}(h:fT es k=some v):(k,v)∈es:=by
 induction es with
 |nil=>cases h
 | cons e es ih =>
   rw[fT]at h;by_cases g:e.1=k
   .rw[b! g]at h;cases h;rw[<-g];exact WY ..
   .rw[a! g]at h;exact WQ _ (ih h)
theorem vU{es:CLs}(nd:(es.map (·.1)).Nodup){e:(Int×Int)×Int}(h:e∈es):fT es e.1=some e.2:=by
 induction es with
 |nil=>cases h
 | cons x es ih =>
   rw[XH,Yg]at nd;rw[fT];rcases Xb.mp h with rfl|h
   .rw[b! rfl]
   .rw[a! (λz=>nd.1 (by rw[z];exact Xq.mpr ⟨e,h,rfl⟩))];exact ih nd.2 h
theorem sO(es:CLs)(k:Int×Int)(v:Int):(gF es k v).map (·.1)=if k∈es.map (·.1)then es.map (·.1)else es.map (·.1)++[k]:=by
 unfold gF;by_cases h:k∈es.map (·.1)
 .rw[b! h,b! h,YU];refine List.map_congr_left λe he=>?_;simp only[Function.comp];by_cases g:e.1=k
  .rw[b! g]
  .rw[a! g]
 .rw[a! h,a! h,W9];rfl
theorem pU{es:CLs}(nd:(es.map (·.1)).Nodup)(k:Int×Int)(v:Int):((gF es k v).map (·.1)).Nodup:=by
 rw[sO];by_cases h:k∈es.map (·.1)
 .rw[b! h];exact nd
 .rw[a! h,YG];refine⟨nd,by simp,λa ha b hb=>?_⟩;rw[WZ.mp hb];exactλz=>h (z ▸ ha)
theorem kA{es:CLs}{k:Int×Int}{v:Int}{e:(Int×Int)×Int}(h:e∈gF es k v):e=(k,v)\/(e∈es/\e.1≠k):=by
 unfold gF at h;by_cases g:k∈es.map (·.1)
 .rw[b! g]at h;obtain⟨x,hx,rfl⟩:=Xq.mp h;by_cases e:x.1=k
  .rw[b! e,e];exact .inl rfl
  .rw[a! e];exact .inr ⟨hx,e⟩
 .rw[a! g]at h;rcases W7.mp h with h|h
  .exact .inr ⟨h,λz=>g (z ▸ Xq.mpr ⟨e,h,rfl⟩)⟩
  .exact .inl (WZ.mp h)
theorem uk(es:CLs)(k:Int×Int)(v:Int):(k,v)∈gF es k v:=by
 unfold gF;by_cases g:k∈es.map (·.1)
 .rw[b! g];obtain⟨x,hx,hk⟩:=Xq.mp g;exact Xq.mpr ⟨x,hx,by rw[b! hk,hk]⟩
 .rw[a! g];exact Xl _ (WZ.mpr rfl)
theorem sX{es:CLs}{k:Int×Int}{v:Int}{e:(Int×Int)×Int}(h:e∈es)(hk:e.1≠k):e∈gF es k v:=by
 unfold gF;by_cases g:k∈es.map (·.1)
 .rw[b! g];exact Xq.mpr ⟨e,h,a! hk⟩
 .rw[a! g];exact Xi _ h
theorem uR(es:CLs)(k:Int×Int)(v:Int):(gF es k v).length<=es.length+1:=by
 unfold gF;split
 .rw[WO];omega
 .rw[W6];exact W2 _
structure CallsE(cs:List (List Int×Int×Int))(es:CLs):Prop where
 nd:(es.map (·.1)).Nodup
 «of»:∀e∈es,∃c∈cs,c.2=e.1
 to:∀c∈cs,∃e∈es,e.1=c.2
theorem CallsE.nil:CallsE [] []:=⟨YT,λe h=>(by cases h),λe h=>(by cases h)⟩
theorem CallsE.put{es:CLs}(h:CallsE cs es)(c:List Int×Int×Int)(v:Int):CallsE (cs++[c]) (gF es c.2 v):=by
 refine⟨pU h.nd _ _,λe he=>?_,λx hx=>?_⟩
 .rcases kA he with rfl|⟨he,_⟩
  .exact⟨c,Xl _ (WZ.mpr rfl),rfl⟩
  .obtain⟨y,hy,e⟩:=h.of e he;exact⟨y,Xi _ hy,e⟩
 .by_cases g:x.2=c.2
  .exact⟨_,uk es c.2 v,g.symm⟩
  .rcases W7.mp hx with hx|hx
   .obtain⟨e,he,e2⟩:=h.to x hx;exact⟨e,sX he (λz=>g (e2.symm.trans z)),e2⟩
   .exact g! (by rw[WZ.mp hx]) g
structure DepthE(cs:List (List Int×Int×Int))(es:CLs):Prop extends CallsE cs es where
 «at»:∀e∈es,∃c∈cs,c.2=e.1/\e.2=(c.1.length:Nat)
 big:∀c∈cs,∀e∈es,e.1=c.2->((c.1.length:Nat):Int)<=e.2
theorem DepthE.nil:DepthE [] []:=⟨CallsE.nil,λe h=>(by cases h),λe h=>by cases h⟩
theorem DepthE.put{es:CLs}(h:DepthE cs es)(c:List Int×Int×Int):DepthE (cs++[c]) (gF es c.2 (if(fT es c.2).getD 0 > ((c.1.length:Nat):Int)then(fT es c.2).getD 0 else((c.1.length:Nat):Int))):=by
 have hl:=Xl cs (WZ.mpr (rfl:c=c));refine⟨h.toCallsE.put c _,λe he=>?_,λx hx e he hk=>?_⟩
 .rcases kA he with rfl|⟨he,_⟩
  .cases g:fT es c.2 with
   | none =>
     refine⟨c,hl,rfl,?_⟩;simp only[Option.getD_none];rw[a! (by omega)]
   | some v =>
     simp only[Option.getD_some];by_cases hv:v > ((c.1.length:Nat):Int)
     .rw[b! hv];obtain⟨y,hy,e1,e2⟩:=h.at _ (uL g);exact⟨y,Xi _ hy,e1,e2⟩
     .rw[a! hv];exact⟨c,hl,rfl,rfl⟩
  .obtain⟨y,hy,e1,e2⟩:=h.at e he;exact⟨y,Xi _ hy,e1,e2⟩
 .rcases kA he with rfl|⟨he,Ay⟩
  .simp only at hk |-
   have hc:((c.1.length:Nat):Int)<=(if(fT es c.2).getD 0 > ((c.1.length:Nat):Int)then(fT es c.2).getD 0 else((c.1.length:Nat):Int)):=by
    split <;> omega
   rcases W7.mp hx with hx|hx
   .obtain⟨e,he,e2⟩:=h.to x hx;have h1:=h.big x hx e he e2;have h2:=vU h.nd he;rw[e2,<-hk]at h2;rw[h2];simp only[Option.getD_some];split <;> omega
   .rw[WZ.mp hx];exact hc
  .rcases W7.mp hx with hx|hx
   .exact h.big x hx e he hk
   .exact g! (by rw[hk,WZ.mp hx]) Ay
end BB
variable{es:BB.CLs}
namespace BB
open PySem L2
theorem pC{val:(Int×Int)×Int->Int}{Q:VK}
 (Ao:∀R:VK,R (.ref d) H->tl Y H R) (hd:H d=some (.dT (dE es))) (hlen:es.length<=10000)
 (hs:∀(i:Nat)(e:(Int×Int)×Int)(p b:WT)(H2:Hp)(R:VK),es[i]?=some e->SameB d H H2->H2 p=some (.tup [.ref b,.int e.2])->H2 b=some (.tup ((ky e.1).map kV))->R (.int (val e)) H2->g (.ref p) (cσ js Y) H2 λAk H3=>te Ak H3 R)
 (hq:∀(D:WT)(H2:Hp),j! H H2->H2 D=some (.lst ((es.map val).map o!))->Q (.ref D) H2) :
 oj (rH js (rW tl) g bu te) Y H Q:=by
 refine Ao _ ⟨d,dE es,rfl,hd,λo D hD=>?_⟩;have DZ:D≠d:=λz=>by rw[z,ad]at hD;cases hD
 have D0:H D=none:=by rw[af DZ]at hD;exact hD
 have hl:(dE es).length=es.length:=by unfold dE;rw[WO]
 refine⟨es.length,λj H2=>j<=es.length/\SameB d H H2/\H2 d=some (.frz o (.dT (dE es)))/\H2 D=some (.lst (((es.take j).map val).map o!)),⟨XB _,λb u hb e=>by rw[af (ar e D0),af hb];exact e,by rw[af DZ.symm,ad],ad⟩,?_⟩;rintro j H2 ⟨hj,sb,ed,eD⟩;by_cases Ej:j=es.length
 .left;refine⟨⟨ed,by omega⟩,upd H2 d (.dT (dE es)),λb=>?_,?_⟩
  .by_cases hb:b=d
   .rw[hb];exact .inr ⟨o,_,ed,hd,ad⟩
   .exact .inl (af hb)
  .rw[Ej,Zg]at eD;refine hq D _ (λb u e=>?_) (by rw[af DZ];exact eD);by_cases hb:b=d
   .rw[hb,hd]at e;rw[hb,ad];exact e
   .rw[af hb];exact sb b u hb e
 .right;refine⟨by omega,⟨ed,by omega⟩,?_⟩;rintro x H3 ⟨p,b,kv,hp,rfl,rfl,Ag,eb⟩
  obtain⟨e,he,rfl⟩:∃e,es[j]?=some e/\(ky e.1,o! e.2)=kv:=by
   unfold dE at Ag;rw[Xj]at Ag;cases h:es[j]? with
   |none=>rw[h]at Ag;cases Ag
   |some e=>rw[h]at Ag;exact⟨e,rfl,Xf Ag⟩
  have Wi:d≠p:=λz=>by rw[<-z,ed]at hp;cases hp
  have DU:D≠p:=λz=>by rw[<-z,eD]at hp;cases hp
  refine hs j e p b _ _ he (λc u hc ec=>by rw[af (ar (sb c u hc ec) hp)];exact sb c u hc ec) ad (by rw[af (ar eb hp)];exact eb) ?_;refine⟨_,by rw[af DU];exact eD,aX (by rw[WO,WO,XI];omega),by omega,λc u hc ec=>?_,?_,?_⟩
  .rw[af (ar ec D0),af (ar (sb c u hc ec) hp)];exact sb c u hc ec
  .rw[af DZ.symm,af Wi];exact ed
  .rw[ad,Yp,he,W9,W9];rfl
mutual
theorem Th.dv_inj:∀{t u:Th},t.dv=u.dv->t=u
 | .knot n ks,.knot m js,h=>by
   rw[L!,L!]at h;injection h with h;injection h with h1 h2;injection h1 with h1;rw[h1,rb h2]
 | .call s k,.call s' k',h=>by
   rw[L!,L!]at h;injection h with h;injection h with _ h;injection h with h1 h;injection h with h2 _;injection h1 with h1;injection h2 with h2;rw[h1,h2]
 | .knot n ks,.call s k,h=>by
   rw[L!,L!]at h;injection h with h;injection h with _ h;cases ks with
   |nil=>rw[dvs]at h;cases h
   | cons a as =>
     rw[dvs]at h;injection h with h _;cases a <;> rw[L!]at h <;> cases h
 | .call s k,.knot n ks,h=>by
   rw[L!,L!]at h;injection h with h;injection h with _ h;cases ks with
   |nil=>rw[dvs]at h;cases h
   | cons a as =>
     rw[dvs]at h;injection h with h _;cases a <;> rw[L!]at h <;> cases h
theorem rb:∀{ts us:List Th},dvs ts=dvs us->ts=us
 | [],[],_=>rfl
 | [],u::us,h=>by rw[dvs,dvs]at h;cases h
 |t::ts,[],h=>by rw[dvs,dvs]at h;cases h
 | t::ts,u::us,h=>by
   rw[dvs,dvs]at h;injection h with h1 h2;rw[Th.dv_inj h1,rb h2]
end
structure Nd where
 t:Th
 ta:WT
 aa:WT
 ka:WT
 ask:List (Key×V)
 sp:List (Key×V)
structure Lv where
 x:WT
 dx:WT
 tl:WT
 al:WT
 kl:WT
 ns:List Nd
def lvF(tl al kl:WT):List (Xk×V):=[(WU "trees",.ref tl),(WU "asked",.ref al),(WU "kid_spots",.ref kl)]
theorem w9:¬(WU "trees"=WU "asked"):=by decide +kernel
theorem wZ:¬(WU "trees"=WU "kid_spots"):=by decide +kernel
theorem xq:¬(WU "asked"=WU "kid_spots"):=by decide +kernel
theorem mP(tl al kl:WT):(lvF tl al kl).lookup (WU "trees")=some (i! tl):=by
 unfold lvF;simp only[Zd,beq_self_eq_true]
theorem pi(tl al kl:WT):(lvF tl al kl).lookup (WU "asked")=some (i! al):=by
 unfold lvF;have h:(WU "asked" == WU "trees")=false:=beq_eq_false_iff_ne.mpr λz=>w9 z.symm;simp only[Zd,h,beq_self_eq_true]
theorem vm(tl al kl:WT):(lvF tl al kl).lookup (WU "kid_spots")=some (i! kl):=by
 unfold lvF;have h:(WU "kid_spots" == WU "trees")=false:=beq_eq_false_iff_ne.mpr λz=>wZ z.symm;have h2:(WU "kid_spots" == WU "asked")=false:=beq_eq_false_iff_ne.mpr λz=>xq z.symm;simp only[Zd,h,h2,beq_self_eq_true]
theorem uB{m:Xk}(tl al kl:WT)(h1:(m == WU "trees")=false)(h2:(m == WU "asked")=false)(h3:(m == WU "kid_spots")=false):(lvF tl al kl).lookup m=none:=by
 unfold lvF;simp only[Zd,h1,h2,h3]
theorem vO(tl al kl:WT):dU (WU "kid_spots") (.ref kl) (dU (WU "asked") (.ref al) (dU (WU "trees") (.ref tl) []))=lvF tl al kl:=by
 unfold lvF;simp only[dU];rw[a! w9,dU,a! wZ,dU,a! xq,dU]
def dcts(ns:List Nd):List WT:=ns.flatMap λn=>[n.aa,n.ka]
theorem jS(a b:List Nd):dcts (a++b)=dcts a++dcts b:=List.flatMap_append
theorem cZ{ns:List Nd}{n:Nd}(h:n∈ns):n.aa∈dcts ns:=List.mem_flatMap.mpr ⟨n,h,WY ..⟩
theorem cN{ns:List Nd}{n:Nd}(h:n∈ns):n.ka∈dcts ns:=List.mem_flatMap.mpr ⟨n,h,WQ _ (WY ..)⟩
theorem lD{ns:List Nd}(h:b∈dcts ns):∃n∈ns,b=n.aa\/b=n.ka:=by
 obtain⟨n,hn,hb⟩:=List.mem_flatMap.mp h;refine⟨n,hn,?_⟩;rcases Xb.mp hb with h|h
 .exact .inl h
 .exact .inr (WZ.mp h)
structure LvSh(C:WT)(H:Hp)(L:Lv):Prop where
 ins:H L.x=some (.ins C L.dx (lvF L.tl L.al L.kl))
 tl:H L.tl=some (.lst (L.ns.map λn=>i! n.ta))
 al:H L.al=some (.lst (L.ns.map λn=>i! n.aa))
 kl:H L.kl=some (.lst (L.ns.map λn=>i! n.ka))
 tr:∀n∈L.ns,At H n.t n.ta
 ak:∀n∈L.ns,H n.aa=some (.dK n.ask)
 sp:∀n∈L.ns,H n.ka=some (.dK n.sp)
 n1:L.tl≠L.al
 n2:L.tl≠L.kl
 n3:L.al≠L.kl
 nd:(dcts L.ns).Nodup
 un:(L.ns.map (·.t)).Nodup
def Lv.own(L:Lv):List WT:=L.x::L.tl::L.al::L.kl::dcts L.ns
theorem LvSh.keep{L:Lv}(h:LvSh C H L)(k:KT H H')(f:∀b∈L.own,∀o,H b=some o->H' b=some o):LvSh C H' L:=by
 have d:∀b∈dcts L.ns,∀o,H b=some o->H' b=some o:=λb hb=>f b (WQ _ (WQ _ (WQ _ (WQ _ hb))))
 exact⟨f _ (WY ..) _ h.ins,f _ (WQ _ (WY ..)) _ h.tl,f _ (WQ _ (WQ _ (WY ..))) _ h.al,f _ (WQ _ (WQ _ (WQ _ (WY ..)))) _ h.kl,
  λn hn=>(h.tr n hn).mono k,λn hn=>d _ (cZ hn) _ (h.ak n hn),λn hn=>d _ (cN hn) _ (h.sp n hn),h.n1,h.n2,h.n3,h.nd,h.un⟩
def FrB(S:List WT)(H H':Hp):Prop:=∀b o,b∉S->H b=some o->H' b=some o
theorem FrB.refl{S:List WT}:FrB S H H:=λ_ _ _ e=>e
theorem FrB.of{S:List WT}(h:j! H H'):FrB S H H':=λb o _ e=>h b o e
theorem FrB.trans{S:List WT}{A B C:Hp}(h:FrB S A B)(k:FrB S B C):FrB S A C:=λb o hb e=>k b o hb (h b o hb e)
theorem FrB.set{S:List WT}(h:a∈S):FrB S H (upd H a o):=λb u hb e=>by rw[af (show b≠a fromλz=>hb (by rw[z];exact h))];exact e
theorem kg{l:List α}(h:l.Nodup){x:α}(hi:l[i]?=some x)(hj:l[j]?=some x):i=j:=by
 induction l generalizing i j with
 |nil=>simp at hi
 | cons a l ih =>
   rw[Yg]at h;cases i with
   | zero =>
     cases j with
     |zero=>rfl
     | succ j =>
       simp at hi hj;exact g! (by rw[hi];exact WR hj) h.1
   | succ i =>
     cases j with
     | zero =>
       simp at hi hj;exact g! (by rw[hj];exact WR hi) h.1
     | succ j =>
       simp at hi hj;rw[ih h.2 hi hj]
theorem mL{f:α->β}(hf:∀a b,f a=f b->a=b):∀{l:List α},l.Nodup->(l.map f).Nodup
 | [],_=>by simp
 | a::l,h=>by
   rw[Yg]at h;rw[XH,Yg];refine⟨λz=>?_,mL hf h.2⟩;obtain⟨b,hb,e⟩:=Xq.mp z;exact h.1 (hf _ _ e ▸ hb)
theorem bT:∀{l m:List α},l.Nodup->(∀a∈l,a∈m)->l.length<=m.length
 | [],m,_,_=>XB _
 | a::l,m,h,hs=>by
   rw[Yg]at h;obtain⟨m1,m2,rfl⟩:=List.append_of_mem (hs a (WY ..))
   have:l.length<=(m1++m2).length:=bT h.2 λb hb=>by
    rcases W7.mp (hs b (WQ _ hb))with z|z
    .exact Xi _ z
    .rcases Xb.mp z with z|z
     .exact g! (z ▸ hb) h.1
     .exact Xl _ z
   rw[W6,W8]at*;rw[W8];omega
theorem fC{B:Nat}:∀{ts:List Th},(∀t∈ts,t.tall<=B)->bY (ts.map L!)<=B
 | [],_=>by rw[ZA,bY];exact XB _
 | t::ts,h=>by
   have h1:=t.dv_deep;have h2:=h t (WY ..);have h3:=fC (ts:=ts) λu hu=>h u (WQ _ hu);rw[XH,bY];omega
theorem LvSh.dats{L:Lv}(h:LvSh C H L):DAts H ((L.ns.map (·.t)).map L!) (L.ns.map λn=>i! n.ta):=by
 have:∀ns:List Nd,(∀n∈ns,At H n.t n.ta)->DAts H ((ns.map (·.t)).map L!) (ns.map λn=>i! n.ta):=by
  intro ns;induction ns with
  |nil=>exactλ_=>.nil
  |cons n ns ih=>exactλh=>.cons (At.dv (h n (WY ..))) (ih λm hm=>h m (WQ _ hm))
 exact this L.ns h.tr
def Lv.add(L:Lv)(t:Th)(ta aa ka:WT):Lv:={L with ns:=L.ns++[⟨t,ta,aa,ka,[],[]⟩]}
theorem LvSh.add{L:Lv}{t:Th}{aa ka:WT}(h:LvSh C H L)(f:FrB [L.tl,L.al,L.kl] H H')(h0:H aa=none)(h1:H ka=none)(Ay:aa≠ka)(hA:At H t ta)(hn:t∉L.ns.map (·.t))
 (e1:H' L.tl=some (.lst ((L.ns.map λn=>i! n.ta)++[.ref ta]))) (e2:H' L.al=some (.lst ((L.ns.map λn=>i! n.aa)++[.ref aa]))) (e3:H' L.kl=some (.lst ((L.ns.map λn=>i! n.ka)++[.ref ka]))) (e4:H' aa=some (.dK [])) (e5:H' ka=some (.dK [])) :
 LvSh C H' (L.add t ta aa ka):=by
 have no:∀b u,H b=some u->(∀xs,u≠.lst xs)->b∉[L.tl,L.al,L.kl]:=λb u e n z=>by
  rcases Xb.mp z with rfl|z
  .rw[h.tl]at e;exact n _ (Xf e).symm
  .rcases Xb.mp z with rfl|z
   .rw[h.al]at e;exact n _ (Xf e).symm
   .rw[WZ.mp z,h.kl]at e;exact n _ (Xf e).symm
 have k:KT H H':=λb xs e=>f b _ (no b _ e (λ_ z=>nomatch z)) e
 refine⟨f _ _ (no _ _ h.ins (λ_ z=>nomatch z)) h.ins,e1.trans (by show _=some (HO.lst ((L.ns++[_]).map _));rw[W9];rfl),e2.trans (by show _=some (HO.lst ((L.ns++[_]).map _));rw[W9];rfl),e3.trans (by show _=some (HO.lst ((L.ns++[_]).map _));rw[W9];rfl),
  λn hn=>?_,λn hn=>?_,λn hn=>?_,h.n1,h.n2,h.n3,?_,?_⟩
 .rcases W7.mp hn with hn|hn
  .exact(h.tr n hn).mono k
  .rw[WZ.mp hn];exact hA.mono k
 .rcases W7.mp hn with hn|hn
  .exact f _ _ (no _ _ (h.ak n hn) (λ_ z=>nomatch z)) (h.ak n hn)
  .rw[WZ.mp hn];exact e4
 .rcases W7.mp hn with hn|hn
  .exact f _ _ (no _ _ (h.sp n hn) (λ_ z=>nomatch z)) (h.sp n hn)
  .rw[WZ.mp hn];exact e5
 .show(dcts (L.ns++[_])).Nodup;rw[jS,YG];refine⟨h.nd,by simp[dcts,Ay],λa ha b hb z=>?_⟩
  have hs:∃o,H a=some o:=by
   obtain⟨n,hn,rfl|rfl⟩:=lD ha
   .exact⟨_,h.ak n hn⟩
   .exact⟨_,h.sp n hn⟩
  obtain⟨o,ho⟩:=hs;have Bo:b=aa\/b=ka:=by simpa[dcts]using hb
  rcases Bo with rfl|rfl
  .rw[z,h0]at ho;cases ho
  .rw[z,h1]at ho;cases ho
 .show((L.ns++[_]).map _).Nodup;rw[W9,YG];refine⟨h.un,by simp,λa ha b hb z=>hn ?_⟩;have:b=t:=by simpa using hb
  rw[<-this,<-z];exact ha
end BB
variable{m:BB.Nd}{ns:List BB.Nd}{B L B' L':BB.Lv}
namespace L2
open PySem
theorem u8(Pv:Nat->St->Hp->Prop)(h0:Pv 0 Y H)(hl:∀i Y H,i<=xs.length->Pv i Y H->SqT K H a xs)
 (hs:∀i x p Y H,xs[i]?=some x->H p=none->Pv i Y H->g (.ref p) Y (upd H p (.tup [.int (i:Nat),x])) λAk H2=>tb {D with nx:=Pv (i+1),ct:=Pv (i+1),bk:=D.nx} Ak H2) (hd:∀Y H,Pv xs.length Y H->D.nx Y H) :
 ∃W:Nat->Nat->St->Hp->Prop,(∃m,W 0 m Y H)/\∀i m Y H,W i m Y H ->
   ((Ite K a).stop i H/\D.nx Y H)\/((Ite K a).go i H/\∃N:St->Hp->Prop,(∀i' H',N i' H'->∃m',m'<m/\W (i+1) m' i' H')/\∀x H',(Ite K a).yld i H x H'->g x Y H' λAk H2=>tb {D with nx:=N,ct:=N,bk:=D.nx} Ak H2):=by
 refine⟨λi m Y H=>m=xs.length - i/\i<=xs.length/\Pv i Y H,⟨xs.length,by simp,XB _,h0⟩,?_⟩;rintro i m Y H ⟨rfl,hi,p⟩;have q:=hl i Y H hi p;by_cases Ae:i<xs.length
 .refine .inr ⟨⟨xs,xs[i],q,by simp[Ae]⟩,Pv (i+1),λi' H' p'=>⟨xs.length - (i+1),by omega,rfl,Ae,p'⟩,λx H' y=>?_⟩;obtain⟨pa,y,hp,rfl,rfl,hy⟩:=y;exact hs i y pa Y H (hy xs q) hp p
 .have e:i=xs.length:=by omega
  subst e;exact .inl ⟨⟨xs,q,rfl⟩,hd Y H p⟩
theorem ww{ys:List V}(Wj:xs.length=ys.length)(Pv:Nat->St->Hp->Prop)(h0:Pv 0 Y H)(hl:∀i Y H,i<=xs.length->Pv i Y H->SqT K H a xs/\SqT K H b ys)
 (hs:∀i x y p Y H,xs[i]?=some x->ys[i]?=some y->H p=none->Pv i Y H->g (.ref p) Y (upd H p (.tup [x,y])) λAk H2=>tb {D with nx:=Pv (i+1),ct:=Pv (i+1),bk:=D.nx} Ak H2) (hd:∀Y H,Pv xs.length Y H->D.nx Y H) :
 ∃W:Nat->Nat->St->Hp->Prop,(∃m,W 0 m Y H)/\∀i m Y H,W i m Y H ->
   ((Itz K a b).stop i H/\D.nx Y H)\/((Itz K a b).go i H/\∃N:St->Hp->Prop,(∀i' H',N i' H'->∃m',m'<m/\W (i+1) m' i' H')/\∀x H',(Itz K a b).yld i H x H'->g x Y H' λAk H2=>tb {D with nx:=N,ct:=N,bk:=D.nx} Ak H2):=by
 refine⟨λi m Y H=>m=xs.length - i/\i<=xs.length/\Pv i Y H,⟨xs.length,by simp,XB _,h0⟩,?_⟩;rintro i m Y H ⟨rfl,hi,p⟩;obtain⟨q1,q2⟩:=hl i Y H hi p;by_cases Ae:i<xs.length
 .have Hv:i<ys.length:=by omega
  refine .inr ⟨⟨xs,ys,xs[i],ys[i],q1,q2,by simp[Ae],by simp[Hv]⟩,Pv (i+1),λi' H' p'=>⟨xs.length - (i+1),by omega,rfl,Ae,p'⟩,λx H' y=>?_⟩;obtain⟨pa,x,y,hp,rfl,rfl,hx,hy⟩:=y;exact hs i x y pa Y H (hx xs q1) (hy ys q2) hp p
 .have e:i=xs.length:=by omega
  subst e;exact .inl ⟨⟨xs,ys,q1,q2,.inl (W2 _)⟩,hd Y H p⟩
theorem tT{ys:List V}(Wj:xs.length=ys.length)(Pv:Nat->St->Hp->Prop)(h0:Pv 0 Y H)(hl:∀i Y H,i<=xs.length->Pv i Y H->SqL K H a xs/\SqL K H b ys)
 (hs:∀i x y p Y H,xs[i]?=some x->ys[i]?=some y->H p=none->Pv i Y H->g (.ref p) Y (upd H p (.tup [x,y])) λAk H2=>tb {D with nx:=Pv (i+1),ct:=Pv (i+1),bk:=D.nx} Ak H2) (hd:∀Y H,Pv xs.length Y H->D.nx Y H) :
 ∃W:Nat->Nat->St->Hp->Prop,(∃m,W 0 m Y H)/\∀i m Y H,W i m Y H ->
   ((t4 K a b).stop i H/\D.nx Y H)\/((t4 K a b).go i H/\∃N:St->Hp->Prop,(∀i' H',N i' H'->∃m',m'<m/\W (i+1) m' i' H')/\∀x H',(t4 K a b).yld i H x H'->g x Y H' λAk H2=>tb {D with nx:=N,ct:=N,bk:=D.nx} Ak H2):=by
 refine⟨λi m Y H=>m=xs.length - i/\i<=xs.length/\Pv i Y H,⟨xs.length,by simp,XB _,h0⟩,?_⟩;rintro i m Y H ⟨rfl,hi,p⟩;obtain⟨q1,q2⟩:=hl i Y H hi p;by_cases Ae:i<xs.length
 .have Hv:i<ys.length:=by omega
  refine .inr ⟨⟨xs,ys,xs[i],ys[i],q1,q2,by simp[Ae],by simp[Hv]⟩,Pv (i+1),λi' H' p'=>⟨xs.length - (i+1),by omega,rfl,Ae,p'⟩,λx H' y=>?_⟩;obtain⟨pa,x,y,hp,rfl,rfl,hx,hy⟩:=y;exact hs i x y pa Y H (hx xs q1) (hy ys q2) hp p
 .have e:i=xs.length:=by omega
  subst e;exact .inl ⟨⟨xs,ys,q1,q2,.inl (W2 _)⟩,hd Y H p⟩
end L2
namespace BB
open PySem L2
abbrev DP:=Th->V->WT->List (List Key×V)->Prop
def DgAt(Dp:DP)(H:Hp)(p:Th)(a:WT):Prop:=∃d own kvs,H a=some (.tup [own,.ref d])/\H d=some (.dT kvs)/\Dp p own d kvs
def DgN(Dp:DP)(td:WT)(H:Hp)(p:Th)(a:WT):Prop:=∃d own kvs,d≠td/\H a=some (.tup [own,.ref d])/\H d=some (.dT kvs)/\Dp p own d kvs
structure KTD(H H':Hp):Prop where
 tup:∀b xs,H b=some (.tup xs)->H' b=some (.tup xs)
 dct:∀b(kvs:List (List Key×V)),H b=some (.dT kvs)->H' b=some (.dT kvs)
theorem KTD.trans{A B C:Hp}(h:KTD A B)(k:KTD B C):KTD A C:=⟨λb xs e=>k.tup b xs (h.tup b xs e),λb xs e=>k.dct b xs (h.dct b xs e)⟩
theorem KTD.refl{A:Hp}:KTD A A:=⟨λ_ _ e=>e,λ_ _ e=>e⟩
theorem KTD.of{A B:Hp}(h:j! A B):KTD A B:=⟨λb xs e=>h b _ e,λb xs e=>h b _ e⟩
theorem DgAt.mono{Dp:DP}(h:DgAt Dp H p a)(k:KTD H H'):DgAt Dp H' p a:=by
 obtain⟨d,own,kvs,h1,h2,h3⟩:=h;exact⟨d,own,kvs,k.tup _ _ h1,k.dct _ _ h2,h3⟩
theorem DgN.at{Dp:DP}(h:DgN Dp td H p a):DgAt Dp H p a:=by
 obtain⟨d,own,kvs,_,h1,h2,h3⟩:=h;exact⟨d,own,kvs,h1,h2,h3⟩
theorem DgN.upd{Dp:DP}{u:HO}{tk:List (List Key×V)}(h:DgN Dp td H p a)(e:H td=some (.dT tk)):DgN Dp td (upd H td u) p a:=by
 obtain⟨d,own,kvs,h0,h1,h2,h3⟩:=h;exact⟨d,own,kvs,h0,by rw[af (aA h1 e (λz=>nomatch z))];exact h1,by rw[af h0];exact h2,h3⟩
def kn2(s:Nat)(n:Xk):List Key:=[Xo ((s:Nat):Int),Z1 n]
theorem vz{s s':Nat}{n n':Xk}(h:kn2 s n=kn2 s' n'):s=s'/\n=n':=by
 simp only[kn2,List.cons.injEq,Sum.inl.injEq,Sum.inr.injEq,and_true]at h;exact⟨by omega,h.2⟩
def yR(Dp:DP)(td:WT)(H:Hp)(ins:List (Xk×Int))(rows:List (List Th))(tk:List (List Key×V))(i j:Nat):Prop :=
 ∀(s c:Nat)(row:List Th)(p:Th)(k:Xk×Int),(s<i\/(s=i/\c<j))->rows[s]?=some row->row[c]?=some p->ins[c]?=some k->∃da,aG tk (kn2 s k.1)=some (.ref da)/\DgN Dp td H p da
def DgTab(Dp:DP)(H:Hp)(ins:List (Xk×Int))(rows:List (List Th))(td:WT):Prop:=∃tk,H td=some (.dT tk) /\
 ∀(s c:Nat)(row:List Th)(p:Th)(k:Xk×Int),rows[s]?=some row->row[c]?=some p->ins[c]?=some k->∃da,aG tk (kn2 s k.1)=some (.ref da)/\DgAt Dp H p da
theorem DgTab.mono{Dp:DP}(h:DgTab Dp H ins rows td)(k:KTD H H'):DgTab Dp H' ins rows td:=by
 obtain⟨tk,e,g⟩:=h;refine⟨tk,k.dct _ _ e,λs c row p kd h1 h2 h3=>?_⟩;obtain⟨da,a1,a2⟩:=g s c row p kd h1 h2 h3;exact⟨da,a1,a2.mono k⟩
end BB
variable{Dp:BB.DP}
namespace BB
open PySem L2
theorem mq[DecidableEq κ](kvs:List (κ×V))(k:κ)(v:V):(putK kvs k v).map (·.1)=if k∈kvs.map (·.1)then kvs.map (·.1)else kvs.map (·.1)++[k]:=by
 have e:(kvs.any λkv=>decide (kv.1=k))=decide (k∈kvs.map (·.1)):=by
  rw[Bool.eq_iff_iff,List.any_eq_true,decide_eq_true_iff];constructor
  .rintro⟨x,hx,hk⟩;exact Xq.mpr ⟨x,hx,e! hk⟩
  .intro h;obtain⟨x,hx,hk⟩:=Xq.mp h;exact⟨x,hx,d! hk⟩
 unfold putK;rw[e];by_cases h:k∈kvs.map (·.1)
 .rw[b! (d! h),b! h,YU];refine List.map_congr_left λx hx=>?_;simp only[Function.comp];by_cases g:x.1=k
  .rw[b! g]
  .rw[a! g]
 .rw[a! (λz=>h (e! z)),a! h,W9];rfl
theorem lM[DecidableEq κ]{kvs:List (κ×V)}(nd:(kvs.map (·.1)).Nodup)(k:κ)(v:V):((putK kvs k v).map (·.1)).Nodup:=by
 rw[mq];by_cases h:k∈kvs.map (·.1)
 .rw[b! h];exact nd
 .rw[a! h,YG];refine⟨nd,by simp,λa ha b hb=>?_⟩;rw[WZ.mp hb];exactλz=>h (z ▸ ha)
theorem iT[DecidableEq κ]{kvs:List (κ×V)}{k:κ}{e:κ×V}(h:e∈putK kvs k v):e=(k,v)\/(e∈kvs/\e.1≠k):=by
 unfold putK at h;by_cases g:(kvs.any λkv=>decide (kv.1=k))=true
 .rw[b! g]at h;obtain⟨x,hx,rfl⟩:=Xq.mp h;by_cases e:x.1=k
  .rw[b! e,e];exact .inl rfl
  .rw[a! e];exact .inr ⟨hx,e⟩
 .rw[a! g]at h;rcases W7.mp h with h|h
  .exact .inr ⟨h,λz=>g (List.any_eq_true.mpr ⟨e,h,d! z⟩)⟩
  .exact .inl (WZ.mp h)
theorem fx[DecidableEq κ]{kvs:List (κ×V)}{k:κ}(h:aG kvs k=some v):(k,v)∈kvs:=by
 induction kvs with
 |nil=>cases h
 | cons p r ih =>
   by_cases e:p.1=k
   .rw[bE e]at h;cases h;rw[<-e];exact WY ..
   .rw[bL e]at h;exact WQ _ (ih h)
theorem v6[DecidableEq κ]{kvs:List (κ×V)}(nd:(kvs.map (·.1)).Nodup){e:κ×V}(h:e∈kvs):aG kvs e.1=some e.2:=by
 induction kvs with
 |nil=>cases h
 | cons p r ih =>
   rw[XH,Yg]at nd;rcases Xb.mp h with rfl|h
   .exact bE rfl
   .rw[bL (λz=>nd.1 (by rw[z];exact Xq.mpr ⟨e,h,rfl⟩))];exact ih nd.2 h
def d3(ins:List (Xk×Int))(rows:List (List Th))(head:Th)(s:Int)(t p:Th):Prop :=
 (s=-1/\p=head/\∃u,t=.knot YI [u])\/(0<=s/\∃(m:Xk)(hs:List Th)(c:Int)(j:Nat)(row:List Th),t=.knot m hs/\ins[j]?=some (m,c)/\rows[s.toNat]?=some row/\row[j]?=some p)
theorem Step.pat{head:Th}{s k:Int}{ks:List Th}{h:Th}(st:Step ins rows s k ks p h):d3 ins rows head s h p:=.inr ⟨st.1,st.2.2.2⟩
structure AskE(Dp:DP)(ins:List (Xk×Int))(rows:List (List Th))(head:Th)(H:Hp)(t:Th)(kv:Key×V)(s:Int)(p:Th)(da:WT):Prop where
 k:kv.1=Xo s
 v:kv.2=.ref da
 pat:d3 ins rows head s t p
 dg:DgAt Dp H p da
def AskOk(Dp:DP)(ins:List (Xk×Int))(rows:List (List Th))(head:Th)(H:Hp)(t:Th)(ask:List (Key×V)):Prop:=∀kv∈ask,∃s p da,AskE Dp ins rows head H t kv s p da
theorem AskE.mono{head:Th}{t:Th}{s:Int}{da:WT}(h:AskE Dp ins rows head H t kv s p da)(k:KTD H H'):AskE Dp ins rows head H' t kv s p da:=⟨h.k,h.v,h.pat,h.dg.mono k⟩
theorem AskOk.mono{head:Th}{t:Th}{ask:List (Key×V)}(h:AskOk Dp ins rows head H t ask)(k:KTD H H'):AskOk Dp ins rows head H' t ask:=λkv Ag=>by
 obtain⟨s,p,da,g⟩:=h kv Ag;exact⟨s,p,da,g.mono k⟩
structure GoodNd(Dp:DP)(ins:List (Xk×Int))(rows:List (List Th))(head:Th)(ok:Th->Prop)(H:Hp)(m:Nd):Prop where
 ask:AskOk Dp ins rows head H m.t m.ask
 nd:(m.ask.map (·.1)).Nodup
 sp:m.sp=[]
 ok:ok m.t
 pos:∀kv∈m.ask,∃s:Int,kv.1=Xo s/\0<=s
theorem GoodNd.mono{head:Th}{ok:Th->Prop}(h:GoodNd Dp ins rows head ok H m)(k:KTD H H'):GoodNd Dp ins rows head ok H' m:=⟨h.ask.mono k,h.nd,h.sp,h.ok,h.pos⟩
theorem AskOk.len{head:Th}{t:Th}{ask:List (Key×V)}(h:AskOk Dp ins rows head H t ask)(nd:(ask.map (·.1)).Nodup):ask.length<=rows.length+1:=by
 have:=bT (m:=(Xo (-1):Key)::(Yn rows.length).map λi=>(Xo ((i:Nat):Int):Key)) nd λk hk=>by
  obtain⟨kv,Ag,rfl⟩:=Xq.mp hk;obtain⟨s,p,da,g⟩:=h kv Ag;rw[g.k];rcases g.pat with⟨rfl,_⟩|⟨s0,m,hs,c,j,row,_,_,hr,_⟩
  .exact WY ..
  .refine WQ _ (Xq.mpr ⟨s.toNat,ZK.mpr (glE hr),?_⟩);rw[Yd s0]
 rw[WO,W8,WO,List.length_range]at this;exact this
def Lv.setSp(L:Lv)(i:Nat)(n:Nd)(sp:List (Key×V)):Lv:={L with ns:=L.ns.set i {n with sp:=sp}}
def Lv.setAsk(L:Lv)(i:Nat)(n:Nd)(ask:List (Key×V)):Lv:={L with ns:=L.ns.set i {n with ask:=ask}}
theorem map_set(f:α->β){l:List α}{a b:α}(h:l[i]?=some a)(e:f b=f a):(l.set i b).map f=l.map f:=by
 rw[List.map_set];refine List.ext_getElem? λj=>?_;rw[List.getElem?_set];split
 .rename_i z
  subst z;rw[WO,b! (glE h),Xj,h,e];rfl
 .rfl
theorem iP{l:List Nd}{a b:Nd}(h:l[i]?=some a)(e1:b.aa=a.aa)(e2:b.ka=a.ka):dcts (l.set i b)=dcts l:=by
 unfold dcts;rw[List.flatMap_def,List.flatMap_def,map_set (λn:Nd=>[n.aa,n.ka]) h (by simp only[e1,e2])]
theorem mem_set{l:List α}{b x:α}(h:x∈l.set i b):x=b\/∃j,j≠i/\l[j]?=some x:=by
 obtain⟨j,hj⟩:=Xe.mp h;rw[List.getElem?_set]at hj;split at hj
 .split at hj
  .exact .inl (Xf hj).symm
  .cases hj
 .rename_i z
  exact .inr ⟨j,λe=>z e.symm,hj⟩
theorem j7{l:List Nd}(h:(dcts l).Nodup){a b:Nd}(hi:l[i]?=some a)(hj:l[j]?=some b)(Ay:j≠i):b.aa≠a.aa/\b.aa≠a.ka/\b.ka≠a.aa/\b.ka≠a.ka:=by
 induction l generalizing i j with
 |nil=>simp at hi
 | cons x l ih =>
   have hc:dcts (x::l)=x.aa::x.ka::dcts l:=rfl;rw[hc,Yg,Yg]at h;obtain⟨h1,h2,h3⟩:=h;have Dl:x.aa∉dcts l:=λz=>h1 (WQ _ z);cases i with
   | zero =>
     cases j with
     |zero=>exact g! rfl Ay
     | succ j =>
       simp at hi hj;subst hi;have m:=WR hj;exact⟨λz=>Dl (z ▸ cZ m),λz=>h2 (z ▸ cZ m),λz=>Dl (z ▸ cN m),λz=>h2 (z ▸ cN m)⟩
   | succ i =>
     cases j with
     | zero =>
       simp at hi hj;subst hj;have m:=WR hi;exact⟨λz=>Dl (z ▸ cZ m),λz=>Dl (z ▸ cN m),λz=>h2 (z ▸ cZ m),λz=>h2 (z ▸ cN m)⟩
     | succ j =>
       simp at hi hj;exact ih h3 hi hj (by omega)
theorem iE{l:List Nd}(h:(dcts l).Nodup){a:Nd}(hi:l[i]?=some a):a.aa≠a.ka:=by
 induction l generalizing i with
 |nil=>simp at hi
 | cons x l ih =>
   have hc:dcts (x::l)=x.aa::x.ka::dcts l:=rfl;rw[hc,Yg,Yg]at h;cases i with
   | zero =>
     simp at hi;subst hi;exactλz=>h.1 (by rw[z];exact WY ..)
   | succ i =>
     simp at hi;exact ih h.2.2 hi
theorem cw(h:LvSh C H L)(hb:b∈L.own):∃o,H b=some o/\(∀xs,o≠.tup xs)/\(∀k,o≠.dT k)/\∀x y,o≠.frz x y:=by
 rcases Xb.mp hb with rfl|hb
 .exact⟨_,h.ins,λ_ z=>(nomatch z),λ_ z=>(nomatch z),λ_ _ z=>nomatch z⟩
 rcases Xb.mp hb with rfl|hb
 .exact⟨_,h.tl,λ_ z=>(nomatch z),λ_ z=>(nomatch z),λ_ _ z=>nomatch z⟩
 rcases Xb.mp hb with rfl|hb
 .exact⟨_,h.al,λ_ z=>(nomatch z),λ_ z=>(nomatch z),λ_ _ z=>nomatch z⟩
 rcases Xb.mp hb with rfl|hb
 .exact⟨_,h.kl,λ_ z=>(nomatch z),λ_ z=>(nomatch z),λ_ _ z=>nomatch z⟩
 obtain⟨n,hn,rfl|rfl⟩:=lD hb
 .exact⟨_,h.ak n hn,λ_ z=>(nomatch z),λ_ z=>(nomatch z),λ_ _ z=>nomatch z⟩
 .exact⟨_,h.sp n hn,λ_ z=>(nomatch z),λ_ z=>(nomatch z),λ_ _ z=>nomatch z⟩
theorem LvSh.setSp{n:Nd}{sp:List (Key×V)}(h:LvSh C H L)(hi:L.ns[i]?=some n)(k:KT H H')(f:∀b∈L.own,b≠n.ka->∀o,H b=some o->H' b=some o)(e:H' n.ka=some (.dK sp)):LvSh C H' (L.setSp i n sp):=by
 have ni:=WR hi;have AI:=h.sp n ni;have m1:L.x∈L.own:=WY ..;have m2:L.tl∈L.own:=WQ _ (WY ..);have m3:L.al∈L.own:=WQ _ (WQ _ (WY ..));have m4:L.kl∈L.own:=WQ _ (WQ _ (WQ _ (WY ..)));have m5:∀b∈dcts L.ns,b∈L.own:=λb hb=>WQ _ (WQ _ (WQ _ (WQ _ hb)));refine⟨f _ m1 (aA h.ins AI (λz=>nomatch z)) _ h.ins,(f _ m2 (aA h.tl AI (λz=>nomatch z)) _ h.tl).trans ?_,(f _ m3 (aA h.al AI (λz=>nomatch z)) _ h.al).trans ?_,(f _ m4 (aA h.kl AI (λz=>nomatch z)) _ h.kl).trans ?_,λm hm=>?_,λm hm=>?_,λm hm=>?_,h.n1,h.n2,h.n3,?_,?_⟩
 .exact h! (λl=>some (HO.lst l)) (map_set (λn:Nd=>i! n.ta) (b:={n with sp:=sp}) hi rfl).symm
 .exact h! (λl=>some (HO.lst l)) (map_set (λn:Nd=>i! n.aa) (b:={n with sp:=sp}) hi rfl).symm
 .exact h! (λl=>some (HO.lst l)) (map_set (λn:Nd=>i! n.ka) (b:={n with sp:=sp}) hi rfl).symm
 .rcases mem_set hm with rfl|⟨j,hj,hm⟩
  .exact(h.tr n ni).mono k
  .exact(h.tr m (WR hm)).mono k
 .rcases mem_set hm with rfl|⟨j,hj,hm⟩
  .exact f _ (m5 _ (cZ ni)) (iE h.nd hi) _ (h.ak n ni)
  .have mm:=WR hm;exact f _ (m5 _ (cZ mm)) (j7 h.nd hi hm hj).2.1 _ (h.ak m mm)
 .rcases mem_set hm with rfl|⟨j,hj,hm⟩
  .exact e
  .have mm:=WR hm;exact f _ (m5 _ (cN mm)) (j7 h.nd hi hm hj).2.2.2 _ (h.sp m mm)
 .show(dcts (L.ns.set i _)).Nodup;rw[iP (b:={n with sp:=sp}) hi rfl rfl];exact h.nd
 .show((L.ns.set i _).map _).Nodup;rw[map_set (λn:Nd=>n.t) (b:={n with sp:=sp}) hi rfl];exact h.un
theorem LvSh.setAsk{n:Nd}{ask:List (Key×V)}(h:LvSh C H L)(hi:L.ns[i]?=some n)(k:KT H H')(f:∀b∈L.own,b≠n.aa->∀o,H b=some o->H' b=some o)(e:H' n.aa=some (.dK ask)):LvSh C H' (L.setAsk i n ask):=by
 have ni:=WR hi;have AI:=h.ak n ni;have m1:L.x∈L.own:=WY ..;have m2:L.tl∈L.own:=WQ _ (WY ..);have m3:L.al∈L.own:=WQ _ (WQ _ (WY ..));have m4:L.kl∈L.own:=WQ _ (WQ _ (WQ _ (WY ..)));have m5:∀b∈dcts L.ns,b∈L.own:=λb hb=>WQ _ (WQ _ (WQ _ (WQ _ hb)));refine⟨f _ m1 (aA h.ins AI (λz=>nomatch z)) _ h.ins,(f _ m2 (aA h.tl AI (λz=>nomatch z)) _ h.tl).trans ?_,(f _ m3 (aA h.al AI (λz=>nomatch z)) _ h.al).trans ?_,(f _ m4 (aA h.kl AI (λz=>nomatch z)) _ h.kl).trans ?_,λm hm=>?_,λm hm=>?_,λm hm=>?_,h.n1,h.n2,h.n3,?_,?_⟩
 .exact h! (λl=>some (HO.lst l)) (map_set (λn:Nd=>i! n.ta) (b:={n with ask:=ask}) hi rfl).symm
 .exact h! (λl=>some (HO.lst l)) (map_set (λn:Nd=>i! n.aa) (b:={n with ask:=ask}) hi rfl).symm
 .exact h! (λl=>some (HO.lst l)) (map_set (λn:Nd=>i! n.ka) (b:={n with ask:=ask}) hi rfl).symm
 .rcases mem_set hm with rfl|⟨j,hj,hm⟩
  .exact(h.tr n ni).mono k
  .exact(h.tr m (WR hm)).mono k
 .rcases mem_set hm with rfl|⟨j,hj,hm⟩
  .exact e
  .have mm:=WR hm;exact f _ (m5 _ (cZ mm)) (j7 h.nd hi hm hj).1 _ (h.ak m mm)
 .rcases mem_set hm with rfl|⟨j,hj,hm⟩
  .exact f _ (m5 _ (cN ni)) (iE h.nd hi).symm _ (h.sp n ni)
  .have mm:=WR hm;exact f _ (m5 _ (cN mm)) (j7 h.nd hi hm hj).2.2.1 _ (h.sp m mm)
 .show(dcts (L.ns.set i _)).Nodup;rw[iP (b:={n with ask:=ask}) hi rfl rfl];exact h.nd
 .show((L.ns.set i _).map _).Nodup;rw[map_set (λn:Nd=>n.t) (b:={n with ask:=ask}) hi rfl];exact h.un
structure Grow(B B':Lv):Prop where
 x:B'.x=B.x
 dx:B'.dx=B.dx
 tl:B'.tl=B.tl
 al:B'.al=B.al
 kl:B'.kl=B.kl
 ns:∀(j:Nat)(m:Nd),B.ns[j]?=some m->∃m',B'.ns[j]?=some m'/\m'.t=m.t/\m'.aa=m.aa/\m'.ka=m.ka/\∀k,(aG m.ask k).isSome=true->(aG m'.ask k).isSome=true
theorem Grow.refl:Grow B B:=⟨rfl,rfl,rfl,rfl,rfl,λj m h=>⟨m,h,rfl,rfl,rfl,λ_ z=>z⟩⟩
theorem Grow.trans{A C:Lv}(h:Grow A B)(k:Grow B C):Grow A C:=by
 refine⟨k.x.trans h.x,k.dx.trans h.dx,k.tl.trans h.tl,k.al.trans h.al,k.kl.trans h.kl,λj m e=>?_⟩;obtain⟨m1,a1,a2,a3,a4,a5⟩:=h.ns j m e;obtain⟨m2,b1,b2,b3,b4,b5⟩:=k.ns j m1 a1;exact⟨m2,b1,b2.trans a2,b3.trans a3,b4.trans a4,λk z=>b5 k (a5 k z)⟩
theorem Grow.add{t:Th}{aa ka:WT}:Grow B (B.add t ta aa ka):=⟨rfl,rfl,rfl,rfl,rfl,λj m h=>⟨m,by
 show(B.ns++[_])[j]?=_;rw[XA (glE h)];exact h,rfl,rfl,rfl,λ_ z=>z⟩⟩
theorem Grow.setAsk{n:Nd}{k:Key}(hi:B.ns[i]?=some n):Grow B (B.setAsk i n (putK n.ask k v)):=by
 refine⟨rfl,rfl,rfl,rfl,rfl,λj m h=>?_⟩;by_cases e:i=j
 .subst e;rw[hi]at h;cases h;refine⟨{n with ask:=putK n.ask k v},?_,rfl,rfl,rfl,λk' z=>?_⟩
  .show(B.ns.set i _)[i]?=_;rw[X2 (glE hi)]
  .show(aG (putK n.ask k v) k').isSome=true;rw[bW];split
   .rfl
   .exact z
 .refine⟨m,?_,rfl,rfl,rfl,λ_ z=>z⟩;show(B.ns.set i _)[j]?=_;rw[Yq e];exact h
theorem Grow.dcts(h:Grow B B'):∀b∈BB.dcts B.ns,b∈BB.dcts B'.ns:=λb hb=>by
 obtain⟨m,hm,hb⟩:=lD hb;obtain⟨j,hj⟩:=Xe.mp hm;obtain⟨m',h1,h2,h3,h4,_⟩:=h.ns j m hj;have mm:=WR h1;rcases hb with rfl|rfl
 .rw[<-h3];exact cZ mm
 .rw[<-h4];exact cN mm
def SpOk(sp:List (Key×V))(t:Th)(ns:List Nd):Prop:=∀kv∈sp,∃(kid:Int)(j:Nat)(m:Nd),kv=(Xo kid,.int (j:Nat))/\ns[j]?=some m/\0<=kid/\t.kids[kid.toNat]?=some m.t
theorem SpOk.mono{sp:List (Key×V)}{t:Th}(h:SpOk sp t B.ns)(g:Grow B B'):SpOk sp t B'.ns:=λkv Ag=>by
 obtain⟨kid,j,m,h1,h2,h3,h4⟩:=h kv Ag;obtain⟨m',a1,a2,_⟩:=g.ns j m h2;exact⟨kid,j,m',h1,a1,h3,by rw[a2];exact h4⟩
theorem SpOk.len{sp:List (Key×V)}{t:Th}(h:SpOk sp t ns)(nd:(sp.map (·.1)).Nodup):sp.length<=t.kids.length:=by
 have:=bT (m:=(Yn t.kids.length).map λi=>(Xo ((i:Nat):Int):Key)) nd λk hk=>by
  obtain⟨kv,Ag,rfl⟩:=Xq.mp hk;obtain⟨kid,j,m,rfl,h2,h3,h4⟩:=h kv Ag;refine Xq.mpr ⟨kid.toNat,ZK.mpr (glE h4),?_⟩;rw[Yd h3]
 rw[WO,WO,List.length_range]at this;exact this
def CDone(sp:List (Key×V))(t:Th)(ns:List Nd)(c:Int×Int):Prop:=∃(j:Nat)(m:Nd),aG sp (Xo c.2)=some (.int (j:Nat))/\ns[j]?=some m/\t.kids[c.2.toNat]?=some m.t/\(aG m.ask (Xo c.1)).isSome=true
theorem CDone.mono{sp EU:List (Key×V)}{t:Th}{c:Int×Int}(h:CDone sp t B.ns c)(g:Grow B B')(hs:∀k v,aG sp k=some v->aG EU k=some v):CDone EU t B'.ns c:=by
 obtain⟨j,m,h1,h2,h3,h4⟩:=h;obtain⟨m',a1,a2,_,_,a5⟩:=g.ns j m h2;exact⟨j,m',hs _ _ h1,a1,by rw[a2];exact h3,a5 _ h4⟩
def jF(p:Th)(kvs:List (List Key×V)):Prop:=(∀kv∈kvs,∃c∈callsOf (p.pl []),kv.1=ky c.2)/\∀c∈callsOf (p.pl []),∃kv∈kvs,kv.1=ky c.2
structure HandC(C:WT)(H:Hp)(L:Lv)(i:Nat)(n:Nd)(B:Lv):Prop where
 lv:LvSh C H L
 hi:L.ns[i]?=some n
 bn:LvSh C H B
 dis:∀b∈L.own,b∉B.own
def hS(n:Nd)(B:Lv):List WT:=n.ka::B.tl::B.al::B.kl::dcts B.ns
structure HandI(C:WT)(Dp:DP)(ins:List (Xk×Int))(rows:List (List Th))(head:Th)(ok:Th->Prop)(H:Hp)(L:Lv)(i:Nat)(n:Nd)(B:Lv)(Hg:Hp)(B':Lv)(sp:List (Key×V)):Prop where
 ktd:KTD H Hg
 fr:FrB (hS n B) H Hg
 lv:LvSh C Hg (L.setSp i n sp)
 bn:LvSh C Hg B'
 gr:Grow B B'
 fresh:∀b∈B'.own,b∈B.own\/H b=none
 good:∀m∈B'.ns,GoodNd Dp ins rows head ok Hg m
 spk:SpOk sp n.t B'.ns
 spn:(sp.map (·.1)).Nodup
structure Fz2(aa d:WT)(o1 o2:YF)(ask:List (Key×V))(kvs:List (List Key×V))(Hg H:Hp):Prop where
 eq:∀b,b≠aa->b≠d->H b=Hg b
 fa:H aa=some (.frz o1 (.dK ask))
 fd:H d=some (.frz o2 (.dT kvs))
 ga:Hg aa=some (.dK ask)
 gd:Hg d=some (.dT kvs)
def thw(aa d:WT)(Hg H:Hp):Hp:=λb=>if b=aa\/b=d then Hg b else H b
theorem fQ{aa:WT}{Hg:Hp}(h1:b≠aa)(h2:b≠d):thw aa d Hg H b=H b:=a! λz=>z.elim h1 h2
theorem ji{aa:WT}{Hg:Hp}(h:b=aa\/b=d):thw aa d Hg H b=Hg b:=b! h
section
variable{head:Th}{ok:Th->Prop}{n:Nd}{Hg:Hp}{sp:List (Key×V)}
theorem HandC.start(c:HandC C H L i n B)(h0:n.sp=[])(hg:∀m∈B.ns,GoodNd Dp ins rows head ok H m):HandI C Dp ins rows head ok H L i n B H B []:=by
 refine⟨KTD.refl,FrB.refl,?_,c.bn,Grow.refl,λb hb=>.inl hb,hg,λkv h=>(by cases h),YT⟩;refine c.lv.setSp c.hi (λ_ _ e=>e) (λb _ _ o e=>e) ?_;rw[c.lv.sp n (WR c.hi),h0]
theorem jj(hi:L.ns[i]?=some n)(sp:List (Key×V)):(L.setSp i n sp).own=L.own:=by
 unfold Lv.own;show L.x::L.tl::L.al::L.kl::dcts (L.ns.set i _)=_;rw[iP (b:={n with sp:=sp}) hi rfl rfl]
theorem HandI.ka(c:HandC C H L i n B)(I:HandI C Dp ins rows head ok H L i n B Hg B' sp):Hg n.ka=some (.dK sp):=I.lv.sp {n with sp:=sp} (WR (X2 (Xw.mp c.hi).1))
theorem HandI.aa(c:HandC C H L i n B)(I:HandI C Dp ins rows head ok H L i n B Hg B' sp):Hg n.aa=some (.dK n.ask):=I.lv.ak {n with sp:=sp} (WR (X2 (Xw.mp c.hi).1))
theorem HandI.dis(c:HandC C H L i n B)(I:HandI C Dp ins rows head ok H L i n B Hg B' sp):∀b∈L.own,b∉B'.own:=λb hb z=>by
 rcases I.fresh b z with h|h
 .exact c.dis b hb h
 .obtain⟨o,e,_⟩:=cw c.lv hb;rw[h]at e;cases e
theorem fh{n:Nd}(h:n∈L.ns):n.aa∈L.own:=WQ _ (WQ _ (WQ _ (WQ _ (cZ h))))
theorem lm{n:Nd}(h:n∈L.ns):n.ka∈L.own:=WQ _ (WQ _ (WQ _ (WQ _ (cN h))))
theorem cF:∀b∈[L.tl,L.al,L.kl],b∈L.own:=λb hb=>by
 rcases Xb.mp hb with rfl|hb
 .exact WQ _ (WY ..)
 rcases Xb.mp hb with rfl|hb
 .exact WQ _ (WQ _ (WY ..))
 .rw[WZ.mp hb];exact WQ _ (WQ _ (WQ _ (WY ..)))
theorem HandI.new(c:HandC C H L i n B)(I:HandI C Dp ins rows head ok H L i n B Hg B' sp)(h:Hg a=none):H a=none:=by
 cases e:H a with
 |none=>rfl
 | some o =>
   by_cases hs:a∈hS n B
   .rcases Xb.mp hs with rfl|hs
    .rw[I.ka c]at h;cases h
    .have ho:a∈B'.own:=by
      have e1:=I.gr.tl;have e2:=I.gr.al;have e3:=I.gr.kl;rcases Xb.mp hs with rfl|hs
      .exact cF _ (by rw[<-e1];exact WY ..)
      rcases Xb.mp hs with rfl|hs
      .exact cF _ (by rw[<-e2];exact WQ _ (WY ..))
      rcases Xb.mp hs with rfl|hs
      .exact cF _ (by rw[<-e3];exact WQ _ (WQ _ (WY ..)))
      .exact WQ _ (WQ _ (WQ _ (WQ _ (I.gr.dcts _ hs))))
     obtain⟨o',e',_⟩:=cw I.bn ho;rw[h]at e';cases e'
   .rw[I.fr a o hs e]at h;cases h
theorem HandI.spot(c:HandC C H L i n B)(I:HandI C Dp ins rows head ok H L i n B Hg B' sp){o1 o2:YF}{H5:Hp}(z:Fz2 n.aa d o1 o2 n.ask kvs Hg H4){B2:Lv}{h:Th}{pa:WT}{kid:Int}
 (hB:LvSh C H5 B2) (Ek:B2=B'\/∃a k,H4 a=none/\H4 k=none/\B2=B'.add h pa a k) (hj:B2.ns[j]?=some m) (hm:m.t=h) (fr:FrB [B'.tl,B'.al,B'.kl] H4 H5) (hk:n.t.kids[kid.toNat]?=some h) (k0:0<=kid) (BL:aG sp (Xo kid)=none) (hok:ok h) :
 H5 n.ka=some (.dK sp)/\Fz2 n.aa d o1 o2 n.ask kvs (thw n.aa d Hg (upd H5 n.ka (.dK (putK sp (Xo kid) (.int (j:Nat)))))) (upd H5 n.ka (.dK (putK sp (Xo kid) (.int (j:Nat))))) /\
  HandI C Dp ins rows head ok H L i n B (thw n.aa d Hg (upd H5 n.ka (.dK (putK sp (Xo kid) (.int (j:Nat)))))) B2 (putK sp (Xo kid) (.int (j:Nat))):=by
 have ni:=WR c.hi;have MM:=fh ni;have MN:=lm ni;have AQ:=I.ka c;have ON:n.aa≠n.ka:=iE c.lv.nd c.hi;have Fw:n.ka≠d:=aA AQ z.gd (λz=>nomatch z);have had:n.aa≠d:=aA z.ga z.gd (λz=>nomatch z);have Wk:H4 n.ka=some (.dK sp):=(z.eq _ ON.symm Fw).trans AQ;have nl:∀b,b∈L.own->b∉[B'.tl,B'.al,B'.kl]:=λb hb hz=>I.dis c b hb (cF b hz)
 have nd:d∉[B'.tl,B'.al,B'.kl]:=λhz=>by
  obtain⟨o,e,_,h2,_⟩:=cw I.bn (cF d hz);rw[z.gd]at e;exact h2 _ (Xf e).symm
 have MO:H5 n.ka=some (.dK sp):=fr _ _ (nl _ MN) Wk;have Te:=fr _ _ (nl _ MM) z.fa;have OO:=fr _ _ nd z.fd
 have g2:Grow B' B2:=by
  rcases Ek with rfl|⟨_,_,_,_,rfl⟩
  .exact Grow.refl
  .exact Grow.add
 have FT:∀b∈B2.own,b∈B'.own\/Hg b=none:=λb hb=>by
  rcases Ek with rfl|⟨a,k,ha,BD,rfl⟩
  .exact .inl hb
  .have non:∀x,H4 x=none->Hg x=none:=λx hx=>by
    rw[<-z.eq x (λe=>by rw[e,z.fa]at hx;cases hx) (λe=>by rw[e,z.fd]at hx;cases hx)];exact hx
   have Bo:b∈B'.x::B'.tl::B'.al::B'.kl::dcts (B'.ns++[⟨h,pa,a,k,[],[]⟩]):=hb;rw[jS]at Bo;have Bg:b∈B'.own++[a,k]:=by simpa[Lv.own,dcts]using Bo
   rcases W7.mp Bg with h1|h1
   .exact .inl h1
   .rcases Xb.mp h1 with rfl|h1
    .exact .inr (non _ ha)
    .rw[WZ.mp h1];exact .inr (non _ BD)
 have Ko:∀b∈L.own,b∉B2.own:=λb hb hz=>by
  rcases FT b hz with h1|h1
  .exact I.dis c b hb h1
  .obtain⟨o,e,_⟩:=cw I.lv (by rw[jj c.hi];exact hb);rw[h1]at e;cases e
 generalize Kp:putK sp (Xo kid) (.int (j:Nat))=EU;generalize Tf:upd H5 n.ka (.dK EU)=H6;have Wl:H6 n.ka=some (.dK EU):=by rw[<-Tf,ad]
 have e6:∀b,b≠n.ka->H6 b=H5 b:=λb hb=>by rw[<-Tf,af hb]
 have Wm:=(e6 _ ON).trans Te;have Wn:=(e6 _ Fw.symm).trans OO
 have pass:∀b o,Hg b=some o->b∉[B'.tl,B'.al,B'.kl]->b≠n.ka->thw n.aa d Hg H6 b=some o:=λb o e hb Wo=>by
  by_cases hz:b=n.aa\/b=d
  .rw[ji hz];exact e
  .have h1:b≠n.aa:=λy=>hz (.inl y);have h2:b≠d:=λy=>hz (.inr y);rw[fQ h1 h2,e6 b Wo];exact fr b o hb ((z.eq b h1 h2).trans e)
 have Kq:∀b o,Hg b=some o->((∃xs,o=.tup xs)\/∃k,o=.dT k)->b∉[B'.tl,B'.al,B'.kl]/\b≠n.ka:=λb o e ho=>by
  refine⟨λhz=>?_,λhz=>?_⟩
  .obtain⟨o',e',h1,h2,_⟩:=cw I.bn (cF b hz);rw[e]at e';cases e';rcases ho with⟨xs,rfl⟩|⟨k,rfl⟩
   .exact h1 _ rfl
   .exact h2 _ rfl
  .rw[hz,AQ]at e;cases e;rcases ho with⟨xs,z⟩|⟨k,z⟩ <;> cases z
 have ktd:KTD Hg (thw n.aa d Hg H6):=⟨λb xs e=>by obtain⟨h1,h2⟩:=Kq b _ e (.inl ⟨xs,rfl⟩);exact pass b _ e h1 h2,λb k e=>by obtain⟨h1,h2⟩:=Kq b _ e (.inr ⟨k,rfl⟩);exact pass b _ e h1 h2⟩;refine⟨MO,⟨λb h1 h2=>(fQ h1 h2).symm,Wm,Wn,(ji (.inl rfl)).trans z.ga,(ji (.inr rfl)).trans z.gd⟩,I.ktd.trans ktd,λb o hb e=>?_,?_,?_,I.gr.trans g2,λb hb=>?_,λm' C5=>?_,?_,?_⟩
 .refine pass b o (I.fr b o hb e) (λhz=>hb ?_) (λhz=>hb (by rw[hz];exact WY ..));rw[I.gr.tl,I.gr.al,I.gr.kl]at hz;refine WQ _ ?_;have:b∈[B.tl,B.al,B.kl]++dcts B.ns:=Xi _ hz;exact this
 .have Cq:(L.setSp i n sp).ns[i]?=some {n with sp:=sp}:=X2 (Xw.mp c.hi).1;have:=LvSh.setSp (sp:=EU) (H':=thw n.aa d Hg H6) I.lv Cq ktd.tup (λb hb Ay o e=>pass b o e (nl b (by rw[jj c.hi]at hb;exact hb)) Ay) ((fQ ON.symm Fw).trans Wl)
  have e:(L.setSp i n sp).setSp i {n with sp:=sp} EU=L.setSp i n EU:=by
   unfold Lv.setSp;simp only[List.set_set]
  rw[e]at this;exact this
 .refine hB.keep (λb xs e=>?_) (λb hb o e=>?_)
  .have h1:b≠n.aa:=aA e Te (λz=>nomatch z);have h2:b≠d:=aA e OO (λz=>nomatch z);rw[fQ h1 h2,e6 b (aA e MO (λz=>nomatch z))];exact e
  .have h1:b≠n.aa:=λy=>Ko _ MM (y ▸ hb);have h2:b≠n.ka:=λy=>Ko _ MN (y ▸ hb)
   have h3:b≠d:=λy=>by
    obtain⟨o',e',_,_,h3⟩:=cw hB hb;rw[y,OO]at e';exact h3 _ _ (Xf e').symm
   rw[fQ h1 h3,e6 b h2];exact e
 .rcases FT b hb with h1|h1
  .exact I.fresh b h1
  .exact .inr (I.new c h1)
 .rcases Ek with rfl|⟨a,k,_,_,rfl⟩
  .exact(I.good m' C5).mono ktd
  .rcases W7.mp C5 with h1|h1
   .exact(I.good m' h1).mono ktd
   .rw[WZ.mp h1];exact⟨λkv Ag=>(by cases Ag),YT,rfl,hok,λkv Ag=>(by cases Ag)⟩
 .intro kv Ag;rw[<-Kp]at Ag;rcases iT Ag with rfl|⟨h1,_⟩
  .exact⟨kid,j,m,rfl,hj,k0,by rw[hm];exact hk⟩
  .exact(I.spk.mono g2) kv h1
 .rw[<-Kp];exact lM I.spn _ _
theorem HandI.ask(c:HandC C H L i n B)(I:HandI C Dp ins rows head ok H L i n B Hg B' sp){o1 o2:YF}{H7:Hp}(z:Fz2 n.aa d o1 o2 n.ask kvs Hg H4)(s7:j! H4 H7){s':Int}{da:WT}
 (hj:B'.ns[j]?=some m) (Wq:0<=s') (pat:d3 ins rows head s' m.t p') (dg:DgAt Dp Hg p' da) :
 H7 m.aa=some (.dK m.ask)/\Fz2 n.aa d o1 o2 n.ask kvs (thw n.aa d Hg (upd H7 m.aa (.dK (putK m.ask (Xo s') (.ref da))))) (upd H7 m.aa (.dK (putK m.ask (Xo s') (.ref da)))) /\
  HandI C Dp ins rows head ok H L i n B (thw n.aa d Hg (upd H7 m.aa (.dK (putK m.ask (Xo s') (.ref da))))) (B'.setAsk j m (putK m.ask (Xo s') (.ref da))) sp:=by
 have ni:=WR c.hi;have mj:=WR hj;have MM:=fh ni;have MN:=lm ni;have MP:=fh mj;have Kr:=I.bn.ak m mj;have OP:m.aa≠n.aa:=λy=>I.dis c _ MM (y ▸ MP);have hmk:m.aa≠n.ka:=λy=>I.dis c _ MN (y ▸ MP);have GL:m.aa≠d:=aA Kr z.gd (λz=>nomatch z);have OQ:H7 m.aa=some (.dK m.ask):=s7 _ _ ((z.eq _ OP GL).trans Kr);have Wr:=s7 _ _ z.fa;have Ws:=s7 _ _ z.fd;have g2:Grow B' (B'.setAsk j m (putK m.ask (Xo s') (.ref da))):=Grow.setAsk hj;generalize BD:putK m.ask (Xo s') (.ref da)=ask' at g2 |-;generalize Tg:upd H7 m.aa (.dK ask')=H8;have Wt:H8 m.aa=some (.dK ask'):=by rw[<-Tg,ad]
 have e8:∀b,b≠m.aa->H8 b=H7 b:=λb hb=>by rw[<-Tg,af hb]
 have Wu:=(e8 _ OP.symm).trans Wr;have Wv:=(e8 _ GL.symm).trans Ws
 have pass:∀b o,Hg b=some o->b≠m.aa->thw n.aa d Hg H8 b=some o:=λb o e hb=>by
  by_cases hz:b=n.aa\/b=d
  .rw[ji hz];exact e
  .have h1:b≠n.aa:=λy=>hz (.inl y);have h2:b≠d:=λy=>hz (.inr y);rw[fQ h1 h2,e8 b hb];exact s7 b o ((z.eq b h1 h2).trans e)
 have ktd:KTD Hg (thw n.aa d Hg H8):=⟨λb xs e=>pass b _ e (aA e Kr (λz=>nomatch z)),λb k e=>pass b _ e (aA e Kr (λz=>nomatch z))⟩
 have FT:(B'.setAsk j m ask').own=B'.own:=by
  unfold Lv.own;show B'.x::B'.tl::B'.al::B'.kl::dcts (B'.ns.set j _)=_;rw[iP (b:={m with ask:=ask'}) hj rfl rfl]
 refine⟨OQ,⟨λb h1 h2=>(fQ h1 h2).symm,Wu,Wv,(ji (.inl rfl)).trans z.ga,(ji (.inr rfl)).trans z.gd⟩,I.ktd.trans ktd,λb o hb e=>?_,?_,?_,I.gr.trans g2,λb hb=>I.fresh b (by rw[FT]at hb;exact hb),λm' C5=>?_,I.spk.mono g2,I.spn⟩
 .by_cases MQ:b=m.aa
  .rcases I.fresh b (by rw[MQ];exact MP)with h1|h1
   .exfalso;apply hb;rcases Xb.mp h1 with h2|h2
    .obtain⟨o',e',_⟩:=cw c.bn h1;rw[h2]at MQ;have e1:=I.bn.ins;rw[I.gr.x,MQ,Kr]at e1;cases e1
    .exact WQ _ h2
   .rw[h1]at e;cases e
  .exact pass b o (I.fr b o hb e) MQ
 .refine I.lv.keep ktd.tup (λb hb o e=>pass b o e (λy=>?_));rw[jj c.hi]at hb;exact I.dis c b hb (y ▸ MP)
 .exact I.bn.setAsk hj ktd.tup (λb hb Ay o e=>pass b o e Ay) ((fQ OP GL).trans Wt)
 .rcases mem_set C5 with rfl|⟨j',BW,Ww⟩
  .have g:=I.good m mj;refine⟨λkv Ag=>?_,?_,g.sp,g.ok,λkv Ag=>?_⟩
   .have Dq:kv∈ask':=Ag;rw[<-BD]at Dq;rcases iT Dq with rfl|⟨h1,_⟩
    .exact⟨s',p',da,rfl,rfl,pat,dg.mono ktd⟩
    .exact(g.ask.mono ktd) kv h1
   .show(ask'.map _).Nodup;rw[<-BD];exact lM g.nd _ _
   .have Dq:kv∈ask':=Ag;rw[<-BD]at Dq;rcases iT Dq with rfl|⟨h1,_⟩
    .exact⟨s',rfl,Wq⟩
    .exact g.pos kv h1
  .exact(I.good m' (WR Ww)).mono ktd
end
theorem Ats.get'{as:List WT}(h:Ats H ts as){t:Th}(hi:ts[i]?=some t):∃a,as[i]?=some a/\At H t a:=by
 have hl:=h.length;have Ae:=(glE hi);obtain⟨a,ha⟩:∃a,as[i]?=some a:=⟨_,WS (by omega)⟩;obtain⟨t',ht,hA⟩:=h.get ha;rw[hi]at ht;cases ht;exact⟨a,ha,hA⟩
def EDone(Dp:DP)(ins:List (Xk×Int))(rows:List (List Th))(head:Th)(H:Hp)(t:Th)(sp:List (Key×V))(ns:List Nd)(kv:Key×V):Prop:=∃s p da,AskE Dp ins rows head H t kv s p da/\∀c∈callsOf (p.pl []),CDone sp t ns c.2
theorem EDone.grow{head:Th}{t:Th}{sp EU:List (Key×V)}(h:EDone Dp ins rows head H t sp B.ns kv)(g:Grow B B')(hs:∀k v,aG sp k=some v->aG EU k=some v):EDone Dp ins rows head H t EU B'.ns kv:=by
 obtain⟨s,p,da,h1,h2⟩:=h;exact⟨s,p,da,h1,λc hc=>(h2 c hc).mono g hs⟩
theorem EDone.mono{head:Th}{t:Th}{sp:List (Key×V)}(h:EDone Dp ins rows head H t sp ns kv)(k:KTD H H'):EDone Dp ins rows head H' t sp ns kv:=by
 obtain⟨s,p,da,h1,h2⟩:=h;exact⟨s,p,da,h1.mono k,h2⟩
structure LvCl(Dp:DP)(ins:List (Xk×Int))(rows:List (List Th))(head:Th)(H:Hp)(L:Lv)(Ks:List Nd):Prop where
 ed:∀n∈L.ns,∀kv∈n.ask,EDone Dp ins rows head H n.t n.sp Ks kv
 sp:∀n∈L.ns,SpOk n.sp n.t Ks
 an:∀n∈L.ns,(n.ask.map (·.1)).Nodup
 sn:∀n∈L.ns,(n.sp.map (·.1)).Nodup
 kd:∀n∈L.ns,n.t.kids.length<=100
 ln:L.ns.length<=50000
theorem LvCl.mono{head:Th}{Ks:List Nd}(h:LvCl Dp ins rows head H L Ks)(k:KTD H H'):LvCl Dp ins rows head H' L Ks:=⟨λn hn kv Ag=>(h.ed n hn kv Ag).mono k,h.sp,h.an,h.sn,h.kd,h.ln⟩
theorem LvCl.grow{head:Th}(h:LvCl Dp ins rows head H L B.ns)(g:Grow B B'):LvCl Dp ins rows head H L B'.ns:=⟨λn hn kv Ag=>(h.ed n hn kv Ag).grow g (λ_ _ z=>z),λn hn=>(h.sp n hn).mono g,h.an,h.sn,h.kd,h.ln⟩
def nxt(Ls:List Lv)(k:Nat)(e:List Nd):List Nd:=match Ls[k]? with
 |some L=>L.ns
 |none=>e
structure Okd(W:List Th)(ins:List (Xk×Int))(d:Nat)(h:Th):Prop where
 tall:h.tall<=d
 mem:h∈W
 fit:h.Fit ins
def InW(W:List Th)(t u:Th):Prop:=u∈W\/u=.knot YI [t]
structure NdReady(Dp:DP)(ins:List (Xk×Int))(rows:List (List Th))(head:Th)(W:List Th)(H:Hp)(d:Nat)(n:Nd):Prop where
 sp:n.sp=[]
 nd:(n.ask.map (·.1)).Nodup
 ask:∀kv∈n.ask,∃s p da,AskE Dp ins rows head H n.t kv s p da/\∀c∈callsOf (p.pl []),∃p' h,Step ins rows c.2.1 c.2.2 n.t.kids p' h/\Okd W ins (d - 1) h
 knot:∃nm ks,n.t=.knot nm ks
 kids:n.t.kids.length<=100
 tall:n.t.tall<=d
theorem NdReady.mono{head:Th}{d:Nat}{n:Nd}(h:NdReady Dp ins rows head W H d n)(k:KTD H H'):NdReady Dp ins rows head W H' d n:=⟨h.sp,h.nd,λkv Ag=>by
 obtain⟨s,p,da,h1,h2⟩:=h.ask kv Ag;exact⟨s,p,da,h1.mono k,h2⟩,h.knot,h.kids,h.tall⟩
structure SpUp(L L':Lv):Prop where
 x:L'.x=L.x
 dx:L'.dx=L.dx
 tl:L'.tl=L.tl
 al:L'.al=L.al
 kl:L'.kl=L.kl
 ns:∀j:Nat,(L'.ns[j]?=none/\L.ns[j]?=none)\/∃n sp,L.ns[j]?=some n/\L'.ns[j]?=some {n with sp:=sp}
theorem SpUp.refl:SpUp L L:=⟨rfl,rfl,rfl,rfl,rfl,λj=>by
 cases h:L.ns[j]? with
 |none=>exact .inl ⟨rfl,rfl⟩
 |some n=>exact .inr ⟨n,n.sp,rfl,rfl⟩⟩
theorem SpUp.set(h:SpUp L L'){n:Nd}(hi:L'.ns[i]?=some n)(sp:List (Key×V)):SpUp L (L'.setSp i n sp):=by
 refine⟨h.x,h.dx,h.tl,h.al,h.kl,λj=>?_⟩;by_cases e:i=j
 .subst e;rcases h.ns i with⟨h1,_⟩|⟨m,sp1,h1,h2⟩
  .rw[hi]at h1;cases h1
  .rw[hi]at h2;cases h2;exact .inr ⟨m,sp,h1,X2 (glE hi)⟩
 .have e2:(L'.setSp i n sp).ns[j]?=L'.ns[j]?:=Yq e;rw[e2];exact h.ns j
theorem SpUp.grow(h:SpUp L L'):Grow L L':=by
 refine⟨h.x,h.dx,h.tl,h.al,h.kl,λj m hj=>?_⟩;rcases h.ns j with⟨_,h1⟩|⟨n,sp,h1,h2⟩
 .rw[hj]at h1;cases h1
 .rw[hj]at h1;cases h1;exact⟨_,h2,rfl,rfl,rfl,λ_ z=>z⟩
theorem SpUp.len(h:SpUp L L'):L'.ns.length=L.ns.length:=by
 apply Nat.le_antisymm
 .rcases h.ns L.ns.length with⟨h1,_⟩|⟨n,sp,h1,_⟩
  .exact List.getElem?_eq_none_iff.mp h1
  .have:=(glE h1);omega
 .rcases h.ns L'.ns.length with⟨_,h1⟩|⟨n,sp,_,h1⟩
  .exact List.getElem?_eq_none_iff.mp h1
  .have:=(glE h1);omega
theorem SpUp.dcts(h:SpUp L L'):BB.dcts L'.ns=BB.dcts L.ns:=by
 unfold BB.dcts;rw[List.flatMap_def,List.flatMap_def];congr 1;refine List.ext_getElem? λj=>?_;rw[Xj,Xj];rcases h.ns j with⟨h1,h2⟩|⟨n,sp,h1,h2⟩
 .rw[h1,h2]
 .rw[h1,h2];rfl
theorem SpUp.own(h:SpUp L L'):L'.own=L.own:=by
 unfold Lv.own;rw[h.x,h.tl,h.al,h.kl,h.dcts]
structure RunI(C:WT)(Dp:DP)(ins:List (Xk×Int))(rows:List (List Th))(head:Th)(ok:Th->Prop)(H0:Hp)(L B:Lv)(i:Nat)(H:Hp)(L' B':Lv):Prop where
 ktd:KTD H0 H
 fr:FrB (dcts L.ns++B.own) H0 H
 lv:LvSh C H L'
 up:SpUp L L'
 bn:LvSh C H B'
 gr:Grow B B'
 fresh:∀b∈B'.own,b∈B.own\/H0 b=none
 good:∀m∈B'.ns,GoodNd Dp ins rows head ok H m
 done:∀(j:Nat)(n:Nd),j<i->L'.ns[j]?=some n->(∀kv∈n.ask,EDone Dp ins rows head H n.t n.sp B'.ns kv)/\SpOk n.sp n.t B'.ns/\(n.sp.map (·.1)).Nodup
 todo:∀j,i<=j->L'.ns[j]?=L.ns[j]?
section
variable{head:Th}{ok:Th->Prop}{H0:Hp}
theorem RunI.start(hL:LvSh C H0 L)(hB:LvSh C H0 B)(h0:B.ns=[]):RunI C Dp ins rows head ok H0 L B 0 H0 L B :=
 ⟨KTD.refl,FrB.refl,hL,SpUp.refl,hB,Grow.refl,λb hb=>.inl hb,λm hm=>(by rw[h0]at hm;cases hm),λj n h=>(by cases h),λj _=>rfl⟩
theorem RunI.handC(R:RunI C Dp ins rows head ok H0 L B i H L' B')(hL:LvSh C H0 L)(dis:∀b∈L.own,b∉B.own){n:Nd}(hi:L'.ns[i]?=some n):HandC C H L' i n B':=by
 refine⟨R.lv,hi,R.bn,λb hb hz=>?_⟩;rw[R.up.own]at hb;rcases R.fresh b hz with h|h
 .exact dis b hb h
 .obtain⟨o,e,_⟩:=cw hL hb;rw[h]at e;cases e
theorem RunI.step(R:RunI C Dp ins rows head ok H0 L B i H L' B'){n:Nd}(hi:L'.ns[i]?=some n){B2:Lv}{sp:List (Key×V)}(I:HandI C Dp ins rows head ok H L' i n B' H2 B2 sp)(hd:∀kv∈n.ask,EDone Dp ins rows head H n.t sp B2.ns kv):RunI C Dp ins rows head ok H0 L B (i+1) H2 (L'.setSp i n sp) B2:=by
 refine⟨R.ktd.trans I.ktd,λb o hb e=>I.fr b o (λhz=>hb ?_) (R.fr b o hb e),I.lv,R.up.set hi sp,I.bn,R.gr.trans I.gr,λb hb=>?_,I.good,λj m hj hm=>?_,λj hj=>?_⟩
 .rcases Xb.mp hz with rfl|hz
  .refine Xi _ ?_;rw[<-R.up.dcts];exact cN (WR hi)
  .have Wx:b∈B'.own:=WQ _ hz;rcases R.fresh b Wx with h|h
   .exact Xl _ h
   .rw[h]at e;cases e
 .rcases I.fresh b hb with h|h
  .exact R.fresh b h
  .refine .inr ?_;cases e:H0 b with
   |none=>rfl
   | some o =>
     by_cases hs:b∈dcts L.ns++B.own
     .rcases W7.mp hs with hs|hs
      .rw[<-R.up.dcts]at hs;obtain⟨o',e',_⟩:=cw R.lv (WQ _ (WQ _ (WQ _ (WQ _ hs))));rw[h]at e';cases e'
      .have:b∈B'.own:=by
        rcases Xb.mp hs with rfl|hs
        .rw[<-R.gr.x];exact WY ..
        .rw[show B.tl::B.al::B.kl::dcts B.ns=[B.tl,B.al,B.kl]++dcts B.ns from rfl]at hs;rcases W7.mp hs with hs|hs
         .rw[<-R.gr.tl,<-R.gr.al,<-R.gr.kl]at hs;exact cF b hs
         .exact WQ _ (WQ _ (WQ _ (WQ _ (R.gr.dcts _ hs))))
       obtain⟨o',e',_⟩:=cw R.bn this;rw[h]at e';cases e'
     .rw[R.fr b o hs e]at h;cases h
 .by_cases e:i=j
  .subst e;have C5:(L'.setSp i n sp).ns[i]?=some {n with sp:=sp}:=X2 (glE hi);rw[C5]at hm;cases hm;exact⟨λkv Ag=>(hd kv Ag).mono I.ktd,I.spk,I.spn⟩
  .have e2:(L'.setSp i n sp).ns[j]?=L'.ns[j]?:=Yq e;rw[e2]at hm;obtain⟨h1,h2,h3⟩:=R.done j m (by omega) hm;exact⟨λkv Ag=>((h1 kv Ag).grow I.gr (λ_ _ z=>z)).mono I.ktd,h2.mono I.gr,h3⟩
 .have e2:(L'.setSp i n sp).ns[j]?=L'.ns[j]?:=Yq (by omega);rw[e2];exact R.todo j (by omega)
theorem RunI.closed(R:RunI C Dp ins rows head ok H0 L B L.ns.length H L' B')(hr:∀n∈L.ns,(n.ask.map (·.1)).Nodup)(hk:∀n∈L.ns,n.t.kids.length<=100)(hl:L.ns.length<=50000):LvCl Dp ins rows head H L' B'.ns:=by
 have at':∀n∈L'.ns,∃j,j<L.ns.length/\L'.ns[j]?=some n:=λn hn=>by
  obtain⟨j,hj⟩:=Xe.mp hn;have:=(glE hj);rw[R.up.len]at this;exact⟨j,this,hj⟩
 refine⟨λn hn=>?_,λn hn=>?_,λn hn=>?_,λn hn=>?_,λn hn=>?_,by rw[R.up.len];exact hl⟩
 .obtain⟨j,h1,h2⟩:=at' n hn;exact(R.done j n h1 h2).1
 .obtain⟨j,h1,h2⟩:=at' n hn;exact(R.done j n h1 h2).2.1
 .obtain⟨j,h1,h2⟩:=at' n hn;rcases R.up.ns j with⟨h3,_⟩|⟨m,sp,h3,h4⟩
  .rw[h2]at h3;cases h3
  .rw[h2]at h4;cases h4;exact hr m (WR h3)
 .obtain⟨j,h1,h2⟩:=at' n hn;exact(R.done j n h1 h2).2.2
 .obtain⟨j,h1,h2⟩:=at' n hn;rcases R.up.ns j with⟨h3,_⟩|⟨m,sp,h3,h4⟩
  .rw[h2]at h3;cases h3
  .rw[h2]at h4;cases h4;exact hk m (WR h3)
end
structure Chain(C:WT)(Dp:DP)(ins:List (Xk×Int))(rows:List (List Th))(head:Th)(H:Hp)(Ls:List Lv)(e:List Nd):Prop where
 sh:∀L∈Ls,LvSh C H L
 cl:∀(k:Nat)(L:Lv),Ls[k]?=some L->LvCl Dp ins rows head H L (nxt Ls (k+1) e)
theorem rF{x tl al kl:WT}(hx:H x=none)(Jd:H dx=none)(Ay:dx≠x)(sb:SameB x (upd (upd H dx (.own x)) x (.ins C dx [])) H1)(Ao:(upd (upd H dx (.own x)) x (.ins C dx [])) tl=none)(AR:(upd (upd H dx (.own x)) x (.ins C dx [])) al=none)(AM:(upd (upd H dx (.own x)) x (.ins C dx [])) kl=none)(n1:tl≠al)(n2:tl≠kl)(n3:al≠kl)
 (ex:H1 x=some (.ins C dx (lvF tl al kl))) (e1:H1 tl=some (.lst [])) (e2:H1 al=some (.lst [])) (e3:H1 kl=some (.lst [])):j! H H1/\LvSh C H1 ⟨x,dx,tl,al,kl,[]⟩/\∀b∈(Lv.mk x dx tl al kl []).own,H b=none:=by
 have no:∀b,(upd (upd H dx (.own x)) x (.ins C dx [])) b=none->H b=none:=λb h=>by
  by_cases z:b=x
  .rw[z];exact hx
  .rw[af z]at h;by_cases z2:b=dx
   .rw[z2];exact Jd
   .rw[af z2]at h;exact h
 refine⟨λb o e=>sb b o (ar e hx) (by rw[af (ar e hx),af (ar e Jd)];exact e),⟨ex,e1,e2,e3,λn hn=>(by cases hn),λn hn=>(by cases hn),λn hn=>(by cases hn),n1,n2,n3,YT,YT⟩,λb hb=>?_⟩;have Bo:b=x\/b=tl\/b=al\/b=kl:=by simpa[Lv.own,dcts]using hb
 rcases Bo with rfl|rfl|rfl|rfl
 .exact hx
 .exact no _ Ao
 .exact no _ AR
 .exact no _ AM
def tY(t:Th)(Ls:List Lv):Prop:=∃L0 n0,Ls[0]?=some L0/\L0.ns=[n0]/\n0.t=.knot YI [t]/\(aG n0.ask (Xo (-1))).isSome=true
structure iS(ins:List (Xk×Int))(rows:List (List Th))(head:Th)(W:List Th):Prop where
 wk:∀u∈W,∀k∈u.kids,k∈W
 wl:W.length<=40000
 rl:rows.length<=100
 kids:∀u:Th,u.Fit ins->u.kids.length<=100
 knot:∀u:Th,u.Fit ins->∃nm ks,u=.knot nm ks
 fit:∀u:Th,u.Fit ins->∀k∈u.kids,k.Fit ins
 step:∀(u:Th)(s:Int)(p:Th),u.Fit ins->0<=s->d3 ins rows head s u p->∀c∈callsOf (p.pl []),∃p' h,Step ins rows c.2.1 c.2.2 u.kids p' h
structure LoopI(C:WT)(Dp:DP)(ins:List (Xk×Int))(rows:List (List Th))(head:Th)(W:List Th)(t:Th)(H:Hp)(lv:WT)(mz:Nat)(H4:Hp)(Ls:List Lv)(L:Lv):Prop where
 same:j! H H4
 ls:H4 lv=some (.lst (Ls.map λL=>i! L.x))
 ch:Chain C Dp ins rows head H4 Ls L.ns
 cur:LvSh C H4 L
 rd:∀n∈L.ns,NdReady Dp ins rows head W H4 mz n
 dis:∀M∈Ls,∀b∈M.own,b∉L.own
 lvn:lv∉L.own/\∀M∈Ls,lv∉M.own
 new:H lv=none/\(∀b∈L.own,H b=none)/\∀M∈Ls,∀b∈M.own,H b=none
 top:tY t (Ls++[L])
 len:Ls.length+mz<=140
 cnt:L.ns.length<=50000
 mem:∀M∈Ls,∀n∈M.ns,InW W t n.t
 mec:∀n∈L.ns,InW W t n.t
theorem GoodNd.ready{head:Th}{d:Nat}(T:iS ins rows head W)(g:GoodNd Dp ins rows head (Okd W ins d) H m):NdReady Dp ins rows head W H d m:=by
 obtain⟨nm,ks,hk⟩:=T.knot _ g.ok.fit;refine⟨g.sp,g.nd,λkv Ag=>?_,⟨nm,ks,hk⟩,T.kids _ g.ok.fit,g.ok.tall⟩;obtain⟨s,p,da,hE⟩:=g.ask kv Ag
 have s0:0<=s:=by
  obtain⟨s',h1,h2⟩:=g.pos kv Ag;have:s=s':=Sum.inl.inj (hE.k.symm.trans h1);omega
 refine⟨s,p,da,hE,λc hc=>?_⟩;obtain⟨p',h,st⟩:=T.step _ s p g.ok.fit s0 hE.pat c hc;have hm:h∈m.t.kids:=WR st.2.2.1;refine⟨p',h,st,?_,T.wk _ g.ok.mem _ hm,T.fit _ g.ok.fit _ hm⟩;have h1:=cj hm;have h2:=Th.tall_eq m.t;have h3:=g.ok.tall;omega
theorem LoopI.step{head:Th}{t:Th}{lv:WT}{mz:Nat}{Ls:List Lv}(I:LoopI C Dp ins rows head W t H lv mz H4 Ls L)(T:iS ins rows head W)(Ay:L.ns≠[]){H6 H7:Hp}
 (s6:j! (upd H4 lv (.lst ((Ls.map λL=>i! L.x)++[.ref L.x]))) H6) (Hw:∀b∈B.own,(upd H4 lv (.lst ((Ls.map λL=>i! L.x)++[.ref L.x]))) b=none)
 (R:RunI C Dp ins rows head (Okd W ins (mz - 1)) H6 L B L.ns.length H7 L' B'):mz - 1<mz/\LoopI C Dp ins rows head W t H lv (mz - 1) H7 (Ls++[L']) B':=by
 have mz1:1<=mz:=by
  cases hL:L.ns with
  |nil=>exact g! hL Ay
  | cons n ns =>
    have h1:=(I.rd n (by rw[hL];exact WY ..)).tall;have h2:=Th.tall_eq n.t;omega
 obtain⟨l1,l2⟩:=I.lvn;obtain⟨w1,w2,w3⟩:=I.new;generalize Ti:upd H4 lv (.lst ((Ls.map λL=>i! L.x)++[.ref L.x]))=H5 at s6 Hw;have e5:∀b,b≠lv->H5 b=H4 b:=λb hb=>by rw[<-Ti,af hb]
 have Je:H5 lv=some (.lst ((Ls.map λL=>i! L.x)++[.ref L.x])):=by rw[<-Ti,ad]
 have dL:∀b∈dcts L.ns,b∈L.own:=λb hb=>WQ _ (WQ _ (WQ _ (WQ _ hb)))
 have keep:∀b o,H4 b=some o->b≠lv->b∉L.own->H7 b=some o:=λb o e hb hL=>by
  have OR:=(e5 b hb).trans e;refine R.fr b o (λz=>?_) (s6 _ _ OR);rcases W7.mp z with z|z
  .exact hL (dL b z)
  .rw[Hw b z]at OR;cases OR
 have ktd:KTD H4 H7:=by
  have a:KTD H4 H5:=⟨λb xs e=>(e5 b (aA e I.ls (λz=>nomatch z))).trans e,λb xs e=>(e5 b (aA e I.ls (λz=>nomatch z))).trans e⟩;exact(a.trans (KTD.of s6)).trans R.ktd
 have Kt:∀b∈L.own,∃o,H6 b=some o:=λb hb=>by
  obtain⟨o,e,_⟩:=cw I.cur hb;exact⟨o,s6 _ _ ((e5 b (λz=>l1 (z ▸ hb))).trans e)⟩
 have Ku:∀M∈Ls,∀b∈M.own,∃o,H6 b=some o/\H5 b=some o:=λM hM b hb=>by
  obtain⟨o,e,_⟩:=cw (I.ch.sh M hM) hb;have:=(e5 b (λz=>l2 M hM (z ▸ hb))).trans e;exact⟨o,s6 _ _ this,this⟩
 have hlen:(Ls++[L']).length=Ls.length+1:=by rw[W6];rfl
 refine⟨by omega,λb o e=>keep b o (I.same b o e) (ar e w1) (λz=>by rw[w2 b z]at e;cases e),?_,⟨λM hM=>?_,λk M hk=>?_⟩,R.bn,λm hm=>(R.good m hm).ready T,λM hM b hb hz=>?_,⟨λhz=>?_,λM hM=>?_⟩,⟨w1,λb hb=>?_,λM hM b hb=>?_⟩,?_,by rw[hlen];have:=I.len;omega,?_,λM hM n hn=>?_,λn hn=>.inl (R.good n hn).ok.mem⟩
 .refine(R.fr _ _ (λz=>?_) (s6 _ _ Je)).trans ?_
  .rcases W7.mp z with z|z
   .exact l1 (dL _ z)
   .rw[Hw _ z]at Je;cases Je
  .rw[W9,XH,ZA,R.up.x]
 .rcases W7.mp hM with hM|hM
  .exact(I.ch.sh M hM).keep ktd.tup λb hb o e=>keep b o e (λz=>l2 M hM (z ▸ hb)) (I.dis M hM b hb)
  .rw[WZ.mp hM];exact R.lv
 .by_cases AM:k<Ls.length
  .rw[XA AM]at hk;have h0:=(I.ch.cl k M hk).mono ktd;unfold nxt at h0 |-;by_cases EV:k+1<Ls.length
   .rw[XA EV];rw[WS EV]at h0 |-;exact h0
   .have e1:Ls[k+1]?=none:=Yw (by omega);rw[e1]at h0;rw[XX (by omega),show k+1 - Ls.length=0 by omega];exact h0.grow R.up.grow
  .have Bb:=(glE hk);have e1:k=Ls.length:=by omega
   subst e1;rw[XX (W2 _),Nat.sub_self]at hk;have ES:L'=M:=Xf hk;rw[<-ES];unfold nxt;rw[Yw (by omega)];exact R.closed (λn hn=>(I.rd n hn).nd) (λn hn=>(I.rd n hn).kids) I.cnt
 .rcases W7.mp hM with hM|hM
  .obtain⟨o,h6,h5⟩:=Ku M hM b hb;rcases R.fresh b hz with z|z
   .rw[Hw b z]at h5;cases h5
   .rw[z]at h6;cases h6
  .rw[WZ.mp hM,R.up.own]at hb;obtain⟨o,h6⟩:=Kt b hb;rcases R.fresh b hz with z|z
   .have:=Hw b z;obtain⟨o',e',_⟩:=cw I.cur hb;rw[e5 b (λz=>l1 (z ▸ hb)),e']at this;cases this
   .rw[z]at h6;cases h6
 .rcases R.fresh _ hz with z|z
  .rw[Hw _ z]at Je;cases Je
  .rw[s6 _ _ Je]at z;cases z
 .rcases W7.mp hM with hM|hM
  .exact l2 M hM
  .rw[WZ.mp hM,R.up.own];exact l1
 .cases e:H b with
  |none=>rfl
  | some o =>
    have h5:=(e5 b (ar e w1)).trans (I.same b o e);rcases R.fresh b hb with z|z
    .rw[Hw b z]at h5;cases h5
    .rw[s6 _ _ h5]at z;cases z
 .rcases W7.mp hM with hM|hM
  .exact w3 M hM b hb
  .rw[WZ.mp hM,R.up.own]at hb;exact w2 b hb
 .obtain⟨L0,n0,h1,h2,h3,h4⟩:=I.top;cases Ls with
  |cons M Ms=>exact⟨L0,n0,h1,h2,h3,h4⟩
  | nil =>
    have Jf:L=L0:=Xf h1;subst Jf;have hl:=R.up.len;rw[h2]at hl;rcases R.up.ns 0 with⟨_,z⟩|⟨n,sp,z1,z2⟩
    .rw[h2]at z;cases z
    .rw[h2]at z1;have hn:n0=n:=Xf z1;subst hn;refine⟨L',{n0 with sp:=sp},rfl,?_,h3,h4⟩;cases Dh:L'.ns with
     |nil=>rw[Dh]at hl;cases hl
     | cons a as =>
       rw[Dh]at z2 hl;have ha:a={n0 with sp:=sp}:=Xf z2;cases as with
       |nil=>rw[ha]
       |cons b bs=>simp at hl
 .have h1:=bT (m:=W) R.bn.un λu hu=>by
   obtain⟨m',C5,rfl⟩:=Xq.mp hu;exact(R.good m' C5).ok.mem
  have h2:=T.wl;rw[WO]at h1;omega
 .rcases W7.mp hM with h|h
  .exact I.mem M h n hn
  .rw[WZ.mp h]at hn;obtain⟨j,hj⟩:=Xe.mp hn;rcases R.up.ns j with⟨z,_⟩|⟨m,sp,z1,z2⟩
   .rw[hj]at z;cases z
   .rw[hj]at z2;cases z2;exact I.mec m (WR z1)
theorem oC{head:Th}(g:bq ins){s:Int}{u:Th}(h:d3 ins rows head s u p)(h':d3 ins rows head s u p'):p=p':=by
 rcases h with⟨h1,h2,_⟩|⟨h0,m,hs,c,j,row,h1,h2,h3,h4⟩
 .rcases h' with⟨_,k2,_⟩|⟨k0,_⟩
  .rw[h2,k2]
  .omega
 .rcases h' with⟨k1,_⟩|⟨_,m',Hh,c',j',Cu,k1,k2,k3,k4⟩
  .omega
  .rw[h1]at k1;cases k1;have:=g.nd _ _ _ _ h2 k2 rfl;subst this;rw[h3]at k3;cases k3;rw[h4]at k4;cases k4;rfl
def VRt(ins:List (Xk×Int))(rows:List (List Th))(head:Th)(s:Int)(u:Th)(v:Int):Prop:=∀p o,d3 ins rows head s u p->Out ins rows p u o->v=(o.tall:Nat)
def Wvt(p:Th)(f:Int->Int->Int)(v:Int):Prop:=MxC f 0 (callsOf (p.pl [])) (p.tall:Nat) v
theorem MxC.det{f:Int->Int->Int}{d:Int}{own a b:Int}(h:MxC f d cs own a)(k:MxC f d cs own b):a=b:=by
 have one:∀{a b:Int},MxC f d cs own a->MxC f d cs own b->a<=b:=λh k=>by
  rcases h.some with e|⟨c,hc,e⟩
  .rw[e];exact k.lo
  .rw[e];exact k.all c hc
 exact Int.le_antisymm (one h k) (one k h)
theorem uF{head:Th}{u:Th}{s c:Int}{oc:Th}(hu:∃n ks,u=.knot n ks)(ho:Out ins rows (.call s c) u oc):∃p' h,d3 ins rows head s h p'/\u.kids[c.toNat]?=some h/\Out ins rows p' h oc:=by
 obtain⟨n,ks,rfl⟩:=hu;obtain⟨p',h,st,Cc⟩:=ho.unstep;exact⟨p',h,st.pat,st.2.2.1,Cc⟩
theorem ml{head:Th}{s:Int}{u:Th}(h:d3 ins rows head s u p):∃n ks,u=.knot n ks:=by
 rcases h with⟨_,_,t,h⟩|⟨_,m,hs,_,_,_,h,_⟩
 .exact⟨_,_,h⟩
 .exact⟨_,_,h⟩
theorem yk{head:Th}(g:bq ins)(s:Int)(u p:Th)(f:Int->Int->Int)(v:Int)(hp:d3 ins rows head s u p)(hc:∀c∈callsOf (p.pl []),∀h,u.kids[c.2.2.toNat]?=some h->VRt ins rows head c.2.1 h (f c.2.1 c.2.2))(hw:Wvt p f v):VRt ins rows head s u v:=λp' o Ce ho=>by
 rw[<-oC g hp Ce]at ho;refine MxC.det hw (o9 u p [] o ho λc Fx oc Fo=>?_);obtain⟨p2,h,h1,h2,h3⟩:=uF (head:=head) (ml hp) Fo;exact hc c Fx h h2 p2 oc h1 h3
theorem uM(h:CallsE (callsOf (p.pl [])) es):jF p (dE es):=by
 refine⟨λkv Ag=>?_,λc hc=>?_⟩
 .obtain⟨e,he,rfl⟩:=Xq.mp Ag;obtain⟨c,hc,e2⟩:=h.of e he;exact⟨c,hc,by rw[e2]⟩
 .obtain⟨e,he,e2⟩:=h.to c hc;exact⟨_,Xq.mpr ⟨e,he,rfl⟩,by rw[e2]⟩
theorem CallsE.len(h:CallsE cs es):es.length<=cs.length:=by
 have:=bT (m:=cs.map (·.2)) h.nd λk hk=>by
  obtain⟨e,he,rfl⟩:=Xq.mp hk;obtain⟨c,hc,e2⟩:=h.of e he;exact Xq.mpr ⟨c,hc,e2⟩
 rw[WO,WO]at this;exact this
theorem sR{f:Int->Int->Int}{M:Int}(h:DepthE (callsOf (p.pl [])) es)(hm:M∈((p.tall:Nat):Int)::es.map (λe=>e.2+f e.1.1 e.1.2))(ha:∀a∈((p.tall:Nat):Int)::es.map (λe=>e.2+f e.1.1 e.1.2),a<=M):Wvt p f M:=by
 refine⟨ha _ (WY ..),λc hc=>?_,?_⟩
 .obtain⟨e,he,e2⟩:=h.to c hc;have h1:=h.big c hc e he e2;have h2:=ha _ (WQ _ (Xq.mpr ⟨e,he,rfl⟩));rw[e2]at h2;omega
 .rcases Xb.mp hm with e|hm
  .exact .inl e
  .obtain⟨e,he,rfl⟩:=Xq.mp hm;obtain⟨c,hc,e1,e2⟩:=h.at e he;refine .inr ⟨c,hc,?_⟩;rw[e1];omega
mutual
theorem jd:∀(t u k:Th),u∈t.walk->k∈u.kids->k∈t.walk
 | .knot n ks,u,k,hu,hk=>by
   rw[A!]at hu |-;rcases Xb.mp hu with rfl|hu
   .exact WQ _ (eO ks k hk)
   .exact WQ _ (lH ks u k hu hk)
 | .call s c,u,k,hu,hk=>by
   rw[A!]at hu;rw[WZ.mp hu]at hk;cases hk
theorem lH:∀(ts:List Th)(u k:Th),u∈walks ts->k∈u.kids->k∈walks ts
 | [],u,k,hu,hk=>by rw[walks]at hu;cases hu
 | t::ts,u,k,hu,hk=>by
   rw[walks]at hu |-;rcases W7.mp hu with hu|hu
   .exact Xi _ (jd t u k hu hk)
   .exact Xl _ (lH ts u k hu hk)
theorem eO:∀(ts:List Th)(k:Th),k∈ts->k∈walks ts
 | [],k,hk=>by cases hk
 | t::ts,k,hk=>by
   rw[walks];rcases Xb.mp hk with rfl|hk
   .exact Xi _ (by rw[z!];exact WY ..)
   .exact Xl _ (eO ts k hk)
end
mutual
theorem gC{ks:List (Xk×Int)}{C:Int}:∀(t:Th)(pre:List Int),t.FitS ks S C->∀c∈callsOf (t.pl pre),0<=c.2.1/\c.2.1<S/\0<=c.2.2/\c.2.2<C
 | .call s k,pre,h,c,hc=>by
   rw[i3]at hc;rw[WZ.mp hc];rw[G!]at h;exact h
 | .knot n ts,pre,h,c,hc=>by
   rw[iA]at hc;rw[G!]at h;exact kI ts pre 0 h.2 c hc
theorem kI{ks:List (Xk×Int)}{C:Int}:∀(ts:List Th)(pre:List Int)(i:Int),FitSs ks S C ts->∀c∈callsOf (pls pre i ts),0<=c.2.1/\c.2.1<S/\0<=c.2.2/\c.2.2<C
 | [],pre,i,_,c,hc=>by rw[pls]at hc;cases hc
 | t::ts,pre,i,h,c,hc=>by
   rw[iD]at hc;rw[FitSs]at h;rcases W7.mp hc with hc|hc
   .exact gC t _ h.1 c hc
   .exact kI ts _ _ h.2 c hc
end
theorem mC{d:Nat}{head:Th}(ok:dj ins outs S d head rows){s k:Int}{ks:List Th}(s0:0<=s)(s1:s<S)(k0:0<=k)(k1:k<(ks.length:Int))(hf:∀h∈ks,h.Fit ins):∃p' h,Step ins rows s k ks p' h:=by
 have hk:k.toNat<ks.length:=by omega
 obtain⟨h,hh⟩:∃h,ks[k.toNat]?=some h:=⟨_,WS hk⟩;have hl:=ok.len;obtain⟨row,Af⟩:∃row,rows[s.toNat]?=some row:=⟨_,WS (by omega)⟩;have MR:=hf h (WR hh);cases h with
 |call a b=>rw[E!]at MR;exact MR.elim
 | knot m hs =>
   rw[E!]at MR;obtain⟨j,hj⟩:=Xe.mp MR.1;have GN:=(ok.row row (WR Af)).len;have Ct:=(glE hj);obtain⟨p',Ce⟩:∃p',row[j]?=some p':=⟨_,WS (by omega)⟩;exact⟨p',_,s0,k0,hh,m,hs,_,j,row,rfl,hj,Af,Ce⟩
theorem rs{d:Nat}{Cg head:Th}(gi:bq ins)(ok:dj ins outs S d Cg rows)(hS:S<=100){t:Th}(hz:t.size<=40000):iS ins rows head t.walk:=by
 have Tj:∀u:Th,u.Fit ins->∀k∈u.kids,k.Fit ins:=λu hu k hk=>by
  cases u with
  |call a b=>rw[E!]at hu;exact hu.elim
  |knot m hs=>rw[E!]at hu;exact gg hu.2 k hk
 refine⟨λu hu k hk=>jd t u k hu hk,by rw[Th.walk_len];exact hz,by have:=ok.len;omega,λu hu=>?_,λu hu=>?_,Tj,λu s p hu s0 hp c hc=>?_⟩
 .cases u with
  |call a b=>rw[E!]at hu;exact hu.elim
  | knot m hs =>
    rw[E!]at hu;have:=(gi.num _ hu.1).2;simp only at this;show hs.length<=100;omega
 .cases u with
  |call a b=>rw[E!]at hu;exact hu.elim
  |knot m hs=>exact⟨m,hs,rfl⟩
 .rcases hp with⟨h1,_⟩|⟨_,m,hs,cc,j,row,rfl,hj,Af,Wy⟩
  .omega
  .have EM:=hu;rw[E!]at EM;obtain⟨j',BW⟩:=Xe.mp EM.1;have OS:=gi.nd _ _ _ _ hj BW rfl;subst OS;rw[hj]at BW;have Fp:cc=(hs.length:Int):=h! Prod.snd (Xf BW);obtain⟨Wz,_⟩:=(ok.row row (WR Af)).fit j p _ Wy hj;obtain⟨a1,a2,a3,a4⟩:=gC p [] Wz c hc;simp only at a4;exact mC ok a1 a2 a3 (by show c.2.2<((hs.length:Nat):Int);rw[<-Fp];exact a4) (Tj _ hu)
theorem gy:∀(n:Nat)(ts:List Th),au ts<=n->∀(i:Nat)(p:Th),(walks ts)[i]?=some p->∃rest,(walks ts).drop i=p.walk++rest
 |_,[],_,i,p,h=>by cases h
 | 0,t::ts,hn,i,p,h=>by
   have:=t.size_pos;rw[au]at hn;omega
 | n+1,t::ts,hn,i,p,h=>by
   rw[au]at hn;rw[walks]at h |-;by_cases hi:i<t.walk.length
   .rw[XA hi]at h;rw[List.drop_append_of_le_length (Za hi)];rw[t.walk_eq]at h |-;cases i with
    | zero =>
      cases h;rw[Zk,<-t.walk_eq];exact⟨_,rfl⟩
    | succ i =>
      rw[List.getElem?_cons_succ]at h;rw[List.drop_succ_cons];have hk:au t.kids<=n:=by have:=t.size_eq;omega
      obtain⟨r,hr⟩:=gy n t.kids hk i p h;exact⟨r++walks ts,by rw[hr,X6]⟩
   .rw[XX (by omega)]at h;have:=t.size_pos;obtain⟨r,hr⟩:=gy n ts (by omega) _ p h;refine⟨r,?_⟩;rw[List.drop_append,List.drop_eq_nil_of_le (by omega),ZS];exact hr
theorem vK(g:Int->Int->Th)(t:Th)(h:t.walk[i]?=some p):∃S,bl ((t.walk.map (cT g)).drop i)=p.fill g::S:=by
 have e:walks [t]=t.walk:=by simp[walks]
 obtain⟨r,hr⟩:=gy _ [t] (W2 _) i p (by rw[e];exact h);rw[e]at hr;rw[<-List.map_drop,hr,W9];have h2:=(iL g _ [p] (W2 _) (r.map (cT g))).1;have e2:walks [p]=p.walk:=by simp[walks]
 rw[e2]at h2;exact⟨_,h2⟩
abbrev DPH:=Hp->DP
structure KLT(H H':Hp):Prop where
 tup:∀b xs,H b=some (.tup xs)->H' b=some (.tup xs)
 lst:∀b xs,H b=some (.lst xs)->H' b=some (.lst xs)
theorem KLT.of(s:j! H H'):KLT H H':=⟨λb xs e=>s _ _ e,λb xs e=>s _ _ e⟩
def oV(DH:DPH):Prop:=∀(H H':Hp)(p:Th)(own:V)(d:WT)(kvs:List (List Key×V)),KLT H H'->DH H p own d kvs->DH H' p own d kvs
theorem lL{DH:DPH}(st:oV DH)(h:DgN (DH H) td H p a)(k:j! H H'):DgN (DH H') td H' p a:=by
 obtain⟨d,own,kvs,h0,h1,h2,h3⟩:=h;exact⟨d,own,kvs,h0,k _ _ h1,k _ _ h2,st _ _ _ _ _ _ (KLT.of k) h3⟩
theorem vD{tk:List (List Key×V)}{u:HO}(e:H td=some (.dT tk)):KLT H (upd H td u):=⟨λb xs h=>by rw[af (aA h e (λz=>nomatch z))];exact h,λb xs h=>by rw[af (aA h e (λz=>nomatch z))];exact h⟩
theorem qS{DH:DPH}(st:oV DH){u:HO}{tk:List (List Key×V)}(h:DgN (DH H) td H p a)(e:H td=some (.dT tk)):DgN (DH (upd H td u)) td (upd H td u) p a:=by
 obtain⟨d,own,kvs,h0,h1,h2,h3⟩:=h.upd (u:=u) e;exact⟨d,own,kvs,h0,h1,h2,st _ _ _ _ _ _ (vD e) h3⟩
def uy(Hs:Hp)(DH:DPH)(El:Sp)(ok:Th->Prop):Prop:=∀(H1:Hp)(p:Th)(pa:WT)(R:VK),j! Hs H1->At H1 p pa->ok p->(∀(r d:WT)(own:V)(kvs:List (List Key×V))(H2:Hp),j! H1 H2->H1 d=none->H2 r=some (.tup [own,.ref d])->H2 d=some (.dT kvs)->DH H2 p own d kvs->R (.ref r) H2)->El [.ref pa] H1 R E0
def KNL(H H':Hp):Prop:=∀b o,H b=some o->(∀l,o≠.lst l)->(∀d,o≠.dK d)->(∀a u,o≠.frz a u)->H' b=some o
theorem KNL.of(s:j! H H'):KNL H H':=λb o e _ _ _=>s _ _ e
theorem KNL.trans{A B C:Hp}(h:KNL A B)(k:KNL B C):KNL A C:=λb o e h1 h2 h3=>k b o (h b o e h1 h2 h3) h1 h2 h3
theorem iw{u:HO}(h:∀o,H b=some o->(∃l,o=.lst l)\/(∃d,o=.dK d)\/∃a u,o=.frz a u):KNL H (upd H b u):=λc o e h1 h2 h3=>by
 by_cases z:c=b
 .rw[z]at e;rcases h o e with⟨l,hl⟩|⟨d,hd⟩|⟨a,u,hf⟩
  .exact g! hl (h1 l)
  .exact g! hd (h2 d)
  .exact g! hf (h3 a u)
 .rw[af z];exact e
def FrX(X:WT->Prop)(H H':Hp):Prop:=∀b o,¬X b->H b=some o->H' b=some o
theorem FrX.of{X:WT->Prop}(s:j! H H'):FrX X H H':=λb o _ e=>s _ _ e
theorem FrX.trans{X:WT->Prop}{A B C:Hp}(h:FrX X A B)(k:FrX X B C):FrX X A C:=λb o n e=>k b o n (h b o n e)
structure FoldI(X:WT->Prop)(SI:Hp->List Th->Prop)(VR:List Th->Int->Th->Int->Prop):Prop where
 keep:∀(H H':Hp)(Ts:List Th),SI H Ts->KNL H H'->SI H' Ts
 isD:∀(H:Hp)(Ts:List Th)(b:WT),SI H Ts->X b->∃kv,H b=some (.dT kv)
 up:∀(Ts Bz:List Th)(s:Int)(u:Th)(v:Int),Ts <+: Bz->VR Ts s u v->VR Bz s u v
theorem FoldI.nx{X:WT->Prop}(I:FoldI X SI VR)(h:SI H Ts)(e:H b=some o)(ho:∀kv,o≠.dT kv):¬X b:=λz=>by
 obtain⟨kv,hk⟩:=I.isD H Ts b h z;rw[e]at hk;exact ho kv (Xf hk)
theorem FoldI.free{X:WT->Prop}(I:FoldI X SI VR)(h:SI H' Ts)(f:FrX X H H')(e:H' b=none):H b=none:=by
 cases hb:H b with
 |none=>rfl
 | some o =>
   by_cases z:X b
   .obtain⟨kv,hk⟩:=I.isD H' Ts b h z;rw[e]at hk;cases hk
   .rw[f b o z hb]at e;cases e
theorem oO{X:WT->Prop}(I:FoldI X SI VR){aa:WT}{ask:List (Key×V)}{VW:List Th->Key×V->Int->Prop}{Q:VK}{T0:List Th}
 (Ao:∀R:VK,R (.ref aa) H->tl Y H R) (ha:H aa=some (.dK ask)) (hlen:ask.length<=10000) (h0:SI H T0) (WA:∀(Ts Bz:List Th)(kv:Key×V)(v:Int),Ts <+: Bz->VW Ts kv v->VW Bz kv v)
 (hs:∀(i:Nat)(kv:Key×V)(p:WT)(H2:Hp)(R:VK)(Ts:List Th),ask[i]?=some kv->(∀b o,b≠aa->¬X b->H b=some o->H2 b=some o)->SI H2 Ts->T0 <+: Ts->H2 p=some (.tup [kV kv.1,kv.2])->(∀(v:Int)(pr:WT)(H3:Hp)(Bz:List Th),FrX X H2 H3->SI H3 Bz->Ts <+: Bz->H3 pr=some (.tup [kV kv.1,.int v])->VW Bz kv v->R (.ref pr) H3)->g (.ref p) (cσ js Y) H2 λAk H3=>te Ak H3 R)
 (hq:∀(D:WT)(ps:List WT)(prs:List (Key×V))(H2:Hp)(Ts:List Th),FrX X H H2->SI H2 Ts->T0 <+: Ts->H2 D=some (.lst (ps.map i!))->Xz (PrK H2) prs ps->prs.map (·.1)=ask.map (·.1)->(∀pr∈prs,∃v,pr.2=.int v/\∃kv∈ask,kv.1=pr.1/\VW Ts kv v)->Q (.ref D) H2) :
 oj (rH js (vh tl) g bu te) Y H Q:=by
 refine Ao _ ⟨aa,ask,rfl,ha,λo D hD=>?_⟩;have DZ:D≠aa:=λz=>by rw[z,ad]at hD;cases hD
 have D0:H D=none:=by rw[af DZ]at hD;exact hD
 refine⟨ask.length,λj H2=>j<=ask.length/\(∀b o,b≠aa->¬X b->H b=some o->H2 b=some o)/\H2 aa=some (.frz o (.dK ask))/\∃(ps:List WT)(prs:List (Key×V))(Ts:List Th),SI H2 Ts/\T0 <+: Ts/\H2 D=some (.lst (ps.map i!))/\Xz (PrK H2) prs ps/\prs.map (·.1)=(ask.take j).map (·.1)/\∀pr∈prs,∃v,pr.2=.int v/\∃kv∈ask,kv.1=pr.1/\VW Ts kv v,⟨XB _,λb u hb _ e=>by rw[af (ar e D0),af hb];exact e,by rw[af DZ.symm,ad],[],[],T0,?_,List.prefix_rfl,ad,.nil,rfl,λpr h=>by cases h⟩,?_⟩
 .refine I.keep _ _ _ h0 ((iw (b:=aa) λo e=>?_).trans (iw λo e=>?_))
  .rw[ha]at e;cases e;exact .inr (.inl ⟨_,rfl⟩)
  .rw[hD]at e;cases e
 rintro j H2 ⟨hj,sb,ed,ps,prs,Ts,FU,AO,eD,hp,hk,hv⟩;by_cases Ej:j=ask.length
 .left;refine⟨⟨ed,by omega⟩,upd H2 aa (.dK ask),λb=>?_,?_⟩
  .by_cases hb:b=aa
   .rw[hb];exact .inr ⟨o,_,ed,ha,ad⟩
   .exact .inl (af hb)
  .rw[Ej,Zg]at hk;refine hq D ps prs _ Ts (λb u hx e=>?_) (I.keep _ _ _ FU (iw λu e=>?_)) AO (by rw[af DZ];exact eD) (v! (λpr pa e=>?_) hp) hk hv
   .by_cases hb:b=aa
    .rw[hb,ha]at e;rw[hb,ad];exact e
    .rw[af hb];exact sb b u hb hx e
   .rw[ed]at e;cases e;exact .inr (.inr ⟨_,_,rfl⟩)
   .have e':H2 pa=some (.tup [kV pr.1,pr.2]):=e;show upd H2 aa _ pa=_;rw[af (aA e' ed (λz=>nomatch z))];exact e'
 .right;refine⟨by omega,⟨ed,by omega⟩,?_⟩;rintro x H3 ⟨p,kv,WB,rfl,rfl,Ag⟩;have s3:j! H2 (upd H2 p (.tup [kV kv.1,kv.2])):=aj WB _;have AV:=W5 hp;have AM:=h! Ze hk;rw[WO,WO,XI]at AM;refine hs j kv p _ _ Ts Ag (λc u hc hx ec=>s3 _ _ (sb c u hc hx ec)) (I.keep _ _ _ FU (KNL.of s3)) AO ad λv pr H4 Bz s4 OT GO Kv WC=>?_;have MS:FrX X H2 H4:=(FrX.of s3).trans s4;have Jg:=MS _ _ (I.nx FU eD (λ_ z=>nomatch z)) eD;refine⟨_,Jg,lbE (by omega),by omega,λc u hc hx ec=>?_,?_,ps++[pr],prs++[(kv.1,.int v)],Bz,I.keep _ _ _ OT (iw λu e=>?_),AO.trans GO,?_,?_,?_,?_⟩
  .rw[af (ar ec D0)];exact MS _ _ hx (sb c u hc hx ec)
  .rw[af DZ.symm];exact MS _ _ (I.nx FU ed (λ_ z=>nomatch z)) ed
  .rw[Jg]at e;cases e;exact .inl ⟨_,rfl⟩
  .rw[ad,W9];rfl
  .refine q! (v! (λMT pa e=>?_) hp) (.cons ?_ .nil)
   .have e':H2 pa=some (.tup [kV MT.1,MT.2]):=e;show upd H4 D _ pa=_;rw[af (aA e' eD (λz=>nomatch z))];exact MS _ _ (I.nx FU e' (λ_ z=>nomatch z)) e'
   .show upd H4 D _ pr=_;rw[af (aA Kv Jg (λz=>nomatch z))];exact Kv
  .rw[Yp,Ag,W9,W9,hk];rfl
  .intro MT OU;rcases W7.mp OU with h|h
   .obtain⟨v',h1,Kw,h2,h3,h4⟩:=hv MT h;exact⟨v',h1,Kw,h2,h3,WA _ _ _ _ GO h4⟩
   .rw[WZ.mp h];exact⟨v,rfl,kv,WR Ag,rfl,WC⟩
end BB
open BB.FrX renaming of->I!
variable{DH:BB.DPH}
namespace BB
open PySem L2
theorem qd(st:oV DH)(h:DgTab (DH H) H ins rows td)(k:j! H H'):DgTab (DH H') H' ins rows td:=by
 obtain⟨tk,e,g⟩:=h;refine⟨tk,k _ _ e,λs c row p kd h1 h2 h3=>?_⟩;obtain⟨da,a1,d,own,kvs,b1,b2,b3⟩:=g s c row p kd h1 h2 h3;exact⟨da,a1,d,own,kvs,k _ _ b1,k _ _ b2,st _ _ _ _ _ _ (KLT.of k) b3⟩
end BB
namespace L2
open PySem
theorem FvOk.lv{k k':Nat}(h:k<=k')(F:FvOk P w K mg base CX k f sp):FvOk P w K mg base CX k' f sp:=⟨F.fn,λA outer s H us vs Q E hr e0 r h'=>F.run A outer s H us vs Q E (hr.mono h) e0 r h'⟩
end L2
namespace BB
open PySem L2
def CtAt(H:Hp)(c:List Int×Int×Int)(a:WT):Prop:=∃ca,H a=some (.tup [.ref ca,.bl true])/\H ca=some (.tup [.int c.2.1,.int c.2.2])
theorem CtAt.mono(k:KT H H'){c:List Int×Int×Int}(h:CtAt H c a):CtAt H' c a:=by
 obtain⟨ca,h1,h2⟩:=h;exact⟨ca,k _ _ h1,k _ _ h2⟩
theorem xV{as:List WT}(h:Xz (CtAt H) cs as):Xz (PrA H) (cs.map λc=>(ky c.2,V.bl true)) as:=by
 induction h with
 |nil=>exact .nil
 | cons r _ ih =>
   obtain⟨ca,h1,h2⟩:=r;exact .cons ⟨ca,h1,h2⟩ ih
theorem ui[DecidableEq κ]{kvs:List (κ×V)}{k:κ}(h:aG kvs k=none):∀kv∈kvs,kv.1≠k:=by
 intro kv Ag e;unfold aG at h;rw[Option.map_eq_none_iff,List.find?_eq_none]at h;exact h kv Ag (by simp[e])
theorem tR(CI:callsOf (p.pl [])=cs):jF p (dB [] (cs.map λc=>(ky c.2,V.bl true))):=by
 obtain⟨f1,f2⟩:=jK (R:=λk _=>∃c∈cs,k=ky c.2) (cs.map λc=>(ky c.2,V.bl true)) [] (λk v hv=>by rw[uU]at hv;cases hv) (λpr BP=>by
  obtain⟨c,hc,rfl⟩:=Xq.mp BP;exact⟨c,hc,rfl⟩)
 refine⟨λkv Ag=>?_,λc hc=>?_⟩
 .have hn:∃v,aG (dB [] (cs.map λc=>(ky c.2,V.bl true))) kv.1=some v:=by
   cases h:aG (dB [] (cs.map λc=>(ky c.2,V.bl true))) kv.1 with
   |some v=>exact⟨v,rfl⟩
   |none=>exact g! rfl (ui h kv Ag)
  obtain⟨v,hv⟩:=hn;rw[CI];exact f1 _ v hv
 .rw[CI]at hc;obtain⟨v,hv⟩:=f2 (ky c.2) (.inr ⟨_,Xq.mpr ⟨c,hc,rfl⟩,rfl⟩);exact⟨_,fx hv,rfl⟩
def DpP(ea:WT):DPH:=λH p own d kvs=>∃(la:WT)(as:List WT),own=.ref la/\H la=some (.lst (as.map i!))/\Ats H p.walk as/\jF p kvs/\d≠ea/\p.size<=10000
end BB
namespace L2
open PySem PySem.Spec PyProof.Rows PySem.W
end L2
namespace BB
open PySem L2
mutual
theorem pJ{u:Th}{g:Int->Int->Th}:∀q:Th,(∀s k,K! s k∈q.walk->Out ins rows (.call s k) u (g s k))->Out ins rows q u (q.fill g)
 |.call s k,h=>by rw[Th.fill];exact h s k (by rw[A!];exact WY ..)
 | .knot n ts,h=>by
   rw[Th.fill];exact .mk (.stop n ts u) (mJ ts λs k hm=>h s k (by rw[A!];exact WQ _ hm))
theorem mJ{u:Th}{g:Int->Int->Th}:∀ts:List Th,(∀s k,K! s k∈walks ts->Out ins rows (.call s k) u (g s k))->Outs ins rows ts u (fills g ts)
 | [],_=>by rw[fills];exact .nil u
 | t::ts,h=>by
   rw[fills];exact .cons (pJ t λs k hm=>h s k (by rw[walks];exact Xi _ hm)) (mJ ts λs k hm=>h s k (by rw[walks];exact Xl _ hm))
end
def VRo(ins:List (Xk×Int))(rows:List (List Th))(head:Th)(Ts:List Th)(s:Int)(u:Th)(v:Int):Prop:=∃(p o:Th)(j:Nat),d3 ins rows head s u p/\Out ins rows p u o/\v=(j:Nat)/\Ts[j]?=some o
theorem rN(h:Ts <+: Bz){o:Th}(e:Ts[j]?=some o):Bz[j]?=some o:=by
 obtain⟨r,rfl⟩:=h;rw[XA (glE e)];exact e
theorem VRo.up{head:Th}{s:Int}{u:Th}{v:Int}(h:Ts <+: Bz)(k:VRo ins rows head Ts s u v):VRo ins rows head Bz s u v:=by
 obtain⟨p,o,j,h1,h2,h3,h4⟩:=k;exact⟨p,o,j,h1,h2,h3,rN h h4⟩
theorem eL:∀(n:Nat)(ts:List Th),au ts<=n->∀q∈walks ts,∀x∈q.walk,x∈walks ts
 |_,[],_,q,hq,x,hx=>by cases hq
 | 0,t::ts,hn,q,hq,x,hx=>by
   have:=t.size_pos;rw[au]at hn;omega
 | n+1,t::ts,hn,q,hq,x,hx=>by
   rw[au]at hn;rw[walks]at hq |-;rcases W7.mp hq with h|h
   .refine Xi _ ?_;rw[t.walk_eq]at h;rcases Xb.mp h with rfl|h
    .exact hx
    .rw[t.walk_eq];exact WQ _ (eL n t.kids (by have:=t.size_eq;omega) q h x hx)
   .have:=t.size_pos;exact Xl _ (eL n ts (by omega) q h x hx)
theorem iW{t q x:Th}(hq:q∈t.walk)(hx:x∈q.walk):x∈t.walk:=by
 have e:walks [t]=t.walk:=by simp[walks]
 have:=eL _ [t] (W2 _) q (by rw[e];exact hq) x hx;rw[e]at this;exact this
theorem qJ{head:Th}{s:Int}{u:Th}{f:Int->Int->Int}(hp:d3 ins rows head s u p)(h0:∀c∈callsOf (p.pl []),0<=c.2.1/\0<=c.2.2)(hc:∀c∈callsOf (p.pl []),∃h,u.kids[c.2.2.toNat]?=some h/\VRo ins rows head Ts c.2.1 h (f c.2.1 c.2.2)) :
 ∃g:Int->Int->Th,(∀a b,K! a b∈p.walk->(∃j:Nat,f a b=(j:Nat)/\Ts[j]?=some (g a b))/\Out ins rows (.call a b) u (g a b))/\∀q∈p.walk,Out ins rows q u (q.fill g):=by
 classical
 obtain⟨n,ks,rfl⟩:=ml hp
 have key:∀a b,K! a b∈p.walk->∃o,(∃j:Nat,f a b=(j:Nat)/\Ts[j]?=some o)/\Out ins rows (.call a b) (.knot n ks) o:=λa b hm=>by
  obtain⟨c,Fx,FL⟩:=qU hm;obtain⟨a0,b0⟩:=h0 c Fx;obtain⟨h,hk,p',o,j,h1,h2,h3,h4⟩:=hc c Fx;rw[FL]at a0 b0 hk h1 h3;refine⟨o,⟨j,h3,h4⟩,Out.step (p:=p') (h:=h) ⟨a0,b0,hk,?_⟩ h2⟩;rcases h1 with⟨z,_⟩|⟨_,h1⟩
  .have z':a=-1:=z;have a0':0<=a:=a0;omega
  .exact h1
 refine⟨λa b=>if h:∃o,(∃j:Nat,f a b=(j:Nat)/\Ts[j]?=some o)/\Out ins rows (.call a b) (.knot n ks) o then h.choose else .call a b,?_,?_⟩
 .intro a b hm;have h:=key a b hm;simp only[dif_pos h];exact h.choose_spec
 .intro q hq;refine pJ q λa b hm=>?_;have h:=key a b (iW hq hm);simp only[dif_pos h];exact h.choose_spec.2
noncomputable def t5(ins:List (Xk×Int))(rows:List (List Th))(head:Th)(s:Int)(u:Th):Th:=open Classical in if h:∃p,d3 ins rows head s u p then h.choose else .call 0 0
noncomputable def xY(ins:List (Xk×Int))(rows:List (List Th))(u q:Th):Th:=open Classical in if h:∃o,Out ins rows q u o then h.choose else q
noncomputable def lJ(ins:List (Xk×Int))(rows:List (List Th))(head:Th)(W:List Th)(t:Th):List Th:=(p! YI [t]::W).flatMap λu=>(head.walk++(Yn rows.length).flatMap λs=>(t5 ins rows head ((s:Nat):Int) u).walk).map (xY ins rows u)
theorem vM(g:bq ins){u q o:Th}(h:Out ins rows q u o):xY ins rows u q=o:=by
 unfold xY;rw[dif_pos ⟨o,h⟩];exact j6 g (Exists.choose_spec (⟨o,h⟩:∃o,Out ins rows q u o)) h
theorem vG{head:Th}(g:bq ins){s:Int}{u:Th}(h:d3 ins rows head s u p):t5 ins rows head s u=p:=by
 unfold t5;rw[dif_pos ⟨p,h⟩];exact oC g (Exists.choose_spec (⟨p,h⟩:∃p,d3 ins rows head s u p)) h
theorem rG{head:Th}(g:bq ins){t:Th}{s:Int}{u q o:Th}(hp:d3 ins rows head s u p)(hu:InW W t u)(hq:q∈p.walk)(ho:Out ins rows q u o):o∈lJ ins rows head W t:=by
 unfold lJ;refine List.mem_flatMap.mpr ⟨u,?_,Xq.mpr ⟨q,?_,vM g ho⟩⟩
 .rcases hu with h|h
  .exact WQ _ h
  .rw[h];exact WY ..
 .rcases hp with⟨_,rfl,_⟩|hp
  .exact Xi _ hq
  .obtain⟨h0,m,hs,c,j,row,h1,h2,h3,h4⟩:=hp;refine Xl _ (List.mem_flatMap.mpr ⟨s.toNat,ZK.mpr (glE h3),?_⟩);rw[Yd h0,vG g (head:=head) (p:=p) (.inr ⟨h0,m,hs,c,j,row,h1,h2,h3,h4⟩)];exact hq
theorem iR{f:α->List β}:∀(l:List α),(∀a∈l,(f a).length<=n)->(l.flatMap f).length<=l.length * n
 | [],_=>XB _
 | a::l,h=>by
   rw[List.flatMap_cons,W6,W8,Nat.succ_mul];have h1:=h a (WY ..);have h2:=iR l λb hb=>h b (WQ _ hb);omega
theorem wM{head:Th}{t:Th}{N:Nat}(hh:head.size<=N)(hN:1<=N)(hr:∀row∈rows,∀p∈row,p.size<=N):(lJ ins rows head W t).length<=(W.length+1) * ((rows.length+1) * N):=by
 unfold lJ;refine iR (n:=(rows.length+1) * N) _ λu _=>?_;rw[WO,W6,head.walk_len,Nat.succ_mul]
 have h2:=iR (f:=λs=>(t5 ins rows head ((s:Nat):Int) u).walk) (n:=N) (Yn rows.length) λs hs=>by
  rw[Th.walk_len];unfold t5;split
  .rename_i h
   rcases h.choose_spec with⟨_,z,_⟩|⟨_,m,hs,c,j,row,h1,h2,h3,h4⟩
   .rw[z];exact hh
   .exact hr row (WR h3) _ (WR h4)
  .rw[w!];exact hN
 rw[List.length_range]at h2;omega
end BB
namespace L2
open PySem PySem.Spec PySem.Calls PyProof.Rows PySem.W
theorem Fun.okT1{k:Nat}(F:Fun K x qual st f fd)(hc:fd.code=.ref c)(S:ay N ps (aq st))(len:∀vs H Q E,sp vs H Q E->vs.length=ps.length)
 (AZ:∀(A:XN)(outer:List Env)(s:W3)(H:Hp)(vs:List V)(Q:VK)(E:XK),Room k (A.deeper (Z0 qual (aq st) s.1.1.size f (.ref c)))->sp vs H Q E ->
  ∃t,PSs (l7 (CX1 P w) P w K mg base N qual (aq st) f (.ref c) A outer s H E) (bj st) t/\t {nx:=λ_ H'=>Q .non H',rt:=Q} (start N vs) H):FnOk P w K mg base (CX1 P w) (k+1) f fd ps sp:=by
 obtain⟨oc,od,kV,doc,pm,an,Aj,ct,Ey,rfl,lk,Ck⟩:=F.ex;have BR:Aj=.ref c:=hc;subst BR;exact xh lk Ck S len λA outer s H vs Q E hr BX=>AZ A outer s H vs Q E hr BX
end L2
namespace BB
open PySem L2
mutual
def Th.lw:Th->Xk
 |.knot n ks=>n++lpar++Txt.join comma (lws ks)++rpar
 |.call _ _=>q
def lws:List Th->List Xk
 | []=>[]
 |t::ts=>t.lw::lws ts
end
theorem j8:∀ts:List Th,lws ts=ts.map Th.lw
 | []=>rfl
 |t::ts=>by rw[lws,j8 ts,XH]
mutual
def Th.lg:Th->List Nat
 |.knot n ks=>n.cps.toList++40::(lgs ks++[41])
 |.call _ _=>[]
def lgs:List Th->List Nat
 | []=>[]
 |t::ts=>t.lg++lgt ts
def lgt:List Th->List Nat
 | []=>[]
 |t::ts=>44::(t.lg++lgt ts)
end
theorem xG(h:ts≠[]):lgt ts=44::lgs ts:=by
 cases ts with
 |nil=>exact g! rfl h
 |cons t ts=>rw[lgt,lgs]
mutual
theorem tS:∀t:Th,(∀p∈t.walk,p.isCall=false)->t.lw.cps.toList=t.lg
 | .call _ _,h=>by
   have:=h _ (by rw[A!];exact WY ..);cases this
 | .knot n ts,h=>by
   rw[Th.lw,Th.lg];have hs:=qL ts λp hp=>h p (by rw[A!];exact WQ _ hp);have hj:Txt.join comma (lws ts)=Str.join comma (lws ts):=StrLaws.glued_eq_join _ _;rw[hj,Str.cps_append,Str.cps_append,Str.cps_append,Ym,Ym,Ym,hs];simp[lpar,rpar,show(WU "(").cps.toList=[40]from by decide +kernel,show(WU ")").cps.toList=[41]from by decide +kernel]
theorem qL:∀ts:List Th,(∀p∈walks ts,p.isCall=false)->(Str.join comma (lws ts)).cps.toList=lgs ts
 | [],_=>by rw[lws,lgs];rfl
 | t::ts,h=>by
   have h1:=tS t λp hp=>h p (by rw[walks];exact Xi _ hp);have h2:=qL ts λp hp=>h p (by rw[walks];exact Xl _ hp);rw[lws,lgs,join_cons];by_cases h0:lws ts=[]
   .have:ts=[]:=by cases ts with|nil=>rfl|cons x xs=>rw[lws]at h0;cases h0
    subst this;rw[b! h0,lgt,Yz];exact h1
   .have Ay:ts≠[]:=λz=>h0 (by rw[z,lws]);rw[a! h0,Str.cps_append,Str.cps_append,Ym,Ym,h1,h2,xG Ay];simp[comma,show(WU ",").cps.toList=[44]from by decide +kernel]
end
theorem qr{n m:List Nat}{a b:List Nat}(hn:∀c∈n,97<=c/\c<=122)(hm:∀c∈m,97<=c/\c<=122)(h:n++40::a=m++40::b):n=m/\a=b:=by
 induction n generalizing m with
 | nil =>
   cases m with
   |nil=>exact⟨rfl,by simpa using h⟩
   | cons c m =>
     have h1:=(List.cons.inj h).1;have:=hm c (WY ..);omega
 | cons d n ih =>
   cases m with
   | nil =>
     have h1:=(List.cons.inj h).1;have:=hn d (WY ..);omega
   | cons c m =>
     obtain⟨h1,h2⟩:=List.cons.inj h;obtain⟨h3,h4⟩:=ih (λc hc=>hn c (WQ _ hc)) (λc hc=>hm c (WQ _ hc)) h2;exact⟨by rw[h1,h3],h4⟩
def NmL(t:Th):Prop:=∀p∈t.walk,∃n ks,p=p! n ks/\∀c∈n.cps.toList,97<=c/\c<=122
theorem rE{t:Th}(h:NmL t):∃c r,t.lg=c::r/\c≠41/\c≠44:=by
 obtain⟨n,ks,rfl,hn⟩:=h t (by rw[z!];exact WY ..);rw[Th.lg];cases hc:n.cps.toList with
 |nil=>exact⟨40,_,rfl,by decide,by decide⟩
 | cons c r =>
   have:=hn c (by rw[hc];exact WY ..);exact⟨c,_,rfl,by omega,by omega⟩
theorem kj:∀(N:Nat),(∀(t u:Th)(a b:List Nat),t.size<=N->NmL t->NmL u->t.lg++a=u.lg++b->t=u/\a=b)/\(∀(ts us:List Th)(a b:List Nat),au ts<=N->(∀t∈ts,NmL t)->(∀u∈us,NmL u)->lgt ts++41::a=lgt us++41::b->ts=us/\a=b)
 | 0=>by
   refine⟨λt u a b hz=>?_,λts us a b hz h1 h2 h=>?_⟩
   .have:=t.size_pos;omega
   .cases ts with
    |cons t ts=>have:=t.size_pos;rw[au]at hz;omega
    | nil =>
      cases us with
      |nil=>exact⟨rfl,by rw[lgt]at h;simpa using h⟩
      |cons u us=>rw[lgt,lgt]at h;simp at h
 | N+1=>by
   obtain⟨i1,i2⟩:=kj N
   have Kx:∀(ts us:List Th)(a b:List Nat),au ts<=N->(∀t∈ts,NmL t)->(∀u∈us,NmL u)->lgs ts++41::a=lgs us++41::b->ts=us/\a=b:=λts us a b hz h1 h2 h=>by
    cases ts with
    | nil =>
      cases us with
      |nil=>exact⟨rfl,by rw[lgs]at h;simpa using h⟩
      | cons u us =>
        obtain⟨c,r,e,hc,_⟩:=rE (h2 u (WY ..));rw[lgs,lgs,e]at h;simp at h;exact g! h.1.symm hc
    | cons t ts =>
      cases us with
      | nil =>
        obtain⟨c,r,e,hc,_⟩:=rE (h1 t (WY ..));rw[lgs,lgs,e]at h;simp at h;exact g! h.1 hc
      | cons u us =>
        rw[lgs,lgs,X6,X6]at h;rw[au]at hz;have:=t.size_pos;obtain⟨e1,e2⟩:=i1 t u _ _ (by omega) (h1 t (WY ..)) (h2 u (WY ..)) h;obtain⟨e3,e4⟩:=i2 ts us a b (by omega) (λx hx=>h1 x (WQ _ hx)) (λx hx=>h2 x (WQ _ hx)) e2;exact⟨by rw[e1,e3],e4⟩
   have Ky:∀(t u:Th)(a b:List Nat),t.size<=N+1->NmL t->NmL u->t.lg++a=u.lg++b->t=u/\a=b:=λt u a b hz h1 h2 h=>by
    obtain⟨n,ks,rfl,hn⟩:=h1 t (by rw[z!];exact WY ..);obtain⟨m,js,rfl,hm⟩:=h2 u (by rw[z!];exact WY ..);rw[Th.lg,Th.lg]at h;simp only[X6,Y0,ZS]at h;obtain⟨e1,e2⟩:=qr hn hm h;rw[w!]at hz;have sub:∀{n:Xk}{ks:List Th},NmL (.knot n ks)->∀x∈ks,NmL x:=λh x hx p hp=>h p (by rw[A!];exact WQ _ (eL _ _ (W2 _) _ (eO _ _ hx) _ hp));obtain⟨e3,e4⟩:=Kx ks js a b (by omega) (sub h1) (sub h2) e2;have en:n=m:=v7 e1;rw[en,e3];exact⟨rfl,e4⟩
   refine⟨Ky,λts us a b hz h1 h2 h=>?_⟩;cases ts with
   | nil =>
     cases us with
     |nil=>exact⟨rfl,by rw[lgt]at h;simpa using h⟩
     |cons u us=>rw[lgt,lgt]at h;simp at h
   | cons t ts =>
     cases us with
     |nil=>rw[lgt,lgt]at h;simp at h
     | cons u us =>
       rw[lgt,lgt]at h;simp only[Y0,X6]at h;have h:=(List.cons.inj h).2;rw[au]at hz;have:=t.size_pos;obtain⟨e1,e2⟩:=Ky t u _ _ (by omega) (h1 t (WY ..)) (h2 u (WY ..)) h;obtain⟨e3,e4⟩:=i2 ts us a b (by omega) (λx hx=>h1 x (WQ _ hx)) (λx hx=>h2 x (WQ _ hx)) e2;exact⟨by rw[e1,e3],e4⟩
theorem xx{t u:Th}(h1:NmL t)(h2:NmL u)(h:t.lw=u.lw):t=u:=by
 have nc:∀{t:Th},NmL t->∀p∈t.walk,p.isCall=false:=λh p hp=>by
  obtain⟨n,ks,rfl,_⟩:=h p hp;rfl
 have e:=h! (λx:Xk=>x.cps.toList) h
 try dsimp only at e
 rw[tS t (nc h1),tS u (nc h2)]at e;exact((kj t.size).1 t u [] [] (W2 _) h1 h2 (by rw[e])).1
theorem nM(J:Nat->List V->Hp->Prop)(hS:∀i acc H2,J i acc H2->SqT K H2 a xs)(hn:xs.length<=1000000)(h0:J 0 [] H)
 (hD:∀i acc H2 D l,H D=none->J i acc H2->(H2 D=none\/∃l0,H2 D=some (.lst l0))->J i acc (upd H2 D (.lst l)))
 (hb:∀(i:Nat)x acc D H2(R:VK)(W':Hp->Prop),xs[i]?=some x->J i acc H2->acc.length=i->H2 D=some (.lst acc)->(∀v H3,J (i+1) (acc++[v]) H3->H3 D=some (.lst acc)->R v H3)->g x (cσ js Y) H2 λAk H3=>tt Ak H3 λb H4=>if b=true then te Ak H4 R else W' H4)
 (Ba:∀D H' acc,H D=none->J xs.length acc H'->acc.length=xs.length->H' D=some (.lst acc)->fin D H') :
 ∀D,H D=none->∃(n:Nat)(W:Nat->Hp->Prop),W 0 (upd H D (.lst []))/\fH js g tt te Y (Itt K a) D n W λH'=>fin D H':=by
 intro D D0;refine⟨xs.length,λi H'=>i<=xs.length/\∃acc:List V,J i acc H'/\acc.length=i/\H' D=some (.lst acc),⟨XB _,[],hD _ _ _ _ _ D0 h0 (.inl D0),rfl,ad⟩,?_⟩;rintro i H' ⟨hi,acc,hJ,hl,eD⟩;by_cases Ae:i<xs.length
 .right;refine⟨Ae,⟨xs,xs[i],hS _ _ _ hJ,WS Ae⟩,?_⟩;rintro x H2 ⟨e,hx⟩;have e2:H2=H':=e;subst e2;refine hb i x acc D H2 _ _ (hx xs (hS _ _ _ hJ)) hJ hl eD λv H3 WD Kz=>?_;exact⟨acc,Kz,aX (by omega),Ae,acc++[v],hD _ _ _ _ _ D0 WD (.inr ⟨_,Kz⟩),by rw[W6,Zn,hl],ad⟩
 .left;have e:i=xs.length:=by omega
  subst e;exact⟨⟨xs,hS _ _ _ hJ,W2 _⟩,Ba D H' acc D0 hJ hl eD⟩
end BB
namespace LAW
open PySem L2 BB
def top(i:Nat):YA:=PySem.Challenge.pw_boughbook_k26_outcomes_shared.main.body.getD i (.Pass ⟨0,0,0,0⟩)
theorem scm{P:List Xk}(a:sc.kind=.function:=by rfl)(b:sc.isCoroutine=false:=by rfl)(c:sc.isGenerator=false:=by rfl)(d:N.Nodup:=by decide +kernel)(e:N.take P.length=P:=by rfl)(f:∀x∈P,sc.names.lookup x=some .local\/sc.names.lookup x=some .cell:=by decide +kernel)(g:∀y∈sc.names,y.2≠.free:=by decide +kernel):ay N P sc:=⟨a,b,c,d,e,f,g⟩
abbrev jr:YA:=top 6
theorem qt:ay ["thing"] ["thing"] (aq jr):=scm
abbrev kq:YA:=top 7
theorem gB:ay ["thing","met","ahead","part"] ["thing"] (aq kq):=scm
abbrev lR:YA:=top 8
theorem dN:ay ["thing","met","ahead","place","part","kids"] ["thing"] (aq lR):=scm
abbrev qo:YA:=top 9
theorem eX:ay ["tree","level","rows","beneath","part"] ["tree"] (aq qo):=scm
abbrev jp:YA:=top 11
theorem pV:ay ["thing"] ["thing"] (aq jp):=scm
abbrev fW:YA:=top 12
theorem nH:ay ["call"] ["call"] (aq fW):=scm
abbrev jb:YA:=top 13
theorem qI:ay ["pattern"] ["pattern"] (aq jb):=scm
abbrev im:YA:=top 14
theorem oB:ay ["pattern"] ["pattern"] (aq im):=scm
abbrev lA:YA:=top 16
theorem sL:ay ["book"] ["book"] (aq lA):=scm
abbrev jx:YA:=top 17
theorem qc:ay ["book"] ["book"] (aq jx):=scm
abbrev hG:YA:=top 18
theorem oI:ay ["book"] ["book"] (aq hG):=scm
abbrev n8:YA:=top 22
theorem ue:ay ["tree"] ["tree"] (aq n8):=scm
abbrev cq:YA:=inClass (top 24) 0
theorem l5:ay ["self"] ["self"] (aq cq):=scm
abbrev bJ:YA:=inClass (top 24) 1
theorem i8:ay ["self","tree"] ["self","tree"] (aq bJ):=scm
abbrev ff:YA:=top 25
theorem bZ:ay ["book","digest","told","state","patterns","kind","pattern"] ["book","digest"] (aq ff):=scm
abbrev jc:YA:=top 26
theorem ci:ay ["digests","level","number","beneath","tree","spots","own","calls","state","kid","part"] ["digests","level","number","beneath"] (aq jc):=scm
abbrev gj:YA:=top 27
theorem bV:ay ["digests","head","tree","level","top","levels","beneath","number"] ["digests","head","tree"] (aq gj):=scm
abbrev fw:YA:=top 28
theorem b9:ay ["spots","beneath","told","kid","spot","state","value"] ["spots","beneath"] (aq fw):=scm
abbrev kQ:YA:=top 29
theorem cI:ay ["book","head","tree","digest","worth","beneath","level","told","asked","spots","kids"] ["book","head","tree","digest","worth"] (aq kQ):=scm
abbrev f8:YA:=top 31
theorem dD:ay ["pattern","depths","place","call"] ["pattern"] (aq f8):=scm
abbrev dP:YA:=top 32
theorem dm:ay ["pair","heights","own","depths"] ["pair","heights"] (aq dP):=scm
abbrev fZ:YA:=top 33
theorem oq:ay ["book","tree"] ["book","tree"] (aq fZ):=scm
abbrev ik:YA:=top 35
theorem ow:ay ["pattern"] ["pattern"] (aq ik):=scm
abbrev jl:YA:=top 36
theorem eV:ay ["entries","parts","numbers","done","part","kids"] ["entries","parts","numbers"] (aq jl):=scm
abbrev hV:YA:=top 37
theorem cH:ay ["row","at","fresh","told","ahead","entry","late"] ["row","at"] (aq hV):=scm
abbrev cO:YA:=top 38
theorem jm:ay ["book","tree","entries","at"] ["book","tree"] (aq cO):=scm
abbrev fP:YA:=top 40
theorem og:ay ["script","k"] ["script","k"] (aq fP):=scm
abbrev gw:YA:=top 41
theorem eW:ay ["cell","k","near"] ["cell","k"] (aq gw):=scm
abbrev fc:YA:=top 42
theorem aH:ay ["cell","letters","rest","size","more","stem","at","leaf","turn","begun","kinds","k","many","pick","name"] ["cell","letters"] (aq fc):=scm
abbrev fS:YA:=top 43
theorem iZ:ay ["kinds","cell","leaves"] ["kinds","cell"] (aq fS):=scm
abbrev dW:YA:=top 44
theorem bK:ay ["cell","outs","states","kids","deep","rest","kind","parts","k"] ["cell","outs","states","kids","deep"] (aq dW):=scm
abbrev fj:YA:=top 45
theorem gM:ay ["left","many","digit"] ["left","many"] (aq fj):=scm
abbrev cW:YA:=top 46
theorem bz:ay ["left","outs","states","kids","deep","state","some","kind","parts","k"] ["left","outs","states","kids","deep"] (aq cW):=scm
abbrev cf:YA:=top 47
theorem aV:ay ["cell","ins","outs","states","deep","left","rules","state","row","k"] ["cell","ins","outs","states","deep"] (aq cf):=scm
abbrev fM:YA:=top 48
theorem cL:ay ["cell","ins","outs","states","deep","rules","state","row","k"] ["cell","ins","outs","states","deep"] (aq fM):=scm
abbrev fX:YA:=top 49
theorem iU:ay ["kind","kids","high"] ["kind","kids"] (aq fX):=scm
abbrev gq:YA:=top 50
theorem bi:ay ["cells","ins","leaf","wide","row","cell","rest","kind","made"] ["cells","ins"] (aq gq):=scm
abbrev gm:YA:=top 51
theorem iI:ay ["pattern","kids","sizes"] ["pattern","kids"] (aq gm):=scm
abbrev fB:YA:=top 52
theorem eg:ay ["book","tree","names","kids"] ["book","tree"] (aq fB):=scm
abbrev dQ:YA:=top 53
theorem cC:ay ["pattern","kind","leaf","many","k","kids"] ["pattern","kind","leaf","many"] (aq dQ):=scm
abbrev dZ:YA:=top 54
theorem aM:ay ["script","most","deep","ins","outs","cell","book","rest","wide","leaf","kind","rules","row"] ["script","most","deep"] (aq dZ):=scm
abbrev fo:YA:=top 55
theorem l8:ay ["tree"] ["tree"] (aq fo):=scm
abbrev fy:YA:=top 56
theorem cb:ay ["book","pattern","trees","known","row","tree","key","names","own","entry"] ["book","pattern","trees","known","row"] (aq fy):=scm
abbrev dR:YA:=top 57
theorem cA:ay ["book","tree","kinds","e"] ["book","tree"] (aq dR):=scm
abbrev iX:YA:=top 58
theorem jn:ay ["script","book","tree","row","at","found"] ["script"] (aq iX):=scm
structure FX(K:WX)(mg:Xk->Option WW)(n:Xk)(s:YA)(ps:List Xk) where
 f:WT
 d:YO
 F:Fun K n n s f d
 b:Binds K d ps []
 m:mg n=some (.ref f)
section
open PySem.W
variable{K:Frag}{n:Xk}{kV dc pm cd ct:WW}{an:Option WT}{sl:Array (Option WW)}(X:K.In h)(G:h.Ns Xv mg)
noncomputable def fx1{p0:Xk}(a:nsIn K Xv n=some (some (.ref f)):=by k_is)(l:K.lookup f=some ⟨oc,od,.func (fnOf n n (bA st) (bj st) (aq st) .none kV dc pm an cd ct),sl⟩:=by k_is)(c:codeIn K cd n=true:=by k_is)(k:keepIn K (.ref f)=true:=by k_is)(hb:∀(kV dc pm:WW)(an:Option WT)(cd ct u0:WW),bindArgs (fnOf n n (bA st) (bj st) (aq st) .none kV dc pm an cd ct) ⟨[u0],[]⟩=pure [(p0,u0)]:=by intros;rfl):FX K mg n st [p0] :=
 ⟨f,_,cQ l c k,(cQ l c k).binds λa b c d e f us hl=>by obtain⟨u0,rfl⟩:=us1 hl;exact hb a b c d e f u0,mg_of X G a⟩
noncomputable def fx2{p0 p1:Xk}(a:nsIn K Xv n=some (some (.ref f)):=by k_is)(l:K.lookup f=some ⟨oc,od,.func (fnOf n n (bA st) (bj st) (aq st) .none kV dc pm an cd ct),sl⟩:=by k_is)(c:codeIn K cd n=true:=by k_is)(k:keepIn K (.ref f)=true:=by k_is)(hb:∀(kV dc pm:WW)(an:Option WT)(cd ct u0 u1:WW),bindArgs (fnOf n n (bA st) (bj st) (aq st) .none kV dc pm an cd ct) ⟨[u0,u1],[]⟩=pure [(p0,u0),(p1,u1)]:=by intros;rfl):FX K mg n st [p0,p1] :=
 ⟨f,_,cQ l c k,(cQ l c k).binds λa b c d e f us hl=>by obtain⟨u0,u1,rfl⟩:=us2 hl;exact hb a b c d e f u0 u1,mg_of X G a⟩
noncomputable def fx3{p0 p1 p2:Xk}(a:nsIn K Xv n=some (some (.ref f)):=by k_is)(l:K.lookup f=some ⟨oc,od,.func (fnOf n n (bA st) (bj st) (aq st) .none kV dc pm an cd ct),sl⟩:=by k_is)(c:codeIn K cd n=true:=by k_is)(k:keepIn K (.ref f)=true:=by k_is)(hb:∀(kV dc pm:WW)(an:Option WT)(cd ct u0 u1 u2:WW),bindArgs (fnOf n n (bA st) (bj st) (aq st) .none kV dc pm an cd ct) ⟨[u0,u1,u2],[]⟩=pure [(p0,u0),(p1,u1),(p2,u2)]:=by intros;rfl):FX K mg n st [p0,p1,p2] :=
 ⟨f,_,cQ l c k,(cQ l c k).binds λa b c d e f us hl=>by obtain⟨u0,u1,u2,rfl⟩:=us3 hl;exact hb a b c d e f u0 u1 u2,mg_of X G a⟩
noncomputable def fx4{p0 p1 p2 p3:Xk}(a:nsIn K Xv n=some (some (.ref f)):=by k_is)(l:K.lookup f=some ⟨oc,od,.func (fnOf n n (bA st) (bj st) (aq st) .none kV dc pm an cd ct),sl⟩:=by k_is)(c:codeIn K cd n=true:=by k_is)(k:keepIn K (.ref f)=true:=by k_is)(hb:∀(kV dc pm:WW)(an:Option WT)(cd ct u0 u1 u2 u3:WW),bindArgs (fnOf n n (bA st) (bj st) (aq st) .none kV dc pm an cd ct) ⟨[u0,u1,u2,u3],[]⟩=pure [(p0,u0),(p1,u1),(p2,u2),(p3,u3)]:=by intros;rfl):FX K mg n st [p0,p1,p2,p3] :=
 ⟨f,_,cQ l c k,(cQ l c k).binds λa b c d e f us hl=>by obtain⟨u0,u1,u2,u3,rfl⟩:=us4 hl;exact hb a b c d e f u0 u1 u2 u3,mg_of X G a⟩
noncomputable def fx5{p0 p1 p2 p3 p4:Xk}(a:nsIn K Xv n=some (some (.ref f)):=by k_is)(l:K.lookup f=some ⟨oc,od,.func (fnOf n n (bA st) (bj st) (aq st) .none kV dc pm an cd ct),sl⟩:=by k_is)(c:codeIn K cd n=true:=by k_is)(k:keepIn K (.ref f)=true:=by k_is)(hb:∀(kV dc pm:WW)(an:Option WT)(cd ct u0 u1 u2 u3 u4:WW),bindArgs (fnOf n n (bA st) (bj st) (aq st) .none kV dc pm an cd ct) ⟨[u0,u1,u2,u3,u4],[]⟩=pure [(p0,u0),(p1,u1),(p2,u2),(p3,u3),(p4,u4)]:=by intros;rfl):FX K mg n st [p0,p1,p2,p3,p4] :=
 ⟨f,_,cQ l c k,(cQ l c k).binds λa b c d e f us hl=>by obtain⟨u0,u1,u2,u3,u4,rfl⟩:=us5 hl;exact hb a b c d e f u0 u1 u2 u3 u4,mg_of X G a⟩
end
theorem pcF{kk k:Nat}{n:Xk}{es:List XY}{t:TA}{p:Pos}(g:FX X.K X.mg n st ps)(F:FnOk X.prog X.w X.K X.mg X.base CX0 k g.f g.d ps sp)(hr:Room kk X.A)(ha:PA X (e::es) t)(hle:k<=kk:=by first|decide|omega)(hg:Gl X n:=by rfl)(Df:(n == ("__debug__":Xk))=false:=by decide)(he:XJ (e::es) X.env=(false,YW e X.env)::XJ es X.env:=by rfl)(AV:(ZD pos (XJ es X.env)).any (·.1)=false:=by rfl):PE X (.Call (.Name n p) (e::es) [] pos) (f9 sp [] E0 t) :=
 cB F (hr.mono hle) hg g.m g.F.kp g.b .nil cK ha Df he AV
structure TX(K:WX)(mg:Xk->Option WW) where
 c_CALL_SIGN:∃tk,mg "CALL_SIGN"=some (.str (WU "?") tk)
 c_TALLEST:∃tk,mg "TALLEST"=some (.int (150) tk)
 c_HEAD:∃tk,mg "HEAD"=some (.int (-1) tk)
 e_BookError:WT
 x_BookError:mg "BookError"=some (.ref e_BookError)
 e_Great:WT
 x_Great:mg "Great"=some (.ref e_Great)
 e_Many:WT
 x_Many:mg "Many"=some (.ref e_Many)
 xe_Great:PySem.W.excIn K e_Great [.type "ValueError",.type "Exception",.type "BaseException",.type "object"] "ValueError.__new__"=true
 xg_Great:XT K (.ref e_Great) "__getattribute__"=some (some (.builtin "BaseException.__getattribute__"))
 xh_Great:XT K (.ref e_Great) "__getattr__"=some none
 xc_Great:XT K (.ref e_Great) "__class__"=some (some (.builtin "object.__class__"))
 xo_Great:PySem.W.mroIn K e_Great (.type "object")=some true
 xb_Great:PySem.W.mroIn K e_Great (.type "BaseException")=some true
 hit_Great_BookError:PySem.W.exmOne K (.ref e_Great) (.ref e_BookError)=some true
 kit_Great_Great:Y3 K (.ref e_Great) (.ref e_Great)=some true
 kit_Great_Many:Y3 K (.ref e_Great) (.ref e_Many)=some false
 kit_Great_ValueError:Y3 K (.ref e_Great) (.type "ValueError")=some true
 g_kids_of:FX K mg "kids_of" jr ["thing"]
 g_walked:FX K mg "walked" kq ["thing"]
 g_placed:FX K mg "placed" lR ["thing"]
 g_tall:FX K mg "tall" qo ["tree"]
 g_is_call:FX K mg "is_call" jp ["thing"]
 g_called_by:FX K mg "called_by" fW ["call"]
 g_tall_of:FX K mg "tall_of" jb ["pattern"]
 g_calls_in:FX K mg "calls_in" im ["pattern"]
 g_ins_of:FX K mg "ins_of" lA ["book"]
 g_head_of:FX K mg "head_of" jx ["book"]
 g_rules_of:FX K mg "rules_of" hG ["book"]
 g_above:FX K mg "above" n8 ["tree"]
 f_Level_init:WT
 d_Level_init:YO
 F_Level_init:Fun K "__init__" "Level.__init__" cq f_Level_init d_Level_init
 b_Level_init:Binds K d_Level_init ["self"] []
 f_Level_spot_of:WT
 d_Level_spot_of:YO
 F_Level_spot_of:Fun K "spot_of" "Level.spot_of" bJ f_Level_spot_of d_Level_spot_of
 b_Level_spot_of:Binds K d_Level_spot_of ["self","tree"] []
 g_digests_of:FX K mg "digests_of" ff ["book","digest"]
 g_hand_on:FX K mg "hand_on" jc ["digests","level","number","beneath"]
 g_levels_of:FX K mg "levels_of" gj ["digests","head","tree"]
 g_kid_worths:FX K mg "kid_worths" fw ["spots","beneath"]
 g_folded:FX K mg "folded" kQ ["book","head","tree","digest","worth"]
 g_depths_in:FX K mg "depths_in" f8 ["pattern"]
 g_height_worth:FX K mg "height_worth" dP ["pair","heights"]
 g_height_of:FX K mg "height_of" fZ ["book","tree"]
 g_parts_in:FX K mg "parts_in" ik ["pattern"]
 g_entered:FX K mg "entered" jl ["entries","parts","numbers"]
 g_in_order:FX K mg "in_order" hV ["row","at"]
 g_shared:FX K mg "shared" cO ["book","tree"]
 tc_shared:WT
 tp_shared:WT
 th_shared:g_shared.d.code=.ref tc_shared
 g__law_cell:FX K mg "_law_cell" fP ["script","k"]
 g__law_turn:FX K mg "_law_turn" gw ["cell","k"]
 g__law_kinds:FX K mg "_law_kinds" fc ["cell","letters"]
 g__law_leaf:FX K mg "_law_leaf" fS ["kinds","cell"]
 g__law_pattern:FX K mg "_law_pattern" dW ["cell","outs","states","kids","deep"]
 g__law_digit:FX K mg "_law_digit" fj ["left","many"]
 g__law_by_digits:FX K mg "_law_by_digits" cW ["left","outs","states","kids","deep"]
 g__law_book_by_digits:FX K mg "_law_book_by_digits" cf ["cell","ins","outs","states","deep"]
 g__law_book:FX K mg "_law_book" fM ["cell","ins","outs","states","deep"]
 g__law_knot:FX K mg "_law_knot" fX ["kind","kids"]
 g__law_tree:FX K mg "_law_tree" gq ["cells","ins"]
 g__law_size:FX K mg "_law_size" gm ["pattern","kids"]
 g__law_sizes:FX K mg "_law_sizes" fB ["book","tree"]
 g__law_wrapped:FX K mg "_law_wrapped" dQ ["pattern","kind","leaf","many"]
 g__law_setting:FX K mg "_law_setting" dZ ["script","most","deep"]
 g__law_words:FX K mg "_law_words" fo ["tree"]
 g__law_entry:FX K mg "_law_entry" fy ["book","pattern","trees","known","row"]
 g__law_refusal:FX K mg "_law_refusal" dR ["book","tree"]
 g_law:FX K mg "law" iX ["script"]
 e_Level:WT
 x_Level:mg "Level"=some (.ref e_Level)
 cl_Level:Cls K e_Level
 mk_Level:Mk K e_Level f_Level_init
 na_Level_trees:NoAttr K e_Level "trees"
 na_Level_asked:NoAttr K e_Level "asked"
 na_Level_kid_spots:NoAttr K e_Level "kid_spots"
 me_Level_spot_of:Meth K e_Level "spot_of" f_Level_spot_of
 n_ValueError:mg "ValueError"=none
 n_dict:mg "dict"=none
 n_enumerate:mg "enumerate"=none
 n_int:mg "int"=none
 n_isinstance:mg "isinstance"=none
 n_len:mg "len"=none
 n_list:mg "list"=none
 n_max:mg "max"=none
 n_numbers:mg "numbers"=none
 n_pair:mg "pair"=none
 n_range:mg "range"=none
 n_reversed:mg "reversed"=none
 n_sum:mg "sum"=none
 n_tuple:mg "tuple"=none
 n_zip:mg "zip"=none
theorem TX.X_Great(T:TX K mg):jw K T.e_Great:=⟨T.xe_Great,T.xg_Great,T.xh_Great,T.xc_Great,T.xo_Great,T.xb_Great⟩
theorem zh:([WU "number",WU "kid",WU "place"]:List Xk).Nodup:=by decide +kernel
theorem zw:([WU "place",WU "part"]:List Xk).Nodup:=by decide +kernel
theorem zj:([WU "call",WU "depth",WU "heights"]:List Xk).Nodup:=by decide +kernel
theorem yU:([WU "state",WU "pair",WU "worth",WU "kids"]:List Xk).Nodup:=by decide +kernel
theorem y4:([WU "place",WU "call"]:List Xk).Nodup:=by decide +kernel
theorem zA:([WU "kid",WU "done"]:List Xk).Nodup:=by decide +kernel
theorem yB:([WU "kid",WU "fresh"]:List Xk).Nodup:=by decide +kernel
theorem vn:([WU "kind"]:List Xk).Nodup:=by decide +kernel
theorem zI:([WU "kind",WU "deep"]:List Xk).Nodup:=by decide +kernel
theorem yc:([WU "kid"]:List Xk).Nodup:=by decide +kernel
theorem zt:([WU "part",WU "kind",WU "leaf",WU "many"]:List Xk).Nodup:=by decide +kernel
theorem yM:([WU "pattern",WU "kind",WU "leaf",WU "rest"]:List Xk).Nodup:=by decide +kernel
theorem ze:([WU "part",WU "kids"]:List Xk).Nodup:=by decide +kernel
theorem wS:([WU "size"]:List Xk).Nodup:=by decide +kernel
theorem yW:([WU "kid",WU "book"]:List Xk).Nodup:=by decide +kernel
theorem zr:([WU "row",WU "kids",WU "names",WU "tree"]:List Xk).Nodup:=by decide +kernel
theorem yX:([WU "part",WU "book",WU "trees",WU "known",WU "row"]:List Xk).Nodup:=by decide +kernel
section
variable(T:TX K mg)
inductive jN(vs:List V)(H:Hp)(Q:VK)(_E:XK):Prop
 |mk (a:WT) (t:Th) (Aq:vs=[.ref a]) (Ar:At H t a) (Ax:∀(r:WT)(as:List WT)(H':Hp),j! H H'->H' r=some (.tup (as.map i!))->Ats H' t.kids as->Q (.ref r) H'):jN  vs H Q _E
def pX:Sp:=jN
theorem il:FnOk P w K mg base CX0 1 T.g_kids_of.f T.g_kids_of.d ["thing"] pX:=by
 refine T.g_kids_of.F.okA qt λAj A outer s H vs Q E hr h=>?_;obtain⟨a,t,rfl,hA,k⟩:=h
 refine⟨_,(ag (cu (aO fD (aw ax (pv 0) ai (λ_ _=>rfl)) (cX (v:=.str (WU "?")) rfl T.c_CALL_SIGN.choose_spec ⟨_,rfl⟩) (aS _)) (am (aE (aR ae))) bB)
  (am (aE (aW dX (pv 0) (bp ai) bt)))),?_⟩
 try dsimp only[AK,Ad]
 cases t with
 | knot n ks =>
   rw[At]at hA;refine hid λZZ kZ=>?_;obtain⟨hn,as,h1,h2⟩:=hA;refine kZ ?_;refine⟨_,rfl,a,_,0,.str n,rfl,rfl,k! h1,at0,rfl,_,rfl,?_⟩;refine dh (λc=>g! (e! c) (λz=>hn (V.str.inj z))) (λ_=>?_);refine⟨_,rfl,1,rfl,a,_,rfl,k! h1,?_,λr hr=>?_⟩
   .intro z;have:=z.1;simp[t!]at this
   .rw[cy];exact k r as _ (aj hr _) ad (h2.mono (hI hr))
 | call sn kn =>
   rw[At]at hA;refine⟨_,rfl,a,_,0,.str q,rfl,rfl,k! hA,at0,rfl,_,rfl,?_⟩;refine dh (λ_=>?_) (λc=>g! (d! rfl) c);refine⟨by show 0<=Xh;decide,λr hr=>?_⟩;exact k r [] _ (aj hr _) ad .nil
inductive lz(vs:List V)(H:Hp)(Q:VK)(_E:XK):Prop
 |mk (a:WT) (t:Th) (Aq:vs=[.ref a]) (Ar:At H t a) (Ax:t.size<=100000) (AN:∀(r:WT)(as:List WT)(H':Hp),j! H H'->H r=none->H' r=some (.lst (as.map i!))->Ats H' t.walk as->Q (.ref r) H'):lz  vs H Q _E
def sW:Sp:=lz
theorem tu:FnOk P w K mg base CX0 2 T.g_walked.f T.g_walked.d ["thing"] sW:=by
 refine T.g_walked.F.okA gB λAj A outer s H vs Q E hr h=>?_;obtain⟨a,t,rfl,hA,hsz,k⟩:=h
 refine⟨_,(ag (ao 1 gB.nd (aN ae))
  (ag (ao 2 gB.nd (aN (ac (pv 0) ae)))
  (ag (eF XE (cM (pv 2) (λ_=>rfl)) (ag (ao 3 gB.nd (nX Xg PySem.F.slot_list_pop PySem.F.type_list_pop nT (pv 2)))
  (ag (ba (bQ Xg Xu Xs aQ (pv 1) (ac (pv 3) ae)))
  (am (ba (bQ Xg PySem.F.slot_list_extend PySem.F.type_list_extend lb (pv 2) (ac (rQ yh (pcF T.g_kids_of (il T) hr (ac (pv 3) ae))) ae)))))))
  (am (aE (pv 1)))))),?_⟩
 try dsimp only[AK,Ad]
 refine⟨by show 0<=Xh;decide,λmt EW=>?_⟩;refine⟨_,rfl,by show 1<=Xh;decide,λah Dr=>?_⟩;have FV:H ah=none:=(aj EW _).free Dr;have Ay:ah≠mt:=λz=>by rw[z,ad]at Dr;cases Dr
 refine⟨λm Y H2=>Ex5 λ(ms as:List WT)(Ms As:List Th)(p:Option V)=>An8 (Y=[some (.ref a),some (.ref mt),some (.ref ah),p]) (j! H H2) (H2 mt=some (.lst (ms.map i!))) (H2 ah=some (.lst (as.map i!))) (Ats H2 Ms ms) (Ats H2 As as) (Ms++walks As.reverse=t.walk) (m=au As),⟨_,[],[a],[],[t],none,rfl,?_,?_,?_,.nil,.cons (hA.mono ?_) .nil,?_,rfl⟩,?_⟩
 .exact aF (aj EW _) FV
 .rw[af Ay.symm,ad];rfl
 .rw[ad];rfl
 .exact n! (aF (aj EW _) FV)
 .simp[walks]
 rintro m Y H2 ⟨ms,as,Ms,As,p,rfl,sm,e1,e2,a1,a2,hw,rfl⟩
 have hlen:ms.length+au As<=100000:=by
  have h1:=h! Ze hw;rw[W6,i9,Th.walk_len,<-a1.length]at h1;have h2:=mD As;omega
 refine⟨_,rfl,_,.inl ⟨_,l! e2,rfl⟩,?_⟩;refine dh (λc=>?_) (λc=>?_)
 ·-- a part is taken off
  refine⟨λi' H'=>∃m',m'<au As/\Ex5 λ(ms as:List WT)(Ms As:List Th)(p:Option V)=>An8 (i'=[some (.ref a),some (.ref mt),some (.ref ah),p]) (j! H H') (H' mt=some (.lst (ms.map i!))) (H' ah=some (.lst (as.map i!))) (Ats H' Ms ms) (Ats H' As as) (Ms++walks As.reverse=t.walk) (m'=au As),λi' H' h=>h,?_⟩;have Ca:as≠[]:=by intro z;subst z;simp at c
  obtain⟨AE,b,rfl⟩:∃AE b,as=AE++[b]:=⟨as.dropLast,as.getLast Ca,(ZV Ca).symm⟩;obtain⟨Us,x,rfl,a3,a4⟩:=a2.snoc_inv;have hs:au (Us++[x])=au Us+x.size:=by rw[bf,au,au];omega
  have Jh:=x.size_eq;rw[hs]at hlen;refine⟨_,rfl,.inl ⟨rfl,_,l! e2⟩,ah,_,.ref b,rfl,rfl,e2,by simp,?_⟩;have d1:((AE++[b]).map i!).dropLast=AE.map i!:=by simp
  rw[d1];refine⟨_,rfl,.inl ⟨rfl,_,l! (by rw[af Ay.symm];exact e1)⟩,_,rfl,mt,_,.ref b,rfl,rfl,by rw[af Ay.symm];exact e1,lbE (by omega),?_⟩;have k1:KT H2 (upd (upd H2 ah (.lst (AE.map i!))) mt (.lst (ms.map i!++[.ref b]))):=(bx e2).trans (bx (xs:=ms.map i!) (by rw[af Ay.symm];exact e1));refine⟨_,rfl,.inl ⟨rfl,_,l! (by rw[af Ay,ad])⟩,_,rfl,b,x,rfl,a4.mono k1,λr ks H3 s3 e3 a5=>?_⟩;refine⟨r,_,rfl,k! e3,λl hl=>?_⟩;have l1:l≠ah:=λz=>by rw[z,s3 ah _ (by rw[af Ay,ad])]at hl;cases hl
  have l2:l≠mt:=λz=>by rw[z,s3 mt _ ad]at hl;cases hl
  refine⟨ah,l,_,_,rfl,rfl,by rw[af l1.symm];exact s3 ah _ (by rw[af Ay,ad]),k! ad,Za (aX ?_),?_⟩
  .have q1:=a3.length;have q2:=a5.length;have q3:=cV Us;have q4:=cV x.kids;rw[WO,YV,WO];omega
  .have k2:KT H2 (upd (upd H3 l (.tup (ks.map i!).reverse)) ah (.lst (AE.map i!++(ks.map i!).reverse))) :=
    k1.trans ((n! s3).trans ((hI hl).trans (bx (xs:=AE.map i!) (by rw[af l1.symm];exact s3 ah _ (by rw[af Ay,ad])))))
   have k3:KT H3 (upd (upd H3 l (.tup (ks.map i!).reverse)) ah (.lst (AE.map i!++(ks.map i!).reverse))) :=
    (hI hl).trans (bx (xs:=AE.map i!) (by rw[af l1.symm];exact s3 ah _ (by rw[af Ay,ad])))
   refine⟨au (Us++x.kids.reverse),?_,ms++[b],AE++ks.reverse,Ms++[x],Us++x.kids.reverse,some (.ref b),rfl,?_,?_,?_,?_,?_,?_,rfl⟩
   .rw[bf,mD,hs];omega
   .have s4:j! H (upd (upd H2 ah (.lst (AE.map i!))) mt (.lst (ms.map i!++[.ref b]))):=aF (aF sm FV) EW;have nl:H l=none:=s4.free (s3.free hl);exact aF (aF (s4.trans s3) nl) FV
   .rw[af Ay.symm,af l2.symm,s3 mt _ ad,W9];rfl
   .rw[ad,W9,List.map_reverse]
   .exact(a1.mono k2).append (.cons (a4.mono k2) .nil)
   .exact(a3.mono k2).append (a5.mono k3).reverse
   .rw[<-hw,X6,YE,YE,Zy,iV];show Ms++([x]++(walks x.kids++walks Us.reverse))=Ms++walks (x::Us.reverse);rw[walks,x.walk_eq];rfl
 .have hz:as=[]:=by
   cases as with
   |nil=>rfl
   |cons y ys=>simp at c
  subst hz;have Hz:As=[]:=Yy.mp a2.length.symm;subst Hz;refine⟨_,rfl,k mt ms H2 sm EW e1 ?_⟩;have BU:Ms=t.walk:=by simpa[walks]using hw
  rw[<-BU];exact a1
inductive lq(vs:List V)(H:Hp)(Q:VK)(_E:XK):Prop
 |mk (a:WT) (t:Th) (Aq:vs=[.ref a]) (Ar:At H t a) (Ax:t.size<=100000) (AN:t.tall<=100000) (Bd:∀(r:WT)(as:List WT)(H':Hp),j! H H'->H r=none->H' r=some (.lst (as.map i!))->PsAt H' (t.pl []) as->Q (.ref r) H'):lq  vs H Q _E
def tJ:Sp:=lq
theorem sd:FnOk P w K mg base CX0 2 T.g_placed.f T.g_placed.d ["thing"] tJ:=by
 refine T.g_placed.F.okA dN λAj A outer s H vs Q E hr h=>?_;obtain⟨a,t,rfl,hA,hsz,Ao,k⟩:=h
 refine⟨_,(ag (ao 1 dN.nd (aN ae))
  (ag (ao 2 dN.nd (aN (ac (aR (ac (aR ae) (ac (pv 0) ae))) ae)))
  (ag (eF XE (cM (pv 2) (λ_=>rfl)) (ag (kW (nX Xg PySem.F.slot_list_pop PySem.F.type_list_pop nT (pv 2)) (cv rfl (aI (pgN 3 dN.nd) (aI (pgN 4 dN.nd) bS))))
  (ag (ba (bQ Xg Xu Xs aQ (pv 1) (ac (aR (ac (pv 3) (ac (pv 4) ae))) ae)))
  (ag (dG (i:=5) (N:=[WU "number",WU "kid",WU "place"]) (js:=[none,none,some 3]) (g:=(pR K 2 (fF (az 0) (fF (az 1) qi)))) (tt:=bu) (te:=(tE (aU (tOp (uV K) (bc 2) (tE (aU (bc 0) dS))) (aU (bc 1) dS)))) dN.nd rfl (Or.inl rfl) rfl (bX rfl (by decide +kernel) (by decide +kernel) rfl rfl rfl) (qX rfl T.n_enumerate (pcF T.g_kids_of (il T) hr (ac (pv 4) ae))) (λ_ _ _ _ _ _=>(cv rfl (aI (pgN 0 zh) (aI (pgN 1 zh) bS)))) (kL (db bP (aP rfl) (db bP (aP rfl) lj))) (λ_ _ _ _ _ _=>bC) (λ_ _ _ _ _ _=>(aR (ac (av dJ (pv 2) (aR (ac (pv 0) ae))) (ac (pv 1) ae)))))
  (am (ba (bQ Xg PySem.F.slot_list_extend PySem.F.type_list_extend tL (pv 2) (ac (rQ vV (pv 5)) ae))))))))
  (am (aE (pv 1)))))),?_⟩
 try dsimp only[AK,Ad]
 refine⟨lnE rfl,λmt EW=>?_⟩;have s1:j! H (upd H mt (.lst [])):=aj EW _;have OV:(upd H mt (.lst [])) mt=some (.lst []):=ad;generalize upd H mt (.lst [])=H1 at s1 OV |-;refine⟨lnE rfl,λp0 WE=>?_⟩;refine⟨_,rfl,lnE rfl,λp1 DI=>?_⟩;refine⟨lnE rfl,λah Dr=>?_⟩;have s2:j! H1 (upd (upd H1 p0 (.tup [])) p1 (.tup [.ref p0,.ref a])):=(aj WE _).trans (aj DI _);have e1:(upd (upd H1 p0 (.tup [])) p1 (.tup [.ref p0,.ref a])) p1=some (.tup [.ref p0,.ref a]):=ad;have e0:(upd (upd H1 p0 (.tup [])) p1 (.tup [.ref p0,.ref a])) p0=some (.tup []):=aj DI _ _ _ ad;generalize(upd (upd H1 p0 (.tup [])) p1 (.tup [.ref p0,.ref a]))=H2 at s2 e1 e0 Dr |-;have HE:H1 ah=none:=s2.free Dr;have FV:H ah=none:=s1.free HE;have Ay:ah≠mt:=λz=>by rw[z,OV]at HE;cases HE
 refine⟨λm Y H3=>Ex7 λ(ms as:List WT)(Ms As:List (List Int×Th))(c3 c4 c5:Option V)=>An9 (Y=[some (.ref a),some (.ref mt),some (.ref ah),c3,c4,c5]) (j! H H3) (H3 mt=some (.lst (ms.map i!))) (H3 ah=some (.lst (as.map i!))) (PsAt H3 Ms ms) (PsAt H3 As as) (Ms++plP As.reverse=t.pl []) ((∀p∈As,p.1.length+p.2.tall<=100000)) (m=szP As),⟨_,[],[p1],[],[([],t)],none,none,none,rfl,?_,?_,?_,.nil,.cons ⟨p0,a,?_,?_,?_⟩ .nil,?_,?_,rfl⟩,?_⟩
 .exact aF (s1.trans s2) FV
 .rw[af Ay.symm];exact s2 _ _ OV
 .rw[ad];rfl
 .exact aj Dr _ _ _ e1
 .exact aj Dr _ _ _ e0
 .exact hA.mono (n! (aF (s1.trans s2) FV))
 .simp[plP]
 .intro p hp;rw[WZ]at hp;subst hp;simpa using Ao
 rintro m Y H3 ⟨ms,as,Ms,As,c3,c4,c5,rfl,sm,em,ea,a1,a2,hw,hb,rfl⟩
 have hlen:ms.length+szP As<=100000:=by
  have h1:=h! Ze hw;rw[W6,qT,Th.pl_len,rO]at h1;have h2:=W5 a1;omega
 refine⟨_,rfl,_,.inl ⟨_,l! ea,rfl⟩,?_⟩;refine dh (λc=>?_) (λc=>?_)
 .refine⟨λi' H'=>∃m',m'<szP As/\Ex7 λ(ms as:List WT)(Ms As:List (List Int×Th))(c3 c4 c5:Option V)=>An9 (i'=[some (.ref a),some (.ref mt),some (.ref ah),c3,c4,c5]) (j! H H') (H' mt=some (.lst (ms.map i!))) (H' ah=some (.lst (as.map i!))) (PsAt H' Ms ms) (PsAt H' As as) (Ms++plP As.reverse=t.pl []) ((∀p∈As,p.1.length+p.2.tall<=100000)) (m'=szP As),λi' H' h=>h,?_⟩;have Ca:as≠[]:=by intro z;subst z;simp at c
  refine hid λZZ kZ=>?_;obtain⟨AE,b,rfl⟩:∃AE b,as=AE++[b]:=⟨as.dropLast,as.getLast Ca,(ZV Ca).symm⟩;obtain⟨Us,⟨pre,x⟩,rfl,a3,pa,ta,eb,CN,B6⟩:=P2.snoc_inv a2;refine kZ ?_;have Tn:szP (Us++[(pre,x)])=szP Us+x.size:=by rw[fq,szP,szP];rfl
  have Jh:=x.size_eq;rw[Tn]at hlen;have WG:=hb (pre,x) (by simp);simp only at WG CN B6;refine⟨_,rfl,.inl ⟨rfl,_,l! ea⟩,ah,_,.ref b,rfl,rfl,ea,by simp,?_⟩;have d1:((AE++[b]).map i!).dropLast=AE.map i!:=by simp
  rw[d1];have k1:KT H3 (upd H3 ah (.lst (AE.map i!))):=bx ea;have GP:j! H (upd H3 ah (.lst (AE.map i!))):=aF sm FV;have KA:(upd H3 ah (.lst (AE.map i!))) mt=some (.lst (ms.map i!)):=by rw[af Ay.symm];exact em
  have OW:(upd H3 ah (.lst (AE.map i!))) ah=some (.lst (AE.map i!)):=ad;generalize(upd H3 ah (.lst (AE.map i!)))=H4 at k1 GP KA OW |-;refine⟨b,_,rfl,k! (k1 _ _ eb),rfl,_,_,rfl,_,_,rfl,rfl,?_⟩
  refine⟨_,rfl,.inl ⟨rfl,_,l! KA⟩,_,rfl,_,rfl,lnE rfl,λpr BP=>?_⟩;have OX:mt≠pr:=ar KA BP;refine⟨mt,_,_,rfl,rfl,aj BP _ _ _ KA,lbE (by omega),?_⟩;have OY:(upd H4 pr (.tup [.ref pa,.ref ta])) mt=some (.lst (ms.map i!)):=aj BP _ _ _ KA;have k2:KT H4 (upd (upd H4 pr (.tup [.ref pa,.ref ta])) mt (.lst (ms.map i!++[.ref pr]))):=(hI BP).trans (bx OY);have OZ:j! H (upd (upd H4 pr (.tup [.ref pa,.ref ta])) mt (.lst (ms.map i!++[.ref pr]))):=aF (aF GP (GP.free BP)) EW;have Tp:(upd (upd H4 pr (.tup [.ref pa,.ref ta])) mt (.lst (ms.map i!++[.ref pr]))) mt=some (.lst ((ms++[pr]).map i!)):=uAE;have Ji:(upd (upd H4 pr (.tup [.ref pa,.ref ta])) mt (.lst (ms.map i!++[.ref pr]))) ah=some (.lst (AE.map i!)):=by rw[af Ay,af (ar OW BP)];exact OW
  have Kv:(upd (upd H4 pr (.tup [.ref pa,.ref ta])) mt (.lst (ms.map i!++[.ref pr]))) pr=some (.tup [.ref pa,.ref ta]):=by rw[af OX.symm,ad]
  generalize(upd (upd H4 pr (.tup [.ref pa,.ref ta])) mt (.lst (ms.map i!++[.ref pr])))=H5 at k2 OZ Tp Ji Kv |-;have O0:KT H3 H5:=k1.trans k2;have O1:=O0 _ _ CN
  refine⟨_,rfl,ta,x,rfl,B6.mono O0,λr ks H6 s6 er Bn=>⟨r,rfl,⟨_,k! er⟩,?_⟩⟩;have AM:ks.length=x.kids.length:=Bn.length;have MU:=cV x.kids;intro D hD;have O2:=s6 _ _ O1;refine⟨ks.length,λj H7=>An3 (j<=ks.length) (j! H6 H7) (Ex1 λ(bs:List WT)=>An2 (H7 D=some (.lst (bs.map i!))) (PsAt H7 ((eQ pre 0 x.kids).take j) bs)),⟨XB _,aj hD _,[],ad,.nil⟩,?_⟩;rintro j H7 ⟨hj,s7,bs,eD,AY⟩;by_cases Ej:j=ks.length
  .left;refine⟨⟨_,k! (s7 _ _ er),by rw[WO];exact Ej.symm⟩,?_⟩;have Ab:(eQ pre 0 x.kids).take j=eQ pre 0 x.kids:=by rw[Ej,AM,<-ku pre 0 x.kids,Zg]
   rw[Ab]at AY;have O3:=s7 _ _ (s6 _ _ Ji);have Tq:=s7 _ _ (s6 _ _ Tp)
   have BM:bs.length=x.kids.length:=by
    have:=W5 AY;rw[ku]at this;exact this.symm
   refine⟨_,rfl,.inl ⟨rfl,_,l! O3⟩,_,rfl,D,_,rfl,l! eD,λl hl=>?_⟩;have Hm:ah≠l:=ar O3 hl;have DJ:mt≠l:=ar Tq hl;have Tr:(upd H7 l (.lst (bs.map i!).reverse)) ah=some (.lst (AE.map i!)):=by rw[af Hm];exact O3
   have q3:AE.length=Us.length:=(W5 a3).symm;have q4:=r8 Us;refine⟨ah,l,_,_,rfl,rfl,Tr,ad,be ?_,?_⟩
   .rw[WO,YV,WO];omega
   have k8:KT H7 (upd (upd H7 l (.lst (bs.map i!).reverse)) ah (.lst (AE.map i!++(bs.map i!).reverse))):=(hI hl).trans (bx Tr);have MV:KT H3 (upd (upd H7 l (.lst (bs.map i!).reverse)) ah (.lst (AE.map i!++(bs.map i!).reverse))):=O0.trans ((n! (s6.trans s7)).trans k8);refine⟨szP (Us++(eQ pre 0 x.kids).reverse),?_,ms++[pr],AE++bs.reverse,Ms++[(pre,x)],Us++(eQ pre 0 x.kids).reverse,_,_,_,rfl,?_,?_,?_,?_,?_,?_,?_,rfl⟩
   .rw[fq,rO,pj,Tn];omega
   .exact aF (aF ((OZ.trans s6).trans s7) ((OZ.trans s6).trans s7 |>.free hl)) FV
   .rw[af Ay.symm,af DJ];exact Tq
   .rw[ad,W9,List.map_reverse]
   .exact q! (a1.mono MV) (.cons ⟨pa,ta,k8 _ _ (s7 _ _ (s6 _ _ Kv)),MV _ _ CN,B6.mono MV⟩ .nil)
   .exact q! (PsAt.mono MV a3) (P2.reverse (PsAt.mono k8 AY))
   .rw[<-hw,X6,YE,YE,Zy,kY,oR];show Ms++([(pre,x)]++(pls pre 0 x.kids++plP Us.reverse))=Ms++plP ((pre,x)::Us.reverse);rw[plP,x.pl_eq pre];rfl
   .intro p hp;rcases W7.mp hp with hp|hp
    .exact hb p (Xi _ hp)
    .obtain⟨g1,g2⟩:=oZ pre 0 x.kids p (List.mem_reverse.mp hp);have:=nA g2;omega
  .right;have BW:j<ks.length:=by omega
   refine⟨BW,⟨_,.ref ks[j],k! (s7 _ _ er),by rw[Xj,WS BW];rfl⟩,?_⟩;rintro y H8 ⟨p,v,hp,rfl,rfl,hv⟩;have CH:=hv _ (k! (s7 _ _ er));obtain⟨kd,rfl,Fw⟩:=aZ CH;obtain⟨tk,CA,WH⟩:=Bn.get Fw;have s8:j! H7 (upd H7 p (.tup [.int (j:Nat),.ref kd])):=aj hp _;refine⟨p,_,rfl,k! ad,rfl,_,_,rfl,_,_,rfl,rfl,?_⟩;generalize(upd H7 p (.tup [.int (j:Nat),.ref kd]))=H8 at s8 |-;refine⟨_,rfl,_,rfl,lnE rfl,λn1 WI=>?_⟩;refine gU WI λH9 s9 e9=>?_;refine nN (s9 _ _ (s8 _ _ (s7 _ _ O2))) e9 (by rw[WO];show pre.length+1<=1000000;omega) λn2 DD Cf GQ=>?_;refine⟨_,rfl,lnE rfl,λn3 KC=>?_⟩;have Eg:j! H7 (upd DD n3 (.tup [.ref n2,.ref kd])):=(s8.trans (s9.trans Cf)).trans (aj KC _);have KD:=Eg _ _ eD;refine⟨_,KD,aX ?_,BW,?_,bs++[n3],?_,?_⟩
   .have:=W5 AY;rw[XI]at this;rw[WO];omega
   .exact aF (s7.trans Eg) hD
   .rw[ad,W9];rfl
   .have k12:KT (upd DD n3 (.tup [.ref n2,.ref kd])) (upd (upd DD n3 (.tup [.ref n2,.ref kd])) D (.lst (bs.map i!++[.ref n3]))):=bx KD;rw[Yp,pK pre 0 x.kids j tk CA];refine q! (PsAt.mono ((n! Eg).trans k12) AY) (.cons ⟨n2,kd,k12 _ _ ad,k12 _ _ (aj KC _ _ _ ?_),?_⟩ .nil)
    .rw[GQ,W9,Int.zero_add];rfl
    .exact WH.mono ((n! (s7.trans Eg)).trans k12)
 .have hz:as=[]:=by
   cases as with
   |nil=>rfl
   |cons y ys=>simp at c
  subst hz;have Hz:As=[]:=Yy.mp (W5 a2);subst Hz;refine⟨_,rfl,k mt ms H3 sm EW em ?_⟩;have BU:Ms=t.pl []:=by simpa[plP]using hw
  rw[<-BU];exact a1
inductive jJ(vs:List V)(H:Hp)(Q:VK)(_E:XK):Prop
 |mk (a:WT) (t:Th) (Aq:vs=[.ref a]) (Ar:At H t a) (Ax:Q (.bl t.isCall) H):jJ  vs H Q _E
def kK:Sp:=jJ
theorem lN:FnOk P w K mg base CX0 1 T.g_is_call.f T.g_is_call.d ["thing"] kK:=by
 refine T.g_is_call.F.okA pV λAj A outer s H vs Q E hr h=>?_;obtain⟨a,t,rfl,hA,k⟩:=h;refine⟨_,(am (aE (ft fD (aw ax (pv 0) ai (λ_ _=>rfl)) (cX (v:=.str (WU "?")) rfl T.c_CALL_SIGN.choose_spec ⟨_,rfl⟩) (aS _)))),?_⟩
 try dsimp only[AK,Ad]
 cases t with
 | knot n ks =>
   rw[At]at hA;refine hid λZZ kZ=>?_;obtain⟨hn,as,h1,h2⟩:=hA;refine kZ ?_;refine⟨_,rfl,a,_,0,.str n,rfl,rfl,k! h1,at0,rfl,?_⟩;have e:decide (H! n=H! (WU "?"))=false:=c! (λz=>hn (V.str.inj z));rw[e];exact k
 | call sn kn =>
   rw[At]at hA;refine⟨_,rfl,a,_,0,.str q,rfl,rfl,k! hA,at0,rfl,?_⟩;have e:decide (H! q=H! (WU "?"))=true:=d! rfl;rw[e];exact k
inductive gR(vs:List V)(H:Hp)(Q:VK)(_E:XK):Prop
 |mk (a:WT) (sn kn:Int) (Aq:vs=[.ref a]) (Ar:At H (.call sn kn) a) (Ax:∀p,H p=none->Q (.ref p) (upd H p (.tup [.int sn,.int kn]))):gR  vs H Q _E
def iM:Sp:=gR
theorem i5:FnOk P w K mg base CX0 1 T.g_called_by.f T.g_called_by.d ["call"] iM:=by
 refine T.g_called_by.F.okA nH λAj A outer s H vs Q E hr h=>?_;obtain⟨a,sn,kn,rfl,hA,k⟩:=h;refine⟨_,(am (aE (aR (ac (aw ax (pv 0) ai (λ_ _=>rfl)) (ac (aw ax (pv 0) ai (λ_ _=>rfl)) ae))))),?_⟩
 try dsimp only[AK,Ad]
 rw[At]at hA;exact⟨_,rfl,a,_,1,_,rfl,rfl,k! hA,at1,_,rfl,a,_,2,_,rfl,rfl,k! hA,at2,lnE rfl,λp hp=>k p hp⟩
inductive iB(vs:List V)(H:Hp)(Q:VK)(_E:XK):Prop
 |mk (a:WT) (t:Th) (Aq:vs=[.ref a]) (Ar:At H t a) (Ax:t.size<=100000) (AN:t.tall<=100000) (Bd:∀(r:WT)(as:List WT)(H':Hp),j! H H'->H' r=some (.lst (as.map i!))->CsAt H' (callsOf (t.pl [])) as->Q (.ref r) H'):iB  vs H Q _E
def pd:Sp:=iB
theorem jO:FnOk P w K mg base CX0 3 T.g_calls_in.f T.g_calls_in.d ["pattern"] pd:=by
 refine T.g_calls_in.F.okA oB λAj A outer s H vs Q E hr h=>?_;obtain⟨a,t,rfl,hA,hsz,Ao,k⟩:=h;refine⟨_,(am (aE (bR (N:=[WU "place",WU "part"]) (js:=[none,none]) (g:=(pR K 2 (fF (az 0) (fF (az 1) qi)))) (tt:=(λY H Q=>(f9 kK [] E0 (aU (bc 1) dS)) Y H λx H1=>∃k,ya K x H1 k/\Q k H1)) (te:=(tE (aU (bc 0) (aU (f9 iM [] E0 (aU (bc 1) dS)) dS)))) rfl (bX rfl (by decide +kernel) (by decide +kernel) rfl rfl rfl) (dH (pcF T.g_placed (sd T) hr (ac (pv 0) ae))) (λ_ _ _ _ _ _=>(cv rfl (aI (pgN 0 zw) (aI (pgN 1 zw) bS)))) (kL (db bP (aP rfl) (db bP (aP rfl) lj))) (λ_ _ _ _ _ _=>gD (cM (pcF T.g_is_call (lN T) hr (ac (pv 1) ae)) (λ_=>rfl))) (λ_ _ _ _ _ _=>(aR (ac (pv 0) (ac (pcF T.g_called_by (i5 T) hr (ac (pv 1) ae)) ae))))))),?_⟩
 try dsimp only[AK,Ad]
 refine⟨_,rfl,a,t,rfl,hA,hsz,Ao,λr as H1 s1 nr er BS=>⟨r,rfl,⟨_,l! er⟩,?_⟩⟩;have AR:(t.pl []).length=as.length:=W5 BS;have AV:=Th.pl_len [] t;intro D hD;refine⟨as.length,λj H2=>An3 (j<=as.length) (j! H1 H2) (Ex1 λ(bs:List WT)=>An2 (H2 D=some (.lst (bs.map i!))) (CsAt H2 (callsOf ((t.pl []).take j)) bs)),⟨XB _,aj hD _,[],ad,.nil⟩,?_⟩;rintro j H2 ⟨hj,s2,bs,eD,AY⟩;by_cases Ej:j=as.length
 .left;refine⟨⟨_,l! (s2 _ _ er),by rw[WO,Ej];exact W2 _⟩,?_⟩;have Ab:(t.pl []).take j=t.pl []:=by rw[Ej,<-AR,Zg]
  rw[Ab]at AY;exact k D bs H2 (s1.trans s2) eD AY
 .right;have BW:j<as.length:=by omega
  refine⟨BW,⟨_,.ref as[j],l! (s2 _ _ er),by rw[Xj,WS BW];rfl⟩,?_⟩;rintro y H3 ⟨rfl,hv⟩;have CH:=hv _ (l! (s2 _ _ er));refine hid λZZ kZ=>?_;obtain⟨pr,rfl,BP⟩:=aZ CH;obtain⟨⟨p,u⟩,WJ,pa,ta,e1,e2,e3⟩:=B! (BS.mono (n! s2)) BP;refine kZ ?_;simp only at e2 e3;have CA:(t.pl []).take (j+1)=(t.pl []).take j++[(p,u)]:=by rw[Yp,WJ];rfl
  have BM:bs.length<=j:=by
   have g1:=W5 AY;have g2:=d6 ((t.pl []).take j);rw[XI]at g2;omega
  refine⟨pr,_,rfl,k! e1,rfl,_,_,rfl,_,_,rfl,rfl,?_⟩;refine⟨_,rfl,ta,u,rfl,e3,_,rfl,?_⟩;cases u with
  | knot n ks =>
    refine sZ ⟨BW,s2,bs,eD,?_⟩;rw[CA,dY];show CsAt H3 (callsOf ((t.pl []).take j)++[]) bs;rw[Yz];exact AY
  | call sn kn =>
    refine qf ?_;refine⟨_,rfl,_,rfl,ta,sn,kn,rfl,e3,λca Ds=>⟨lnE rfl,λn3 KC=>?_⟩⟩;have s4:j! H3 (upd (upd H3 ca (.tup [.int sn,.int kn])) n3 (.tup [.ref pa,.ref ca])):=(aj Ds _).trans (aj KC _);have Jg:=s4 _ _ eD;refine⟨_,Jg,lbE (by omega),BW,aF (s2.trans s4) hD,bs++[n3],?_,?_⟩
    .rw[ad,W9];rfl
    .have k5:KT (upd (upd H3 ca (.tup [.int sn,.int kn])) n3 (.tup [.ref pa,.ref ca])) (upd (upd (upd H3 ca (.tup [.int sn,.int kn])) n3 (.tup [.ref pa,.ref ca])) D (.lst (bs.map i!++[.ref n3]))):=bx Jg;rw[CA,dY];exact q! (CsAt.mono ((n! s4).trans k5) AY) (.cons ⟨pa,ca,k5 _ _ ad,k5 _ _ (s4 _ _ e2),k5 _ _ (aj KC _ _ _ ad)⟩ .nil)
inductive oX(vs:List V)(H:Hp)(Q:VK)(_E:XK):Prop
 |mk (a:WT) (t:Th) (Aq:vs=[.ref a]) (Ar:At H t a) (Ax:t.size<=100000) (AN:∀H',j! H H'->Q (.int (t.tall:Nat)) H'):oX  vs H Q _E
def rn:Sp:=oX
theorem wg:FnOk P w K mg base CX0 2 T.g_tall.f T.g_tall.d ["tree"] rn:=by
 refine T.g_tall.F.okA eX λAj A outer s H vs Q E hr h=>?_;obtain⟨a,t,rfl,hA,hsz,k⟩:=h
 refine⟨_,(ag (ao 1 eX.nd (aN (ac (pv 0) ae)))
  (ag (ao 2 eX.nd ai)
  (ag (eF XE (cM (pv 1) (λ_=>rfl)) (ag (xw (i:=2) eX.nd rfl (Or.inl rfl) ai xO)
  (ag (ao 3 eX.nd (aN ae))
  (ag (bH XE rfl (dH (pv 1)) (pgN 4 eX.nd) (am (ba (bQ Xg PySem.F.slot_list_extend PySem.F.type_list_extend lb (pv 3) (ac (pcF T.g_kids_of (il T) hr (ac (pv 4) ae)) ae)))))
  (am (ao 1 eX.nd (pv 3)))))))
  (am (aE (pv 2)))))),?_⟩
 try dsimp only[AK,Ad]
 refine⟨_,rfl,lnE rfl,λlv Jj=>?_⟩;refine⟨λm Y H2=>Ex6 λ(lv:WT)(as:List WT)(Ls:List Th)(r:Int)(c3 c4:Option V)=>An7 (Y=[some (.ref a),some (.ref lv),some (.int r),c3,c4]) (j! H H2) (H2 lv=some (.lst (as.map i!))) (Ats H2 Ls as) (au Ls<=100000) (r+(aB Ls:Nat)=(t.tall:Nat)) (m=aB Ls),⟨_,lv,[a],[t],0,none,none,rfl,aj Jj _,ad,.cons (hA.mono (hI Jj)) .nil,by rw[au,au];omega,by rw[aB,aB];omega,rfl⟩,?_⟩;rintro m Y H2 ⟨lv,as,Ls,r,c3,c4,rfl,s2,MW,KG,hz,Dt,rfl⟩;refine⟨_,rfl,_,.inl ⟨_,l! MW,rfl⟩,?_⟩;refine dh (λc=>?_) (λc=>?_)
 .have Ay:Ls≠[]:=by
   intro z;subst z;rw[Ats]at KG;subst KG;simp at c
  have ht:=iO Ay;have Bn:=fu Ls;have DV:as.length=Ls.length:=KG.length;refine⟨λi' H'=>∃m',m'<aB Ls/\Ex6 λ(lv:WT)(as:List WT)(Ls:List Th)(r:Int)(c3 c4:Option V)=>An7 (i'=[some (.ref a),some (.ref lv),some (.int r),c3,c4]) (j! H H') (H' lv=some (.lst (as.map i!))) (Ats H' Ls as) (au Ls<=100000) (r+(aB Ls:Nat)=(t.tall:Nat)) (m'=aB Ls),λi' H' h=>h,?_⟩;refine⟨_,rfl,_,_,rfl,rfl,?_⟩;refine⟨lnE rfl,λbn MX=>?_⟩;have BM:lv≠bn:=ar MW MX;refine⟨_,rfl,lv,rfl,⟨_,l! (aj MX _ _ _ MW)⟩,?_⟩
  refine kP (K:=K) (a:=lv) (xs:=as.map i!) (λi Y H3=>Ex2 λc4 bs=>An4 (Y=[some (.ref a),some (.ref lv),some (.int (r+1)),some (.ref bn),c4]) (j! H2 H3) (H3 bn=some (.lst (bs.map i!))) (Ats H3 (br (Ls.take i)) bs))
   ⟨c4,[],rfl,aj MX _,ad,.nil⟩ (λi Y H3 _⟨_,_,_,s3,_,_⟩=>l! (s3 _ _ MW)) ?_ ?_
  .rintro i x Y H3 hx ⟨c4,bs,rfl,s3,MY,AY⟩;obtain⟨xa,rfl,WK⟩:=aZ hx;obtain⟨tx,WL,WM⟩:=(KG.mono (n! s3)).get WK;have CA:Ls.take (i+1)=Ls.take i++[tx]:=by rw[Yp,WL];rfl
   refine⟨_,rfl,.inl ⟨rfl,_,l! MY⟩,_,rfl,xa,tx,rfl,WM,λkr AU H4 s4 ekr Jk=>?_⟩;have KH:=s4 _ _ MY
   have hle:bs.length+AU.length<=100000:=by
    have g1:=AY.length;have g2:=Jk.length;have g3:(br (Ls.take (i+1))).length<=au (br (Ls.take (i+1))):=cV _;have g4:=fu (Ls.take (i+1));have g5:=lB (i+1) Ls
    have g6:br (Ls.take (i+1))=br (Ls.take i)++tx.kids:=by
     rw[CA,gv,cP];show _++(tx.kids++br [])=_;unfold br;simp
    rw[g6,W6]at g3;rw[g6]at g4;omega
   refine⟨bn,kr,_,_,rfl,rfl,KH,k! ekr,be (by rw[WO,WO];omega),?_⟩;have k5:KT H4 (upd H4 bn (.lst (bs.map i!++AU.map i!))):=bx KH;refine⟨_,bs++AU,rfl,aF (s3.trans s4) MX,by rw[ad,W9],?_⟩;rw[CA,gv,cP];refine(AY.mono ((n! s4).trans k5)).append ?_;have:tx.kids++br []=tx.kids:=by unfold br;simp
   rw[this];exact Jk.mono k5
  .rintro Y H3 ⟨c4,bs,rfl,s3,MY,AY⟩;rw[WO,DV,Zg]at AY;refine⟨_,rfl,aB (br Ls),by omega,bn,bs,br Ls,r+1,_,_,rfl,s2.trans s3,MY,AY,by omega,by omega,rfl⟩
 .have ED:as=[]:=by
   cases as with
   |nil=>rfl
   |cons y ys=>simp at c
  subst ED;have Hz:Ls=[]:=Yy.mp KG.length.symm;subst Hz;rw[aB]at Dt;refine⟨_,rfl,?_⟩;have:r=((t.tall:Nat):Int):=by omega
  rw[this];exact k H2 s2
def ql:Sp:=rn
theorem qk:FnOk P w K mg base CX0 3 T.g_tall_of.f T.g_tall_of.d ["pattern"] ql:=by
 refine T.g_tall_of.F.okA qI λAj A outer s H vs Q E hr h=>?_;obtain⟨a,t,rfl,hA,hsz,k⟩:=h;refine⟨_,(am (aE (pcF T.g_tall (wg T) hr (ac (pv 0) ae)))),?_⟩
 try dsimp only[AK,Ad]
 exact⟨_,rfl,a,t,rfl,hA,hsz,k⟩
inductive kM(vs:List V)(H:Hp)(Q:VK)(_E:XK):Prop
 |mk (b:WT) (v1 v2 v3 v4:V) (Aq:vs=[.ref b]) (Ar:H b=some (.tup [v1,v2,v3,v4])) (Ax:Q v1 H):kM  vs H Q _E
def tQ:Sp:=kM
inductive iY(vs:List V)(H:Hp)(Q:VK)(_E:XK):Prop
 |mk (b:WT) (v1 v2 v3 v4:V) (Aq:vs=[.ref b]) (Ar:H b=some (.tup [v1,v2,v3,v4])) (Ax:Q v4 H):iY  vs H Q _E
def oE:Sp:=iY
theorem r9:FnOk P w K mg base CX0 1 T.g_ins_of.f T.g_ins_of.d ["book"] tQ:=by
 refine T.g_ins_of.F.okA sL λAj A outer s H vs Q E hr h=>?_;obtain⟨b,v1,v2,v3,v4,rfl,e,q⟩:=h;refine⟨_,(am (aE (aw ax (pv 0) ai (λ_ _=>rfl)))),?_⟩
 try dsimp only[AK,Ad]
 exact⟨_,rfl,b,_,0,v1,rfl,rfl,k! e,at0,q⟩
theorem oJ:FnOk P w K mg base CX0 1 T.g_rules_of.f T.g_rules_of.d ["book"] oE:=by
 refine T.g_rules_of.F.okA oI λAj A outer s H vs Q E hr h=>?_;obtain⟨b,v1,v2,v3,v4,rfl,e,q⟩:=h;refine⟨_,(am (aE (aw ax (pv 0) ai (λ_ _=>rfl)))),?_⟩
 try dsimp only[AK,Ad]
 exact⟨_,rfl,b,_,3,v4,rfl,rfl,k! e,bw (j:=3) rfl,q⟩
inductive jB(vs:List V)(H:Hp)(Q:VK)(_E:XK):Prop
 |mk (b:WT) (v1 v2 v3 v4:V) (Aq:vs=[.ref b]) (Ar:H b=some (.tup [v1,v2,v3,v4])) (Ax:Q v3 H):jB  vs H Q _E
def qq:Sp:=jB
inductive mW(vs:List V)(H:Hp)(Q:VK)(_E:XK):Prop
 |mk (v:V) (Aq:vs=[v]) (Ar:∀p,H p=none->Q (.ref p) (upd H p (.tup [.str (WU ""),v]))):mW  vs H Q _E
def ud:Sp:=mW
theorem lS:FnOk P w K mg base CX0 1 T.g_head_of.f T.g_head_of.d ["book"] qq:=by
 refine T.g_head_of.F.okA qc λAj A outer s H vs Q E hr h=>?_;obtain⟨b,v1,v2,v3,v4,rfl,e,q⟩:=h;refine⟨_,(am (aE (aw ax (pv 0) ai (λ_ _=>rfl)))),?_⟩
 try dsimp only[AK,Ad]
 exact⟨_,rfl,b,_,2,v3,rfl,rfl,k! e,bw (j:=2) rfl,q⟩
theorem uS:FnOk P w K mg base CX0 1 T.g_above.f T.g_above.d ["tree"] ud:=by
 refine T.g_above.F.okA ue λAj A outer s H vs Q E hr h=>?_;obtain⟨v,rfl,q⟩:=h;refine⟨_,(am (aE (aR (ac cD (ac (pv 0) ae))))),?_⟩
 try dsimp only[AK,Ad]
 exact⟨_,rfl,lnE rfl,λp hp=>q p hp⟩
inductive gP(vs:List V)(H:Hp)(Q:VK)(_E:XK):Prop
 |mk (a:WT) (t:Th) (Aq:vs=[.ref a]) (Ar:At H t a) (Ax:t.size<=10000) (AN:t.tall<=150) (Bd:∀(r d:WT)(es:CLs)(H':Hp),j! H H'->H d=none->H' r=some (.tup [.int (t.tall:Nat),.ref d])->H' d=some (.dT (dE es))->DepthE (callsOf (t.pl [])) es->Q (.ref r) H'):gP  vs H Q _E
def iq:Sp:=gP
theorem pQ{l:List α}{x:α}(h:l[i]?=some x):l.take (i+1)=l.take i++[x]:=by rw[Yp,h];rfl
theorem nU:FnOk P w K mg base CX0 4 T.g_depths_in.f T.g_depths_in.d ["pattern"] iq:=by
 refine T.g_depths_in.F.okA dD λAj A outer s H vs Q E hr h=>?_;obtain⟨a,t,rfl,hA,hsz,Ao,k⟩:=h
 refine⟨_,(ag (ao 1 dD.nd eM)
  (ag (bH XE rfl (dH (pcF T.g_calls_in (jO T) hr (ac (pv 0) ae))) (cv rfl (aI (pgN 2 dD.nd) (aI (pgN 3 dD.nd) bS))) (am (dI (cg hr) (pv 1) (pv 3) (aD (ja rfl) rfl T.n_max Zl (ac (aD aC rfl T.n_len XQ (ac (pv 2) ae)) (ac (tW (cg hr) (pv 1) (pv 3) ai ⟨rfl,rfl,rfl,rfl⟩) ae))) rfl)))
  (am (aE (aR (ac (pcF T.g_tall_of (qk T) hr (ac (pv 0) ae)) (ac (pv 1) ae))))))),?_⟩
 try dsimp only[AK,Ad]
 intro d hd;dsimp only[az];refine gU hd λH1 s1 e1=>?_;have e1:H1 d=some (.dT (dE [])):=e1;refine⟨_,rfl,a,t,rfl,hA.mono (n! s1),by omega,by omega,λr as H2 s2 er CI=>⟨r,rfl,⟨_,l! er⟩,?_⟩⟩;have Am:=W5 CI;have hl:=d6 (t.pl []);have AV:=Th.pl_len [] t;generalize MI:callsOf (t.pl [])=cs at CI Am hl k;have Sw:r≠d:=λz=>by rw[z,s2 _ _ e1]at er;cases er
 refine kP (K:=K) (a:=r) (xs:=as.map i!) (λi Y H3=>Ex3 λ(c3 c4:Option V)(es:CLs)=>An7 (Y=[some (.ref a),some (.ref d),c3,c4]) (j! H H3) (H3 r=some (.lst (as.map i!))) (CsAt H3 cs as) (H3 d=some (.dT (dE es))) (es.length<=i) (DepthE (cs.take i) es))
  ⟨none,none,[],rfl,s1.trans s2,er,CI,s2 _ _ e1,W2 _,by rw[List.take_zero];exact DepthE.nil⟩ (λi Y H3 _⟨_,_,_,_,_,e,_,_,_,_⟩=>l! e) ?_ ?_
 .rintro i x Y H3 hx ⟨c3,c4,es,rfl,s3,C7,HF,Jl,hlen,Bw⟩;refine hid λZZ kZ=>?_;obtain⟨ca,rfl,Ds⟩:=aZ hx;obtain⟨⟨pl,sn,kn⟩,hc,pa,cca,ec,ep,KI⟩:=B! HF Ds;refine kZ ?_;have BJ:i<10000:=by have:=(glE hc);omega
  refine⟨ca,_,rfl,k! ec,rfl,_,_,rfl,_,_,rfl,rfl,?_⟩;dsimp only[az];have Tt:H3 cca=some (.tup ((ky (sn,kn)).map kV)):=KI;refine⟨_,rfl,pa,_,rfl,.inr (k! ep),_,rfl,d,rfl,.inr ⟨_,.inl Jl⟩,_,rfl,_,DGet.t Jl Tt,?_⟩;rw[r6];have hg:((fT es (sn,kn)).map o!).getD (.int 0)=.int ((fT es (sn,kn)).getD 0):=by cases fT es (sn,kn) <;> rfl
  rw[hg];refine⟨_,_,rfl,?_⟩;simp only[WO];refine⟨_,rfl,_,rfl,d,_,rfl,DPut.t Jl Tt (aX (by unfold dE;rw[WO];omega)),?_⟩;rw[wN];generalize hv:(if(fT es (sn,kn)).getD 0 > ((pl.length:Nat):Int)then(fT es (sn,kn)).getD 0 else((pl.length:Nat):Int))=v;have k6:KT H3 (upd H3 d (.dT (dE (gF es (sn,kn) v)))):=λb xs e=>by rw[af (aA e Jl (λz=>nomatch z))];exact e
  refine⟨_,_,_,rfl,aF s3 hd,by rw[af Sw];exact C7,HF.mono k6,ad,?_,?_⟩
  .have:=uR es (sn,kn) v;omega
  .rw[pQ hc,<-hv];exact Bw.put (pl,sn,kn)
 .rintro Y H3 ⟨c3,c4,es,rfl,s3,C7,HF,Jl,hlen,Bw⟩;rw[Yr (by rw[WO];omega)]at Bw;refine⟨_,rfl,a,t,rfl,hA.mono (n! s3),by omega,λH4 s4=>⟨_,rfl,lnE rfl,λp hp=>?_⟩⟩;have s5:=aj hp (.tup [.int (t.tall:Nat),.ref d]);exact k p d es _ (s3.trans (s4.trans s5)) hd ad (s5 _ _ (s4 _ _ Jl)) Bw
inductive eE(vs:List V)(H:Hp)(Q:VK)(_E:XK):Prop
 |mk (pa d ca:WT) (own:Int) (es:CLs) (AL:List (List Key×V)) (f:Int->Int->Int) (Aq:vs=[.ref pa,.ref ca]) (Ar:H pa=some (.tup [.int own,.ref d])) (Ax:H d=some (.dT (dE es))) (AN:H ca=some (.dT AL)) (Bd:d≠ca) (Co:es.length<=10000) (C4:(∀e∈es,aG AL (ky e.1)=some (.int (f e.1.1 e.1.2)))) (DT:∀(H':Hp)(M:Int),j! H H'->M∈own::es.map (λe=>e.2+f e.1.1 e.1.2)->(∀a∈own::es.map (λe=>e.2+f e.1.1 e.1.2),a<=M)->Q (.int M) H'):eE  vs H Q _E
def fI:Sp:=eE
theorem jX:FnOk P w K mg base CX0 2 T.g_height_worth.f T.g_height_worth.d ["pair","heights"] fI:=by
 refine T.g_height_worth.F.okA dm λAj A outer s H vs Q E hr h=>?_;obtain⟨pa,d,ca,own,es,AL,f,rfl,CN,ed,Fy,Jb,hlen,Bw,k⟩:=h
 refine⟨_,(ag (kW (pv 0) (cv rfl (aI (pgN 2 dm.nd) (aI (pgN 3 dm.nd) bS))))
  (am (aE (aD (jo rfl) rfl T.n_max Zl (ac (av ij (aN (ac (pv 2) ae)) (rm (bR (N:=[WU "call",WU "depth",WU "heights"]) (js:=[none,none,some 1]) (g:=(pR K 2 (fF (az 0) (fF (az 1) qi)))) (tt:=bu) (te:=(tOp (rI0 λi j=>.int (i+j)) (bc 1) (vb (bc 2) (bc 0)))) rfl (bX rfl (by decide +kernel) (by decide +kernel) rfl rfl rfl) (sj (pv 3)) (λ_ _ _ _ _ _=>(cv rfl (aI (pgN 0 zj) (aI (pgN 1 zj) bS)))) (kL (db bP (aP rfl) (db bP (aP rfl) lj))) (λ_ _ _ _ _ _=>bC) (λ_ _ _ _ _ _=>(av bG (pv 1) (dA (cg hr) (pv 2) (pv 0) (λ_ _=>rfl))))))) ae))))),?_⟩
 try dsimp only[AK,Ad]
 refine⟨_,rfl,pa,_,rfl,k! CN,rfl,_,_,rfl,_,_,rfl,rfl,?_⟩;dsimp only[az];refine⟨_,rfl,lnE rfl,λl hl=>?_⟩;refine gU hl λH1 s1 e1=>?_;refine pC (d:=d) (es:=es) (val:=λe=>e.2+f e.1.1 e.1.2) (λR hR=>⟨_,rfl,hR⟩) (s1 _ _ ed) hlen (λi e p b H2 R he sb ep eb hR=>?_) (λD H2 s2 eD=>?_)
 .have h3:=Bw e (WR he);refine⟨p,_,rfl,k! ep,rfl,_,_,rfl,_,_,rfl,rfl,?_⟩;dsimp only[az];exact⟨_,rfl,_,rfl,_,rfl,ca,_,rfl,by have:=DGet.t (sb _ _ Jb.symm (s1 _ _ Fy)) eb;rw[h3]at this;exact this,_,_,rfl,rfl,hR⟩
 .refine⟨l,D,_,_,rfl,rfl,s2 _ _ e1,eD,by refine be ?_;rw[WO,WO,Zn];omega,λr Dt=>?_⟩;refine⟨r,own::es.map (λe=>e.2+f e.1.1 e.1.2),rfl,l! (by rw[ad];rfl),by simp,λM hM Ab=>k _ M (s1.trans (s2.trans (aj Dt _))) hM Ab⟩
theorem uf{k:Nat}(hr:L2.Room k A):A.units+148+4<Zs:=by
 have:=k9 hr;omega
inductive gf(C:WT)(vs:List V)(H:Hp)(Q:VK)(_E:XK):Prop
 |mk (x dx:WT) (Aq:vs=[.ref x]) (Ar:H x=some (.ins C dx [])) (Ax:∀(tl al kl:WT)(H':Hp),SameB x H H'->H tl=none->H al=none->H kl=none->tl≠al->tl≠kl->al≠kl->H' x=some (.ins C dx (lvF tl al kl))->H' tl=some (.lst [])->H' al=some (.lst [])->H' kl=some (.lst [])->Q .non H'):gf C vs H Q _E
def l6(C:WT):Sp:=gf C
inductive d7(C:WT)(vs:List V)(H:Hp)(Q:VK)(_E:XK):Prop
 |mk (L:Lv) (ta:WT) (t:Th) (Aq:vs=[.ref L.x,.ref ta]) (Ar:LvSh C H L) (Ax:At H t ta) (AN:t.tall<=140) (Bd:(∀n∈L.ns,n.t.tall<=140)) (Co:L.ns.length<=50000) (C4:∀(L':Lv)(j:Nat)(n:Nd)(H':Hp),LvSh C H' L'->(L'=L\/∃aa ka,H aa=none/\H ka=none/\L'=L.add t ta aa ka)->L'.ns[j]?=some n->n.t=t->FrB [L.tl,L.al,L.kl] H H'->Q (.int (j:Nat)) H'):d7 C vs H Q _E
def jt(C:WT):Sp:=d7 C
theorem gS:FnOk P w K mg base CX0 1 T.f_Level_init T.d_Level_init ["self"] (l6 T.e_Level):=by
 refine T.F_Level_init.okA l5 λAj A outer s H vs Q E hr h=>?_;obtain⟨x,dx,rfl,ex,q⟩:=h
 refine⟨_,(ag (qw (pv 0) (aN ae) rfl)
  (ag (qw (pv 0) (aN ae) rfl)
  (am (qw (pv 0) (aN ae) rfl)))),?_⟩
 try dsimp only[AK,Ad]
 refine⟨lnE rfl,λtl Ao=>?_⟩;have HG:x≠tl:=λz=>by rw[<-z,ex]at Ao;cases Ao
 refine⟨_,rfl,x,T.e_Level,dx,_,rfl,by rw[af HG];exact ex,T.cl_Level,T.na_Level_trees,(by show 0<1000;decide),?_⟩;refine⟨lnE rfl,λal AR=>?_⟩;have KJ:x≠al:=λz=>by rw[<-z,ad]at AR;cases AR
 have MZ:tl≠al:=λz=>by rw[<-z,af HG.symm,ad]at AR;cases AR
 rw[af KJ.symm,af MZ.symm]at AR;refine⟨_,rfl,x,T.e_Level,dx,_,rfl,by rw[af KJ];exact ad,T.cl_Level,T.na_Level_asked,(by show 1<1000;decide),?_⟩;refine⟨lnE rfl,λkl AM=>?_⟩;have M0:x≠kl:=λz=>by rw[<-z,ad]at AM;cases AM
 have O4:al≠kl:=λz=>by rw[<-z,af KJ.symm,ad]at AM;cases AM
 have O5:tl≠kl:=λz=>by rw[<-z,af HG.symm,af MZ,af HG.symm,ad]at AM;cases AM
 rw[af M0.symm,af O4.symm,af M0.symm,af O5.symm]at AM;refine⟨_,rfl,x,T.e_Level,dx,_,rfl,by rw[af M0];exact ad,T.cl_Level,T.na_Level_kid_spots,(by show 2<1000;decide),?_⟩;refine q tl al kl _ (λb o hb e=>?_) Ao AR AM MZ O5 O4 ?_ ?_ ?_ ?_
 .rw[af hb,af (ar e AM),af hb,af (ar e AR),af hb,af (ar e Ao)];exact e
 .rw[ad];exact h! some (h! (HO.ins T.e_Level dx) (vO tl al kl))
 .rw[af HG.symm,af O5,af HG.symm,af MZ,af HG.symm,ad]
 .rw[af KJ.symm,af O4,af KJ.symm,ad]
 .rw[af M0.symm,ad]
theorem eS:FnOk P w K mg base CX0 2 T.f_Level_spot_of T.d_Level_spot_of ["self","tree"] (jt T.e_Level):=by
 refine T.F_Level_spot_of.okA i8 λAj A outer s H vs Q E hr h=>?_;obtain⟨L,ta,t,rfl,hL,hA,Ao,B4,hlen,k⟩:=h
 refine⟨_,(ag (cu (aO (tj (B:=150) (k9 hr)) (pv 1) (cS (pv 0) rfl) (by with_unfolding_all rfl)) (ag (ba (bQ Xg Xu Xs aQ (cS (pv 0) rfl) (ac (pv 1) ae)))
  (ag (ba (bQ Xg Xu Xs aQ (cS (pv 0) rfl) (ac kJ ae)))
  (am (ba (bQ Xg Xu Xs aQ (cS (pv 0) rfl) (ac kJ ae)))))) bB)
  (am (aE (bQ Xg ZI PySem.F.type_list_index (tF (B:=148) (uf hr)) (cS (pv 0) rfl) (ac (pv 1) ae))))),?_⟩
 try dsimp only[AK,Ad]
 have FW:∀a b:Th,a.dv=b.dv->a=b:=λa b=>Th.dv_inj
 have AD:∀u∈L.ns.map (·.t),u.tall<=140:=λu hu=>by
  obtain⟨n,hn,rfl⟩:=Xq.mp hu;exact B4 n hn
 have ltl:(L.ns.map λn=>i! n.ta).length<Xh:=lbE (by omega);refine bI (λi' H'=>An2 (i'=[some (.ref L.x),some (.ref ta)]) (Ex1 λ(L':Lv)=>An5 (LvSh T.e_Level H' L') ((L'=L\/∃aa ka,H aa=none/\H ka=none/\L'=L.add t ta aa ka)) (t∈L'.ns.map (·.t)) (At H' t ta) (FrB [L.tl,L.al,L.kl] H H'))) (λkk hk=>?_) ?_
 .refine cz (λb H'=>An2 (H=H') ((b=true↔t∉L.ns.map (·.t)))) (λk2 Bb=>?_) (λH' hb=>?_) (λH' hb=>?_)
  .refine⟨_,rfl,_,rfl,L.x,T.e_Level,L.dx,_,_,rfl,hL.ins,T.cl_Level,T.na_Level_trees,mP _ _ _,L.tl,_,_,_,rfl,l! hL.tl,At.dv hA,hL.dats,XS (fC AD) (by decide),λr hr=>⟨r,rfl,Bb _ _ ⟨rfl,hr.trans (not_congr ⟨λz=>?_,λz=>Xq.mpr ⟨_,z,rfl⟩⟩)⟩⟩⟩;obtain⟨u,hu,e⟩:=Xq.mp z;exact FW _ _ e ▸ hu
  .obtain⟨rfl,hb⟩:=hb;have BL:=hb.mp rfl;refine⟨_,rfl,L.x,T.e_Level,L.dx,_,_,rfl,hL.ins,T.cl_Level,T.na_Level_trees,mP _ _ _,.inl ⟨rfl,_,l! hL.tl⟩,_,rfl,L.tl,_,_,rfl,rfl,hL.tl,ltl,?_⟩;have nxt:L.x≠L.tl:=aA hL.ins hL.tl (λz=>nomatch z);have nxa:L.x≠L.al:=aA hL.ins hL.al (λz=>nomatch z);have nxk:L.x≠L.kl:=aA hL.ins hL.kl (λz=>nomatch z);have f1:FrB [L.tl,L.al,L.kl] H (upd H L.tl (.lst ((L.ns.map λn=>i! n.ta)++[.ref ta]))):=FrB.set (WY ..);have x1:(upd H L.tl (.lst ((L.ns.map λn=>i! n.ta)++[.ref ta]))) L.x=_:=(af nxt).trans hL.ins;have a1:(upd H L.tl (.lst ((L.ns.map λn=>i! n.ta)++[.ref ta]))) L.al=_:=(af hL.n1.symm).trans hL.al;have k1:(upd H L.tl (.lst ((L.ns.map λn=>i! n.ta)++[.ref ta]))) L.kl=_:=(af hL.n2.symm).trans hL.kl;have t1:(upd H L.tl (.lst ((L.ns.map λn=>i! n.ta)++[.ref ta]))) L.tl=some (.lst ((L.ns.map λn=>i! n.ta)++[.ref ta])):=ad
   have g1:∀b,(upd H L.tl (.lst ((L.ns.map λn=>i! n.ta)++[.ref ta]))) b=none->H b=none:=λb e=>by
    by_cases z:b=L.tl
    .rw[z,ad]at e;cases e
    .rw[af z]at e;exact e
   generalize(upd H L.tl (.lst ((L.ns.map λn=>i! n.ta)++[.ref ta])))=H1 at f1 x1 a1 k1 t1 g1 |-;refine⟨_,rfl,L.x,T.e_Level,L.dx,_,_,rfl,x1,T.cl_Level,T.na_Level_asked,pi _ _ _,.inl ⟨rfl,_,l! a1⟩,λaa D1=>⟨L.al,_,_,rfl,rfl,(aj D1 _) _ _ a1,lbE (by omega),?_⟩⟩;have Tu:=g1 _ D1;have q1:L.tl≠aa:=λz=>by rw[<-z,t1]at D1;cases D1
   have q2:L.al≠aa:=λz=>by rw[<-z,a1]at D1;cases D1
   have q3:L.kl≠aa:=λz=>by rw[<-z,k1]at D1;cases D1
   have q4:L.x≠aa:=λz=>by rw[<-z,x1]at D1;cases D1
   have f2:FrB [L.tl,L.al,L.kl] H (upd (upd H1 aa (.dK [])) L.al (.lst ((L.ns.map λn=>i! n.aa)++[.ref aa]))):=f1.trans ((FrB.of (aj D1 _)).trans (FrB.set (WQ _ (WY ..))));have x2:(upd (upd H1 aa (.dK [])) L.al (.lst ((L.ns.map λn=>i! n.aa)++[.ref aa]))) L.x=_:=(af nxa).trans ((af q4).trans x1);have k2:(upd (upd H1 aa (.dK [])) L.al (.lst ((L.ns.map λn=>i! n.aa)++[.ref aa]))) L.kl=_:=(af hL.n3.symm).trans ((af q3).trans k1);have t2:(upd (upd H1 aa (.dK [])) L.al (.lst ((L.ns.map λn=>i! n.aa)++[.ref aa]))) L.tl=_:=(af hL.n1).trans ((af q1).trans t1);have a2:(upd (upd H1 aa (.dK [])) L.al (.lst ((L.ns.map λn=>i! n.aa)++[.ref aa]))) L.al=_:=ad;have d2:(upd (upd H1 aa (.dK [])) L.al (.lst ((L.ns.map λn=>i! n.aa)++[.ref aa]))) aa=some (.dK []):=(af q2.symm).trans ad
   have g2:∀b,(upd (upd H1 aa (.dK [])) L.al (.lst ((L.ns.map λn=>i! n.aa)++[.ref aa]))) b=none->H b=none:=λb e=>by
    by_cases z:b=L.al
    .rw[z,ad]at e;cases e
    .rw[af z]at e;by_cases z2:b=aa
     .rw[z2,ad]at e;cases e
     .rw[af z2]at e;exact g1 _ e
   generalize(upd (upd H1 aa (.dK [])) L.al (.lst ((L.ns.map λn=>i! n.aa)++[.ref aa])))=H2 at f2 x2 k2 t2 a2 d2 g2 |-;refine⟨_,rfl,L.x,T.e_Level,L.dx,_,_,rfl,x2,T.cl_Level,T.na_Level_kid_spots,vm _ _ _,.inl ⟨rfl,_,l! k2⟩,λka AI=>⟨L.kl,_,_,rfl,rfl,(aj AI _) _ _ k2,lbE (by omega),?_⟩⟩;have Tv:=g2 _ AI;have r1:L.tl≠ka:=λz=>by rw[<-z,t2]at AI;cases AI
   have r2:L.al≠ka:=λz=>by rw[<-z,a2]at AI;cases AI
   have r3:L.kl≠ka:=λz=>by rw[<-z,k2]at AI;cases AI
   have r4:aa≠ka:=λz=>by rw[<-z,d2]at AI;cases AI
   have f3:FrB [L.tl,L.al,L.kl] H (upd (upd H2 ka (.dK [])) L.kl (.lst ((L.ns.map λn=>i! n.ka)++[.ref ka]))):=f2.trans ((FrB.of (aj AI _)).trans (FrB.set (WQ _ (WQ _ (WY ..)))));have FY:=hL.add f3 Tu Tv r4 hA BL ((af hL.n2).trans ((af r1).trans t2)) ((af hL.n3).trans ((af r2).trans a2)) ad ((af q3.symm).trans ((af r4).trans d2)) ((af r3.symm).trans ad);exact hk _ _ ⟨rfl,_,FY,.inr ⟨aa,ka,Tu,Tv,rfl⟩,by show t∈(L.ns++[_]).map _;simp,FY.tr ⟨t,ta,aa,ka,[],[]⟩ (Xl _ (WZ.mpr rfl)),f3⟩
  .obtain⟨rfl,hb⟩:=hb;have B9:t∈L.ns.map (·.t):=Classical.byContradiction λz=>by cases hb.mpr z
   exact hk _ _ ⟨rfl,L,hL,.inl rfl,B9,hA,FrB.refl⟩
 rintro i' H' ⟨rfl,L',FY,Ek,B9,Fz,hf⟩;refine hid λZZ kZ=>?_;obtain⟨n,hn,EX⟩:=Xq.mp B9;obtain⟨j,hj⟩:=Xe.mp hn;refine kZ ?_;have hx:L'.x=L.x:=by rcases Ek with rfl|⟨_,_,_,_,rfl⟩ <;> rfl
 have DA:L'.ns.length<=100000/\∀u∈L'.ns.map (·.t),u.tall<=140:=by
  rcases Ek with rfl|⟨aa,ka,_,_,rfl⟩
  .exact⟨by omega,AD⟩
  .refine⟨by show(L.ns++[_]).length<=_;rw[W6,Zn];omega,λu hu=>?_⟩;have EM:u∈(L.ns++[(⟨t,ta,aa,ka,[],[]⟩:Nd)]).map (λn:Nd=>n.t):=hu;rw[W9]at EM;rcases W7.mp EM with h|h
   .exact AD u h
   .have:u=t:=by simpa using h
    rw[this];exact Ao
 have FA:((L'.ns.map (·.t)).map L!)[j]?=some t.dv:=by rw[Xj,Xj,hj,<-EX];rfl
 have hun:=mL FW FY.un;exact⟨_,rfl,L.x,T.e_Level,L'.dx,_,_,rfl,by rw[<-hx];exact FY.ins,T.cl_Level,T.na_Level_trees,mP _ _ _,.inl ⟨rfl,_,l! FY.tl⟩,_,rfl,L'.tl,_,_,_,_,j,rfl,rfl,l! FY.tl,At.dv Fz,FY.dats,XS (fC DA.2) (by decide),FA,λi hi e=>g! (kg hun e FA) (by omega),by rw[WO,WO];exact DA.1,k L' j n H' FY Ek hj EX hf⟩
inductive fY(P:Xm)(w:XD)(K:WX)(mg:Xk->Option WW)(base:X4)(vs:List V)(H:Hp)(Q:VK)(_E:XK):Prop
 |mk (b f:WT) (ins outs:List (Xk×Int)) (head:Th) (rows:List (List Th)) (El:Sp) (DH:DPH) (ok:Th->Prop) (Aq:vs=[.ref b,.ref f]) (Ar:Bk H ins outs head rows b) (Ax:bq ins) (AN:rows.length<=100) (Bd:(∀row∈rows,row.length=ins.length/\∀p∈row,ok p)) (Co:FvOk P w K mg base CX0 4 f El) (C4:uy H DH El ok) (DT:oV DH) (HH:∀(td:WT)(H':Hp),j! H H'->DgTab (DH H') H' ins rows td->Q (.ref td) H'):fY P w K mg base vs H Q _E
def ma(P:Xm)(w:XD)(K:WX)(mg:Xk->Option WW)(base:X4):Sp:=fY P w K mg base
theorem lU:FnOk P w K mg base CX0 5 T.g_digests_of.f T.g_digests_of.d ["book","digest"] (ma P w K mg base):=by
 refine T.g_digests_of.F.okA bZ λAj A outer s H vs Q E hr h=>?_;obtain⟨b,f,ins,outs,head,rows,El,DH,ok,rfl,hB,gi,GN,AF,M1,FZ,Cz,k⟩:=h;refine hid λZZ kZ=>?_;obtain⟨ia,oa,ha,ra,Aw,Az,AA,hB⟩:=hB;refine kZ ?_
 refine⟨_,(ag (ao 2 bZ.nd eM)
  (ag (bH XE rfl (qX rfl T.n_enumerate (pcF T.g_rules_of (oJ T) hr (ac (pv 0) ae))) (cv rfl (aI (pgN 3 bZ.nd) (aI (pgN 4 bZ.nd) bS))) (am (bH XE rfl (yo rfl T.n_zip (ac (pcF T.g_ins_of (r9 T) hr (ac (pv 0) ae)) (ac (pv 4) ae))) (cv rfl (aI (pgN 5 bZ.nd) (aI (pgN 6 bZ.nd) bS))) (am (dI (cg hr) (pv 2) (aR (ac (pv 3) (ac (aw ax (pv 5) ai (λ_ _=>rfl)) ae))) (kT (k:=4) (i:=1) rfl (Or.inl rfl) (hr.mono (by first|decide|omega)) cK (ac (pv 6) ae)) rfl)))))
  (am (aE (pv 2))))),?_⟩
 try dsimp only[AK,Ad]
 intro td Tw;dsimp only[az];refine gU Tw λH1 s1 e1=>?_;have aa0:rows.length=AA.length:=W5 hB.rw;have aa1:ins.length=Aw.length:=W5 hB.inK;refine⟨_,rfl,b,_,_,_,_,rfl,s1 _ _ hB.bk,ra,rfl,⟨_,k! (s1 _ _ hB.rl)⟩,?_⟩
 refine u8 (K:=K) (a:=ra) (xs:=AA.map i!) (λi Y H3=>Ex5 λ(c3 c4 c5 c6:Option V)(tk:List (List Key×V))=>An5 (Y=[some (.ref b),some (.ref f),some (.ref td),c3,c4,c5,c6]) (j! H H3) (H3 td=some (.dT tk)) (tk.length<=8 * i) (yR (DH H3) td H3 ins rows tk i 0))
  ⟨none,none,none,none,[],rfl,s1,e1,XB _,λs c row p kd h=>by rcases h with h|⟨_,h⟩ <;> cases h⟩ (λi Y H3 _⟨_,_,_,_,_,_,s3,_,_,_⟩=>k! (s3 _ _ hB.rl)) ?_ ?_
 .rintro i x pr Y H3 hx BP ⟨c3,c4,c5,c6,tk,rfl,s3,O6,hlen,Ab⟩;refine hid λZZ kZ=>?_;obtain⟨rwa,rfl,O7⟩:=aZ hx;obtain⟨row,Af,as,Tx,D3⟩:=B! hB.rw O7;have BJ:i<100:=by have:=(glE Af);omega
  obtain⟨aa2,hok⟩:=AF row (WR Af);refine kZ ?_;have aa3:=D3.length;refine gU BP λH4 s4 e4=>?_;have HI:=s3.trans s4;refine⟨pr,_,rfl,k! e4,rfl,_,_,rfl,_,_,rfl,rfl,?_⟩;dsimp only[az];refine⟨_,rfl,b,_,_,_,_,rfl,HI _ _ hB.bk,_,rfl,ia,rwa,rfl,⟨_,k! (HI _ _ hB.inE)⟩,⟨_,k! (HI _ _ Tx)⟩,?_⟩
  refine ww (K:=K) (a:=ia) (b:=rwa) (xs:=Aw.map i!) (ys:=as.map i!) (by rw[WO,WO];omega) (λj Y H5=>Ex3 λ(c5 c6:Option V)(tk:List (List Key×V))=>An5 (Y=[some (.ref b),some (.ref f),some (.ref td),some (.int ((i:Nat):Int)),some (.ref rwa),c5,c6]) (j! H H5) (H5 td=some (.dT tk)) (tk.length<=8 * i+j) (yR (DH H5) td H5 ins rows tk i j))
   ⟨_,_,tk,rfl,HI,s4 _ _ O6,hlen,λs c row p kd h h1 h2 h3=>by
    obtain⟨da,a1,a2⟩:=Ab s c row p kd h h1 h2 h3;exact⟨da,a1,lL Cz a2 s4⟩⟩ (λj Y H5 _⟨_,_,_,_,s5,_,_,_⟩=>⟨k! (s5 _ _ hB.inE),k! (s5 _ _ Tx)⟩) ?_ ?_
  .rintro j x y p2 Y H5 hx hy Bp ⟨c5,c6,tk,rfl,s5,O8,hlen,Ab⟩;refine hid λZZ kZ=>?_;obtain⟨ka,rfl,AI⟩:=aZ hx;obtain⟨pa,rfl,Ei⟩:=aZ hy;obtain⟨⟨nm,cn⟩,hk,ek⟩:=B! hB.inK AI;obtain⟨p,hp,F0⟩:=D3.get Ei;refine kZ ?_;have hj8:j<8:=by have:=(glE hk);have:=gi.le;omega
   refine gU Bp λH6 s6 e6=>?_;have O9:=s5.trans s6;refine⟨p2,_,rfl,k! e6,rfl,_,_,rfl,_,_,rfl,rfl,?_⟩;dsimp only[az];refine⟨f,El,rfl,M1,_,rfl,FZ H6 p pa _ O9 (F0.mono (n! O9)) (hok p (WR hp)) λr d own kvs H7 s7 hd er ed GR=>?_⟩;have Tz:=s6 _ _ O8;have et7:=s7 _ _ Tz;have hdt:d≠td:=λz=>by rw[z,Tz]at hd;cases hd
   have ek7:H7 ka=some (.tup [.str nm,.int cn]):=(O9.trans s7) _ _ ek;refine⟨_,rfl,_,rfl,_,rfl,ka,_,0,.str nm,rfl,rfl,k! ek7,at0,lnE rfl,λkp Em=>?_⟩;refine gU Em λH8 s8 e8=>?_;have e8:H8 kp=some (.tup ((kn2 i nm).map kV)):=e8;have Pa:=s8 _ _ et7;refine⟨td,_,rfl,DPut.t Pa e8 (aX (by omega)),?_⟩;have En:=(s6.trans s7).trans s8;refine⟨_,_,_,rfl,aF (s5.trans En) Tw,ad,?_,λs c Cu p' kd h h1 h2 h3=>?_⟩
   .have:=bO tk (kn2 i nm) (.ref r);omega
   .rw[bW];by_cases Jm:kn2 s kd.1=kn2 i nm
    .obtain⟨rfl,hn⟩:=vz Jm;rw[b! Jm];have hcj:=gi.nd _ _ _ _ h3 hk hn;subst hcj;rw[Af]at h1;cases h1;rw[hp]at h2;cases h2;exact⟨r,rfl,qS Cz (lL Cz ⟨d,own,kvs,hdt,er,ed,GR⟩ s8) Pa⟩
    .rw[a! Jm]
     have h':s<i\/(s=i/\c<j):=by
      rcases h with h|⟨h,hc⟩
      .exact .inl h
      .refine .inr ⟨h,?_⟩;rcases Y2.mp hc with z|z
       .exact z
       .refine g! ?_ Jm;rw[z,hk]at h3;cases h3;rw[h]
     obtain⟨da,a1,a2⟩:=Ab s c Cu p' kd h' h1 h2 h3;exact⟨da,a1,qS Cz (lL Cz a2 En) Pa⟩
  .rintro Y H5 ⟨c5,c6,tk,rfl,s5,O8,hlen,Ab⟩;rw[WO]at hlen Ab;have HJ:=gi.le;refine⟨_,_,_,_,tk,rfl,s5,O8,by omega,λs c Cu p' kd h h1 h2 h3=>Ab s c Cu p' kd ?_ h1 h2 h3⟩;rcases h with h|⟨_,h⟩
   .rcases Y2.mp h with z|z
    .exact .inl z
    .refine .inr ⟨z,?_⟩;have:=(glE h3);omega
   .cases h
 .rintro Y H3 ⟨c3,c4,c5,c6,tk,rfl,s3,O6,hlen,Ab⟩;rw[WO]at Ab;refine⟨_,rfl,k td H3 s3 ⟨tk,O6,λs c row p kd h1 h2 h3=>?_⟩⟩;obtain⟨da,a1,a2⟩:=Ab s c row p kd (.inl (by have:=(glE h1);omega)) h1 h2 h3;exact⟨da,a1,a2.at⟩
inductive jL(C:WT)(vs:List V)(H:Hp)(Q:VK)(_E:XK):Prop
 |mk (td:WT) (L B:Lv) (i:Nat) (n:Nd) (Dp:DP) (ins:List (Xk×Int)) (rows:List (List Th)) (head:Th) (ok:Th->Prop) (W:List Th) (Aq:vs=[.ref td,.ref L.x,.int (i:Nat),.ref B.x]) (Ar:DgTab Dp H ins rows td) (Ax:(∀p own d kvs,Dp p own d kvs->jF p kvs)) (AN:HandC C H L i n B) (Bd:n.sp=[]) (Co:(∀kv∈n.ask,∃s p da,AskE Dp ins rows head H n.t kv s p da/\∀c∈callsOf (p.pl []),∃p' h,Step ins rows c.2.1 c.2.2 n.t.kids p' h/\ok h)) (C4:(∀m∈B.ns,GoodNd Dp ins rows head ok H m)) (DT:(∀h,ok h->h.tall<=140/\h∈W)) (HH:W.length<=40000) (Jn:rows.length<=100) (EY:n.t.kids.length<=100) (F1:(∃nm ks,n.t=.knot nm ks)) (KL:∀(B':Lv)(sp:List (Key×V))(H':Hp),HandI C Dp ins rows head ok H L i n B H' B' sp->(∀kv∈n.ask,EDone Dp ins rows head H n.t sp B'.ns kv)->Q .non H'):jL C vs H Q _E
def pY(C:WT):Sp:=jL C
theorem p8:FnOk P w K mg base CX0 3 T.g_hand_on.f T.g_hand_on.d ["digests","level","number","beneath"] (pY T.e_Level):=by
 refine T.g_hand_on.F.okA ci λAj A outer s H vs Q E hr h=>?_;obtain⟨td,L,B,i,n,Dp,ins,rows,head,ok,W,rfl,hT,GR,hc,Pb,HK,KN,hW,hWl,GN,AM,⟨nm,ks,EX⟩,k⟩:=h;have ni:=WR hc.hi;have ilt:=(Xw.mp hc.hi).1;have eta:=hc.lv.tr n ni;rw[EX,At]at eta;refine hid λZZ kZ=>?_;obtain⟨_,AU,eta,F2⟩:=eta;obtain⟨tk,etd,CA⟩:=hT;refine kZ ?_
 refine⟨_,(ag (ao 4 ci.nd (aw bh (cS (pv 1) rfl) (pv 2) (λ_ _=>rfl)))
  (ag (ao 5 ci.nd (aw bh (cS (pv 1) rfl) (pv 2) (λ_ _=>rfl)))
  (am (j9 (bH XE rfl (sw (aw bh (cS (pv 1) rfl) (pv 2) (λ_ _=>rfl))) (cv rfl (aI (pgN 6 ci.nd) (aI (pgN 7 ci.nd) bS))) (am (j9 (bH XE rfl (wA (pv 7)) (cv rfl (aI (pgN 8 ci.nd) (aI (pgN 9 ci.nd) bS))) (ag (ao 10 ci.nd (aw ax (pv 4) (av bG (pv 9) ai) (λ_ _=>rfl)))
  (ag (cu (ol (gE (cg hr) (pv 9) (pv 5))) (am (dI (cg hr) (pv 5) (pv 9) (rf (pv 3) T.cl_Level T.me_Level_spot_of (eS T) (hr.mono (by first|decide|omega)) T.b_Level_spot_of .nil cK (ac (pv 10) ae)) rfl)) bB)
  (am (dI (cg hr) (aw bh (cS (pv 3) rfl) (dA (cg hr) (pv 5) (pv 9) (λ_ _=>rfl)) (λ_ _=>rfl)) (pv 8) (dA (cg hr) (pv 0) (aR (ac (pv 8) (ac (aw ax (pv 10) ai (λ_ _=>rfl)) ae))) (λ_ _=>rfl)) rfl)))))))))))),?_⟩
 try dsimp only[AK,Ad]
 refine⟨_,rfl,L.x,T.e_Level,L.dx,_,_,rfl,hc.lv.ins,T.cl_Level,T.na_Level_trees,mP _ _ _,_,rfl,L.tl,_,_,.ref n.ta,rfl,rfl,l! hc.lv.tl,bw (by rw[Xj,hc.hi];rfl),?_⟩;dsimp only[az];refine⟨_,rfl,L.x,T.e_Level,L.dx,_,_,rfl,hc.lv.ins,T.cl_Level,T.na_Level_kid_spots,vm _ _ _,_,rfl,L.kl,_,_,.ref n.ka,rfl,rfl,l! hc.lv.kl,bw (by rw[Xj,hc.hi];rfl),?_⟩;dsimp only[az];refine⟨_,rfl,L.x,T.e_Level,L.dx,_,_,rfl,hc.lv.ins,T.cl_Level,T.na_Level_asked,pi _ _ _,_,rfl,L.al,_,_,.ref n.aa,rfl,rfl,l! hc.lv.al,bw (by rw[Xj,hc.hi];rfl),n.aa,n.ask,rfl,hc.lv.ak n ni,λo1=>?_⟩
 refine qF (a:=n.aa) (o:=o1) (kvs:=n.ask) (λe Y H3=>Ex8 λ(c6 c7 c8 c9 CD:Option V)(Hg:Hp)(B':Lv)(sp:List (Key×V))=>An5 (Y=[some (.ref td),some (.ref L.x),some (.int ((i:Nat):Int)),some (.ref B.x),some (.ref n.ta),some (.ref n.ka),c6,c7,c8,c9,CD]) ((∀b,b≠n.aa->H3 b=Hg b)) (H3 n.aa=some (.frz o1 (.dK n.ask))) (HandI T.e_Level Dp ins rows head ok H L i n B Hg B' sp) (∀(e':Nat)(kv:Key×V),e'<e->n.ask[e']?=some kv->EDone Dp ins rows head H n.t sp B'.ns kv))
  ⟨none,none,none,none,none,H,B,[],rfl,λb hb=>af hb,ad,hc.start Pb KN,λe' kv h=>by cases h⟩ (λe Y H3 _⟨_,_,_,_,_,_,_,_,_,_,h,_,_⟩=>h) ?_ ?_
 .rintro e kv Y H3 Ag ⟨c6,c7,c8,c9,CD,Hg,B1,sp,rfl,eq3,Ji,I,Bi⟩;refine hid λZZ kZ=>?_;obtain⟨s0,p,da,hE,Du⟩:=HK kv (WR Ag);obtain⟨d,own,kvs,M3,ed,HL⟩:=hE.dg;obtain⟨kc1,kc2⟩:=GR p own d kvs HL;refine kZ ?_;have TB:=I.ktd.tup _ _ M3;have gd:=I.ktd.dct _ _ ed;have Pd:=I.aa hc;have Pe:H3 da=some (.tup [own,.ref d]):=(eq3 _ (aA TB Pd (λz=>nomatch z))).trans TB;have BE:d≠n.aa:=aA gd Pd (λz=>nomatch z);have TC:H3 d=some (.dT kvs):=(eq3 _ BE).trans gd;rw[hE.v];refine⟨da,_,rfl,k! Pe,rfl,_,_,rfl,_,_,rfl,rfl,?_⟩;dsimp only[az];refine⟨_,rfl,d,kvs,rfl,TC,λo2=>?_⟩
  refine vf (a:=d) (o:=o2) (kvs:=kvs) (λf Y H4=>Ex6 λ(c8 c9 CD:Option V)(Hg:Hp)(B':Lv)(sp:List (Key×V))=>An5 (Y=[some (.ref td),some (.ref L.x),some (.int ((i:Nat):Int)),some (.ref B.x),some (.ref n.ta),some (.ref n.ka),some own,some (.ref d),c8,c9,CD]) (Fz2 n.aa d o1 o2 n.ask kvs Hg H4) (HandI T.e_Level Dp ins rows head ok H L i n B Hg B' sp) ((∀(e':Nat)(kv:Key×V),e'<e->n.ask[e']?=some kv->EDone Dp ins rows head H n.t sp B'.ns kv)) (∀(f':Nat)(kv:List Key×V)(c:Int×Int),f'<f->kvs[f']?=some kv->kv.1=ky c->CDone sp n.t B'.ns c))
   ⟨_,_,_,Hg,B1,sp,rfl,⟨λb h1 h2=>by rw[af h2];exact eq3 b h1,by rw[af BE.symm];exact Ji,ad,Pd,gd⟩,I,Bi,λf' kv c h=>by cases h⟩ (λf Y H4 _⟨_,_,_,_,_,_,_,z,_,_,_⟩=>z.fd) ?_ ?_
  .rintro f M4 b Y H4 CT eb ⟨c8,c9,CD,Hg,B1,sp,rfl,z,I,Bi,BF⟩;refine hid λZZ kZ=>?_;obtain⟨c,Fx,D6⟩:=kc1 M4 (WR CT);obtain⟨pl,s',kid⟩:=c;obtain⟨p',h,st,hok⟩:=Du _ Fx;refine kZ ?_;rw[D6]at eb;have eb':H4 b=some (.tup [.int s',.int kid]):=eb;refine⟨b,_,rfl,k! eb',rfl,_,_,rfl,_,_,rfl,rfl,?_⟩;dsimp only[az];refine hid λZZ kZ=>?_;obtain⟨Pf,k0,Dw,m,hs,cc,j0,row,hm,Pg,Af,Ce⟩:=id st;refine kZ ?_;simp only at Pf k0 Dw Af
   have M5:∀b' xs,H b'=some (.tup xs)->H4 b'=some (.tup xs):=λb' xs HM=>by
    have g:=I.ktd.tup _ _ HM;rw[z.eq b' (aA g z.ga (λz=>nomatch z)) (aA g z.gd (λz=>nomatch z))];exact g
   have Ph:H4 n.ta=_:=M5 _ _ eta;have KO:=F2.mono M5;rw[EX]at Dw;obtain⟨pa,Ei,Jo⟩:=KO.get' Dw;refine⟨_,rfl,_,rfl,_,_,rfl,rfl,n.ta,_,kid+1,.ref pa,rfl,rfl,k! Ph,at_nonneg (by omega) (by rw[show(kid+1).toNat=kid.toNat+1 by omega,List.getElem?_cons_succ,Xj,Ei];rfl),?_⟩;dsimp only[az];have Pj:H4 n.ka=some (.dK sp):=(z.eq _ (iE hc.lv.nd hc.hi).symm (aA (I.ka hc) z.gd (λz=>nomatch z))).trans (I.ka hc);refine bI (λi' H5=>Ex5 λ(Hg:Hp)(B':Lv)(sp:List (Key×V))(j:Nat)(mj:Nd)=>An8 (i'=[some (.ref td),some (.ref L.x),some (.int ((i:Nat):Int)),some (.ref B.x),some (.ref n.ta),some (.ref n.ka),some own,some (.ref d),some (.int s'),some (.int kid),some (.ref pa)]) (Fz2 n.aa d o1 o2 n.ask kvs Hg H5) (HandI T.e_Level Dp ins rows head ok H L i n B Hg B' sp) ((∀(e':Nat)(kv:Key×V),e'<e->n.ask[e']?=some kv->EDone Dp ins rows head H n.t sp B'.ns kv)) ((∀(f':Nat)(kv:List Key×V)(c:Int×Int),f'<f->kvs[f']?=some kv->kv.1=ky c->CDone sp n.t B'.ns c)) (aG sp (Xo kid)=some (.int (j:Nat))) (B'.ns[j]?=some mj) (mj.t=h)) (λkk hk=>?_) ?_
   .refine cz (λbb H'=>An2 (H4=H') (bb=!(aG sp (Xo kid)).isSome)) (λk2 Bb=>?_) (λH' hb=>?_) (λH' hb=>?_)
    .exact⟨_,rfl,_,rfl,n.ka,_,rfl,DGet.k (k:=Xo kid) Pj,_,rfl,Bb _ _ ⟨rfl,rfl⟩⟩
    .obtain⟨rfl,hb⟩:=hb
     have BL:aG sp (Xo kid)=none:=by
      cases hv:aG sp (Xo kid)with
      |none=>rfl
      |some v=>rw[hv]at hb;cases hb
     have hx:=I.bn.ins;rw[I.gr.x]at hx;have hx4:H4 B.x=_:=(z.eq _ (aA hx z.ga (λz=>nomatch z)) (aA hx z.gd (λz=>nomatch z))).trans hx
     have hB4:LvSh T.e_Level H4 B1:=by
      refine I.bn.keep (λb' xs HM=>?_) (λb' Bo o eo=>?_)
      .rw[z.eq b' (aA HM z.ga (λz=>nomatch z)) (aA HM z.gd (λz=>nomatch z))];exact HM
      .have h1:b'≠n.aa:=λy=>I.dis hc _ (fh ni) (y ▸ Bo)
       have h2:b'≠d:=λy=>by
        obtain⟨o',e',_,h2,_⟩:=cw I.bn Bo;rw[y,z.gd]at e';exact h2 _ (Xf e').symm
       rw[z.eq b' h1 h2];exact eo
     have hlen:B1.ns.length<=50000:=by
      have:=bT (m:=W) I.bn.un λu hu=>by
       obtain⟨m',C5,rfl⟩:=Xq.mp hu;exact(hW _ (I.good m' C5).ok).2
      rw[WO]at this;omega
     have hgx:=I.gr.x;refine⟨_,rfl,B.x,_,_,rfl,hx4,uB _ _ _ (by decide +kernel) (by decide +kernel) (by decide +kernel),_,rfl,B1,pa,h,by rw[hgx];rfl,hB4,Jo,(hW h hok).1,λm' C5=>(hW _ (I.good m' C5).ok).1,hlen,λB2 j mj H5 hB2 Ek hj KP fr=>?_⟩;have M6:n.t.kids[kid.toNat]?=some h:=by rw[EX];exact Dw
     obtain⟨MO,z',I'⟩:=I.spot hc z hB2 Ek hj KP fr M6 k0 BL hok;have KQ:=I.spk.len I.spn;refine⟨_,rfl,_,rfl,n.ka,_,rfl,DPut.k (k:=Xo kid) MO (aX (by omega)),?_⟩
     have g2:Grow B1 B2:=by
      rcases Ek with rfl|⟨_,_,_,_,rfl⟩
      .exact Grow.refl
      .exact Grow.add
     have G7:∀(k:Key)(v:V),aG sp k=some v->aG (putK sp (Xo kid) (.int ((j:Nat):Int))) k=some v:=λk v hv=>by
      rw[bW,a! (λy=>by rw[y,BL]at hv;cases hv)];exact hv
     exact hk _ _ ⟨_,B2,_,j,mj,rfl,z',I',λe' kv h1 h2=>(Bi e' kv h1 h2).grow g2 G7,λf' kv c h1 h2 h3=>(BF f' kv c h1 h2 h3).mono g2 G7,by rw[bW,b! rfl],hj,KP⟩
    .obtain⟨rfl,hb⟩:=hb;cases hv:aG sp (Xo kid)with
     |none=>rw[hv]at hb;cases hb
     | some v =>
       refine hid λZZ kZ=>?_;obtain⟨D7,j,mj,he,hj,_,ES⟩:=I.spk _ (fx hv);refine kZ ?_;injection he with Pk NW;injection Pk with Pk;subst Pk;rw[EX]at ES;rw[NW]at hv;exact hk _ _ ⟨Hg,B1,sp,j,mj,rfl,z,I,Bi,BF,hv,hj,Xf (ES.symm.trans Dw)⟩
   rintro i' H5 ⟨Hg,B1,sp,j,mj,rfl,z,I,Bi,BF,TF,hj,KP⟩
   have M5:∀b' xs,H b'=some (.tup xs)->H5 b'=some (.tup xs):=λb' xs HM=>by
    have g:=I.ktd.tup _ _ HM;rw[z.eq b' (aA g z.ga (λz=>nomatch z)) (aA g z.gd (λz=>nomatch z))];exact g
   obtain⟨TH,Pl,KR⟩:=(F2.mono M5).get' Dw;have CN:TH=pa:=Xf (Pl.symm.trans Ei);subst CN;rw[hm,At]at KR;refine hid λZZ kZ=>?_;obtain⟨_,has,Pm,_⟩:=KR;obtain⟨Pn,Po,Pp⟩:=CA s'.toNat j0 row p' (m,cc) Af Ce Pg;refine kZ ?_;refine⟨_,rfl,_,rfl,_,rfl,TH,_,0,.str m,rfl,rfl,k! Pm,at0,lnE rfl,λkp Em=>?_⟩;have s7:j! H5 (upd H5 kp (.tup [.int s',.str m])):=aj Em _
   have e7:(upd H5 kp (.tup [.int s',.str m])) kp=some (.tup ((kn2 s'.toNat m).map kV)):=by
    rw[ad];show _=some (HO.tup [.int ((s'.toNat:Nat):Int),.str m]);rw[Yd Pf]
   generalize(upd H5 kp (.tup [.int s',.str m]))=H7 at s7 e7 |-;have Pq:=I.ktd.dct _ _ etd
   have rtd:Rd H7 td (.dT tk):=by
    by_cases y:td=d
    .refine .inr ⟨o2,?_⟩
     have:kvs=tk:=by
      have g:=z.gd;rw[<-y,Pq]at g;cases g;rfl
     rw[y,<-this];exact s7 _ _ z.fd
    .exact .inl (s7 _ _ ((z.eq td (aA Pq z.ga (λz=>nomatch z)) y).trans Pq))
   obtain⟨OQ,z',I'⟩:=I.ask hc z s7 hj Pf (by rw[KP];exact st.pat) (Pp.mono I.ktd);have hx:=I.bn.ins;have AR:=I.bn.al;rw[I.gr.x,I.gr.tl,I.gr.al,I.gr.kl,I.gr.dx]at hx;rw[I.gr.al]at AR;have hx7:H7 B.x=_:=s7 _ _ ((z.eq _ (aA hx z.ga (λz=>nomatch z)) (aA hx z.gd (λz=>nomatch z))).trans hx);have Pr:H7 B.al=_:=s7 _ _ ((z.eq _ (aA AR z.ga (λz=>nomatch z)) (aA AR z.gd (λz=>nomatch z))).trans AR);have Pt:H7 n.ka=some (.dK sp):=s7 _ _ ((z.eq _ (iE hc.lv.nd hc.hi).symm (aA (I.ka hc) z.gd (λz=>nomatch z))).trans (I.ka hc));have gk:DGet H7 n.ka (.int kid) (some (.int ((j:Nat):Int))):=by have:=DGet.k (k:=Xo kid) Pt;rw[TF]at this;exact this
   have TJ:=I.good mj (WR hj);have F3:=TJ.ask.len TJ.nd;refine⟨td,.ref Pn,rfl,.inr ⟨tk,kn2 s'.toNat m,kp,rtd,rfl,e7,Po.symm⟩,_,rfl,B.x,T.e_Level,B.dx,_,_,rfl,hx7,T.cl_Level,T.na_Level_asked,pi _ _ _,_,rfl,_,rfl,n.ka,_,rfl,gk,B.al,_,_,.ref mj.aa,rfl,rfl,l! Pr,bw (gmE hj),_,rfl,mj.aa,_,rfl,DPut.k (k:=Xo s') OQ (aX (by omega)),?_⟩;have g2:Grow B1 (B1.setAsk j mj (putK mj.ask (Xo s') (.ref Pn))):=Grow.setAsk hj;refine⟨_,_,_,_,_,_,rfl,z',I',λe' kv h1 h2=>(Bi e' kv h1 h2).grow g2 (λ_ _ h=>h),λf' kv c h1 h2 h3=>?_⟩;rcases Y2.mp h1 with h4|h4
   .exact(BF f' kv c h4 h2 h3).mono g2 (λ_ _ h=>h)
   .rw[h4,CT]at h2;cases h2;have:=jf (D6.symm.trans h3);subst this;refine⟨j,{mj with ask:=putK mj.ask (Xo s') (.ref Pn)},TF,X2 (glE hj),?_,?_⟩
    .rw[EX];exact Dw.trans (h! some KP.symm)
    .show(aG (putK _ _ _) _).isSome=true;rw[bW,b! rfl];rfl
  .rintro Y H4 ⟨c8,c9,CD,Hg,B1,sp,rfl,z,I,Bi,BF⟩;refine⟨λb=>if b=d then some (.dT kvs)else H4 b,λb=>?_,?_⟩
   .by_cases hb:b=d
    .refine .inr ⟨o2,.dT kvs,by rw[hb];exact z.fd,by rw[hb];exact TC,b! hb⟩
    .exact .inl (a! hb)
   .refine⟨_,_,_,_,_,Hg,B1,sp,rfl,λb hb=>?_,(a! BE.symm).trans z.fa,I,λe' Kw h1 h2=>?_⟩
    .dsimp only;by_cases M7:b=d
     .rw[b! M7,M7,z.gd]
     .rw[a! M7];exact z.eq b hb M7
    .rcases Y2.mp h1 with h4|h4
     .exact Bi e' Kw h4 h2
     .rw[h4,Ag]at h2;cases h2;refine⟨s0,p,da,hE,λc Fx=>?_⟩;refine hid λZZ kZ=>?_;obtain⟨kv3,Pu,ES⟩:=kc2 c Fx;obtain⟨f',C6⟩:=Xe.mp Pu;refine kZ ?_;exact BF f' kv3 c.2 (Xw.mp C6).1 C6 ES
 .rintro Y H3 ⟨c6,c7,c8,c9,CD,Hg,B1,sp,rfl,eq3,Ji,I,Bi⟩;refine⟨Hg,λb=>?_,?_⟩
  .by_cases hb:b=n.aa
   .refine .inr ⟨o1,.dK n.ask,by rw[hb];exact Ji,by rw[hb];exact hc.lv.ak n ni,by rw[hb];exact I.aa hc⟩
   .exact .inl (eq3 b hb).symm
  .refine k B1 sp Hg I λkv Ag=>?_;obtain⟨e',KS⟩:=Xe.mp Ag;exact Bi e' kv (Xw.mp KS).1 KS
inductive g8(C:WT)(vs:List V)(H:Hp)(Q:VK)(_E:XK):Prop
 |mk (td BE ta:WT) (t:Th) (Dp:DP) (ins:List (Xk×Int)) (rows:List (List Th)) (head:Th) (W:List Th) (Aq:vs=[.ref td,.ref BE,.ref ta]) (Ar:DgTab Dp H ins rows td) (Ax:DgAt Dp H head BE) (AN:(∀p own d kvs,Dp p own d kvs->jF p kvs)) (Bd:At H t ta) (Co:t.Fit ins) (C4:t.tall<=100) (DT:t∈W) (HH:iS ins rows head W) (Jn:(∀c∈callsOf (head.pl []),∃p',Step ins rows c.2.1 c.2.2 [t] p' t)) (EY:∀(r:WT)(Ls:List Lv)(H':Hp),j! H H'->H' r=some (.lst (Ls.map λL=>i! L.x))->Chain C Dp ins rows head H' Ls []->tY t Ls->Ls.length<=150->(∀M∈Ls,∀n∈M.ns,InW W t n.t)->Q (.ref r) H'):g8 C vs H Q _E
def oh(C:WT):Sp:=g8 C
theorem nQ:FnOk P w K mg base CX0 4 T.g_levels_of.f T.g_levels_of.d ["digests","head","tree"] (oh T.e_Level):=by
 refine T.g_levels_of.F.okA bV λAj A outer s H vs Q E hr h=>?_;obtain⟨td,BE,ta,t,Dp,ins,rows,head,W,rfl,hT,Jp,GR,hA,Aa,Ao,Pw,TO,EZ,k⟩:=h
 refine⟨_,(ag (ao 3 bV.nd (oM T.mk_Level (gS T) (hr.mono (by first|decide|omega)) rfl T.x_Level T.b_Level_init .nil cK))
  (ag (ao 4 bV.nd (rf (pv 3) T.cl_Level T.me_Level_spot_of (eS T) (hr.mono (by first|decide|omega)) T.b_Level_spot_of .nil cK (ac (pcF T.g_above (uS T) hr (ac (pv 2) ae)) ae)))
  (ag (dI (cg hr) (aw bh (cS (pv 3) rfl) (pv 4) (λ_ _=>rfl)) (cX (v:=.int (-1)) rfl T.c_HEAD.choose_spec ⟨_,rfl⟩) (pv 1) rfl)
  (ag (ao 5 bV.nd (aN ae))
  (ag (eF XE (cM (cS (pv 3) rfl) (λ_=>rfl)) (ag (ba (bQ Xg Xu Xs aQ (pv 5) (ac (pv 3) ae)))
  (ag (ao 6 bV.nd (oM T.mk_Level (gS T) (hr.mono (by first|decide|omega)) rfl T.x_Level T.b_Level_init .nil cK))
  (ag (bH XE rfl (cp rfl T.n_range (ac (aD aC rfl T.n_len XQ (ac (cS (pv 3) rfl) ae)) ae)) (pgN 7 bV.nd) (am (ba (pcF T.g_hand_on (p8 T) hr (ac (pv 0) (ac (pv 3) (ac (pv 7) (ac (pv 6) ae))))))))
  (am (ao 3 bV.nd (pv 6)))))))
  (am (aE (pv 5)))))))),?_⟩
 try dsimp only[AK,Ad]
 intro x dx hx Jd Ay;refine⟨x,dx,rfl,ad,λtl al kl H1 sb HN AR AM n1 n2 n3 ex e1 e2 e3=>⟨rfl,?_⟩⟩;dsimp only[az];obtain⟨s1,Jf,GS⟩:=rF hx Jd Ay sb HN AR AM n1 n2 n3 ex e1 e2 e3;refine⟨_,rfl,x,_,_,rfl,Jf.ins,uB _ _ _ (by decide +kernel) (by decide +kernel) (by decide +kernel),_,rfl,.ref ta,rfl,λap TL=>?_⟩;refine gU TL λH2 s2 EA=>?_
 have hAa:At H2 (.knot YI [t]) ap:=by
  rw[At];exact⟨by decide +kernel,[ta],EA,.cons (hA.mono (n! (s1.trans s2))) .nil⟩
 have AD:(p! YI [t]).tall=t.tall+1:=by rw[r!,aB,aB];omega
 have aa4:H ap=none:=s1.free TL;refine⟨⟨x,dx,tl,al,kl,[]⟩,ap,.knot YI [t],rfl,Jf.keep (n! s2) (λb _ o e=>s2 b o e),hAa,by omega,λn hn=>(by cases hn),by show 0<=50000;decide,λL1 j n H3 Hc Ek hj EX fr=>?_⟩;dsimp only[az];rcases Ek with rfl|⟨aa,ka,D1,AI,rfl⟩
 .cases hj
 have Sy:j=0/\n=⟨.knot YI [t],ap,aa,ka,[],[]⟩:=by
  cases j with
  |zero=>exact⟨rfl,(Xf hj).symm⟩
  |succ j=>cases hj
 obtain⟨rfl,rfl⟩:=Sy;have TM:=Hc.ak _ (WR hj);refine⟨_,rfl,_,rfl,x,T.e_Level,dx,_,_,rfl,Hc.ins,T.cl_Level,T.na_Level_asked,pi _ _ _,_,rfl,al,_,_,.ref aa,rfl,rfl,l! Hc.al,bw (j:=0) rfl,aa,_,rfl,DPut.k (k:=Xo (-1)) TM (aX (by show 0<=1000000;decide)),?_⟩;have f3:j! H H3:=λb o e=>fr b o (λz=>by rw[GS b (cF (L:=⟨x,dx,tl,al,kl,[]⟩) b z)]at e;cases e) (s2 _ _ (s1 _ _ e));have KU:H aa=none:=(s1.trans s2).free D1;have Px:H ka=none:=(s1.trans s2).free AI;have s4:j! H (upd H3 aa (.dK (putK [] (Xo (-1)) (.ref BE)))):=aF f3 KU;have TN:(upd H3 aa (.dK (putK [] (Xo (-1)) (.ref BE)))) aa=some (.dK (putK [] (Xo (-1)) (.ref BE))):=ad;have M8:=Hc.setAsk (ask:=putK [] (Xo (-1)) (.ref BE)) hj (λb xs e=>by rw[af (aA e TM (λz=>nomatch z))];exact e) (λb _ hb o e=>by rw[af hb];exact e) TN;generalize(upd H3 aa (.dK (putK [] (Xo (-1)) (.ref BE))))=H4 at s4 TN M8 |-;refine⟨lnE rfl,λlv Jj=>?_⟩;dsimp only[az];refine gU Jj λH5 s5 e5=>?_;have TQ:=s4.trans s5;have Py:H lv=none:=s4.free Jj;generalize Pz:(Lv.add ⟨x,dx,tl,al,kl,[]⟩ (.knot YI [t]) ap aa ka).setAsk 0 ⟨.knot YI [t],ap,aa,ka,[],[]⟩ (putK [] (Xo (-1)) (.ref BE))=L at M8;have F4:L.ns=[⟨.knot YI [t],ap,aa,ka,[(Xo (-1),.ref BE)],[]⟩]:=by rw[<-Pz];rfl
 have hLx:L.x=x:=by rw[<-Pz];rfl
 have KW:∀b∈L.own,H b=none:=λb hb=>by
  have Bo:b∈(Lv.mk x dx tl al kl []).own\/b=aa\/b=ka:=by
   rw[<-Pz]at hb;have:b=x\/b=tl\/b=al\/b=kl\/b=aa\/b=ka:=by simpa[Lv.own,Lv.setAsk,Lv.add,dcts]using hb
   rcases this with h|h|h|h|h|h
   .exact .inl (by rw[h];simp[Lv.own])
   .exact .inl (by rw[h];simp[Lv.own])
   .exact .inl (by rw[h];simp[Lv.own])
   .exact .inl (by rw[h];simp[Lv.own])
   .exact .inr (.inl h)
   .exact .inr (.inr h)
  rcases Bo with h|rfl|rfl
  .exact GS b h
  .exact KU
  .exact Px
 have hL5:LvSh T.e_Level H5 L:=M8.keep (n! s5) (λb _ o e=>s5 b o e)
 have PB:lv∉L.own:=λz=>by
  obtain⟨o,e,_⟩:=cw M8 z;rw[Jj]at e;cases e
 have I0:LoopI T.e_Level Dp ins rows head W t H lv (t.tall+1) H5 [] L:=by
  refine⟨TQ,e5,⟨λM hM=>(by cases hM),λk M hk=>(by cases hk)⟩,hL5,λn hn=>?_,λM hM=>(by cases hM),⟨PB,λM hM=>(by cases hM)⟩,⟨Py,KW,λM hM=>(by cases hM)⟩,⟨L,_,rfl,F4,rfl,?_⟩,by show 0+_<=_;omega,by rw[F4];show 1<=50000;decide,λM hM=>(by cases hM),λn hn=>(by rw[F4]at hn;rw[WZ.mp hn];exact .inr rfl)⟩
  .rw[F4]at hn;rw[WZ.mp hn];refine⟨rfl,by simp,λkv Ag=>?_,⟨_,_,rfl⟩,by show 1<=100;decide,by show(p! YI [t]).tall<=_;omega⟩;have Dq:kv=(Xo (-1),.ref BE):=WZ.mp Ag;subst Dq;refine⟨-1,head,BE,⟨rfl,rfl,.inl ⟨rfl,rfl,t,rfl⟩,Jp.mono (KTD.of TQ)⟩,λc hc=>?_⟩;obtain⟨p',st⟩:=EZ c hc;exact⟨p',t,st,by omega,Pw,Aa⟩
  .show(aG [((Xo (-1):Key),i! BE)] (Xo (-1))).isSome=true;rw[bE rfl];rfl
 have MC:x=L.x:=hLx.symm;rw[MC];refine⟨λmz Y H6=>Ex5 λ(Ls:List Lv)(L:Lv)(c4 c6 c7:Option V)=>An2 (Y=[some (.ref td),some (.ref BE),some (.ref ta),some (.ref L.x),c4,some (.ref lv),c6,c7]) (LoopI T.e_Level Dp ins rows head W t H lv mz H6 Ls L),⟨_,[],L,_,_,_,rfl,I0⟩,?_⟩;rintro mz Y H6 ⟨Ls,L,c4,c6,c7,rfl,I⟩;refine⟨_,rfl,L.x,T.e_Level,L.dx,_,_,rfl,I.cur.ins,T.cl_Level,T.na_Level_trees,mP _ _ _,!(L.ns.map λn=>i! n.ta).isEmpty,?_,?_⟩
 .exact .inl ⟨_,l! I.cur.tl,rfl⟩
 refine dh (λcc=>?_) (λcc=>?_)
 .have Ay:L.ns≠[]:=λz=>by rw[z]at cc;cases cc
  refine⟨λi' H'=>∃m',m'<mz/\Ex5 λ(Ls:List Lv)(L:Lv)(c4 c6 c7:Option V)=>An2 (i'=[some (.ref td),some (.ref BE),some (.ref ta),some (.ref L.x),c4,some (.ref lv),c6,c7]) (LoopI T.e_Level Dp ins rows head W t H lv m' H' Ls L),λi' H' h=>h,?_⟩;have DV:=I.len;refine⟨_,rfl,.inl ⟨rfl,_,l! I.ls⟩,_,rfl,lv,_,_,rfl,rfl,I.ls,lbE (by omega),?_⟩
  have eLx:(upd H6 lv (.lst ((Ls.map λL=>i! L.x)++[.ref L.x]))) L.x=some (.ins T.e_Level L.dx (lvF L.tl L.al L.kl)):=by
   rw[af (aA I.cur.ins I.ls (λz=>nomatch z))];exact I.cur.ins
  have PD:LvSh T.e_Level (upd H6 lv (.lst ((Ls.map λL=>i! L.x)++[.ref L.x]))) L:=I.cur.keep (bx I.ls) (λb hb o e=>by rw[af (show b≠lv fromλz=>I.lvn.1 (z ▸ hb))];exact e);have k7:KTD H6 (upd H6 lv (.lst ((Ls.map λL=>i! L.x)++[.ref L.x]))):=⟨bx I.ls,λb xs e=>by rw[af (aA e I.ls (λz=>nomatch z))];exact e⟩;generalize hH7:(upd H6 lv (.lst ((Ls.map λL=>i! L.x)++[.ref L.x])))=H7 at eLx PD k7 |-;intro x dx hx Jd FR;refine⟨x,dx,rfl,ad,λtl al kl H8 sb HN AR AM n1 n2 n3 ex e1 e2 e3=>⟨rfl,?_⟩⟩;dsimp only[az];obtain⟨s8,hB,KY⟩:=rF hx Jd FR sb HN AR AM n1 n2 n3 ex e1 e2 e3;have HP:LvSh T.e_Level H8 L:=PD.keep (n! s8) (λb _ o e=>s8 b o e)
  have KZ:∀b∈L.own,b∉(Lv.mk x dx tl al kl []).own:=λb hb hz=>by
   obtain⟨o,e,_⟩:=cw PD hb;rw[KY b hz]at e;cases e
  have k08:KTD H H8:=((KTD.of I.same).trans k7).trans (KTD.of s8);refine⟨_,rfl,L.x,T.e_Level,L.dx,_,_,rfl,HP.ins,T.cl_Level,T.na_Level_trees,mP _ _ _,L.tl,_,rfl,.inl (l! HP.tl),_,rfl,?_⟩;have hlen:((L.ns.map λn=>i! n.ta).length:Int).toNat=L.ns.length:=by rw[WO,YH]
  have aa5:=I.cnt;refine⟨by rw[WO];omega,by rw[WO];omega,?_⟩;rw[hlen]
  refine cm (λi Y H9=>Ex3 λ(c7:Option V)(L' B':Lv)=>An2 (Y=[some (.ref td),some (.ref BE),some (.ref ta),some (.ref L.x),c4,some (.ref lv),some (.ref x),c7]) (RunI T.e_Level Dp ins rows head (Okd W ins (mz - 1)) H8 L ⟨x,dx,tl,al,kl,[]⟩ i H9 L' B'))
   ⟨_,L,⟨x,dx,tl,al,kl,[]⟩,rfl,RunI.start HP hB rfl⟩ ?_ ?_
  .rintro i Y H9 hi ⟨c7,L',B',rfl,R⟩;dsimp only[az];obtain⟨n,hn⟩:∃n,L.ns[i]?=some n:=⟨_,WS hi⟩;have IK:L'.ns[i]?=some n:=(R.todo i (W2 _)).trans hn;have M9:=(I.rd n (WR hn)).mono ((k7.trans (KTD.of s8)).trans R.ktd);have hC:=R.handC HP KZ IK;have PF:L'.x=L.x:=R.up.x;have PH:B'.x=x:=R.gr.x;have ei:(0:Int)+((i:Nat):Int)=((i:Nat):Int):=by omega
   refine⟨_,rfl,_,rfl,_,rfl,_,rfl,td,L',B',i,n,Dp,ins,rows,head,Okd W ins (mz - 1),W,by rw[PF,PH,ei];rfl,hT.mono (k08.trans R.ktd),GR,hC,M9.sp,M9.ask,R.good,λh ho=>⟨?_,ho.mem⟩,TO.wl,TO.rl,M9.kids,M9.knot,λB2 sp DD I2 hd=>?_⟩
   .have:=ho.tall;have:=I.len;omega
   .exact⟨_,_,_,rfl,R.step IK I2 hd⟩
  .rintro Y H9 ⟨c7,L',B',rfl,R⟩;have PH:B'.x=x:=R.gr.x;subst hH7;obtain⟨Ae,I'⟩:=I.step TO Ay s8 KY R;exact⟨_,rfl,mz - 1,Ae,_,B',_,_,_,by rw[PH];rfl,I'⟩
 .have Dh:L.ns=[]:=by
   cases hL:L.ns with
   |nil=>rfl
   |cons a as=>rw[hL]at cc;exact g! rfl cc
  have HQ:tY t Ls:=by
   obtain⟨L0,n0,h1,h2,h3,h4⟩:=I.top;cases Ls with
   |cons M Ms=>exact⟨L0,n0,h1,h2,h3,h4⟩
   | nil =>
     have Jf:L=L0:=Xf h1;rw[<-Jf,Dh]at h2;cases h2
  have C3:=I.ch;rw[Dh]at C3;exact⟨_,rfl,k lv Ls H6 I.same I.ls C3 HQ (by have:=I.len;omega) I.mem⟩
def WsAt(H:Hp)(bl:WT)(ws:List (WT×List (Key×V))):Prop:=H bl=some (.lst (ws.map λw=>i! w.1))/\∀w∈ws,H w.1=some (.dK w.2)/\(w.2.map (·.1)).Nodup/\∀kv∈w.2,∃s:Int,kv.1=Xo s
inductive fO(vs:List V)(H:Hp)(Q:VK)(_E:XK):Prop
 |mk (ka bl:WT) (sp:List (Key×V)) (ws:List (WT×List (Key×V))) (Aq:vs=[.ref ka,.ref bl]) (Ar:H ka=some (.dK sp)) (Ax:(sp.map (·.1)).Nodup) (AN:sp.length<=100) (Bd:WsAt H bl ws) (Co:(∀w∈ws,w.1≠ka/\w.2.length<=101)) (C4:(∀kv∈sp,∃(kid:Int)(j:Nat)(w:WT×List (Key×V)),kv=(Xo kid,.int (j:Nat))/\ws[j]?=some w)) (DT:∀(r:WT)(AL:List (List Key×V))(H':Hp),j! H H'->H r=none->H' r=some (.dT AL)->(∀(kid:Int)(j:Nat)(w:WT×List (Key×V))(s:Int)(v:V),aG sp (Xo kid)=some (.int (j:Nat))->ws[j]?=some w->aG w.2 (Xo s)=some v->aG AL (ky (s,kid))=some v)->Q (.ref r) H'):fO  vs H Q _E
def l4:Sp:=fO
theorem l9:FnOk P w K mg base CX0 1 T.g_kid_worths.f T.g_kid_worths.d ["spots","beneath"] l4:=by
 refine T.g_kid_worths.F.okA b9 λAj A outer s H vs Q E hr h=>?_;obtain⟨ka,bl,sp,ws,rfl,AQ,K0,KQ,⟨TR,AS⟩,hwk,BX,k⟩:=h
 refine⟨_,(ag (ao 2 b9.nd eM)
  (ag (j9 (bH XE rfl (lP (pv 0)) (cv rfl (aI (pgN 3 b9.nd) (aI (pgN 4 b9.nd) bS))) (am (j9 (bH XE rfl (lP (aw bh (pv 1) (pv 4) (λ_ _=>rfl))) (cv rfl (aI (pgN 5 b9.nd) (aI (pgN 6 b9.nd) bS))) (am (dI (cg hr) (pv 2) (aR (ac (pv 5) (ac (pv 3) ae))) (pv 6) rfl)))))))
  (am (aE (pv 2))))),?_⟩
 try dsimp only[AK,Ad]
 intro r M';dsimp only[az];refine gU M' λH1 s1 e1=>?_;have Jk:ka≠r:=ar AQ M';refine⟨_,rfl,ka,sp,rfl,s1 _ _ AQ,λo1=>?_⟩
 refine mM (a:=ka) (o:=o1) (kvs:=sp) (λe Y H3=>Ex5 λ(c3 c4 c5 c6:Option V)(AL:List (List Key×V))=>An6 (Y=[some (.ref ka),some (.ref bl),some (.ref r),c3,c4,c5,c6]) ((∀b u,b≠ka->H b=some u->H3 b=some u)) (H3 ka=some (.frz o1 (.dK sp))) (H3 r=some (.dT AL)) (AL.length<=101 * e) (∀(e':Nat)(kid:Int)(j:Nat)(w:WT×List (Key×V))(s:Int)(v:V),e'<e->sp[e']?=some (Xo kid,.int (j:Nat))->ws[j]?=some w->aG w.2 (Xo s)=some v->aG AL (ky (s,kid))=some v))
  ⟨none,none,none,none,[],rfl,λb u hb e=>by rw[af hb];exact s1 _ _ e,ad,by rw[af Jk.symm];exact e1,XB _,λe' kid j w s v h=>by cases h⟩ (λe Y H3 _⟨_,_,_,_,_,_,_,h,_,_,_⟩=>h) ?_ ?_
 .rintro e kv p Y H3 Ag hp ⟨c3,c4,c5,c6,AL,rfl,Gu,PJ,C7,hlen,Ab⟩;refine hid λZZ kZ=>?_;obtain⟨kid,j,w,rfl,hw⟩:=BX kv (WR Ag);have wm:=WR hw;obtain⟨ew,wnd,wks⟩:=AS w wm;obtain⟨HR,DC⟩:=hwk w wm;refine kZ ?_;have Fs:e<100:=by have:=(glE Ag);omega
  dsimp only;refine gU hp λH4 s4 e4=>?_;have e4:H4 p=some (.tup [.int kid,.int ((j:Nat):Int)]):=e4;refine⟨p,_,rfl,k! e4,rfl,_,_,rfl,_,_,rfl,rfl,?_⟩;dsimp only[az];have PK:=s4 _ _ (Gu _ _ (aA TR AQ (λz=>nomatch z)) TR);have HS:=s4 _ _ (Gu _ _ HR ew);have TU:=s4 _ _ C7;have PL:w.1≠r:=aA HS TU (λz=>nomatch z);refine⟨_,rfl,_,rfl,bl,_,_,.ref w.1,rfl,rfl,l! PK,bw (gmE hw),w.1,w.2,rfl,HS,λo2=>?_⟩
  refine mM (a:=w.1) (o:=o2) (kvs:=w.2) (λf Y H5=>Ex3 λ(c5 c6:Option V)(AL:List (List Key×V))=>An7 (Y=[some (.ref ka),some (.ref bl),some (.ref r),some (.int kid),some (.int ((j:Nat):Int)),c5,c6]) ((∀b u,b≠w.1->b≠r->H4 b=some u->H5 b=some u)) (H5 w.1=some (.frz o2 (.dK w.2))) (H5 r=some (.dT AL)) (AL.length<=101 * e+f) ((∀(e':Nat)(kid:Int)(j:Nat)(w:WT×List (Key×V))(s:Int)(v:V),e'<e->sp[e']?=some (Xo kid,.int (j:Nat))->ws[j]?=some w->aG w.2 (Xo s)=some v->aG AL (ky (s,kid))=some v)) (∀(f':Nat)(s:Int)(v:V),f'<f->w.2[f']?=some (Xo s,v)->aG AL (ky (s,kid))=some v))
   ⟨_,_,AL,rfl,λb u hb _ eb=>by rw[af hb];exact eb,ad,by rw[af PL.symm];exact TU,by omega,Ab,λf' s v h=>by cases h⟩ (λf Y H5 _⟨_,_,_,_,_,h,_,_,_,_⟩=>h) ?_ ?_
  .rintro f M4 p2 Y H5 CT Bp ⟨c5,c6,AL,rfl,FG,D8,C8,hlen,Ab,F3⟩;obtain⟨s',Hh⟩:=wks M4 (WR CT);obtain⟨k2,v2⟩:=M4;simp only at Hh;subst Hh;have hfl:f<101:=by have:=(glE CT);omega
   dsimp only;refine gU Bp λH6 s6 e6=>?_;have e6:H6 p2=some (.tup [.int s',v2]):=e6;refine⟨p2,_,rfl,k! e6,rfl,_,_,rfl,_,_,rfl,rfl,?_⟩;dsimp only[az];refine⟨_,rfl,_,rfl,_,rfl,_,rfl,lnE rfl,λkp Em=>?_⟩;refine gU Em λH7 s7 e7=>?_;have e7:H7 kp=some (.tup ((ky (s',kid)).map kV)):=e7;have PM:=s6.trans s7;have er7:=PM _ _ C8;refine⟨r,_,rfl,DPut.t er7 e7 (aX (by omega)),?_⟩;refine⟨_,_,_,rfl,λb u hb TV eb=>by rw[af TV];exact PM _ _ (FG b u hb TV eb),by rw[af PL];exact PM _ _ D8,ad,?_,λe' D7 j' w' s v he h1 h2 h3=>?_,λf' s v hf h1=>?_⟩
   .have:=bO AL (ky (s',kid)) v2;omega
   .rw[bW];by_cases hk:ky (s,D7)=ky (s',kid)
    .have Jm:D7=kid:=h! Prod.snd (jf hk);rw[Jm]at h1;exact g! (kg K0 (i:=e') (j:=e) (x:=Xo kid) (gmE h1) (gmE Ag)) (by omega)
    .rw[a! hk];exact Ab e' D7 j' w' s v he h1 h2 h3
   .rw[bW];by_cases hk:ky (s,kid)=ky (s',kid)
    .rw[b! hk];have PN:s=s':=h! Prod.fst (jf hk);rw[PN]at h1;have PQ:=kg wnd (i:=f') (j:=f) (x:=Xo s') (gmE h1) (gmE CT);rw[PQ,CT]at h1;cases h1;rfl
    .rw[a! hk];rcases Y2.mp hf with h4|h4
     .exact F3 f' s v h4 h1
     .rw[h4,CT]at h1;cases h1;exact g! rfl hk
  .rintro Y H5 ⟨c5,c6,AL,rfl,FG,D8,C8,hlen,Ab,F3⟩;refine⟨upd H5 w.1 (.dK w.2),λb=>?_,?_⟩
   .by_cases hb:b=w.1
    .rw[hb];exact .inr ⟨o2,_,D8,HS,ad⟩
    .exact .inl (af hb)
   .refine⟨_,_,_,_,AL,rfl,λb u hb eb=>?_,?_,by rw[af PL.symm];exact C8,by omega,λe' D7 j' w' s v he h1 h2 h3=>?_⟩
    .by_cases Na:b=w.1
     .rw[Na,ew]at eb;cases eb;rw[Na,ad]
     .rw[af Na];exact FG b u Na (ar eb M') (s4 _ _ (Gu b u hb eb))
    .rw[af HR.symm];exact FG _ _ HR.symm Jk (s4 _ _ PJ)
    .rcases Y2.mp he with h4|h4
     .exact Ab e' D7 j' w' s v h4 h1 h2 h3
     .rw[h4,Ag]at h1;cases h1;rw[hw]at h2;cases h2;obtain⟨f',C6⟩:=Xe.mp (fx h3);exact F3 f' s v (Xw.mp C6).1 C6
 .rintro Y H3 ⟨c3,c4,c5,c6,AL,rfl,Gu,PJ,C7,hlen,Ab⟩;refine⟨upd H3 ka (.dK sp),λb=>?_,?_⟩
  .by_cases hb:b=ka
   .rw[hb];exact .inr ⟨o1,_,PJ,s1 _ _ AQ,ad⟩
   .exact .inl (af hb)
  .refine⟨_,rfl,k r AL _ (λb u eb=>?_) M' (by rw[af Jk.symm];exact C7) λkid j w s v h1 h2 h3=>?_⟩
   .by_cases hb:b=ka
    .rw[hb,AQ]at eb;cases eb;rw[hb,ad]
    .rw[af hb];exact Gu b u hb eb
   .obtain⟨e',KS⟩:=Xe.mp (fx h1);exact Ab e' kid j w s v (Xw.mp KS).1 KS h2 h3
theorem iG:∀(prs acc:List (Key×V)),((acc++prs).map (·.1)).Nodup->eN acc prs=acc++prs
 | [],acc,_=>by rw[Yz];rfl
 | pr::prs,acc,h=>by
   have e:acc++pr::prs=(acc++[pr])++prs:=by rw[X6];rfl
   rw[e]at h |-
   have hv:aG acc pr.1=none:=by
    cases hv:aG acc pr.1 with
    |none=>rfl
    | some v =>
      rw[W9,W9,X6,YG]at h;exact g! rfl (h.2.2 _ (Xq.mpr ⟨_,fx hv,rfl⟩) pr.1 (Xi _ (by simp)))
   show eN (putK acc pr.1 pr.2) prs=_;rw[uA _ hv];exact iG prs _ h
def fOf(AL:List (List Key×V))(s k:Int):Int:=match aG AL (ky (s,k))with
 |some (.int v)=>v
 |_=>0
structure Ws1(VR:Int->Th->Int->Prop)(Hl:Hp)(m:Nd)(w:WT×List (Key×V)):Prop where
 new:Hl w.1=none
 len:w.2.length<=101
 val:∀s,(aG m.ask (Xo s)).isSome=true->∃v,aG w.2 (Xo s)=some (.int v)/\VR s m.t v
structure WsOk(VR:Int->Th->Int->Prop)(Hl H:Hp)(bl:WT)(ns:List Nd)(ws:List (WT×List (Key×V))):Prop where
 «at»:WsAt H bl ws
 len:ws.length=ns.length
 one:∀(j:Nat)(m:Nd)(w:WT×List (Key×V)),ns[j]?=some m->ws[j]?=some w->Ws1 VR Hl m w
theorem WsOk.up{VR TY:Int->Th->Int->Prop}{Hl:Hp}{bl:WT}{ws:List (WT×List (Key×V))}(h:WsOk VR Hl H bl ns ws)(u:∀s t v,VR s t v->TY s t v):WsOk TY Hl H bl ns ws:=⟨h.at,h.len,λj m w hm hw=>by
 obtain⟨a,b,c⟩:=h.one j m w hm hw
 exact⟨a,b,λs hs=>by
  obtain⟨v,h1,h2⟩:=c s hs;exact⟨v,h1,u _ _ _ h2⟩⟩⟩
theorem WsAt.fr{X:WT->Prop}{bl:WT}{ws:List (WT×List (Key×V))}(h:WsAt H bl ws)(hx:∀b o,H b=some o->(∀kv,o≠.dT kv)->¬X b)(s:FrX X H H'):WsAt H' bl ws:=⟨s _ _ (hx _ _ h.1 λ_ z=>nomatch z) h.1,λw hw=>⟨s _ _ (hx _ _ (h.2 w hw).1 λ_ z=>nomatch z) (h.2 w hw).1,(h.2 w hw).2⟩⟩
def yq(ins:List (Xk×Int))(rows:List (List Th))(head:Th)(W:List Th)(t:Th)(X:WT->Prop)(SI:Hp->List Th->Prop)(VR:List Th->Int->Th->Int->Prop)(DH:DPH)(Jq:Sp):Prop:=∀(H1:Hp)(s:Int)(u p:Th)(da ca:WT)(AL:List (List Key×V))(f:Int->Int->Int)(Ts:List Th)(R:VK),d3 ins rows head s u p->InW W t u->DgN (DH H1) ca H1 p da->H1 ca=some (.dT AL)->¬X ca->SI H1 Ts->(∀c∈callsOf (p.pl []),aG AL (ky c.2)=some (.int (f c.2.1 c.2.2))/\∃h,u.kids[c.2.2.toNat]?=some h/\VR Ts c.2.1 h (f c.2.1 c.2.2))->(∀(v:Int)(H2:Hp)(Bz:List Th),FrX X H1 H2->SI H2 Bz->Ts <+: Bz->VR Bz s u v->R (.int v) H2)->Jq [.ref da,.ref ca] H1 R E0
inductive ki(P:Xm)(w:XD)(K:WX)(mg:Xk->Option WW)(base:X4)(vs:List V)(H:Hp)(Q:VK)(_E:XK):Prop
 |mk (b hd ta f g:WT) (ins outs:List (Xk×Int)) (Cg head t:Th) (rows:List (List Th)) (El Jq:Sp) (DH:DPH) (K1:Th->Prop) (W:List Th) (X:WT->Prop) (SI:Hp->List Th->Prop) (VR:List Th->Int->Th->Int->Prop) (T0:List Th) (Aq:vs=[.ref b,.ref hd,.ref ta,.ref f,.ref g]) (Ar:Bk H ins outs Cg rows b) (Ax:bq ins) (AN:(∀row∈rows,row.length=ins.length/\∀p∈row,K1 p)) (Bd:At H head hd) (Co:K1 head) (C4:FvOk P w K mg base CX0 4 f El) (DT:uy H DH El K1) (HH:oV DH) (Jn:(∀H p own d kvs,DH H p own d kvs->jF p kvs/\¬X d)) (EY:At H t ta) (F1:t.Fit ins) (KL:t.tall<=100) (PR:t∈W) (aa6:iS ins rows head W) (aa7:(∀c∈callsOf (head.pl []),∃p',Step ins rows c.2.1 c.2.2 [t] p' t)) (aa8:FvOk P w K mg base CX0 3 g Jq) (aa9:FoldI X SI VR) (ab0:SI H T0) (ab1:yq ins rows head W t X SI VR DH Jq) (ab2:∀(v:Int)(H':Hp)(Ts:List Th),FrX X H H'->SI H' Ts->T0 <+: Ts->VR Ts (-1) (.knot YI [t]) v->Q (.int v) H'):ki P w K mg base vs H Q _E
def tD(P:Xm)(w:XD)(K:WX)(mg:Xk->Option WW)(base:X4):Sp:=ki P w K mg base
theorem mV:FnOk P w K mg base CX0 6 T.g_folded.f T.g_folded.d ["book","head","tree","digest","worth"] (tD P w K mg base):=by
 refine T.g_folded.F.okA cI λAj A outer s H vs Q E hr h=>?_;obtain⟨b,hd,ta,f,g,ins,outs,Cg,head,t,rows,El,Jq,DH,K1,W,X,SI,VR,T0,rfl,hB,gi,AF,hAh,PU,M1,FZ,HU,GR,hAt,Aa,Ao,Pw,TO,EZ,hfw,FI,PV,PX,k⟩:=h
 refine⟨_,(ag (ao 5 cI.nd (aN ae))
  (ag (bH XE rfl (uj rfl T.n_reversed (pcF T.g_levels_of (nQ T) hr (ac (pcF T.g_digests_of (lU T) hr (ac (pv 0) (ac (pv 3) ae))) (ac (kT (k:=4) (i:=3) rfl (Or.inl rfl) (hr.mono (by first|decide|omega)) cK (ac (pv 1) ae)) (ac (pv 2) ae))))) (pgN 6 cI.nd) (ag (ao 7 cI.nd (aN ae))
  (ag (bH XE rfl (wB rfl T.n_zip (ac (cS (pv 6) rfl) (ac (cS (pv 6) rfl) ae))) (cv rfl (aI (pgN 8 cI.nd) (aI (pgN 9 cI.nd) bS))) (ag (ao 10 cI.nd (pcF T.g_kid_worths (l9 T) hr (ac (pv 9) (ac (pv 5) ae))))
  (am (ba (bQ Xg Xu Xs aQ (pv 7) (ac (aL (j1 (qQ hr) rfl) rfl T.n_dict PyProof.Rows.boot_dict (ac (rm (bR (N:=[WU "state",WU "pair",WU "worth",WU "kids"]) (js:=[none,none,some 4,some 10]) (g:=(pR K 2 (fF (az 0) (fF (az 1) qi)))) (tt:=bu) (te:=(tE (aU (bc 0) (aU (vk P w K mg base CX0 3 2 E0 (aU (bc 1) (aU (bc 3) dS))) dS)))) rfl (bX rfl (by decide +kernel) (by decide +kernel) rfl rfl rfl) (lP (pv 8)) (λ_ _ _ _ _ _=>(cv rfl (aI (pgN 0 yU) (aI (pgN 1 yU) bS)))) (kL (db bP (aP rfl) (db bP (aP rfl) lj))) (λ_ _ _ _ _ _=>bC) (λ_ _ _ _ _ _=>(aR (ac (pv 0) (ac (kT (k:=3) (i:=2) rfl (by first|exact Or.inl rfl|exact Or.inr (Or.inl rfl)|exact Or.inr (Or.inr rfl)) (hr.mono (by first|decide|omega)) cK (ac (pv 1) (ac (pv 3) ae))) ae)))))) ae)) ae))))))
  (am (ao 5 cI.nd (pv 7))))))
  (am (aE (dA (cg hr) (aw bh (pv 5) ai (λ_ _=>rfl)) (cX (v:=.int (-1)) rfl T.c_HEAD.choose_spec ⟨_,rfl⟩) (λ_ _=>rfl)))))),?_⟩
 try dsimp only[AK,Ad]
 refine⟨lnE rfl,λbl BM=>?_⟩;dsimp only[az];refine gU BM λH1 s1 e1=>?_
 have hB1:Bk H1 ins outs Cg rows b:=by
  obtain⟨ia,oa,ha,ra,Aw,Az,AA,hB⟩:=hB;exact⟨ia,oa,ha,ra,Aw,Az,AA,hB.mono (n! s1)⟩
 refine⟨_,rfl,_,rfl,b,f,ins,outs,Cg,rows,El,DH,K1,rfl,hB1,gi,TO.rl,AF,M1,λH1 p pa R s=>FZ H1 p pa R (s1.trans s),HU,λtd H2 s2 PY=>?_⟩;refine⟨f,El,rfl,M1,_,rfl,FZ H2 head hd _ (s1.trans s2) (hAh.mono (n! (s1.trans s2))) PU λr d own kvs H3 s3 EN er ed HL=>?_⟩;refine⟨_,rfl,td,r,ta,t,DH H3,ins,rows,head,W,rfl,qd HU PY s3,⟨d,own,kvs,er,ed,HL⟩,λp own d kvs h=>(GR H3 p own d kvs h).1,hAt.mono (n! ((s1.trans s2).trans s3)),Aa,Ao,Pw,TO,EZ,λlr Ls H4 s4 PZ C3 HQ hlen Bm=>?_⟩;have HI:=((s1.trans s2).trans s3).trans s4;have K2:SI H4 T0:=FI.keep _ _ _ PV (KNL.of HI);have GU:∀{b:WT}{o:HO},H4 b=some o->(∀kv,o≠.dT kv)->¬X b:=λe h=>FI.nx K2 e h;refine⟨lr,_,rfl,l! PZ,?_⟩
 refine rP (K:=K) (a:=lr) (xs:=Ls.map λL=>i! L.x) (λi Y H5=>Ex8 λ(c6 c7 c8 c9 CD:Option V)(bl:WT)(ws:List (WT×List (Key×V)))(Ts:List Th)=>An5 (Y=[some (.ref b),some (.ref hd),some (.ref ta),some (.ref f),some (.ref g),some (.ref bl),c6,c7,c8,c9,CD]) (FrX X H4 H5) (SI H5 Ts) (T0 <+: Ts) (WsOk (VR Ts) H4 H5 bl (nxt Ls (Ls.length - i) []) ws))
  ⟨none,none,none,none,none,bl,[],T0,rfl,I! (.refl _),K2,List.prefix_rfl,⟨⟨((s2.trans s3).trans s4) _ _ e1,λw hw=>by cases hw⟩,by unfold nxt;rw[Nat.sub_zero,Yw (W2 _)];rfl,λj m w _ hw=>by cases hw⟩⟩ (λi Y H5 _⟨_,_,_,_,_,_,_,_,_,s5,_,_,_⟩=>l! (s5 _ _ (GU PZ λ_ z=>nomatch z) PZ)) ?_ ?_
 .rintro i x Y H5 hi hx ⟨c6,c7,c8,c9,CD,bl,ws,Jr,rfl,s5,E3,GV,AS⟩;rw[WO]at hi hx;rw[Xj]at hx
  obtain⟨L,hL,rfl⟩:∃L,Ls[Ls.length - 1 - i]?=some L/\i! L.x=x:=by
   cases h:Ls[Ls.length - 1 - i]? with
   |none=>rw[h]at hx;cases hx
   |some L=>rw[h]at hx;exact⟨L,rfl,Xf hx⟩
  have BG:=C3.sh L (WR hL);have Am:=C3.cl _ L hL;rw[show Ls.length - 1 - i+1=Ls.length - i by omega]at Am;dsimp only[az];refine⟨lnE rfl,λtl Ao=>?_⟩;dsimp only[az];refine gU Ao λH6 s6 e6=>?_;have Eo:FrX X H4 H6:=s5.trans (I! s6);have P0:=FI.keep _ _ _ E3 (KNL.of s6);have E4:H4 tl=none:=FI.free E3 s5 Ao;have P1:∀{b:WT}{o:HO},H4 b=some o->(∀kv,o≠.dT kv)->H6 b=some o:=λe h=>Eo _ _ (GU e h) e;have zi:=P1 BG.ins (λ_ z=>nomatch z);have za:=P1 BG.al (λ_ z=>nomatch z);have zk:=P1 BG.kl (λ_ z=>nomatch z);refine⟨_,rfl,L.x,T.e_Level,L.dx,_,_,rfl,zi,T.cl_Level,T.na_Level_asked,pi _ _ _,_,rfl,L.x,T.e_Level,L.dx,_,_,rfl,zi,T.cl_Level,T.na_Level_kid_spots,vm _ _ _,L.al,L.kl,rfl,⟨_,l! za⟩,⟨_,l! zk⟩,?_⟩
  refine tT (K:=K) (a:=L.al) (b:=L.kl) (xs:=L.ns.map λn=>i! n.aa) (ys:=L.ns.map λn=>i! n.ka) (by rw[WO,WO]) (λq Y H7=>Ex5 λ(c8 c9 CD:Option V)(us:List (WT×List (Key×V)))(Ts:List Th)=>An5 (Y=[some (.ref b),some (.ref hd),some (.ref ta),some (.ref f),some (.ref g),some (.ref bl),some (.ref L.x),some (.ref tl),c8,c9,CD]) ((∀b o,b≠tl->¬X b->H6 b=some o->H7 b=some o)) (SI H7 Ts) (Jr <+: Ts) (WsOk (VR Ts) H4 H7 tl (L.ns.take q) us))
   ⟨_,_,_,[],Jr,rfl,λ_ _ _ _ e=>e,P0,List.prefix_rfl,⟨⟨e6,λw hw=>by cases hw⟩,by rw[List.take_zero];rfl,λj m w _ hw=>by cases hw⟩⟩ (λq Y H7 _⟨_,_,_,_,_,_,s7,_,_,_⟩=>⟨l! (s7 _ _ (λz=>by rw[<-z,BG.al]at E4;cases E4) (GU BG.al λ_ z=>nomatch z) za),l! (s7 _ _ (λz=>by rw[<-z,BG.kl]at E4;cases E4) (GU BG.kl λ_ z=>nomatch z) zk)⟩) ?_ ?_
  .rintro q x y pz Y H7 hx hy hpz ⟨c8,c9,CD,us,P4,rfl,s7,F5,Nb,DR⟩;rw[Xj]at hx hy
   obtain⟨n,hn,rfl⟩:∃n,L.ns[q]?=some n/\i! n.aa=x:=by
    cases h:L.ns[q]? with
    |none=>rw[h]at hx;cases hx
    |some n=>rw[h]at hx;exact⟨n,rfl,Xf hx⟩
   rw[hn]at hy;have DS:i! n.ka=y:=Xf hy;subst DS;have CF:=WR hn;refine gU hpz λH8 s8 e8=>?_;have En:FrX X H5 H8:=λc o n e=>s8 _ _ (s7 c o (λz=>by rw[z,Ao]at e;cases e) n (s6 _ _ e));have HV:FrX X H4 H8:=s5.trans En;have K3:=FI.keep _ _ _ F5 (KNL.of s8);have ksp:=HV _ _ (GU (BG.sp n CF) λ_ z=>nomatch z) (BG.sp n CF);have kak:=HV _ _ (GU (BG.ak n CF) λ_ z=>nomatch z) (BG.ak n CF);refine⟨pz,_,rfl,k! e8,rfl,_,_,rfl,_,_,rfl,rfl,?_⟩;dsimp only[az];have BX:=Am.sp n CF;have KQ:=BX.len (Am.sn n CF);have Fw:=Am.kd n CF;have DC:=AS.len
   have hw1:∀(j:Nat)(w':WT×List (Key×V)),ws[j]?=some w'->∃m,(nxt Ls (Ls.length - i) [])[j]?=some m/\Ws1 (VR Jr) H4 m w':=λj w' BU=>by
    obtain⟨m,hm⟩:∃m,(nxt Ls (Ls.length - i) [])[j]?=some m:=⟨_,WS (by rw[<-DC];exact(Xw.mp BU).1)⟩;exact⟨m,hm,AS.one j m w' hm BU⟩
   refine⟨_,rfl,_,rfl,n.ka,bl,n.sp,ws,rfl,ksp,Am.sn n CF,by omega,AS.at.fr (λb o e h=>FI.nx E3 e h) En,λw' BU=>?_,λkv Ag=>?_,λca AL H9 s9 Ds Fy hck=>?_⟩
   .refine hid λZZ kZ=>?_;obtain⟨j,hj⟩:=Xe.mp BU;obtain⟨m,hm,hW⟩:=hw1 j w' hj;refine kZ ?_;exact⟨λz=>(by have:=hW.new;rw[z,BG.sp n CF]at this;cases this),hW.len⟩
   .refine hid λZZ kZ=>?_;obtain⟨kid,j,m,h1,h2,_⟩:=BX kv Ag;obtain⟨w',BU⟩:∃w',ws[j]?=some w':=⟨_,WS (by rw[DC];exact(glE h2))⟩;refine kZ ?_;exact⟨kid,j,w',h1,BU⟩
   dsimp only[az];have Nc:FrX X H4 H9:=HV.trans (I! s9);have K4:=FI.keep _ _ _ K3 (KNL.of s9);have HW:=s9 _ _ (s8 _ _ DR.at.1);have HX:=s9 _ _ kak
   have Nf:¬X ca:=λz=>by
    obtain⟨kv,hk⟩:=FI.isD _ _ _ K3 z;rw[Ds]at hk;cases hk
   have HK:AskOk (DH H3) ins rows head H4 n.t n.ask:=λkv Ag=>by
    obtain⟨s,p,da,h,_⟩:=Am.ed n CF kv Ag;exact⟨s,p,da,h⟩
   have AR:=HK.len (Am.an n CF);have GN:=TO.rl;refine⟨_,rfl,.inl ⟨rfl,_,l! HW⟩,?_⟩;change oj _ _ _ _;refine oO FI (aa:=n.aa) (ask:=n.ask) (VW:=λTs kv v=>∃s,kv.1=Xo s/\VR Ts s n.t v) (T0:=P4) (λR hR=>⟨_,rfl,hR⟩) HX (by omega) K4 (λTs Bz kv v hp⟨s,h1,h2⟩=>⟨s,h1,FI.up _ _ _ _ _ hp h2⟩) (λe kv p H2 R P5 Ag sb F6 Bp ep hR=>?_) (λD ps prs H2 P5 s2 F6 Bp eD BS Bn FN=>?_)
   .refine hid λZZ kZ=>?_;obtain⟨s0,p0,da,hE,Du⟩:=Am.ed n CF kv (WR Ag);refine kZ ?_;rw[hE.k,hE.v]at ep;refine⟨p,_,rfl,k! ep,rfl,_,_,rfl,_,_,rfl,rfl,?_⟩;dsimp only[az];refine hid λZZ kZ=>?_;obtain⟨d,own,kvs,g1,g2,g3⟩:=hE.dg;refine kZ ?_;have kp:∀c o,H4 c=some o->(∀kv,o≠.dT kv)->(∀kv,o≠.dK kv)->H2 c=some o:=λc o e h h'=>sb c o (λz=>by rw[z,BG.ak n CF]at e;cases e;exact h' _ rfl) (GU e h) (Nc _ _ (GU e h) e);have K5:¬X d:=(GR _ _ _ _ _ g3).2;have Jb:d≠ca:=λz=>by rw[z]at g2 K5;rw[HV _ _ K5 g2]at Ds;cases Ds
    have dgn:DgN (DH H2) ca H2 p0 da:=⟨d,own,kvs,Jb,kp _ _ g1 (λ_ z=>nomatch z) (λ_ z=>nomatch z),sb _ _ (aA (Nc _ _ K5 g2) HX (λz=>nomatch z)) K5 (Nc _ _ K5 g2),HU H3 H2 _ _ _ _ ⟨λb xs e=>kp _ _ (s4 _ _ e) (λ_ z=>nomatch z) (λ_ z=>nomatch z),λb xs e=>kp _ _ (s4 _ _ e) (λ_ z=>nomatch z) (λ_ z=>nomatch z)⟩ g3⟩;have P6:H2 ca=some (.dT AL):=sb _ _ (aA Fy HX (λz=>nomatch z)) Nf Fy
    have hfc:∀c∈callsOf (p0.pl []),∃(v:Int)(m:Nd),aG AL (ky c.2)=some (.int v)/\n.t.kids[c.2.2.toNat]?=some m.t/\VR Jr c.2.1 m.t v:=λc hc=>by
     obtain⟨j,m,h1,h2,h3,h4⟩:=Du c hc;obtain⟨w',BU⟩:∃w',ws[j]?=some w':=⟨_,WS (by rw[DC];exact(glE h2))⟩;obtain⟨v,P7,Ng⟩:=(AS.one j m w' h2 BU).val _ h4;exact⟨v,m,hck _ j w' _ _ h1 BU P7,h3,Ng⟩
    have PQ:∀c∈callsOf (p0.pl []),∀v,aG AL (ky c.2)=some (.int v)->fOf AL c.2.1 c.2.2=v:=λc _ v h=>by
     unfold fOf;rw[show ky (c.2.1,c.2.2)=ky c.2 from rfl,h]
    refine⟨_,rfl,g,Jq,rfl,hfw,_,rfl,_,rfl,PX H2 s0 n.t p0 da ca AL (fOf AL) P5 _ hE.pat (Bm L (WR hL) n CF) dgn P6 Nf F6 (λc hc=>?_) λv P8 Ts3 s3 HY DK hWv=>?_⟩
    .refine hid λZZ kZ=>?_;obtain⟨v,m,h1,h2,h3⟩:=hfc c hc;refine kZ ?_;rw[PQ c hc v h1];exact⟨h1,m.t,h2,FI.up _ _ _ _ _ (Nb.trans Bp) h3⟩
    .refine⟨lnE rfl,λpr BP=>?_⟩;exact hR v pr _ Ts3 (s3.trans (I! (aj BP _))) (FI.keep _ _ _ HY (KNL.of (aj BP _))) DK (by rw[hE.k];exact ad) ⟨s0,hE.k,hWv⟩
   .have AV:=W5 BS;have AM:=h! Ze Bn;rw[WO,WO]at AM;refine⟨D,ps,prs,rfl,eD,BS,by omega,λwd TZ=>?_⟩;have K0:(prs.map (·.1)).Nodup:=by rw[Bn];exact Am.an n CF
    rw[iG prs [] K0,ZS];refine gU TZ λP8 s3 e3=>?_;have T1:FrX X H9 P8:=s2.trans (I! s3);have HZ:=T1 _ _ (FI.nx K4 HW λ_ z=>nomatch z) HW;have HY:=FI.keep _ _ _ F6 (KNL.of s3);have hul:=DR.len;rw[XI]at hul;have hql:=(glE hn);have K6:=Am.ln;refine⟨tl,_,_,rfl,rfl,HZ,lbE (by omega),?_⟩;have hwt:wd≠tl:=aA e3 HZ (λz=>nomatch z);have T2:FrX X H7 P8:=(I! (s8.trans s9)).trans T1;refine⟨_,_,_,us++[(wd,prs)],P5,rfl,λc o hc n e=>by rw[af hc];exact T2 _ _ n (s7 c o hc n e),FI.keep _ _ _ HY (iw λo e=>by rw[HZ]at e;cases e;exact .inl ⟨_,rfl⟩),Nb.trans Bp,⟨⟨by rw[ad,W9];exact rfl,λw' BU=>?_⟩,by rw[W6,XI,Zn];omega,λj m w' hm BU=>?_⟩⟩
    .rcases W7.mp BU with h|h
     .obtain⟨h1,h2⟩:=DR.at.2 w' h;exact⟨by rw[af (aA h1 DR.at.1 (λz=>nomatch z))];exact T2 _ _ (FI.nx F5 h1 λ_ z=>nomatch z) h1,h2⟩
     .rw[WZ.mp h];refine⟨by rw[af hwt];exact e3,K0,λkv Ag=>?_⟩;refine hid λZZ kZ=>?_;obtain⟨v,_,Kw,_,h1,s,h2,_⟩:=FN kv Ag;refine kZ ?_;exact⟨s,h1.symm.trans h2⟩
    .by_cases hjq:j<q
     .rw[XA (by omega)]at BU;refine(DR.up λ_ _ _ h=>FI.up _ _ _ _ _ Bp h).one j m w' ?_ BU;rw[List.getElem?_take,b! (by omega)]at hm;rw[List.getElem?_take,b! hjq];exact hm
     .have Hr:=(Xw.mp BU).1;rw[W6,Zn]at Hr;have P9:j=q:=by omega
      subst P9;rw[XX (by omega),show j - us.length=0 by omega]at BU;have hw2:(wd,prs)=w':=Xf BU;rw[List.getElem?_take,b! (by omega),hn]at hm;cases hm;rw[<-hw2];refine⟨FI.free F6 (Nc.trans s2) TZ,by show prs.length<=101;omega,λs K7=>?_⟩;refine hid λZZ kZ=>?_;obtain⟨u,hu⟩:=Option.isSome_iff_exists.mp K7;have B9:(Xo s:Key)∈prs.map (·.1):=by rw[Bn];exact Xq.mpr ⟨_,fx hu,rfl⟩
      obtain⟨pr,BP,DL⟩:=Xq.mp B9;obtain⟨v,h1,Kw,_,h2,s',h3,h4⟩:=FN pr BP;refine kZ ?_;have PN:s'=s:=Sum.inl.inj (h3.symm.trans (h2.trans DL));have:=v6 K0 BP;rw[DL,h1]at this;exact⟨v,this,PN ▸ h4⟩
  .rintro Y H7 ⟨c8,c9,CD,us,P4,rfl,s7,F5,Nb,DR⟩;rw[WO,Zg]at DR;refine⟨_,rfl,_,_,_,_,_,tl,us,P4,rfl,λc o n e=>s7 c o (λz=>by rw[z,E4]at e;cases e) n (Eo _ _ n e),F5,GV.trans Nb,?_⟩
   have e2:nxt Ls (Ls.length - (i+1)) []=L.ns:=by
    unfold nxt;rw[show Ls.length - (i+1)=Ls.length - 1 - i by omega,hL]
   rw[e2];exact DR
 .rintro Y H5 ⟨c6,c7,c8,c9,CD,bl,ws,Jr,rfl,s5,E3,GV,AS⟩;rw[WO,Nat.sub_self]at AS;refine hid λZZ kZ=>?_;obtain⟨L0,n0,h1,h2,h3,h4⟩:=HQ
  have e2:nxt Ls 0 []=[n0]:=by
   unfold nxt;rw[h1];exact h2
  rw[e2]at AS
  obtain⟨w0,P'⟩:∃w0,ws[0]?=some w0:=by
   have:=AS.len;exact⟨_,WS (by rw[this];exact Nat.zero_lt_one)⟩
  obtain⟨v,P7,Ng⟩:=(AS.one 0 n0 w0 rfl P').val (-1) h4;refine kZ ?_;rw[h3]at Ng;have gk:DGet H5 w0.1 (.int (-1)) (some (.int v)):=by have:=DGet.k (k:=Xo (-1)) ((AS.at.2 w0 (WR P')).1);rw[P7]at this;exact this
  exact⟨_,rfl,bl,_,_,.ref w0.1,rfl,rfl,l! AS.at.1,bw (j:=0) (gmE P'),w0.1,_,rfl,gk,k v H5 Jr ((I! HI).trans s5) E3 GV Ng⟩
def vH:DP:=λp own _ kvs=>∃es:CLs,own=.int (p.tall:Nat)/\kvs=dE es/\DepthE (callsOf (p.pl [])) es/\(callsOf (p.pl [])).length<=10000
structure PatS(p:Th):Prop where
 size:p.size<=10000
 tall:p.tall<=150
 kn:(p.walk.filter Th.isKnot).length=p.kn
theorem PatS.calls(h:PatS p):(callsOf (p.pl [])).length<=10000:=by
 have h1:=d6 (p.pl []);have h2:=Th.pl_len [] p;have h3:=h.size;omega
theorem dgT(Hs:Hp):uy Hs (λ_=>vH) iq PatS:=λH1 p pa R _ hA ok hR=>⟨pa,p,rfl,hA,ok.size,ok.tall,λr d es H' s hd er ed hT=>hR r d _ _ H' s hd er ed ⟨es,rfl,rfl,hT,ok.calls⟩⟩
theorem zF(p:Th)(own:V)(d:WT)(kvs:List (List Key×V))(h:vH p own d kvs):jF p kvs:=by
 obtain⟨es,_,rfl,h,_⟩:=h;exact uM h.toCallsE
theorem wT{head:Th}{t:Th}(gi:bq ins):yq ins rows head W t (λ_=>False) (λ_ _=>True) (λ_=>VRt ins rows head) (λ_=>vH) fI:=λH1 s u p da ca AL f Ts R hp _ hd Fy _ _ hv hR=>by
 refine hid λZZ kZ=>?_;obtain⟨d,own,kvs,h0,h1,h2,es,rfl,rfl,hT,hl⟩:=hd;refine kZ ?_;have BI:=hT.toCallsE.len;refine⟨da,d,ca,_,es,AL,f,rfl,h1,h2,Fy,h0,by omega,λe he=>?_,λH' M s' hm ha=>hR _ H' Ts (I! s') trivial List.prefix_rfl (yk gi s u p f M hp (λc hc h hh=>?_) (sR hT hm ha))⟩
 .obtain⟨c,hc,e2⟩:=hT.of e he;have:=(hv c hc).1;rw[e2]at this;exact this
 .refine hid λZZ kZ=>?_;obtain⟨_,h',h1,h2⟩:=hv c hc;refine kZ ?_;rw[h1]at hh;cases hh;exact h2
structure CntI(H:Hp)(ins outs:List (Xk×Int))(S:Int)(dp:Nat)(head:Th)(rows:List (List Th))(t:Th)(b ta:WT):Prop where
 bk:Bk H ins outs head rows b
 gi:bq ins
 ok0:∃h0,dj ins outs S dp h0 rows
 hdf:head.FitS outs S 1
 le:S<=100
 pat:∀row∈rows,∀p∈row,PatS p
 hd:PatS head
 tr:At H t ta
 fit:t.Fit ins
 tall:t.tall<=100
 size:t.size<=40000
inductive gN(vs:List V)(H:Hp)(Q:VK)(_E:XK):Prop
 |mk (b ta:WT) (ins outs:List (Xk×Int)) (S:Int) (dp:Nat) (head:Th) (rows:List (List Th)) (t:Th) (Aq:vs=[.ref b,.ref ta]) (Ar:CntI H ins outs S dp head rows t b ta) (Ax:∀(v:Int)(H':Hp),j! H H'->VRt ins rows head (-1) (.knot YI [t]) v->Q (.int v) H'):gN  vs H Q _E
def nF:Sp:=gN
theorem CntI.head{dp:Nat}{hd head:Th}{t:Th}(h:CntI H ins outs S dp hd rows t b ta)(hf:head.FitS outs S 1):∀c∈callsOf (head.pl []),∃p',Step ins rows c.2.1 c.2.2 [t] p' t:=λc hc=>by
 refine hid λZZ kZ=>?_;obtain⟨a1,a2,a3,a4⟩:=gC head [] hf c hc;obtain⟨h0,ok⟩:=h.ok0;obtain⟨p',u,st⟩:=mC ok (ks:=[t]) a1 a2 a3 (by simpa using a4) (λu hu=>by rw[WZ.mp hu];exact h.fit);refine kZ ?_;have hu:=st.2.2.1;have e:c.2.2.toNat=0:=by omega
 rw[e]at hu;have:t=u:=Xf hu;subst this;exact⟨p',st⟩
theorem nE:FnOk P w K mg base CX0 7 T.g_height_of.f T.g_height_of.d ["book","tree"] nF:=by
 refine T.g_height_of.F.okA oq λAj A outer s H vs Q E hr h=>?_;obtain⟨b,ta,ins,outs,S,dp,head,rows,t,rfl,I,k⟩:=h;refine⟨_,(am (aE (pcF T.g_folded (mV T) hr (ac (pv 0) (ac (pcF T.g_head_of (lS T) hr (ac (pv 0) ae)) (ac (pv 1) (ac (cX (v:=.ref T.g_depths_in.f) rfl T.g_depths_in.m rfl) (ac (cX (v:=.ref T.g_height_worth.f) rfl T.g_height_worth.m rfl) ae)))))))),?_⟩
 try dsimp only[AK,Ad]
 refine hid λZZ kZ=>?_;obtain⟨ia,oa,ha,ra,Aw,Az,AA,hB⟩:=I.bk;obtain⟨h0,ok⟩:=I.ok0;refine kZ ?_;exact⟨_,rfl,_,rfl,b,_,_,_,_,rfl,hB.bk,_,rfl,b,ha,ta,T.g_depths_in.f,T.g_height_worth.f,ins,outs,head,head,t,rows,_,_,(λ_=>vH),PatS,t.walk,(λ_=>False),(λ_ _=>True),(λ_=>VRt ins rows head),[],rfl,I.bk,I.gi,λrow hr=>⟨(ok.row row hr).len,I.pat row hr⟩,hB.hd,I.hd,FvOk.of (nU T) T.g_depths_in.F T.g_depths_in.b,dgT _,(λ_ _ _ _ _ _ _ h=>h),λ_ p own d kvs h=>⟨zF p own d kvs h,id⟩,I.tr,I.fit,I.tall,by rw[z!];exact WY ..,rs I.gi ok I.le I.size,I.head I.hdf,FvOk.lv (by decide) (FvOk.of (jX T) T.g_height_worth.F T.g_height_worth.b),⟨λ_ _ _ _ _=>trivial,λ_ _ _ _ z=>z.elim,λ_ _ _ _ _ _ h=>h⟩,trivial,wT I.gi,λv H' Ts f _ _ h=>k v H' (λb o e=>f b o id e) h⟩
inductive iz(vs:List V)(H:Hp)(Q:VK)(_E:XK):Prop
 |mk (a:WT) (t:Th) (Aq:vs=[.ref a]) (Ar:At H t a) (Ax:t.size<=10000) (AN:t.tall<=150) (Bd:∀(r d la:WT)(as:List WT)(kvs:List (List Key×V))(H':Hp),j! H H'->H d=none->H' r=some (.tup [.ref la,.ref d])->H' d=some (.dT kvs)->H' la=some (.lst (as.map i!))->Ats H' t.walk as->jF t kvs->Q (.ref r) H'):iz  vs H Q _E
def jG:Sp:=iz
theorem pe:FnOk P w K mg base CX0 4 T.g_parts_in.f T.g_parts_in.d ["pattern"] jG:=by
 refine T.g_parts_in.F.okA ow λAj A outer s H vs Q E hr h=>?_;obtain⟨a,t,rfl,hA,hsz,Ao,q⟩:=h;refine⟨_,(am (aE (aR (ac (pcF T.g_walked (tu T) hr (ac (pv 0) ae)) (ac (aL (kh (qQ hr) rfl) rfl T.n_dict PyProof.Rows.boot_dict (ac (bR (N:=[WU "place",WU "call"]) (js:=[none,none]) (g:=(pR K 2 (fF (az 0) (fF (az 1) qi)))) (tt:=bu) (te:=(tE (aU (bc 1) (aU (tC (.bl true)) dS)))) rfl (bX rfl (by decide +kernel) (by decide +kernel) rfl rfl rfl) (dH (pcF T.g_calls_in (jO T) hr (ac (pv 0) ae))) (λ_ _ _ _ _ _=>(cv rfl (aI (pgN 0 y4) (aI (pgN 1 y4) bS)))) (kL (db bP (aP rfl) (db bP (aP rfl) lj))) (λ_ _ _ _ _ _=>bC) (λ_ _ _ _ _ _=>(aR (ac (pv 1) (ac oH ae))))) ae)) ae))))),?_⟩
 try dsimp only[AK,Ad]
 refine⟨_,rfl,a,t,rfl,hA,by omega,λla ws H1 s1 _ K8 AS=>?_⟩;refine⟨_,rfl,a,t,rfl,hA.mono (n! s1),by omega,by omega,λr as H2 s2 er CI=>?_⟩;have Am:(callsOf (t.pl [])).length=as.length:=W5 CI;have hcz:=d6 (t.pl []);rw[Th.pl_len]at hcz;refine⟨r,rfl,⟨_,l! er⟩,i4 (F:=CtAt) (xs:=as.map i!) (callsOf (t.pl [])) (λH1 H2 z p kt h=>h.mono kt) (by rw[WO];exact Am) (by rw[WO];omega) (λi Hx sx hi=>⟨_,_,l! (sx _ _ er),WS hi⟩) (λHx sx=>⟨_,l! (sx _ _ er),W2 _⟩) (λi Hx x Hy sx hi hy=>⟨hy.1,hy.2 _ (l! (sx _ _ er))⟩) (λi x z Hx R W' hx Dx sx hR'=>?_) (λD H3 bs hD s3 eD AY=>?_)⟩
 .refine hid λZZ kZ=>?_;obtain⟨pa,rfl,Ei⟩:=aZ hx;obtain⟨c,hc,pl,ca,CN,epl,Fy⟩:=B! CI Ei;refine kZ ?_;rw[Dx]at hc;cases hc;refine⟨pa,_,rfl,k! (sx _ _ CN),rfl,_,_,rfl,_,_,rfl,rfl,?_⟩;refine⟨_,rfl,lnE rfl,λp4 K9=>?_⟩;have s5:=aj K9 (.tup [.ref ca,.bl true]);exact hR' _ p4 s5 ⟨ca,ad,s5 _ _ (sx _ _ Fy)⟩
 refine⟨D,bs,_,rfl,eD,xV AY,by rw[WO];omega,λta B6=>?_⟩;refine gU B6 λH4 s4 e4=>?_;refine⟨lnE rfl,λp5 GV=>?_⟩;have s5:=aj GV (.tup [.ref la,.ref ta]);have Qa:=((s2.trans s3).trans s4).trans s5;exact q p5 ta la ws _ _ (s1.trans Qa) ((s1.trans (s2.trans s3)).free B6) ad (s5 _ _ e4) (Qa _ _ K8) (AS.mono (n! Qa)) (tR rfl)
def nV(i:Nat):V:=.int (i:Nat)
theorem kD(n:Xk)(ids:List Nat):(fb (n,ids)).map kV=H! n::ids.map nV:=by
 unfold fb;rw[XH,YU];rfl
theorem lh:∀{a:List α}{b:List β},Xz F a b->Xz (λy x=>F x y) b a
 |_,_,.nil=>.nil
 |_,_,.cons h t=>.cons h (lh t)
inductive jE(vs:List V)(H:Hp)(Q:VK)(_E:XK):Prop
 |mk (ea la na:WT) (as:List WT) (t:Th) (E0:List (Xk×List Nat)) (T0:List Th) (AL:List (List Key×V)) (g:Int->Int->Th) (All:List Th) (Aq:vs=[.ref ea,.ref la,.ref na]) (Ar:H ea=some (.dT (kvsOf E0))) (Ax:Cl E0 T0) (AN:(∀e∈E0,e.2.length<=100000)) (Bd:H la=some (.lst (as.map i!))) (Co:Ats H t.walk as) (C4:H na=some (.dT AL)) (DT:na≠ea) (HH:(∀s k,K! s k∈t.walk->∃j:Nat,aG AL (ky (s,k))=some (.int (j:Nat))/\T0[j]?=some (g s k))) (Jn:t.size<=100000) (EY:(∀u∈T0,u∈All)) (F1:(∀n ks,p! n ks∈t.walk->(p! n ks).fill g∈All)) (KL:All.length<=900000) (PR:∀(E:List (Xk×List Nat))(Ts:List Th)(at':Nat)(H':Hp),(∀b o,b≠ea->H b=some o->H' b=some o)->H' ea=some (.dT (kvsOf E))->Cl E Ts->T0 <+: Ts->(∀u∈Ts,u∈All)->Ts[at']?=some (t.fill g)->(∀e∈E,e.2.length<=100000)->Q (.int (at':Nat)) H'):jE  vs H Q _E
def kF:Sp:=jE
theorem qp:FnOk P w K mg base CX0 2 T.g_entered.f T.g_entered.d ["entries","parts","numbers"] kF:=by
 refine T.g_entered.F.okA eV λAj A outer s H vs Q E hr h=>?_;obtain⟨ea,la,na,as,t,E0,T0,AL,g,All,rfl,ee,Qb,Qc,el,hw,ena,Ca,CU,hsz,K',Qd,Qe,q⟩:=h
 refine⟨_,(ag (ao 3 eV.nd (aN ae))
  (ag (bH XE rfl (uj rfl T.n_reversed (pv 1)) (pgN 4 eV.nd) (am (cu (cM (pcF T.g_is_call (lN T) hr (ac (pv 4) ae)) (λ_=>rfl)) (am (ba (bQ Xg Xu Xs aQ (pv 3) (ac (dA (cg hr) (pv 2) (pcF T.g_called_by (i5 T) hr (ac (pv 4) ae)) (λ_ _=>rfl)) ae)))) (ag (dG (i:=5) (N:=[WU "kid",WU "done"]) (js:=[none,some 3]) (g:=(az 0)) (tt:=bu) (te:=(zd K "list" (yJ) (bc 1))) eV.nd rfl (Or.inl rfl) rfl (bX rfl (by decide +kernel) (by decide +kernel) rfl rfl rfl) (ck (aW dX (pv 4) (bp ai) bt)) (λ_ _ _ _ _ _=>(pgN 0 zA)) (aP rfl) (λ_ _ _ _ _ _=>bC) (λ_ _ _ _ _ _=>(nX Xg PySem.F.slot_list_pop PySem.F.type_list_pop nT (pv 1))))
  (am (ba (bQ Xg Xu Xs aQ (pv 3) (ac (bQ PySem.F.plainAttrs_dict PySem.F.slot_dict_setdefault PySem.F.type_dict_setdefault (lZ (cg hr)) (pv 0) (ac (av dJ (aW qP (pv 4) bt (bp ai)) (aL aJ rfl T.n_tuple XC (ac (pv 5) ae))) (ac (aD mR rfl T.n_len XQ (ac (pv 0) ae)) ae))) ae))))))))
  (am (aE (aw bh (pv 3) ai (λ_ _=>rfl)))))),?_⟩
 try dsimp only[AK,Ad]
 have AR:as.length=t.walk.length:=hw.length;have DC:=t.walk_len;obtain⟨BM,hok⟩:=wP g t;obtain⟨AB,CV⟩:∃AB,AB=t.walk.map (cT g):=⟨_,rfl⟩;rw[<-CV]at BM hok;have Ao:AB.length=t.walk.length:=by rw[CV,WO]
 refine⟨lnE rfl,λdn GW=>?_⟩;have Ia:dn≠ea:=λz=>by rw[z,ee]at GW;cases GW
 have Hm:la≠ea:=aA el ee (by intro z;cases z);refine⟨_,rfl,la,_,rfl,l! (aj GW _ _ _ el),?_⟩
 refine rP (K:=K) (a:=la) (xs:=as.map i!) (λi Y H2=>Ex5 λc4 c5 ds E Ts=>An9 (Y=[some (.ref ea),some (.ref la),some (.ref na),some (.ref dn),c4,c5]) ((∀b o,b≠ea->H b=some o->H2 b=some o)) (H2 ea=some (.dT (kvsOf E))) (H2 dn=some (.lst (ds.map nV))) (Cl E Ts) (Xz (λu id=>Ts[id]?=some u) (bl (AB.drop (AB.length - i))).reverse ds) (T0 <+: Ts) ((∀u∈Ts,u∈All)) (∀e∈E,e.2.length<=100000))
  ⟨none,none,[],E0,T0,rfl,λb o hb e=>aj GW _ _ _ e,by rw[af Ia.symm];exact ee,ad,Qb,by rw[Nat.sub_zero,List.drop_length];exact .nil,List.prefix_rfl,K',Qc⟩ (λi Y H2 _⟨_,_,_,_,_,_,s2,_,_,_,_,_,_,_⟩=>l! (s2 _ _ Hm el)) ?_ ?_
 .rintro i y Y H2 hi hy ⟨c4,c5,ds,E,Ts,rfl,s2,e2,Js,Am,CB,AO,Bv,La⟩
  have Nh:E.length<=900000:=by
   rw[Am.len];exact XS (bT Am.nd Bv) Qe
  rw[WO,AR,<-Ao]at hi hy;refine hid λZZ kZ=>?_;obtain⟨pa,rfl,Ei⟩:=aZ hy;obtain⟨p,hp,Qf⟩:=hw.get Ei;have kt2:KT H H2:=λb xs e=>s2 b _ (aA e ee (by intro z;cases z)) e;have Jo:=Qf.mono kt2;have hn:AB.length - 1 - i<AB.length:=by omega
  have hx:AB[AB.length - 1 - i]?=some (cT g p):=by rw[CV,Xj,<-CV,hp];rfl
  have Jt:AB.drop (AB.length - 1 - i)=cT g p::AB.drop (AB.length - i):=by
   rw[List.drop_eq_getElem_cons hn,show AB.length - 1 - i+1=AB.length - i by omega];congr 1;rw[WS hn]at hx;exact Xf hx
  have F7:=hok.drop (AB.length - 1 - i);rw[Jt]at F7;have E5:AB.length - (i+1)=AB.length - 1 - i:=by omega
  have Lb:(bl (AB.drop (AB.length - i))).length<=100000:=by
   have:=qe (AB.drop (AB.length - i));rw[XR]at this;omega
  obtain⟨S',Jp⟩:=vK g t (i:=AB.length - 1 - i) hp;refine kZ ?_;rw[<-CV,Jt]at Jp;generalize AB.drop (AB.length - i)=S at Jt CB F7 Lb Jp;cases p with
  | call sn kn =>
    obtain⟨j,Qg,Hr⟩:=CU sn kn (WR hp)
    have hjT:Ts[j]?=some (g sn kn):=by
     obtain⟨r,rfl⟩:=AO;rw[XA (glE Hr)];exact Hr
    have Qh:=s2 _ _ Ca ena;refine⟨_,rfl,pa,.call sn kn,rfl,Jo,true,rfl,?_⟩;refine qf ?_;have ab3:=Js;refine⟨_,rfl,.inl ⟨rfl,_,l! Js⟩,_,rfl,_,rfl,pa,sn,kn,rfl,Jo,λp3 DK=>?_⟩;refine gU DK λH3 s3 e3=>?_;have e3:H3 p3=some (.tup ((ky (sn,kn)).map kV)):=e3;have hg:DGet H3 na (.ref p3) (some (.int (j:Nat))):=by have:=DGet.t (s3 _ _ Qh) e3;rw[Qg]at this;exact this
    refine⟨na,_,rfl,hg,dn,_,_,rfl,rfl,s3 _ _ Js,aX (by rw[WO];have:=W5 CB;rw[YV]at this;omega),?_⟩;refine⟨_,_,ds++[j],E,Ts,rfl,λb o hb e=>?_,?_,?_,Am,?_,AO,Bv,La⟩
    .rw[af (ar e GW)];exact s3 _ _ (s2 b o hb e)
    .rw[af Ia.symm];exact s3 _ _ e2
    .rw[ad,W9];rfl
    .rw[E5,Jt,cT,bl,X9];exact q! CB (.cons hjT .nil)
  |knot n ts =>
  rw[cT,TopsOk]at F7;have Lc:=Jo;rw[At]at Lc;refine hid λZZ kZ=>?_;obtain⟨hnq,BA,CN,Cw⟩:=Lc;have D9:BA.length=ts.length:=Cw.length;obtain⟨m,hm⟩:∃m,m=ts.length:=⟨_,rfl⟩;refine kZ ?_;rw[<-hm]at F7 D9;have Ib:bl (cT g (.knot n ts)::S)=.knot n ((bl S).take m)::(bl S).drop m:=by rw[cT,bl,<-hm]
  refine⟨_,rfl,pa,.knot n ts,rfl,Jo,false,rfl,?_⟩;refine sZ ?_;refine⟨_,rfl,1,rfl,pa,_,rfl,k! CN,?_,λp2 Bp=>?_⟩
  .rintro⟨z,_⟩;rw[W8,show(1:Int)=((1:Nat):Int)by rfl,x!]at z;omega
  dsimp only;rw[cy];refine gU Bp λH3 s3 e3=>?_;have F8:=s3 _ _ Js;have Qi:p2≠dn:=aA e3 F8 (by intro z;cases z);refine⟨p2,rfl,⟨_,k! e3⟩,λD hD=>?_⟩;have DZ:D≠dn:=λz=>by rw[z,F8]at hD;cases hD
  refine⟨m,λj H4=>An3 (j<=m) ((∀b o,H3 b=some o->b≠dn->H4 b=some o)) (Ex2 λ(FC ks:List Nat)=>An4 (H4 dn=some (.lst (FC.map nV))) (H4 D=some (.lst (ks.map nV))) (Xz (λu id=>Ts[id]?=some u) ((bl S).drop j).reverse FC) (Xz (λu id=>Ts[id]?=some u) ((bl S).take j) ks)),
   ⟨XB _,λb o e hb=>?_,ds,[],?_,?_,?_,?_⟩,?_⟩
  .rw[af (ar e hD)];exact e
  .rw[af DZ.symm];exact F8
  .rw[ad];rfl
  .rw[Zk];exact CB
  .rw[List.take_zero];exact .nil
  rintro j H4 ⟨hj,kp,FC,ks,ed,eD,Ju,hd2⟩;have T3:=kp _ _ e3 Qi;by_cases hjm:j=m
  .left;refine⟨⟨_,k! T3,by rw[WO];omega⟩,?_⟩;subst hjm;have Qj:=kp _ _ (s3 _ _ CN) (aA (s3 _ _ CN) F8 (by intro z;cases z));have T4:=kp _ _ (s3 _ _ e2) Ia.symm;have AM:((bl S).take j).length=ks.length:=W5 hd2;have IY:((bl S).drop j).reverse.length=FC.length:=W5 Ju;rw[XI]at AM;rw[YV,XR]at IY;refine⟨_,rfl,.inl ⟨rfl,_,l! ed⟩,_,rfl,.inr (.inr (.inl ⟨rfl,.inr ⟨_,T4⟩⟩)),_,rfl,1,rfl,pa,_,rfl,Qj,λp3 H5 s5 e5=>?_⟩;rw[rq]at e5;refine⟨_,rfl,D,_,rfl,.inl ⟨l! (s5 _ _ eD),λp4 K9=>?_⟩⟩;refine gU K9 λH6 s6 e6=>?_;refine nN (s6 _ _ e5) e6 (by rw[WO];show 1+ks.length<=1000000;omega) λp5 H7 s7 e7=>?_;have Ld:=s5.trans (s6.trans s7);have Qk:=Ld _ _ T4;have T5:=Ld _ _ ed;have hEs:E.length<1000000:=by omega
   have T6:∀b o,b≠ea->H b=some o->H7 b=some o:=λb o hb e=>Ld _ _ (kp b o (s3 _ _ (s2 b o hb e)) (ar e GW));refine⟨_,rfl,ea,_,rfl,Qk,ea,p5,_,fb (n,ks),kvsOf E,rfl,rfl,Qk,by rw[kD];exact e7,aX (by rw[eG];omega),λu hu=>?_,λDF=>?_⟩
   .obtain⟨i0,rfl,Ql⟩:=kB hu;have Ni:=Am.found Ql (lh hd2);refine⟨dn,_,_,rfl,rfl,T5,lbE (by omega),?_⟩;refine⟨_,_,FC++[i0],E,Ts,rfl,λb o hb e=>?_,?_,?_,Am,?_,AO,Bv,La⟩
    .rw[af (ar e GW)];exact T6 b o hb e
    .rw[af Ia.symm];exact Qk
    .rw[ad,W9];rfl
    .rw[E5,Jt,Ib,X9];exact q! Ju (.cons Ni .nil)
   .obtain⟨Ic,F9⟩:=kN DF;rw[eG,F9];have D':=Am.snoc Ic (lh hd2)
    have up:∀(u:Th)(id:Nat),Ts[id]?=some u->(Ts++[p! n ((bl S).take j)])[id]?=some u:=λu id h=>by
     rw[XA (glE h)];exact h
    refine⟨dn,_,_,rfl,rfl,by rw[af Ia];exact T5,lbE (by omega),?_⟩
    refine⟨_,_,FC++[E.length],E++[(n,ks)],Ts++[.knot n ((bl S).take j)],rfl,λb o hb e=>?_,?_,?_,D',?_,AO.trans (List.prefix_append _ _),λu hu=>?_,λe he=>by
     rcases W7.mp he with he|he
     .exact La e he
     .rw[WZ.mp he];show ks.length<=100000;omega⟩
    .rw[af (ar e GW),af hb];exact T6 b o hb e
    .rw[af Ia.symm,ad]
    .rw[ad,W9];rfl
    .rw[E5,Jt,Ib,X9];refine q! (v! up Ju) (.cons ?_ .nil);rw[Am.len];simp
    .rcases W7.mp hu with hu|hu
     .exact Bv u hu
     .rw[WZ.mp hu];rw[Ib]at Jp;rw[(List.cons.inj Jp).1];exact Qd n ts (WR hp)
  .right;have BW:j<m:=by omega
   refine⟨BW,⟨_,_,k! T3,WS (by rw[WO];omega)⟩,?_⟩;rintro x' H5 ⟨e1,_⟩;have EA:H5=H4:=e1;subst EA;have T7:j<(bl S).length:=by omega
   have edr:(bl S).drop j=(bl S)[j]::(bl S).drop (j+1):=List.drop_eq_getElem_cons T7;rw[edr,X9]at Ju
   have Ay:FC≠[]:=by
    intro z;subst z;have:=W5 Ju;rw[W6]at this;simp at this
   refine hid λZZ kZ=>?_;obtain⟨Jv,b,rfl⟩:∃Jv b,FC=Jv++[b]:=⟨FC.dropLast,FC.getLast Ay,(ZV Ay).symm⟩;obtain⟨Us,x2,e3',hU,Bg⟩:=P2.snoc_inv Ju;obtain⟨e5,e6⟩:=List.append_inj' e3' rfl;refine kZ ?_;cases e6;subst e5;have Bb:((bl S).take j).length=ks.length:=W5 hd2;rw[XI]at Bb;refine⟨_,rfl,.inl ⟨rfl,_,l! ed⟩,dn,_,nV b,rfl,rfl,ed,by simp,?_⟩;have d1:((Jv++[b]).map nV).dropLast=Jv.map nV:=by simp
   rw[d1];have eD2:(upd H5 dn (.lst (Jv.map nV))) D=some (.lst (ks.map nV)):=by rw[af DZ];exact eD
   refine⟨_,eD2,lbE (by omega),BW,λb' o e Bo=>?_,Jv,ks++[b],?_,?_,hU,?_⟩
   .rw[af (ar e hD),af Bo];exact kp b' o e Bo
   .rw[af DZ.symm,ad]
   .rw[ad,W9];rfl
   .rw[Yp,WS T7];exact q! hd2 (.cons Bg .nil)
 .rintro Y H2 ⟨c4,c5,ds,E,Ts,rfl,s2,e2,Js,Am,CB,AO,Bv,La⟩;rw[WO,AR,<-Ao,Nat.sub_self,Zk,BM]at CB
  obtain⟨at',rfl,BQ⟩:∃at',ds=[at']/\Ts[at']?=some (t.fill g):=by
   have Qm:Xz (λu id=>Ts[id]?=some u) [t.fill g] ds:=CB;cases Qm with
   |cons a b=>cases b;exact⟨_,rfl,a⟩
  refine⟨_,rfl,dn,_,0,.int (at':Nat),rfl,rfl,l! Js,at0,q E Ts at' H2 s2 e2 Am AO Bv BQ La⟩
def EnA(H:Hp)(e:Xk×List Nat)(b:WT):Prop:=H b=some (.tup (.str e.1::e.2.map nV))
theorem nD{a:List α}{b:List β}(h:Xz F a b){x:α}{y:β}(hx:a[i]?=some x)(hy:b[i]?=some y):F x y:=by
 obtain⟨y',h1,h2⟩:=y! h hx;rw[hy]at h1;cases h1;exact h2
theorem rT{c:α}{l2:List α}:∀{l1:List α}{ks:List β},Xz F (l1++c::l2) ks->∃k1 kc k2,ks=k1++kc::k2/\Xz F l1 k1/\F c kc/\Xz F l2 k2
 | [],_,.cons h t=>⟨[],_,_,rfl,.nil,h,t⟩
 | x::l1,_,.cons h t=>by
   refine hid λZZ kZ=>?_;obtain⟨k1,kc,k2,e,h1,h2,h3⟩:=rT t;refine kZ ?_;exact⟨_::k1,kc,k2,by rw[e];rfl,.cons h h1,h2,h3⟩
theorem yQ:∀{a:List α},(∀x∈a,∃y,F x y)->∃b,Xz F a b
 | [],_=>⟨[],.nil⟩
 | x::a,h=>by
   obtain⟨y,hy⟩:=h x (WY ..);obtain⟨b,hb⟩:=yQ λz hz=>h z (WQ _ hz);exact⟨y::b,.cons hy hb⟩
theorem oU{a:List α}{b:List β}(h:Xz F a b){y:β}(hy:y∈b):∃x∈a,F x y:=by
 refine hid λZZ kZ=>?_;obtain⟨i,hi⟩:=Xe.mp hy;obtain⟨x,hx,hf⟩:=B! h hi;refine kZ ?_;exact⟨x,WR hx,hf⟩
theorem uI{a:List α}{b:List β}(h:Xz F a b){x:α}(hx:x∈a):∃y∈b,F x y:=by
 refine hid λZZ kZ=>?_;obtain⟨i,hi⟩:=Xe.mp hx;obtain⟨y,hy,hf⟩:=y! h hi;refine kZ ?_;exact⟨y,WR hy,hf⟩
theorem oS:∀{l:List Nat}{N:Nat},l.Pairwise (· > ·)->(∀a∈l,a<N)->l.length<=N
 | [],_,_,_=>XB _
 | a::l,N,h,hN=>by
   obtain⟨h1,h2⟩:=List.pairwise_cons.mp h;have:=oS h2 h1;have:=hN a (WY ..);rw[W8];omega
def qy(as:List Nat):Nat:=match as.getLast? with|none=>0 |some a=>a+1
theorem mI(as:List Nat)(a:Nat):qy (as++[a])=a+1:=by
 unfold qy;rw[List.getLast?_concat]
theorem vT{as:List Nat}{N:Nat}(h:∀a∈as,a<N):qy as<=N:=by
 unfold qy;cases e:as.getLast? with
 |none=>exact XB _
 |some a=>exact h a (List.mem_of_getLast? e)
inductive iy(vs:List V)(H:Hp)(Q:VK)(_E:XK):Prop
 |mk (ra:WT) (at':Nat) (bs:List WT) (E:List (Xk×List Nat)) (Ts:List Th) (t:Th) (Aq:vs=[.ref ra,.int (at':Nat)]) (Ar:H ra=some (.lst (bs.map i!))) (Ax:Xz (EnA H) E bs) (AN:Cl E Ts) (Bd:Ts[at']?=some t) (Co:E.length<=900000) (C4:(∀e∈E,e.2.length<=100000)) (DT:∀(r tp:WT)(cs:List WT)(To:List (Xk×List Nat))(ix:Nat)(H':Hp),j! H H'->H' r=some (.tup [.ref tp,.int (ix:Nat)])->H' tp=some (.tup (cs.map i!))->Xz (EnA H') To cs->Cl To (post t [])->(post t [])[ix]?=some t->Q (.ref r) H'):iy  vs H Q _E
def pB:Sp:=iy
theorem pA:FnOk P w K mg base CX0 1 T.g_in_order.f T.g_in_order.d ["row","at"] pB:=by
 refine T.g_in_order.F.okA cH λAj A outer s H vs Q E hr h=>?_;obtain⟨ra,at',bs,E,Ts,t,rfl,era,AY,Am,BQ,Nh,hEk,q⟩:=h
 refine⟨_,(ag (ao 2 cH.nd kJ)
  (ag (ao 3 cH.nd (aN ae))
  (ag (ao 4 cH.nd (aN (ac (pv 1) ae)))
  (ag (eF XE (cM (pv 4) (λ_=>rfl)) (ag (ao 5 cH.nd (aw bh (pv 0) (aw bh (pv 4) (wW uT ai) (λ_ _=>rfl)) (λ_ _=>rfl)))
  (ag (dG (i:=6) (N:=[WU "kid",WU "fresh"]) (js:=[none,some 2]) (g:=(az 0)) (tt:=(tB (rg (bc 0) (bc 1)))) (te:=(bc 0)) cH.nd rfl (Or.inl rfl) rfl (bX rfl (by decide +kernel) (by decide +kernel) rfl rfl rfl) (ck (aW dX (pv 5) (bp ai) bt)) (λ_ _ _ _ _ _=>(pgN 0 yB)) (aP rfl) (λ_ _ _ _ _ _=>gD (ol (gE (cg hr) (pv 0) (pv 1)))) (λ_ _ _ _ _ _=>(pv 0)))
  (am (cu (cM (pv 6) (λ_=>rfl)) (am (ba (bQ Xg Xu Xs aQ (pv 4) (ac (aw bh (pv 6) ai (λ_ _=>rfl)) ae)))) (ag (dI (cg hr) (pv 2) (nX Xg PySem.F.slot_list_pop PySem.F.type_list_pop nT (pv 4)) (aD aC rfl T.n_len XQ (ac (pv 3) ae)) rfl)
  (am (ba (bQ Xg Xu Xs aQ (pv 3) (ac (av dJ (aW qP (pv 5) bt (bp ai)) (aL aJ rfl T.n_tuple XC (ac (bR (N:=[WU "kid",WU "fresh"]) (js:=[none,some 2]) (g:=(az 0)) (tt:=bu) (te:=(vb (bc 1) (bc 0))) rfl (bX rfl (by decide +kernel) (by decide +kernel) rfl rfl rfl) (ck (aW dX (pv 5) (bp ai) bt)) (λ_ _ _ _ _ _=>(pgN 0 yB)) (aP rfl) (λ_ _ _ _ _ _=>bC) (λ_ _ _ _ _ _=>(dA (cg hr) (pv 1) (pv 0) (λ_ _=>rfl)))) ae))) ae))))))))))
  (am (aE (aR (ac (aL aJ rfl T.n_tuple XC (ac (pv 3) ae)) (ac (dA (cg hr) (pv 2) (pv 1) (λ_ _=>rfl)) ae))))))))),?_⟩
 try dsimp only[AK,Ad]
 have BM:E.length=bs.length:=W5 AY;intro fr J6;dsimp only[az];refine gU J6 λH1 s1 e1=>?_;have e1:H1 fr=some (.dK (fkv [])):=e1;refine⟨lnE rfl,λtl Ao=>?_⟩;have s2:j! H1 (upd H1 tl (.lst [])):=aj Ao _;have e2:(upd H1 tl (.lst [])) tl=some (.lst (([]:List WT).map i!)):=ad;have Qn:H tl=none:=s1.free Ao;have T8:fr≠tl:=λz=>by rw[<-z,e1]at Ao;cases Ao
 generalize(upd H1 tl (.lst []))=H2 at s2 e2 |-;refine⟨_,rfl,lnE rfl,λah Dr=>?_⟩;have s3:j! H2 (upd H2 ah (.lst [.int (at':Nat)])):=aj Dr _;have e3:(upd H2 ah (.lst [.int (at':Nat)])) ah=some (.lst ([at'].map nV)):=ad;have Le:H ah=none:=(s1.trans s2).free Dr;have Lf:fr≠ah:=λz=>by rw[<-z,s2 _ _ e1]at Dr;cases Dr
 have B6:tl≠ah:=λz=>by rw[<-z,e2]at Dr;cases Dr
 generalize(upd H2 ah (.lst [.int (at':Nat)]))=H3 at s3 e3 |-;have Jw:=s1.trans (s2.trans s3);refine⟨λm Y H4=>Ex8 λ(as FI:List Nat)(xs L:List Th)(To:List (Xk×List Nat))(cs:List WT)(c5 c6:Option V)=>xR (Y=[some (.ref ra),some (.int (at':Nat)),some (.ref fr),some (.ref tl),some (.ref ah),c5,c6]) (j! H H4) (H4 fr=some (.dK (fkv FI))) (H4 tl=some (.lst (cs.map i!))) (H4 ah=some (.lst (as.map nV))) (Xz (EnA H4) To cs) (Cl To L) (Xz (λid u=>Ts[id]?=some u) FI L) (Xz (λid u=>Ts[id]?=some u) as xs) (BB.finish xs.reverse L=post t []) (ce L) ((∀x∈xs,x∉L)) (as.Pairwise (· > ·)) (m=unt E.length FI * (E.length+1)+qy as),⟨_,[at'],[],[t],[],[],[],none,none,rfl,Jw,s3 _ _ (s2 _ _ e1),s3 _ _ e2,e3,.nil,⟨rfl,YT,λi e h=>by simp at h⟩,.nil,.cons BQ .nil,rfl,λu hu=>by(cases hu),λu _ hu=>by(cases hu),List.pairwise_singleton ..,rfl⟩,?_⟩;rintro m Y H4 ⟨as,FI,xs,L,To,cs,c5,c6,rfl,s4,Nj,Qo,Qp,Jx,FD,Ep,Jh,Ba,Nk,BL,F',rfl⟩;have hTl:To.length=cs.length:=W5 Jx;have hFl:FI.length=L.length:=W5 Ep;have hLl:=FD.len;refine⟨_,rfl,_,.inl ⟨_,l! Qp,rfl⟩,?_⟩;refine dh (λcc=>?_) (λcc=>?_)
 .refine ⟨λi' H'=>∃m',m'<unt E.length FI * (E.length+1)+qy as/\Ex8 λ(as FI:List Nat)(xs L:List Th)(To:List (Xk×List Nat))(cs:List WT)(c5 c6:Option V)=>xR (i'=[some (.ref ra),some (.int (at':Nat)),some (.ref fr),some (.ref tl),some (.ref ah),c5,c6]) (j! H H') (H' fr=some (.dK (fkv FI))) (H' tl=some (.lst (cs.map i!))) (H' ah=some (.lst (as.map nV))) (Xz (EnA H') To cs) (Cl To L) (Xz (λid u=>Ts[id]?=some u) FI L) (Xz (λid u=>Ts[id]?=some u) as xs) (BB.finish xs.reverse L=post t []) (ce L) ((∀x∈xs,x∉L)) (as.Pairwise (· > ·)) (m'=unt E.length FI * (E.length+1)+qy as),λi' H' h=>h,?_⟩;have Ca:as≠[]:=by intro z;subst z;simp at cc
  refine hid λZZ kZ=>?_;obtain⟨AE,a,rfl⟩:∃AE a,as=AE++[a]:=⟨as.dropLast,as.getLast Ca,(ZV Ca).symm⟩
  obtain⟨Lg,x,rfl,Lh,Li⟩:∃Lg x,xs=Lg++[x]/\Xz (λid u=>Ts[id]?=some u) AE Lg/\Ts[a]?=some x:=by
   obtain⟨us,v,e1,h1,h2⟩:=P2.snoc_inv (lh Jh |> λh=>(show Xz (λu id=>Ts[id]?=some u) xs (AE++[a])from h));exact⟨us,v,e1,lh h1,h2⟩
  rw[YE,ZO,ZW,BB.finish]at Ba;have T9:a<E.length:=by rw[Am.len];exact(glE Li)
  have Lj:∀p∈AE++[a],p<E.length:=λp hp=>by
   obtain⟨u,_,hu⟩:=uI Jh hp;rw[Am.len];exact(glE hu)
  obtain⟨e,Qq⟩:∃e,E[a]?=some e:=⟨_,WS T9⟩;obtain⟨n,ids⟩:=e;obtain⟨kids,Qr,Em⟩:=Am.ent a _ Qq;dsimp only at Qr Em;rw[Li]at Qr;have Nl:x=.knot n kids:=Xf Qr;have Lk:=hEk _ (WR Qq);dsimp only at Lk;obtain⟨b,hb,eb0⟩:=y! AY Qq;refine kZ ?_;have eb:H4 b=some (.tup (.str n::ids.map nV)):=s4 _ _ eb0;have Qs:x∉L:=BL x (Xl _ (WY ..))
  have B9:∀id u,Ts[id]?=some u->(id∈FI↔u∈L):=λid u hu=>by
   constructor
   .intro h;obtain⟨y,hy,hf⟩:=uI Ep h;rw[hu]at hf;cases hf;exact hy
   .intro h;obtain⟨j,hj,hf⟩:=oU Ep h;rw[io Am.nd hu hf];exact hj
  have Ll:atI ((AE++[a]).map nV) (-1)=some (nV a):=by
   rw[W9];exact uv _ _
  refine⟨_,rfl,_,rfl,1,rfl,ah,_,_,nV a,rfl,rfl,l! Qp,Ll,ra,_,_,.ref b,rfl,rfl,l! (s4 _ _ era),at_nonneg (by omega) (by rw[YH,Xj,hb];rfl),?_⟩;dsimp only[az];refine⟨_,rfl,1,rfl,b,_,rfl,k! eb,?_,λp2 Bp=>?_⟩
  .rintro⟨z,_⟩;rw[W8,show(1:Int)=((1:Nat):Int)by rfl,x!]at z;omega
  dsimp only;rw[cy];refine gU Bp λH5 s5 e5=>?_;have Qt:=s5 _ _ Nj;refine⟨p2,rfl,⟨_,k! e5⟩,d5 ids (λid=>decide (id∉FI)) nV (k! e5) (by rw[WO]) (by rw[WO];omega) (λi y z Hx R hy hz sx r=>?_) (λi y z Hx R hy hz _ sx r=>?_) (λD hD=>?_)⟩
  .rw[Xj,hz]at hy;cases hy;refine⟨_,rfl,_,rfl,fr,_,rfl,DGet.k (k:=Xo ((z:Nat):Int)) (sx _ _ Qt),_,rfl,?_⟩;rw[qm];have:(!decide (z∈FI))=decide (z∉FI):=by by_cases h:z∈FI <;> simp[h]
   rw[this];exact r
  .rw[Xj,hz]at hy;cases hy;exact⟨_,rfl,r⟩
  refine gU hD λH6 s6 e6=>?_;have Eo:=s5.trans s6;have Ea:=Eo _ _ Qp;refine⟨_,rfl,_,.inl ⟨_,l! e6,rfl⟩,?_⟩;refine dh (λc1=>?_) (λc1=>?_)
  .refine hid λZZ kZ=>?_
   obtain⟨c,Ci,Lm⟩:∃c Ci,(ids.filter λid=>decide (id∉FI))=c::Ci:=by
    cases hf:(ids.filter λid=>decide (id∉FI))with
    |nil=>rw[hf]at c1;cases c1
    |cons c r=>exact⟨c,r,rfl⟩
   obtain⟨pre,rest,Qu,AO,hcF,_⟩:=List.filter_eq_cons_iff.mp Lm;have Qv:c∉FI:=e! hcF;rw[Qu]at Em;obtain⟨k1,kc,k2,Ln,EV,⟨Ds,D6⟩,Bb⟩:=rT Em;refine kZ ?_;rw[Lm]at e6;refine⟨_,rfl,.inl ⟨rfl,_,l! Ea⟩,_,rfl,D,_,0,nV c,rfl,rfl,l! e6,at0,ah,_,_,rfl,rfl,Ea,aX ?_,?_⟩
   .rw[WO];have:=oS F' Lj;omega
   have DL:∀u∈k1,u∈L:=λu hu=>by
    obtain⟨id,hid,hf⟩:=oU EV hu;have h1:id∈FI:=Decidable.byContradiction λz=>AO id hid (d! z);exact(B9 id u hf.2).mp h1
   have Qw:kc∉L:=λz=>Qv ((B9 c kc D6).mpr z);have s7:j! H (upd H6 ah (.lst ((AE++[a]).map nV++[nV c]))):=aF (s4.trans Eo) Le;refine⟨_,?_,AE++[a]++[c],FI,Lg++[x]++[kc],L,To,cs,_,_,rfl,s7,by rw[af Lf];exact Eo _ _ Nj,by rw[af B6];exact Eo _ _ Qo,by rw[ad,W9 (l₂:=[c])];rfl,v! (λe' b' h'=>?_) Jx,FD,Ep,q! Jh (.cons D6 .nil),?_,Nk,?_,?_,rfl⟩
   .rw[mI,mI];omega
   .have MH:H6 b'=some (.tup (.str e'.1::e'.2.map nV)):=Eo _ _ h';show(upd H6 ah _) b'=_;rw[af (aA MH Ea (by intro z;cases z))];exact MH
   .rw[YE,ZO,ZW,BB.finish,YE,ZO,ZW,BB.finish];rw[<-Ba];congr 1;rw[<-vo Nk FD.nd (t:=x) (c:=kc) (pre:=k1) (rest:=k2) (by rw[Nl];exact Ln) DL]
   .intro y hy;rcases W7.mp hy with hy|hy
    .exact BL y hy
    .rw[WZ.mp hy];exact Qw
   .rw[List.pairwise_append];refine⟨F',List.pairwise_singleton ..,λp hp r hr=>?_⟩;rw[WZ.mp hr];rcases W7.mp hp with hp|hp
    .have:=(List.pairwise_append.mp F').2.2 p hp a (WY ..);omega
    .rw[WZ.mp hp];exact Ds
  .have Ab:∀id∈ids,id∈FI:=λid hid=>Decidable.byContradiction λz=>by
    have hm:id∈ids.filter λid=>decide (id∉FI):=ZU.mpr ⟨hid,d! z⟩;cases hf:(ids.filter λid=>decide (id∉FI))with
    |nil=>rw[hf]at hm;cases hm
    |cons c r=>rw[hf]at c1;exact c1 rfl
   have hkL:∀u∈kids,u∈L:=λu hu=>by
    obtain⟨id,hid,hf⟩:=oU Em hu;exact(B9 id u hf.2).mp (Ab id hid)
   have Qx:a∉FI:=λz=>Qs ((B9 a x Li).mp z);have Lo:post x L=L++[x]:=sk Nk (by rw[Nl];exact hkL) Qs;refine hid λZZ kZ=>?_;obtain⟨_,Lp,_,_⟩:=j2 x Nk FD.nd;rw[Lo]at Lp Ba;obtain⟨js,Qy⟩:∃js,Xz (λid j=>FI[j]?=some id) ids js:=yQ λid hid=>Xe.mp (Ab id hid);refine kZ ?_;have Ct:ids.length=js.length:=W5 Qy
   have hFx:FI.length<=900000:=by
    have h1:=bT FD.nd (m:=Ts) λu hu=>by
     obtain⟨id,_,hid⟩:=oU Ep hu;exact WR hid
    have h2:=W5 Ep;have h3:=Am.len;omega
   have Lq:=Eo _ _ Qo;have Qz:=Eo _ _ Nj;refine⟨_,rfl,tl,_,rfl,.inl (l! Lq),_,rfl,_,rfl,.inl ⟨rfl,_,l! Ea⟩,ah,_,nV a,rfl,rfl,Ea,by simp,?_⟩;have d1:((AE++[a]).map nV).dropLast=AE.map nV:=by simp
   rw[d1];have Ie:(upd H6 ah (.lst (AE.map nV))) fr=some (.dK (fkv FI)):=by rw[af Lf];exact Qz
   have Lr:(upd H6 ah (.lst (AE.map nV))) ah=some (.lst (AE.map nV)):=ad;have Lu:(upd H6 ah (.lst (AE.map nV))) tl=some (.lst (cs.map i!)):=by rw[af B6];exact Lq
   have s7:j! H (upd H6 ah (.lst (AE.map nV))):=aF (s4.trans Eo) Le;have k7:KT H4 (upd H6 ah (.lst (AE.map nV))):=(n! Eo).trans (bx Ea);generalize(upd H6 ah (.lst (AE.map nV)))=H7 at Ie Lr Lu s7 k7 |-;refine⟨fr,_,rfl,DPut.k (k:=Xo ((a:Nat):Int)) Ie (aX (by rw[wI];omega)),?_⟩;rw[(iH (wy Qx)).2];have hv:o! ((cs.map i!).length:Nat)=o! (FI.length:Nat):=by rw[WO,<-hTl,hLl,hFl]
   rw[hv,<-uc];have Ig:(upd H7 fr (.dK (fkv (FI++[a])))) fr=some (.dK (fkv (FI++[a]))):=ad;have Lw:(upd H7 fr (.dK (fkv (FI++[a])))) ah=some (.lst (AE.map nV)):=by rw[af Lf.symm];exact Lr
   have Ih:(upd H7 fr (.dK (fkv (FI++[a])))) tl=some (.lst (cs.map i!)):=by rw[af T8.symm];exact Lu
   have s8:j! H (upd H7 fr (.dK (fkv (FI++[a])))):=aF s7 J6;have k8:KT H7 (upd H7 fr (.dK (fkv (FI++[a])))):=λb' ys e=>by rw[af (aA e Ie (by intro z;cases z))];exact e
   generalize(upd H7 fr (.dK (fkv (FI++[a]))))=H8 at Ig Lw Ih s8 k8 |-;have T':=k7.trans k8;have Ua:=T' _ _ eb;dsimp only;refine⟨_,rfl,.inl ⟨rfl,_,l! Ih⟩,_,rfl,1,rfl,b,_,rfl,Ua,λp3 H9 s9 e9=>?_⟩;rw[rq]at e9;have eb9:=s9 _ _ Ua;refine⟨_,rfl,1,rfl,b,_,rfl,k! eb9,?_,λp4 K9=>?_⟩
   .rintro⟨z,_⟩;rw[W8,show(1:Int)=((1:Nat):Int)by rfl,x!]at z;omega
   dsimp only;rw[cy];refine gU K9 λHA sA eA=>?_;have QA:=(s9.trans sA) _ _ Ig;refine⟨p4,rfl,⟨_,k! eA⟩,d5 (ids.zip js) (λ_=>true) (λz=>nV z.2) (k! eA) (by rw[List.length_zip,WO];omega) (by rw[WO];omega) (λi y z Hx R hy hz sx r=>r) (λi y z Hx R hy hz _ sx r=>?_) (λD2 Ub=>?_)⟩
   .obtain⟨h1,h2⟩:=YD.mp hz;rw[Xj,h1]at hy;cases hy;have hF:=nD Qy h1 h2
    have Ii:aG (fkv (FI++[a])) (Xo ((z.1:Nat):Int):Key)=some (nV z.2):=by
     cases Lx:aG (fkv (FI++[a])) (Xo ((z.1:Nat):Int):Key)with
     | none =>
       have:=(iH Lx).1;exact g! (Xi _ (WR hF)) this
     | some u =>
       obtain⟨j0,rfl,DM⟩:=ip Lx
       have Qg:j0<FI.length:=by
        rcases Nat.lt_or_ge j0 FI.length with h|h
        .exact h
        .rw[XX h]at DM
         have h0:j0 - FI.length=0:=by
          have:=(glE DM);simp at this;omega
         rw[h0]at DM;have e0:a=z.1:=Xf DM;exact g! (e0 ▸ WR hF) Qx
       rw[XA Qg]at DM;obtain⟨u1,hu1,QB⟩:=y! Ep DM;obtain⟨u2,Ka,Uc⟩:=y! Ep hF;rw[QB]at Uc;cases Uc;rw[io FD.nd hu1 Ka];rfl
    refine⟨_,rfl,_,rfl,fr,_,rfl,?_,r⟩;rw[<-Ii];exact DGet.k (k:=Xo ((z.1:Nat):Int)) (sx _ _ QA)
   rw[filter_tt]
   have hzj:(ids.zip js).map (λz=>nV z.2)=js.map nV:=by
    have:(ids.zip js).map (λz=>nV z.2)=((ids.zip js).map (·.2)).map nV:=by rw[YU];rfl
    rw[this,List.map_snd_zip (by omega)]
   rw[hzj];refine gU Ub λHB sB eB=>?_;refine⟨D2,_,rfl,.inl ⟨l! eB,λp6 hp6=>?_⟩⟩;refine gU hp6 λHC sC eC=>?_;have Ud:=sA.trans (sB.trans sC);refine nN (Ud _ _ e9) eC (by rw[WO];show 1+js.length<=1000000;omega) λp7 HD sD eD=>?_;have Ly:=s9.trans (Ud.trans sD);have Lz:=Ly _ _ Ih;refine⟨tl,_,_,rfl,rfl,Lz,lbE (by omega),?_⟩;have kE:KT HD (upd HD tl (.lst (cs.map i!++[.ref p7]))):=bx Lz
   have Ej:Xz (λj u=>L[j]?=some u) js kids:=by
    refine ju (by rw[<-Ct];exact W5 Em) λi j u hj hu=>?_;obtain⟨id,hid,QC⟩:=B! Em hu;obtain⟨u',EM,C6⟩:=y! Ep (nD Qy hid hj);rw[QC.2]at C6;cases C6;exact EM
   have QD:(n,js)∉To:=λz=>by
    obtain⟨i,hi⟩:=Xe.mp z;have:=FD.found hi Ej;rw[<-Nl]at this;exact Qs (WR this)
   have Cp:=FD.snoc QD Ej;rw[<-Nl]at Cp;refine⟨_,?_,AE,FI++[a],Lg,L++[x],To++[(n,js)],cs++[p7],_,_,rfl,aF (s8.trans Ly) Qn,by rw[af T8];exact Ly _ _ Ig,uAE,by rw[af B6.symm];exact Ly _ _ Lw,?_,Cp,q! Ep (.cons Li .nil),Lh,Ba,Lp,?_,(List.pairwise_append.mp F').1,rfl⟩
   .have h1:=xM (N:=E.length) (F:=FI) T9 Qx;have h2:=vT (as:=AE) (N:=E.length) λp hp=>Lj p (Xi _ hp);have h3:(unt E.length (FI++[a])+1) * (E.length+1)<=unt E.length FI * (E.length+1):=Nat.mul_le_mul_right _ h1;rw[Nat.add_mul,Nat.one_mul]at h3;omega
   .refine q! (v! (λe' b' h'=>?_) Jx) (.cons ?_ .nil)
    .exact(T'.trans ((n! Ly).trans kE)) _ _ h'
    .exact kE _ _ eD
   .intro y hy hyL;rcases W7.mp hyL with h|h
    .exact BL y (Xi _ hy) h
    .rw[WZ.mp h]at hy;obtain⟨id,hid,hf⟩:=oU Lh hy;have:=io Am.nd hf Li;have:=(List.pairwise_append.mp F').2.2 id hid a (WY ..);omega
 .have hz:as=[]:=by
   cases as with
   |nil=>rfl
   |cons y ys=>simp at cc
  subst hz;have MC:xs=[]:=Yy.mp (W5 Jh).symm;subst MC;have hL:L=post t []:=Ba;subst hL;refine hid λZZ kZ=>?_;obtain⟨_,_,_,htm⟩:=j2 t (L:=[]) (λu hu=>by cases hu) YT;obtain⟨ix,E6⟩:=Xe.mp htm;obtain⟨id,hid,LA⟩:=B! Ep E6;refine kZ ?_;have QE:=io Am.nd LA BQ;subst QE;refine⟨_,rfl,tl,_,rfl,.inl ⟨l! Qo,λtp By=>?_⟩⟩;have s5:=aj By (.tup (cs.map i!))
  have Ii:aG (fkv FI) (Xo ((id:Nat):Int):Key)=some (nV ix):=by
   cases Lx:aG (fkv FI) (Xo ((id:Nat):Int):Key)with
   |none=>exact g! (WR hid) (iH Lx).1
   | some u =>
     obtain⟨j0,rfl,DM⟩:=ip Lx;obtain⟨u',EM,C6⟩:=y! Ep DM;rw[LA]at C6;cases C6;rw[io FD.nd EM E6];rfl
  refine⟨_,rfl,_,rfl,fr,nV ix,rfl,?_,lnE rfl,λr Dt=>?_⟩
  .rw[<-Ii];exact DGet.k (k:=Xo ((id:Nat):Int)) (s5 _ _ Nj)
  have s6:=s5.trans (aj Dt (.tup [.ref tp,nV ix]));exact q r tp cs To ix _ (s4.trans s6) ad (aj Dt _ _ _ ad) (v! (λe' b' h'=>s6 _ _ h') Jx) FD E6
def aK:XY:=match bj cO with
 | [_,_,.Assign _ (.Call _ [_,_,_,_,l] _ _) _,_]=>l
 |_=>.Name "" ⟨0,0,0,0⟩
def wa:XY->Arguments
 |.Lambda p _ _ _=>p
 |_=>bA cO
def wC:XY->XY
 |.Lambda _ b _ _=>b
 |e=>e
def va:XY->ZN
 |.Lambda _ _ s _=>s
 |_=>aq cO
def gh:XY->Pos
 |.Lambda _ _ _ p=>p
 |_=>⟨0,0,0,0⟩
def jV:Xk:="shared.<locals>."++"<lambda>"
inductive rB(f c' c:WT)(vs:List V)(H:Hp)(Q:VK)(_E:XK):Prop
 |mk (da ca ea la d:WT) (Aq:vs=[.ref da,.ref ca]) (Ar:LamAt H f c' "<lambda>" jV (wa aK) (wC aK) (va aK) [("entries",c)]) (Ax:CodeAt H c' jV) (AN:CellAt H c (.ref ea)) (Bd:H da=some (.tup [.ref la,.ref d])) (Co:kF [.ref ea,.ref la,.ref ca] (fgt [c] H) (λv H'=>Q v (rst [c] H H')) E0):rB f c' c vs H Q _E
def qA(f c' c:WT):Sp:=rB f c' c
theorem yd(c:WT):px ["pair","numbers","entries"] ["pair","numbers"] [("entries",c)] (va aK):=by
 refine⟨rfl,rfl,rfl,by decide +kernel,by decide +kernel,rfl,by decide +kernel,by decide +kernel,λx h=>?_,λx y c1 h1 h2=>?_⟩
 .by_cases hx:x="entries"
  .exact⟨c,by rw[hx];rfl⟩
  .exfalso;have hm:=Yc h;have Ab:∀z∈(va aK).names,z.2=.free->z.1="entries":=by decide +kernel
   exact hx (Ab _ hm rfl)
 .have e1:=Yc h1;have e2:=Yc h2;rw[WZ]at e1 e2;exact(h! Prod.fst e1).trans (h! Prod.fst e2).symm
include T in
theorem sP(f c' c:WT):FvOk P w K mg base CX0 3 f (qA f c' c):=by
 refine xU (k:=2) (c':=c') (name:="<lambda>") (qual:=jV) (params:=wa aK) (body:=wC aK) (yd c) (λpm CP us hl=>?_) (λvs H Q E h=>?_) λA outer s H vs Q E hr h=>?_
 .obtain⟨u,v,rfl⟩:=us2 hl;rfl
 .obtain⟨da,ca,ea,la,d,rfl,hl,hc,Av,_⟩:=h;refine⟨rfl,hl,hc,λb' hb=>?_,λx c1 hx=>?_⟩
  .obtain rfl:b'=c:=WZ.mp hb;obtain⟨φ,e,_⟩:=Av;exact⟨φ,e⟩
  .have e1:=Yc hx;rw[WZ]at e1;cases e1;exact⟨_,Av⟩
 .obtain⟨da,ca,ea,la,d,rfl,hl,hc,Av,M3,BX⟩:=h
  have hx:Exts (([("entries",c)]:List (Xk×WT)).map (·.2)) H:=λb' hb=>by
   obtain rfl:b'=c:=WZ.mp hb;obtain⟨φ,e,_⟩:=Av;exact⟨φ,e⟩
  refine⟨_,[.ref ea],.cons ⟨c,rfl,Av⟩ .nil,cB (qp T) (hr.mono (by decide)) rfl T.g_entered.m T.g_entered.F.kp T.g_entered.b .nil cK (ac (pv 2) (ac (aw ax (pv 0) ai (λ_ _=>rfl)) (ac (pv 1) ae))),?_⟩;have QF:fgt (([("entries",c)]:List (Xk×WT)).map (·.2)) H da=some (.tup [.ref la,.ref d]):=by rw[bM (hx.out M3 λφ z=>nomatch z)];exact M3
  exact⟨_,rfl,_,rfl,da,_,0,.ref la,rfl,rfl,k! QF,at0,_,rfl,BX⟩
def SIs(f c' c ea:WT)(All:List Th)(H:Hp)(Ts:List Th):Prop:=∃E,H ea=some (.dT (kvsOf E))/\Cl E Ts/\(∀u∈Ts,u∈All)/\(∀e∈E,e.2.length<=100000)/\LamAt H f c' "<lambda>" jV (wa aK) (wC aK) (va aK) [("entries",c)]/\CodeAt H c' jV/\CellAt H c (.ref ea)
theorem v8{head:Th}{All:List Th}:FoldI (λb=>b=ea) (SIs f c' c ea All) (VRo ins rows head):=by
 refine⟨λH H' Ts h k=>?_,λH Ts b h e=>?_,λTs Bz s u v h k=>k.up h⟩
 .obtain⟨E,h1,h2,h3,h4,⟨φ,h5,QG⟩,⟨ψ,h6,QH⟩,⟨χ,h7,h7'⟩⟩:=h;exact⟨E,k _ _ h1 (λ_ z=>nomatch z) (λ_ z=>nomatch z) (λ_ _ z=>nomatch z),h2,h3,h4,⟨φ,k _ _ h5 (λ_ z=>nomatch z) (λ_ z=>nomatch z) (λ_ _ z=>nomatch z),QG⟩,⟨ψ,k _ _ h6 (λ_ z=>nomatch z) (λ_ z=>nomatch z) (λ_ _ z=>nomatch z),QH⟩,⟨χ,k _ _ h7 (λ_ z=>nomatch z) (λ_ z=>nomatch z) (λ_ _ z=>nomatch z),h7'⟩⟩
 .obtain⟨E,h1,_⟩:=h;rw[e];exact⟨_,h1⟩
theorem wt{head:Th}{t:Th}(gi:bq ins)(h0:∀s u p,d3 ins rows head s u p->∀c∈callsOf (p.pl []),0<=c.2.1/\0<=c.2.2)(Qe:(lJ ins rows head W t).length<=900000) :
 yq ins rows head W t (λb=>b=ea) (SIs f c' c ea (lJ ins rows head W t)) (VRo ins rows head) (DpP ea) (qA f c' c):=by
 intro H1 s u p da ca AL fn Ts R hp hw hd Fy Nf FU hc hR;refine hid λZZ kZ=>?_;obtain⟨d,own,kvs,Jb,e1,e2,la,as,rfl,K8,AS,D6,Ia,hsz⟩:=hd;obtain⟨E,QI,Am,Bv,Ij,hL,hC,Av⟩:=FU;obtain⟨g,hg1,Ue⟩:=qJ hp (h0 s u p hp) (λc BR=>(hc c BR).2);refine kZ ?_;refine⟨da,ca,ea,la,d,rfl,hL,hC,Av,e1,?_⟩;obtain⟨χ,ec,MI⟩:=Av
 have fg:∀{b:WT}{o:HO},H1 b=some o->(∀φ,o≠.ext φ)->fgt [c] H1 b=some o:=λe h=>by
  rw[bM (λz=>by rw[WZ.mp z,ec]at e;cases e;exact h _ rfl)];exact e
 have nce:c≠ea:=aA ec QI (λz=>nomatch z);refine⟨ea,la,ca,as,p,E,Ts,AL,g,_,rfl,fg QI (λ_ z=>nomatch z),Am,Ij,fg K8 (λ_ z=>nomatch z),AS.mono (λb xs e=>fg e (λ_ z=>nomatch z)),fg Fy (λ_ z=>nomatch z),Nf,λa b hm=>?_,by omega,Bv,λn ks hm=>rG gi hp hw hm (Ue _ hm),Qe,λE' Bz at' H2 fr e' D' AO LB BQ LC=>?_⟩
 .refine hid λZZ kZ=>?_;obtain⟨⟨j,h1,h2⟩,_⟩:=hg1 a b hm;obtain⟨c1,Fx,FL⟩:=qU hm;refine kZ ?_;have:=(hc c1 Fx).1;rw[FL]at this;exact⟨j,by rw[this];exact h! (λz=>some (o! z)) h1,h2⟩
 .have kx:∀{b:WT}{φ:X4->Prop},H1 b=some (.ext φ)->rst [c] H1 H2 b=some (.ext φ):=λ{b}{φ}e=>by
   by_cases z:b∈[c]
   .rw[pO z];exact e
   .rw[de z];exact fr _ _ (aA e QI (λz=>nomatch z)) (by rw[bM z];exact e)
  refine hR _ _ Bz (λb o n e=>?_) ?_ AO ⟨p,p.fill g,at',hp,Ue p (by rw[z!];exact WY ..),rfl,BQ⟩
  .by_cases z:b∈[c]
   .rw[pO z];exact e
   .rw[de z];exact fr b o n (by rw[bM z];exact e)
  .refine hid λZZ kZ=>?_;obtain⟨φ,h5,QG⟩:=hL;obtain⟨ψ,h6,QH⟩:=hC;refine kZ ?_;exact⟨E',by rw[de (λz=>nce (WZ.mp z).symm)];exact e',D',LB,LC,⟨φ,kx h5,QG⟩,⟨ψ,kx h6,QH⟩,⟨χ,kx ec,MI⟩⟩
theorem ph{E:List (Xk×List Nat)}{bs:List WT}(h:Xz (λ(kv:List Key×V)b=>H b=some (.tup (kv.1.map kV))) (kvsOf E) bs):Xz (EnA H) E bs:=by
 refine ju (by rw[<-eG];exact W5 h) λj e b he hb=>?_
 have hk:(kvsOf E)[j]?=some (fb e,o! (j:Nat)):=by
  unfold kvsOf;rw[Xj,List.getElem?_zipIdx,he];simp
 have:=nD h hk hb;dsimp only at this;rw[show e=(e.1,e.2)from rfl,kD]at this;exact this
structure ShI(H:Hp)(ins outs:List (Xk×Int))(S:Int)(dp:Nat)(head:Th)(rows:List (List Th))(t:Th)(b ta:WT)(o:Th):Prop where
 cnt:CntI H ins outs S dp head rows t b ta
 out:Out ins rows head (.knot YI [t]) o
 al:(lJ ins rows head t.walk t).length<=900000
 cs:∀s u p,d3 ins rows head s u p->∀c∈callsOf (p.pl []),0<=c.2.1/\0<=c.2.2
inductive km(C tp:WT)(vs:List V)(H:Hp)(Q:VK)(E:XK):Prop
 |mk (b ta:WT) (ins outs:List (Xk×Int)) (S:Int) (dp:Nat) (head:Th) (rows:List (List Th)) (t o:Th) (Aq:vs=[.ref b,.ref ta]) (Ar:ShI H ins outs S dp head rows t b ta o) (Ax:TabSt H tp (gh aK) jV) (AN:(o.tall<=150->∀(r ra:WT)(cs:List WT)(To:List (Xk×List Nat))(ix:Nat)(H':Hp),SameT tp H H'->TabSt H' tp (gh aK) jV->H' r=some (.tup [.ref ra,.int (ix:Nat)])->H' ra=some (.tup (cs.map i!))->Xz (EnA H') To cs->Cl To (post o [])->(post o [])[ix]?=some o->Q (.ref r) H')) (Bd:(¬o.tall<=150->∀H',j! H H'->E (.ref C) none H')):km C tp vs H Q E
def nq(C tp:WT):Sp:=km C tp
theorem nn(L:Lam mg base T.tc_shared T.tp_shared):FnOk P w K mg base (CX1 P w) 9 T.g_shared.f T.g_shared.d ["book","tree"] (nq T.e_Great T.tp_shared):=by
 refine T.g_shared.F.okT1 T.th_shared jm (λvs H Q E h=>?_) (λA outer s H vs Q E hr h=>?_)
 .obtain⟨b,ta,ins,outs,S,dp,head,rows,t,o,rfl,_⟩:=h;rfl
 obtain⟨b,ta,ins,outs,S,dp,head,rows,t,o,rfl,I,E7,hq,hE⟩:=h
 refine⟨_,(ag (cu (aO df (pcF T.g_height_of (nE T) hr (ac (pv 0) (ac (pv 1) ae))) (cX (v:=.int (150)) rfl T.c_TALLEST.choose_spec ⟨_,rfl⟩) (aS _)) (am (uC T.X_Great T.x_Great cD)) bB)
  (ag (ao 2 jm.nd eM)
  (ag (ao 3 jm.nd (ub (cl:=[("entries",s.1.1.size+1)]) (mV T) (hr.mono (by decide)) rfl T.g_folded.m T.g_folded.F.kp T.g_folded.b (zP rfl rfl rfl) (ac (pv 0) (ac (cB (lS T) (hr.mono (by decide)) rfl T.g_head_of.m T.g_head_of.F.kp T.g_head_of.b .nil cK (ac (pv 0) ae)) (ac (pv 1) (ac (cX (v:=.ref T.g_parts_in.f) rfl T.g_parts_in.m rfl) (ac (xH (pos:=gh aK) (params:=wa aK) (body:=wC aK) (scope:=va aK) (cl:=[("entries",s.1.1.size+1)]) L rfl rfl) ae)))))))
  (am (aE (pcF T.g_in_order (pA T) hr (ac (aL (gu rfl) rfl T.n_list PyProof.Rows.boot_list (ac (pv 2) ae)) (ac (pv 3) ae)))))))),?_⟩
 try dsimp only[AK,Ad]
 refine bI (λi' H'=>An3 (i'=[some (.ref b),some (.ref ta),none,none]) (j! H H') (o.tall<=150)) (λkk hk=>?_) ?_
 .refine cz (λz H'=>An2 (j! H H') ((z=true↔¬o.tall<=150))) (λk2 Bb=>?_) (λH' hb=>?_) (λH' hb=>?_)
  .refine⟨_,rfl,_,rfl,b,ta,ins,outs,S,dp,head,rows,t,rfl,I.cnt,λv H1 s1 hv=>?_⟩;have CH:=hv head o (.inl ⟨rfl,rfl,t,rfl⟩) I.out;refine⟨_,_,rfl,rfl,_,rfl,Bb _ _ ⟨s1,?_⟩⟩;rw[decide_eq_true_iff];omega
  .obtain⟨s1,hb⟩:=hb;exact hE (hb.mp rfl) _ s1
  .obtain⟨s1,hb⟩:=hb;exact hk _ _ ⟨rfl,s1,Classical.byContradiction λz=>by cases hb.mpr z⟩
 rintro i' H1 ⟨rfl,s1,hle⟩;have LD:=E7.mono s1;refine hid λZZ kZ=>?_;obtain⟨ia,oa,ha,ra,Aw,Az,AA,hB⟩:=I.cnt.bk;refine kZ ?_;intro ea QJ;dsimp only[az];refine gU QJ λH2 s2 e2=>?_;have e2:H2 ea=some (.dT (kvsOf [])):=e2;have E8:=s1.trans s2;have E9:=LD.mono s2;refine⟨_,rfl,_,rfl,b,_,_,_,_,rfl,E8 _ _ hB.bk,_,rfl,E9,λf c' H3 s3 et Ck DJ hf=>λH4 trk=>?_⟩;have k23:KT H2 H3:=E9.kt s3
 have EX:∀{a:WT}{o:HO},H2 a=some o->(∀z,o≠.tbl z)->H3 a=some o:=λe h2=>s3 _ _ (λz=>by
  rw[z]at e;rcases E9 with h|⟨_,h,_⟩ <;> · rw[h]at e;cases e;exact h2 _ rfl) e
 have LF:=trk.same;have QK:KT H H4:=((n! E8).trans k23).trans (n! LF);have e3:=EX e2 (λz h=>nomatch h);have e4:=LF _ _ e3;have Av:CellAt H4 (s.1.1.size+1) (.ref ea):=trk.2.2.2 2 "entries" (.ref ea) _ rfl rfl rfl;obtain⟨h0,ok⟩:=I.cnt.ok0;have J:=I.cnt;refine⟨b,ha,ta,T.g_parts_in.f,f,ins,outs,head,head,t,rows,jG,qA f c' (s.1.1.size+1),DpP ea,PatS,t.walk,(λz=>z=ea),SIs f c' (s.1.1.size+1) ea (lJ ins rows head t.walk t),VRo ins rows head,[],rfl,⟨_,_,_,_,_,_,_,hB.mono QK⟩,J.gi,λrow hr=>⟨(ok.row row hr).len,J.pat row hr⟩,hB.hd.mono QK,J.hd,FvOk.of (pe T) T.g_parts_in.F T.g_parts_in.b,?_,?_,?_,J.tr.mono QK,J.fit,J.tall,by rw[z!];exact WY ..,rs J.gi ok J.le J.size,J.head J.hdf,sP T f c' _,v8,⟨[],e4,⟨rfl,YT,λi e h=>by simp at h⟩,(λu hu=>by cases hu),(λe he=>by cases he),DJ.mono LF,Ck.mono LF,Av⟩,wt J.gi I.cs I.al,λv H5 Ts fr FU AO hVR=>?_⟩
 .exactλH1 p pa R s hA ok hR=>⟨pa,p,rfl,hA,ok.size,ok.tall,λr d la as kvs H' s' hd er ed K8 AS D6=>hR r d _ kvs H' s' hd er ed ⟨la,as,rfl,K8,AS,D6,(λz=>by rw[z,s _ _ e4]at hd;cases hd),ok.size⟩⟩
 .exactλH H' p own d kvs k⟨la,as,h1,h2,h3,h4⟩=>⟨la,as,h1,k.lst _ _ h2,h3.mono k.tup,h4⟩
 .exactλH p own d kvs⟨la,as,_,_,_,h,h',_⟩=>⟨h,h'⟩
 refine hid λZZ kZ=>?_;obtain⟨E1,e5,Am,Bv,Ij,_,_,_⟩:=FU;obtain⟨p,o',j,hp,ho,rfl,hj⟩:=hVR;refine kZ ?_
 have hph:p=head:=by
  rcases hp with⟨_,h,_⟩|⟨h,_⟩
  .exact h
  .exact g! h (by decide)
 subst hph;rw[j6 J.gi ho I.out]at hj;have Ug:∀x∈([("entries",s.1.1.size+1)]:List (Xk×WT)).map (·.2),H3 x=none:=trk.1
 have kf:∀{x:WT}{u:HO},H3 x=some u->x≠ea->fgt (([("entries",s.1.1.size+1)]:List (Xk×WT)).map (·.2)) H5 x=some u:=λ{x}{u}e n=>by
  rw[bM (λz=>by rw[Ug _ z]at e;cases e)];exact fr _ _ n (LF _ _ e)
 have Jy:fgt (([("entries",s.1.1.size+1)]:List (Xk×WT)).map (·.2)) H5 ea=some (.dT (kvsOf E1)):=by
  rw[bM (λz=>by rw[Ug _ z]at e3;cases e3)];exact e5
 refine⟨λx hx=>?_,?_⟩
 .obtain⟨φ,e⟩:=trk.2.2.1 x hx;rw[e,fr _ _ (aA e e4 (λz=>nomatch z)) e]
 dsimp only[az];refine⟨_,rfl,ea,_,rfl,Jy,λl bs hl AY=>?_⟩;dsimp only;generalize fgt (([("entries",s.1.1.size+1)]:List (Xk×WT)).map (·.2)) H5=H6 at kf Jy hl AY |-;refine gU hl λH7 s6 e6=>?_
 have Nh:E1.length<=900000:=by
  rw[Am.len];exact XS (bT Am.nd Bv) I.al
 refine⟨_,rfl,l,j,bs,E1,Ts,o,rfl,e6,v! (λe' b' h'=>s6 _ _ h') (ph AY),Am,hj,Nh,Ij,λr' QL cs To ix H8 s8 h1 h2 h3 h4 h5=>?_⟩;have QM:=s6.trans s8;have Ay:∀{x:WT}{u:HO},H1 x=some u->x≠ea:=λe z=>by rw[z,QJ]at e;cases e
 refine hq hle r' QL cs To ix H8 (λx u n e=>QM _ _ (kf (s3 _ _ n (E8 _ _ e)) (Ay (s1 _ _ e)))) ?_ h1 h2 h3 h4 h5;obtain⟨φ,QN,DB⟩:=Ck;exact .inr ⟨c',QM _ _ (kf et (aA et e3 (λz=>nomatch z))),φ,QM _ _ (kf QN (aA QN e3 (λz=>nomatch z))),DB⟩
inductive gK(K:WX)(vs:List V)(H:Hp)(Q:VK)(_E:XK):Prop
 |mk (a:WT) (ns:List Int) (k:Int) (Aq:vs=[.ref a,.int k]) (Ar:SqL K H a (ns.map o!)) (Ax:0<=k) (AN:∀c:Int,Q (.int c) H):gK K vs H Q _E
def nK(K:WX):Sp:=gK K
theorem dC:FnOk P w K mg base CX0 1 T.g__law_cell.f T.g__law_cell.d ["script","k"] (nK K):=by
 refine T.g__law_cell.F.okA og λAj A outer s H vs Q E hr h=>?_;obtain⟨a,ns,k,rfl,hS,h0,q⟩:=h
 refine⟨_,(ag (cu (aO xg (pv 1) (aD aC rfl T.n_len XQ (ac (pv 0) ae)) (aS _)) (am (aE (aw bh (pv 0) (pv 1) (λ_ _=>rfl)))) bB)
  (am (aE ai))),?_⟩
 try dsimp only[AK,Ad]
 refine⟨_,rfl,_,rfl,a,_,rfl,.inl hS,_,_,rfl,rfl,_,rfl,?_⟩;refine dh (λc=>?_) (λc=>q 0);have c':k<(((ns.map o!).length:Nat):Int):=e! c;rw[WO]at c';exact⟨_,rfl,_,rfl,a,_,k,_,rfl,rfl,hS,int_at h0 c',q _⟩
inductive gL(vs:List V)(H:Hp)(Q:VK)(_E:XK):Prop
 |mk (c k:Int) (Aq:vs=[.int c,.int k]) (Ar:0<=k) (Ax:k<=100000) (AN:∀r:Int,0<=r->r<2147483629->Q (.int r) H):gL  vs H Q _E
def om:Sp:=gL
theorem bN:FnOk P w K mg base CX0 1 T.g__law_turn.f T.g__law_turn.d ["cell","k"] om:=by
 refine T.g__law_turn.F.okA eW λAj A outer s H vs Q E hr h=>?_;obtain⟨c,k,rfl,h0,h1,q⟩:=h
 refine⟨_,(ag (ao 2 eW.nd (av bv (av bG (av bG (av bG (pv 0) (av d9 (av d9 ai (pv 1)) (pv 1))) (av d9 ai (pv 1))) ai) ai))
  (ag (ao 2 eW.nd (av bv (av d9 (pv 2) (pv 2)) ai))
  (am (aE (av bv (av d9 (av bG (pv 2) (av d9 ai (av bG (pv 1) ai))) ai) ai))))),?_⟩
 try dsimp only[AK,Ad]
 refine⟨_,rfl,_,rfl,_,_,rfl,rfl,.inl ⟨by decide,by decide⟩,_,rfl,_,_,rfl,rfl,.inr ⟨by omega,by omega⟩,_,_,rfl,rfl,_,rfl,_,_,rfl,rfl,.inl ⟨by decide,by decide⟩,_,_,rfl,rfl,_,_,rfl,rfl,_,_,rfl,rfl,(by show(0:Int)<2147483647;decide),?_⟩;have n0:=XM (c+977 * k * k+31 * k+1) (show(2147483647:Int)≠0 by decide);have n1:=XF (c+977 * k * k+31 * k+1) (show(0:Int)<2147483647 by decide);dsimp only;generalize(c+977 * k * k+31 * k+1)%2147483647=near at n0 n1;refine⟨_,rfl,_,rfl,_,_,rfl,rfl,.inl ⟨by omega,by omega⟩,_,_,rfl,rfl,(by show(0:Int)<2147483647;decide),?_⟩;dsimp only;generalize near * near%2147483647=far;refine⟨_,rfl,_,rfl,_,_,rfl,rfl,_,_,rfl,rfl,.inl ⟨by decide,by decide⟩,_,_,rfl,rfl,_,_,rfl,rfl,.inr ⟨by decide,by decide⟩,_,_,rfl,rfl,(by show(0:Int)<2147483629;decide),q _ (XM _ (by decide)) (XF _ (by decide))⟩
inductive gY(vs:List V)(H:Hp)(Q:VK)(_E:XK):Prop
 |mk (kr:WT) (AU:List WT) (ks:List (Xk×Int)) (cell:Int) (Aq:vs=[.ref kr,.int cell]) (Ar:H kr=some (.tup (AU.map i!))) (Ax:KsAt H ks AU) (AN:bq ks) (Bd:∀(k0:Xk×Int)(ka:WT)(H':Hp),j! H H'->k0∈ks->k0.2=0->KAt H' k0 ka->Q (.ref ka) H'):gY  vs H Q _E
def n6:Sp:=gY
theorem iu:∀{ks:List (Xk×Int)}{as:List WT},KsAt H ks as->∀z∈ks.zip as,z.1∈ks/\KAt H z.1 z.2
 |_,_,.nil,z,hz=>by simp at hz
 | _,_,.cons (a:=k) (b:=a) r t,z,hz=>by
   rw[List.zip_cons_cons]at hz;rcases Xb.mp hz with rfl|hz
   .exact⟨WY ..,r⟩
   .obtain⟨h1,h2⟩:=iu t z hz;exact⟨WQ _ h1,h2⟩
theorem kO{kr:WT}{AU:List WT}{ks:List (Xk×Int)}(p:Xk×Int->Bool)(e:H kr=some (.tup (AU.map i!)))(Bn:KsAt H ks AU)(hl:ks.length<=1000)(hp:∃k∈ks,p k=true)
 (FJ:∀(z:Xk×Int)(ka:WT)(H2:Hp)(R:Bool->Hp->Prop),j! H H2->KAt H2 z ka->R (p z) H2->tt ((cσ js Y).set 0 (some (.ref ka))) H2 R)
 (Hb:∀(ka:WT)(H2:Hp)(R:VK),R (.ref ka) H2->te ((cσ js Y).set 0 (some (.ref ka))) H2 R)
 (q:∀(D:WT)(bs:List ((Xk×Int)×WT))(H':Hp),H D=none->H'=upd H D (.lst (bs.map λz=>i! z.2))->1<=bs.length->bs.length<=ks.length->(∀z∈bs,z.1∈ks/\p z.1=true/\KAt H z.1 z.2)->fin D H') :
 ∀D,H D=none->∃(n:Nat)(W:Nat->Hp->Prop),W 0 (upd H D (.lst []))/\fH js (az 0) tt te Y (Itt K kr) D n W λH'=>fin D H':=by
 have AM:ks.length=AU.length:=W5 Bn;have Ga:(ks.zip AU).length=ks.length:=by rw[List.length_zip];omega
 have ER:∀(i:Nat)(x:V)(z:(Xk×Int)×WT),(AU.map i!)[i]?=some x->(ks.zip AU)[i]?=some z->x=.ref z.2:=λi x z hx hz=>by
  obtain⟨ka,rfl,AI⟩:=aZ hx;obtain⟨h1,h2⟩:=YD.mp hz;rw[AI]at h2;cases h2;rfl
 refine d5 (ks.zip AU) (λz=>p z.1) (λz=>.ref z.2) (k! e) (by rw[Ga,WO];exact AM) (by rw[WO];omega) (λi x z H2 R hx hz sm r=>?_) (λi x z H2 R hx hz _ sm r=>?_) (λD hD=>?_)
 .rw[ER i x z hx hz];have:=(iu Bn z (WR hz)).2;exact FJ z.1 z.2 H2 R sm (sm _ _ this) r
 .rw[ER i x z hx hz];exact Hb z.2 H2 R r
 .refine q D _ _ hD rfl ?_ ?_ ?_
  .obtain⟨k,hk,DL⟩:=hp;obtain⟨i,hi,rfl⟩:=List.getElem_of_mem hk;have hz:(ks.zip AU)[i]'(by omega)∈(ks.zip AU).filter λz=>p z.1:=ZU.mpr ⟨List.getElem_mem _,by rw[List.getElem_zip];exact DL⟩;exact List.length_pos_of_mem hz
  .exact XS (List.length_filter_le _ _) (by omega)
  .intro z hz;obtain⟨h1,h2⟩:=ZU.mp hz;obtain⟨h3,h4⟩:=iu Bn z h1;exact⟨h3,h2,h4⟩
theorem dF:FnOk P w K mg base CX0 1 T.g__law_leaf.f T.g__law_leaf.d ["kinds","cell"] n6:=by
 refine T.g__law_leaf.F.okA iZ λAj A outer s H vs Q E hr h=>?_;obtain⟨kr,AU,ks,cell,rfl,ek,Bn,g,k⟩:=h
 refine⟨_,(ag (dG (i:=2) (N:=[WU "kind"]) (js:=[none]) (g:=(az 0)) (tt:=(mH (tOp (rEq) (tOp (jA K) (bc 0) (tC (.int 1))) (tC (.int 0))))) (te:=(bc 0)) iZ.nd rfl (Or.inl rfl) rfl (bX rfl (by decide +kernel) (by decide +kernel) rfl rfl rfl) (ck (pv 0)) (λ_ _ _ _ _ _=>(pgN 0 vn)) (aP rfl) (λ_ _ _ _ _ _=>gD (aO fD (aw ax (pv 0) ai (λ_ _=>rfl)) ai (aS _))) (λ_ _ _ _ _ _=>(pv 0)))
  (am (aE (aw bh (pv 2) (av bv (pv 1) (aD aC rfl T.n_len XQ (ac (pv 2) ae))) (λ_ _=>rfl))))),?_⟩
 try dsimp only[AK,Ad]
 have Uh:=g.le;obtain⟨kz,MU,Ik⟩:=g.zero;refine⟨_,rfl,kr,rfl,⟨_,k! ek⟩,kO (K:=K) (λk=>decide (o! k.2=o! 0)) ek Bn (by omega) ⟨kz,MU,by rw[Ik];rfl⟩ (λz ka H2 R sm hz r=>?_) (λka H2 R r=>⟨_,rfl,r⟩) (λD bs H' hD e' hb1 QO AY=>?_)⟩
 .exact⟨_,rfl,ka,_,1,_,rfl,rfl,k! hz,at1,rfl,_,rfl,r⟩
 subst e';have DJ:0<((bs.map λz=>i! z.2).length:Int):=by rw[WO];omega
 have Ui:=XM cell (Int.ne_of_gt DJ);have hy1:=XF cell DJ;refine hid λZZ kZ=>?_;obtain⟨z,hz⟩:∃z,bs[(cell%((bs.map λz=>i! z.2).length:Int)).toNat]?=some z:=⟨_,WS (by rw[WO]at Ui hy1 |-;omega)⟩;obtain⟨g1,g2,g3⟩:=AY z (WR hz);refine kZ ?_;refine⟨_,rfl,_,rfl,_,rfl,D,_,rfl,.inl (l! ad),_,_,rfl,rfl,DJ,D,_,_,.ref z.2,rfl,rfl,l! ad,at_nonneg Ui (gmE hz),?_⟩;exact k z.1 z.2 _ (aj hD _) g1 (V.int.inj (e! g2)) (aj hD _ _ _ g3)
inductive gb(vs:List V)(H:Hp)(Q:VK)(_E:XK):Prop
 |mk (cell:Int) (lt:Xk) (Aq:vs=[.int cell,.str lt]) (Ar:o8 lt) (Ax:∀(r:WT)(as:List WT)(ks:List (Xk×Int))(H':Hp),j! H H'->H' r=some (.tup (as.map i!))->KsAt H' ks as->bq ks->Q (.ref r) H'):gb  vs H Q _E
def lY:Sp:=gb
theorem xW{a':Nat}{L:List Nat}(hs:stem.length<=7)(ha:a'<=stem.length){p:Nat}(hp:p<8):(lp begun c0 stem (a':Int) L p).length<=8:=by
 unfold lp;cases begun with
 | true =>
   simp only[if_true];rw[iK];omega
 | false =>
   simp only[Y1,if_false];have h1:=(jh (z:=stem) ha).2
   have h2:(cE stem (some (a':Int)) none).length=stem.length - a':=by
    show(cE stem (some (a':Int)) none).cps.size=_;rw[<-Xp];show((jT stem.cps.toList (some (a':Int)) none).toArray.toList).length=_;rw[List.toList_toArray];unfold jT;have hz:stem.cps.toList.length=stem.length:=Xp;rw[x!,J!,hz,Nat.min_eq_left ha,XI,XR,hz];omega
   rw[Zq,Zq,h1,h2];show a'+1+(stem.length - a')<=8;omega
theorem tU{x:Int}(h0:0<=x)(h1:x<4):1<=1+x/\1+x<=8:=by omega
theorem rh{x:Int}(h0:0<=x)(h1:x<4):1<=5+x/\5+x<=8:=by omega
theorem yj{t:Int}(hi:i<4)(hj:j<4)(h:(3 * (i:Int)+t)%4=(3 * (j:Int)+t)%4):i=j:=by omega
theorem xZ{t:Int}(hi:i<8)(hj:j<8)(h:(3 * (i:Int)+t)%8=(3 * (j:Int)+t)%8):i=j:=by omega
theorem rM{x:Int}{m:Nat}(h0:0<=x)(h1:x<(m:Int)):x.toNat<m:=by omega
def KInv(nm:Nat->Xk)(turn leaf:Int)(m:Nat)(ks:List (Xk×Int)):Prop :=
 ∀(j:Nat)(k:Xk×Int),ks[j]?=some k->k.1=nm ((3 * (j:Int)+turn)%(m:Int)).toNat/\0<=k.2/\k.2<=3/\((j:Int)=leaf->k.2=0)
theorem KInv.good{nm:Nat->Xk}{turn leaf:Int}{m:Nat}{ks:List (Xk×Int)}(h:KInv nm turn leaf m ks)(h1:1<=ks.length)(hm:(m=4/\ks.length<=4)\/(m=8/\ks.length<=8))(ht:0<=turn)(CW:0<=leaf/\leaf<(ks.length:Int))
 (Fb:∀p,p<m->Low (nm p)/\(nm p).length<=8) (FW:∀p r,p<m->r<m->nm p=nm r->p=r):bq ks:=by
 have B7:(0:Int)<(m:Int):=by rcases hm with⟨rfl,_⟩|⟨rfl,_⟩ <;> decide
 have hb:∀j:Nat,((3 * (j:Int)+turn)%(m:Int)).toNat<m:=λj=>by
  exact rM (XM _ (Int.ne_of_gt B7)) (XF _ B7)
 refine⟨h1,(by rcases hm with⟨_,h⟩|⟨_,h⟩;exact XS h (by decide);exact h),λk hk=>?_,λk hk=>?_,?_,λi j k l hk hl e=>?_⟩
 .obtain⟨i,hi⟩:=Xe.mp hk;rw[(h i k hi).1];exact Fb _ (hb i)
 .obtain⟨i,hi⟩:=Xe.mp hk;exact⟨(h i k hi).2.1,(h i k hi).2.2.1⟩
 .have hl:leaf.toNat<ks.length:=rM CW.1 CW.2;exact⟨ks[leaf.toNat],List.getElem_mem hl,(h leaf.toNat _ (WS hl)).2.2.2 (Yd CW.1)⟩
 .have Cq:i<ks.length:=(glE hk);have BW:j<ks.length:=(glE hl);rw[(h i k hk).1,(h j l hl).1]at e;have e2:=FW _ _ (hb i) (hb j) e;have e3:(3 * (i:Int)+turn)%(m:Int)=(3 * (j:Int)+turn)%(m:Int):=by rw[<-Yd (XM (3 * (i:Int)+turn) (Int.ne_of_gt B7)),e2,Yd (XM (3 * (j:Int)+turn) (Int.ne_of_gt B7))]
  rcases hm with⟨rfl,hm⟩|⟨rfl,hm⟩
  .exact yj (Xy Cq hm) (Xy BW hm) e3
  .exact xZ (Xy Cq hm) (Xy BW hm) e3
theorem gQ:FnOk P w K mg base CX0 2 T.g__law_kinds.f T.g__law_kinds.d ["cell","letters"] lY:=by
 refine T.g__law_kinds.F.okA aH λAj A outer s H vs Q E hr h=>?_;obtain⟨cell,lt,rfl,pk,q⟩:=h
 refine⟨_,(ag (ao 2 aH.nd (pcF T.g__law_turn (bN T) hr (ac (pv 0) (ac ai ae))))
  (ag (ao 3 aH.nd (av bG ai (av bv (pv 2) ai)))
  (ag (cu (aO fD (av bv (av bF (pv 2) ai) ai) ai (aS _)) (am (ao 3 aH.nd (av bG ai (av bv (av bF (pv 2) ai) ai)))) bB)
  (ag (ao 4 aH.nd (aW n5 (av cU (pv 1) cD) bt (bp (av bG ai (av d9 ai (aL jz rfl T.n_int PyProof.Rows.boot_int (ac (ft df (pv 3) ai (aS _)) ae)))))))
  (ag (ao 5 aH.nd (aW n5 cD bt (bp (av bv (av bF (pv 2) ai) ai))))
  (ag (ao 6 aH.nd (av bv (av bF (pv 2) ai) (av bG (aD iJ rfl T.n_len XQ (ac (pv 5) ae)) ai)))
  (ag (ao 7 aH.nd (av bv (av bF (pv 2) ai) (pv 3)))
  (ag (ao 8 aH.nd (av bv (av bF (pv 2) ai) ai))
  (ag (ao 9 aH.nd (ft fD (av bv (av bF (pv 2) ai) ai) ai (aS _)))
  (ag (ao 10 aH.nd (aN ae))
  (ag (bH XE rfl (cp rfl T.n_range (ac (pv 3) ae)) (pgN 11 aH.nd) (ag (ao 2 aH.nd (pcF T.g__law_turn (bN T) hr (ac (pv 2) (ac (av bG (pv 11) ai) ae))))
  (ag (ao 12 aH.nd (av d9 (aw bh (aN (ac ai (ac ai (ac ai (ac ai (ac ai ae)))))) (av bv (pv 2) ai) (λ_ _=>rfl)) (aL jz rfl T.n_int PyProof.Rows.boot_int (ac (ft zo (pv 11) (pv 7) (aS _)) ae))))
  (ag (ao 13 aH.nd (av bv (av bG (av d9 ai (pv 11)) (pv 8)) (aD iJ rfl T.n_len XQ (ac (pv 4) ae))))
  (ag (ao 14 aH.nd (av cU (av cU (aW n5 (pv 5) bt (bp (pv 6))) (aw t3 (pv 4) (pv 13) (λ_ _=>rfl))) (aW n5 (pv 5) (bp (pv 6)) bt)))
  (ag (cu (cM (pv 9) (λ_=>rfl)) (am (ao 14 aH.nd (av wo (aw t3 (pv 1) ai (λ_ _=>rfl)) (av bG ai (pv 13))))) bB)
  (am (ba (bQ Xg Xu Xs aQ (pv 10) (ac (aR (ac (pv 14) (ac (pv 12) ae))) ae))))))))))
  (am (aE (aL aJ rfl T.n_tuple XC (ac (pv 10) ae))))))))))))))),?_⟩
 try dsimp only[AK,Ad]
 refine⟨_,rfl,_,_,rfl,by decide,by decide,λrest r0 r1=>?_⟩;have z0:=XM rest (show(4:Int)≠0 by decide);have z1:=XF rest (show(0:Int)<4 by decide);refine⟨_,rfl,_,_,rfl,rfl,(by show(0:Int)<4;decide),_,_,rfl,rfl,?_⟩;dsimp only[az];refine bI (λi' H'=>An2 (H=H') (Ex1 λ(size:Int)=>An3 (1<=size) (size<=8) (i'=[some (.int cell),some (.str lt),some (.int rest),some (.int size),none,none,none,none,none,none,none,none,none,none,none]))) (λkk hk=>?_) ?_
 .refine⟨_,rfl,_,_,rfl,rfl,⟨by decide,by decide⟩,_,_,rfl,rfl,(by show(0:Int)<4;decide),rfl,_,rfl,?_⟩;refine dh (λ_=>?_) (λ_=>hk _ _ ⟨rfl,_,(tU z0 z1).1,(tU z0 z1).2,rfl⟩);have y0:=XM (rest / 55296) (show(4:Int)≠0 by decide);have y1:=XF (rest / 55296) (show(0:Int)<4 by decide);exact⟨_,rfl,_,_,rfl,rfl,⟨by decide,by decide⟩,_,_,rfl,rfl,(by show(0:Int)<4;decide),_,_,rfl,rfl,hk _ _ ⟨rfl,_,(rh y0 y1).1,(rh y0 y1).2,rfl⟩⟩
 rintro i' H' ⟨rfl,size,sz1,sz8,rfl⟩
 have Uj:=pk.len;have HP:(lt++dw).length=8:=by rw[Zq,Uj];rfl
 have Il:(0:Int)<size:=sz1
 obtain⟨m,hm,hm4⟩:∃m:Nat,(4+4 * (if decide ((4:Int)<size)then 1 else 0):Int)=(m:Int)/\((m=4/\size<=4)\/(m=8/\size<=8)):=by
  by_cases c:(4:Int)<size
  .exact⟨8,by rw[d! c];rfl,.inr ⟨rfl,sz8⟩⟩
  .exact⟨4,by rw[c! c];rfl,.inl ⟨rfl,Int.not_lt.mp c⟩⟩
 refine⟨_,rfl,_,_,rfl,rfl,be (by rw[Uj];decide +kernel),_,rfl,_,_,rfl,rfl,.inr ⟨_,rfl,?_⟩⟩;refine⟨_,_,rfl,rfl,.inl ⟨by decide,by decide⟩,_,_,rfl,rfl,_,rfl,_,rfl,be (by show(lt++dw).length<=1000000;rw[HP];decide),?_⟩;have QP:m<=(lt++dw).length:=by rw[HP];rcases hm4 with⟨rfl,_⟩|⟨rfl,_⟩ <;> decide
 generalize(4+4 * (if decide ((4:Int)<size)=true then 1 else 0):Int)=x4 at hm |-;subst hm;obtain⟨cl,cn⟩:(cE (lt++WU "aeio") none (some (m:Int))).cps.toList=(lt++dw).cps.toList.take m/\(cE (lt++WU "aeio") none (some (m:Int))).length=m:=jh (z:=lt++dw) (n:=m) QP
 have GX:∀p:Nat,p<m->(lt++dw).cps.toList[p]?=some ((lt++dw).cps.toList.getD p 0)/\(cE (lt++WU "aeio") none (some (m:Int))).cps.toList[p]?=some ((lt++dw).cps.toList.getD p 0):=λp hp=>by
  have AV:p<(lt++dw).cps.toList.length:=by rw[Xp];exact Xy hp QP
  have h1:(lt++dw).cps.toList[p]?=some ((lt++dw).cps.toList.getD p 0):=by rw[List.getD,WS AV];rfl
  refine⟨h1,?_⟩;rw[cl,List.getElem?_take_of_lt hp];exact h1
 generalize cE (lt++WU "aeio") none (some (m:Int))=more at cn GX cl |-
 have y0:=XM (rest / 4) (show(8:Int)≠0 by decide);have y1:=XF (rest / 4) (show(0:Int)<8 by decide);refine⟨_,rfl,_,_,rfl,rfl,⟨by decide,by decide⟩,_,_,rfl,rfl,(by show(0:Int)<8;decide),_,rfl,_,rfl,be (by decide +kernel),?_⟩;generalize rest / 4%8=x8 at y0 y1 |-;obtain⟨sn,rfl⟩:∃n:Nat,x8=(n:Int):=⟨_,(Yd y0).symm⟩
 have IW:(cE (WU "gumleafs") none (some (sn:Int))).length<=7:=by
  show(cE gum none (some (sn:Int))).length<=7;rw[(jh (z:=gum) (n:=sn) (by show sn<=8;omega)).2];omega
 have MA:Low (cE (WU "gumleafs") none (some (sn:Int))):=nY vS _ _;generalize cE (WU "gumleafs") none (some (sn:Int))=stem at IW MA |-
 have Im:(0:Int)<(stem.length:Int)+1:=Int.lt_add_one_of_le (Int.natCast_nonneg _);have x0:=XM (rest / 32) (Int.ne_of_gt Im);have x1:=XF (rest / 32) Im;refine⟨_,rfl,_,_,rfl,rfl,⟨by decide,by decide⟩,_,rfl,_,rfl,be (XS IW (by decide)),_,_,rfl,rfl,_,_,rfl,rfl,Im,?_⟩;generalize rest / 32%((stem.length:Int)+1)=xa at x0 x1 |-;obtain⟨a',rfl⟩:∃n:Nat,xa=(n:Int):=⟨_,(Yd x0).symm⟩;have QQ:a'<=stem.length:=by omega
 have l0:=XM (rest / 288) (Int.ne_of_gt Il);have l1:=XF (rest / 288) Il;refine⟨_,rfl,_,_,rfl,rfl,⟨by decide,by decide⟩,_,rfl,_,_,rfl,rfl,Il,?_⟩;generalize rest / 288%size=leaf at l0 l1 |-;have t0:=XM (rest / 1152) (show(4:Int)≠0 by decide);refine⟨_,rfl,_,_,rfl,rfl,⟨by decide,by decide⟩,_,_,rfl,rfl,(by show(0:Int)<4;decide),?_⟩;generalize rest / 1152%4=turn at t0 |-;refine⟨_,rfl,_,_,rfl,rfl,⟨by decide,by decide⟩,_,_,rfl,rfl,(by show(0:Int)<3;decide),rfl,?_⟩;generalize decide (o! (rest / 4608%3)=o! 1)=bg;refine⟨lnE rfl,λkl AM=>?_⟩;obtain⟨c0,Uk⟩:∃c0,lt.cps.toList[0]?=some c0:=⟨_,WS (by rw[Xp];show 0<lt.length;omega)⟩
 have QR:97<=c0/\c0<=122:=pk.low c0 (by
  show c0∈(lt.cps++dw.cps).toList;rw[Ym];exact Xi _ (WR Uk))
 refine⟨_,rfl,size,rfl,by omega,by omega,?_⟩
 refine cm (n:=size.toNat) (λi Y H2=>Ex7 λ(Ci:Int)(kv mv pv nv:Option V)(as:List WT)(ks:List (Xk×Int))=>An6 (Y=[some (.int cell),some (.str lt),some (.int Ci),some (.int size),some (.str more),some (.str stem),some (.int (a':Int)),some (.int leaf),some (.int turn),some (.bl bg),some (.ref kl),kv,mv,pv,nv]) (j! H H2) (H2 kl=some (.lst (as.map i!))) (KsAt H2 ks as) (ks.length=i) (KInv (lp bg c0 stem (a':Int) (lt++dw).cps.toList) turn leaf m ks))
  ⟨rest,none,none,none,none,[],[],rfl,aj AM _,ad,.nil,rfl,λj k hj=>by simp at hj⟩ ?_ ?_
 .rintro i Y H2 hi ⟨Ci,kv,mv,pv,nv,as,ks,rfl,sm,e,hp,Fc,hinv⟩;have HJ:i<size.toNat:=hi;have hl:ks.length=as.length:=W5 hp;refine⟨_,rfl,_,rfl,_,_,rfl,rfl,_,_,rfl,by omega,by omega,λBj _ _=>?_⟩;have v0:=XM Bj (show(5:Int)≠0 by decide);have v1:=XF Bj (show(0:Int)<5 by decide);refine hid λZZ kZ=>?_
  obtain⟨v,hv,hv0,QS⟩:∃v:Int,atI [o! 0,o! 2,o! 1,o! 3,o! 2] (Bj%5)=some (.int v)/\0<=v/\v<=3:=by
   rcases(by omega:Bj%5=0\/Bj%5=1\/Bj%5=2\/Bj%5=3\/Bj%5=4)with z|z|z|z|z <;> rw[z]
   .exact⟨0,rfl,by decide,by decide⟩
   .exact⟨2,rfl,by decide,by decide⟩
   .exact⟨1,rfl,by decide,by decide⟩
   .exact⟨3,rfl,by decide,by decide⟩
   .exact⟨2,rfl,by decide,by decide⟩
  refine kZ ?_;refine⟨lnE rfl,λll DV=>?_⟩;refine⟨_,rfl,_,_,rfl,rfl,(by show(0:Int)<5;decide),ll,_,_,.int v,rfl,rfl,l! ad,hv,_,rfl,_,rfl,rfl,.inr ⟨_,rfl,_,_,rfl,rfl,.inl ⟨by omega,by omega⟩,?_⟩⟩;refine gU DV λH3 s3 _=>?_;have e3:=s3 _ _ e;have DK:=hp.mono (n! s3);have Ul:=sm.trans s3
  have LG:0<=(v * (if(!decide (o! (0+(i:Int))=o! leaf))=true then 1 else 0):Int)/\(v * (if(!decide (o! (0+(i:Int))=o! leaf))=true then 1 else 0):Int)<=3/\((i:Int)=leaf->(v * (if(!decide (o! (0+(i:Int))=o! leaf))=true then 1 else 0):Int)=0):=by
   by_cases c:(i:Int)=leaf
   .have:(!decide (o! (0+(i:Int))=o! leaf))=false:=by rw[Int.zero_add,c,d! rfl];rfl
    rw[this];simp
   .have:(!decide (o! (0+(i:Int))=o! leaf))=true:=by
     rw[Int.zero_add,c! (λz=>c (V.int.inj z))];rfl
    rw[this];simp;exact⟨hv0,QS,λz=>g! z c⟩
  generalize(v * (if(!decide (o! (0+(i:Int))=o! leaf))=true then 1 else 0):Int)=QT at LG |-;obtain⟨B7,hm3,hmz⟩:=LG;have p0:=XM (3 * (0+(i:Int))+turn) (show(more.length:Int)≠0 by omega);have p1:=XF (3 * (0+(i:Int))+turn) (show(0:Int)<(more.length:Int)by omega);refine⟨_,rfl,_,_,rfl,rfl,.inl ⟨by decide,by decide⟩,_,rfl,_,_,rfl,rfl,_,rfl,_,rfl,be (by omega),_,_,rfl,rfl,(by show(0:Int)<(more.length:Int);omega),?_⟩;generalize hpc:(3 * (0+(i:Int))+turn)%(more.length:Int)=xp at p0 p1 |-;obtain⟨pc,rfl⟩:∃n:Nat,xp=(n:Int):=⟨_,(Yd p0).symm⟩
  have QU:((3 * (i:Int)+turn)%(m:Int)).toNat=pc:=by
   rw[cn,Int.zero_add]at hpc;omega
  have hpm:pc<m:=by omega
  obtain⟨Hc,NX⟩:=GX pc hpm;have QN:=(fK stem none (some (a':Int)));have DB:=(fK stem (some (a':Int)) none);refine⟨_,rfl,_,rfl,_,rfl,_,rfl,be (by omega),_,rfl,_,rfl,_,_,_,rfl,rfl,be (by omega),bw NX,_,_,rfl,rfl,be (by show(cE stem none (some (a':Int))).length+1<=1000000;omega),_,rfl,_,rfl,_,rfl,_,rfl,be (by omega),_,_,rfl,rfl,be (by rw[Zq];show(cE stem none (some (a':Int))).length+1+(cE stem (some (a':Int)) none).length<=1000000;omega),?_⟩;dsimp only[az];refine bI (λi' H'=>An2 (H3=H') (i'=[some (.int cell),some (.str lt),some (.int Bj),some (.int size),some (.str more),some (.str stem),some (.int (a':Int)),some (.int leaf),some (.int turn),some (.bl bg),some (.ref kl),some (.int (0+(i:Int))),some (.int QT),some (.int (pc:Int)),some (.str (lp bg c0 stem (a':Int) (lt++dw).cps.toList pc))])) (λkk hk=>?_) ?_
  .refine⟨_,rfl,bg,rfl,?_⟩;cases bg with
   |false=>exact sZ (hk _ _ ⟨rfl,rfl⟩)
   | true =>
     refine qf ⟨_,rfl,_,_,c0,rfl,rfl,be (by omega),bw (j:=0) Uk,_,rfl,_,_,rfl,rfl,c0,_,rfl,rfl,by omega,by omega,hk _ _ ⟨rfl,?_⟩⟩;have:(1+(pc:Int)).toNat=1+pc:=by omega
     rw[this];rfl
  rintro i' H' ⟨rfl,rfl⟩;refine⟨_,rfl,.inl ⟨rfl,_,l! e3⟩,_,rfl,_,rfl,lnE rfl,λp Ce=>?_⟩;have DL:kl≠p:=ar e3 Ce;refine⟨kl,_,_,rfl,rfl,by rw[af DL];exact e3,lbE (by omega),?_⟩;refine⟨Bj,_,_,_,_,as++[p],ks++[(lp bg c0 stem (a':Int) (lt++dw).cps.toList pc,QT)],rfl,aF (aF Ul (Ul.free Ce)) AM,?_,?_,?_,?_⟩
  .rw[ad,W9];rfl
  .have kt:KT H3 (upd (upd H3 p (.tup [.str (lp bg c0 stem (a':Int) (lt++dw).cps.toList pc),.int QT])) kl (.lst (as.map i!++[.ref p]))):=(hI Ce).trans (bx (xs:=as.map i!) (by rw[af DL];exact e3));refine q! (DK.mono kt) (.cons ?_ .nil);show(upd (upd H3 p _) kl _) p=_;rw[af DL.symm,ad]
  .rw[W6,Fc];rfl
  .intro j k hj;by_cases FA:j<ks.length
   .rw[XA FA]at hj;exact hinv j k hj
   .rw[XX (by omega)]at hj
    have DM:j - ks.length=0:=by
     have:=(glE hj);simp at this;omega
    rw[DM]at hj;cases hj;have QV:j=i:=by omega
    subst QV;exact⟨by rw[QU],B7,hm3,hmz⟩
 .rintro Y H2 ⟨Ci,kv,mv,pv,nv,as,ks,rfl,sm,e,hp,Fc,hinv⟩;refine⟨_,rfl,kl,_,rfl,.inl ⟨l! e,λtp By=>?_⟩⟩;have s3:=aj By (.tup (as.map i!));refine q tp as ks _ (sm.trans s3) ad (hp.mono (n! s3)) ?_;refine hinv.good (by omega) (by omega) t0 ⟨l0,by omega⟩ (λp Ce=>⟨xy QR MA (λc hc=>pk.low c hc) (by rw[Xp];show p<(lt++dw).length;omega),xW IW QQ (by omega)⟩) (λp r Ce Dt e'=>yt (λp r c h1 h2=>pk.inj p r c h1 h2) (by rw[Xp];show p<(lt++dw).length;omega) (by rw[Xp];show r<(lt++dw).length;omega) e')
inductive fU(vs:List V)(H:Hp)(Q:VK)(_E:XK):Prop
 |mk (l:WT) (x m:Int) (Aq:vs=[.ref l,.int m]) (Ar:H l=some (.lst [.int x])) (Ax:0<m) (AN:m<1000000) (Bd:∀d x':Int,0<=d->d<m->Q (.int d) (upd H l (.lst [.int x']))):fU  vs H Q _E
def lX:Sp:=fU
theorem cY:FnOk P w K mg base CX0 1 T.g__law_digit.f T.g__law_digit.d ["left","many"] lX:=by
 refine T.g__law_digit.F.okA gM λAj A outer s H vs Q E hr h=>?_;obtain⟨l,x,m,rfl,e,h0,h1,q⟩:=h
 refine⟨_,(ag (ao 2 gM.nd (av bv (aw bh (pv 0) ai (λ_ _=>rfl)) (pv 1)))
  (ag (kW (av bF (aw bh (pv 0) ai (λ_ _=>rfl)) (pv 1)) (vg (pv 0) ai set_list))
  (am (aE (pv 2))))),?_⟩
 try dsimp only[AK,Ad]
 refine⟨_,rfl,l,_,0,.int x,rfl,rfl,l! e,at0,_,rfl,_,_,rfl,rfl,h0,?_⟩;refine⟨_,rfl,l,_,0,.int x,rfl,rfl,l! e,at0,_,rfl,_,_,rfl,rfl,⟨h0,by omega⟩,?_⟩;refine⟨_,rfl,l,_,0,0,rfl,rfl,e,rfl,?_⟩;exact⟨_,rfl,q _ _ (XM _ (by omega)) (XF _ h0)⟩
inductive eT(n:Nat)(vs:List V)(H:Hp)(Q:VK)(_E:XK):Prop
 |mk (cell:Int) (oa:WT) (Az:List WT) (outs:List (Xk×Int)) (S C deep:Int) (Aq:vs=[.int cell,.ref oa,.int S,.int C,.int deep]) (Ar:H oa=some (.tup (Az.map i!))) (Ax:KsAt H outs Az) (AN:bq outs) (Bd:0<=deep) (Co:deep<(n:Int)) (C4:∀(t:Th)(r:WT)(H':Hp),j! H H'->At H' t r->t.FitS outs S C->t.tall<=deep.toNat+1->Q (.ref r) H'):eT n vs H Q _E
def jY(n:Nat):Sp:=eT n
theorem dk:∀n:Nat,FnOk P w K mg base CX0 (n+2) T.g__law_pattern.f T.g__law_pattern.d ["cell","outs","states","kids","deep"] (jY n)
 |0=>⟨λ_ _ _ _ h=>by obtain⟨_,_,_,_,_,_,_,_,_,_,_,h1,h2,_⟩:=h;omega,λ_ _ _ _ _ _ _ _ _ _ _ _ _ h=>by obtain⟨_,_,_,_,_,_,_,_,_,_,_,h1,h2,_⟩:=h;omega⟩
 | n+1=>by
   have ih:=dk n;refine T.g__law_pattern.F.okA bK λAj A outer s H vs Q E hr h=>?_;obtain⟨cell,oa,Az,outs,S,C,deep,rfl,eo,Bn,g,d0,d1,q⟩:=h
   refine⟨_,(ag (ao 5 bK.nd (pcF T.g__law_turn (bN T) hr (ac (pv 0) (ac ai ae))))
    (ag (cu (PW.pt (ig (aO df (pv 2) ai (aS _)) (ig (aO df (pv 3) ai (aS _)) (ir (aO xg (av bv (pv 5) ai) ai (aS _)))))) (am (aE (aR (ac cD (ac (av bv (av bF (pv 5) ai) (pv 2)) (ac (av bv (av bF (pv 5) ai) (pv 3)) ae)))))) bB)
    (ag (ao 6 bK.nd (aw ax (pv 1) (av bv (av bF (pv 5) ai) (aD aC rfl T.n_len XQ (ac (pv 1) ae))) (λ_ _=>rfl)))
    (ag (cu (PW.pt (ig (aO fD (pv 4) ai (aS _)) (ir (aO df (aw ax (pv 6) ai (λ_ _=>rfl)) ai (aS _))))) (am (ao 6 bK.nd (pcF T.g__law_leaf (dF T) hr (ac (pv 1) (ac (av bF (pv 5) ai) ae))))) bB)
    (ag (ao 7 bK.nd (aN ae))
    (ag (bH XE rfl (cp rfl T.n_range (ac (aw ax (pv 6) ai (λ_ _=>rfl)) ae)) (pgN 8 bK.nd) (am (ba (bQ Xg Xu Xs aQ (pv 7) (ac (cB (ih) (hr.mono (W2 _)) rfl T.g__law_pattern.m T.g__law_pattern.F.kp T.g__law_pattern.b .nil cK (ac (pcF T.g__law_turn (bN T) hr (ac (pv 5) (ac (av bG (pv 8) ai) ae))) (ac (pv 1) (ac (pv 2) (ac (pv 3) (ac (av kR (pv 4) ai) ae)))))) ae)))))
    (am (aE (av dJ (aR (ac (aw ax (pv 6) ai (λ_ _=>rfl)) ae)) (aL aJ rfl T.n_tuple XC (ac (pv 7) ae))))))))))),?_⟩
   try dsimp only[AK,Ad]
   have AM:outs.length=Az.length:=W5 Bn;have Uh:=g.le;have EV:=g.ne;refine⟨_,rfl,_,_,rfl,by decide,by decide,λrest r0 r1=>?_⟩;dsimp only[az];refine bI (λi' H'=>An2 (H=H') (i'=[some (.int cell),some (.ref oa),some (.int S),some (.int C),some (.int deep),some (.int rest),none,none,none])) (λkk hk=>?_) ?_
   .refine cz (λb H'=>An2 (H=H') ((b=true->0<S/\0<C))) (λk2 Bb=>?_) (λH' hb=>?_) (λH' hb=>?_)
    .refine⟨_,rfl,_,_,rfl,rfl,_,rfl,?_⟩;refine dh (λc1=>?_) (λc1=>Bb _ _ ⟨rfl,λz=>by cases z⟩);refine⟨_,rfl,_,_,rfl,rfl,_,rfl,?_⟩;refine dh (λc2=>?_) (λc2=>Bb _ _ ⟨rfl,λz=>by cases z⟩);exact⟨_,rfl,_,_,rfl,rfl,(by show(0:Int)<5;decide),_,_,rfl,rfl,_,rfl,Bb _ _ ⟨rfl,λ_=>⟨e! c1,e! c2⟩⟩⟩
    .obtain⟨rfl,hb⟩:=hb;obtain⟨hS,hC⟩:=hb rfl;refine⟨_,rfl,_,_,rfl,rfl,⟨by decide,by decide⟩,_,rfl,_,_,rfl,rfl,hS,_,rfl,_,_,rfl,rfl,⟨by decide,by decide⟩,_,rfl,_,_,rfl,rfl,hC,lnE rfl,λca Ds=>?_⟩;refine q (.call (rest / 5%S) (rest / 97%C)) ca _ (aj Ds _) ?_ ?_ ?_
     .rw[At];exact ad
     .rw[G!];exact⟨XM _ (by omega),XF _ hS,XM _ (by omega),XF _ hC⟩
     .rw[r!];omega
    .obtain⟨rfl,_⟩:=hb;exact hk _ _ ⟨rfl,rfl⟩
   rintro i' H' ⟨rfl,rfl⟩;have m0:=XM (rest / 5) (show((Az.map i!).length:Int)≠0 by rw[WO];omega);have m1:=XF (rest / 5) (show(0:Int)<((Az.map i!).length:Int)by rw[WO];omega);refine hid λZZ kZ=>?_;obtain⟨k0,DN⟩:∃k0,outs[(rest / 5%((Az.map i!).length:Int)).toNat]?=some k0:=⟨_,WS (by rw[WO]at m0 m1 |-;omega)⟩;obtain⟨ka,AI,AQ⟩:=y! Bn DN;refine kZ ?_;refine⟨_,rfl,_,rfl,_,_,rfl,rfl,⟨by decide,by decide⟩,_,rfl,oa,_,rfl,.inr (k! eo),_,_,rfl,rfl,(by show(0:Int)<((Az.map i!).length:Int);rw[WO];omega),oa,_,_,.ref ka,rfl,rfl,k! eo,at_nonneg m0 (gmE AI),?_⟩;dsimp only[az];refine bI (λi' H'=>Ex2 λ(k0:Xk×Int)(ka:WT)=>An5 (k0∈outs) (KAt H' k0 ka) ((deep=0->k0.2=0)) (j! H H') (i'=[some (.int cell),some (.ref oa),some (.int S),some (.int C),some (.int deep),some (.int rest),some (.ref ka),none,none])) (λkk hk=>?_) ?_
   .refine cz (λb H'=>An2 (H=H') ((b=false->deep=0->k0.2=0))) (λk2 Bb=>?_) (λH' hb=>?_) (λH' hb=>?_)
    .refine⟨_,rfl,rfl,_,rfl,?_⟩;refine dh (λc1=>?_) (λc1=>Bb _ _ ⟨rfl,λ_ z=>g! (d! (h! o! z)) c1⟩);refine⟨_,rfl,ka,_,1,_,rfl,rfl,k! AQ,at1,_,_,rfl,rfl,_,rfl,Bb _ _ ⟨rfl,λz _=>?_⟩⟩;have z':¬0<k0.2:=of_decide_eq_false z;have:=(g.num k0 (WR DN)).1;omega
    .obtain⟨rfl,_⟩:=hb;refine⟨_,rfl,_,rfl,_,_,rfl,rfl,⟨by decide,by decide⟩,oa,Az,outs,_,rfl,eo,Bn,g,λk1 QW H1 s1 Er QX e1=>?_⟩;exact hk _ _ ⟨k1,QW,Er,e1,λ_=>QX,s1,rfl⟩
    .obtain⟨rfl,hb⟩:=hb;exact hk _ _ ⟨k0,ka,WR DN,AQ,hb rfl,.refl _,rfl⟩
   rintro i' H1 ⟨k0,ka,Bm,AQ,hz,s1,rfl⟩;have CU:=g.num k0 Bm;refine⟨lnE rfl,λpl AV=>?_⟩;refine gU AV λH2 s2 e2=>?_;have LH:=s2 _ _ AQ;refine⟨_,rfl,ka,_,1,_,rfl,rfl,k! LH,at1,k0.2,rfl,by omega,by omega,?_⟩
   refine cm (n:=k0.2.toNat) (λi Y H3=>Ex3 λ(kv:Option V)(bs:List WT)(ts:List Th)=>An6 (Y=[some (.int cell),some (.ref oa),some (.int S),some (.int C),some (.int deep),some (.int rest),some (.ref ka),some (.ref pl),kv]) ((∀b o,b≠pl->H2 b=some o->H3 b=some o)) (H3 pl=some (.lst (bs.map i!))) (Ats H3 ts bs) (ts.length=i) (∀t∈ts,t.FitS outs S C/\t.tall<=(deep - 1).toNat+1))
    ⟨none,[],[],rfl,λ_ _ _ e=>e,e2,.nil,rfl,λt ht=>by cases ht⟩ ?_ ?_
   .rintro i Y H3 hi ⟨kv,bs,ts,rfl,s3,e3,B4,Ao,Ab⟩;have QY:i<k0.2.toNat:=hi;have sB:∀b o,H b=some o->H3 b=some o:=λb o e=>s3 b o (ar (s1 _ _ e) AV) (s2 _ _ (s1 _ _ e))
    have LI:1<=deep:=by
     by_cases z:deep=0
     .have:=hz z;omega
     .omega
    refine⟨_,rfl,.inl ⟨rfl,_,l! e3⟩,_,rfl,_,rfl,_,_,rfl,rfl,_,_,rfl,by omega,by omega,λr2 _ _=>?_⟩;refine⟨_,rfl,_,rfl,_,rfl,_,rfl,_,_,rfl,rfl,r2,oa,Az,outs,S,C,deep - 1,rfl,sB _ _ eo,Bn.mono (λb ys e=>sB b _ e),g,by omega,by omega,λt r H4 s4 BQ Aa AD=>?_⟩;have e4:=s4 _ _ e3;have BM:bs.length=ts.length:=B4.length;refine⟨pl,_,_,rfl,rfl,e4,lbE (by omega),?_⟩;have kt:KT H4 (upd H4 pl (.lst (bs.map i!++[.ref r]))):=bx e4;refine⟨_,bs++[r],ts++[t],rfl,λb o hb e=>?_,?_,?_,?_,?_⟩
    .rw[af hb];exact s4 _ _ (s3 b o hb e)
    .rw[ad,W9];rfl
    .exact(B4.mono ((n! s4).trans kt)).append (.cons (BQ.mono kt) .nil)
    .rw[W6,Ao];rfl
    .intro u hu;rcases W7.mp hu with hu|hu
     .exact Ab u hu
     .rw[WZ.mp hu];exact⟨Aa,AD⟩
   .rintro Y H3 ⟨kv,bs,ts,rfl,s3,e3,B4,Ao,Ab⟩;have sH:j! H H3:=λb o e=>s3 b o (ar (s1 _ _ e) AV) (s2 _ _ (s1 _ _ e));have Cb:H3 ka=some (.tup [.str k0.1,.int k0.2]):=s3 ka _ (ar AQ AV) LH;have BM:bs.length=ts.length:=B4.length;refine⟨_,rfl,ka,_,0,.str k0.1,rfl,rfl,k! Cb,at0,lnE rfl,λp1 DI=>?_⟩;refine gU DI λH4 s4 e4=>?_;refine⟨_,rfl,pl,_,rfl,.inl ⟨l! (s4 _ _ e3),λtp By=>?_⟩⟩;refine gU By λH5 s5 e5=>?_;refine nN (s5 _ _ e4) e5 (by rw[WO];show 1+bs.length<=1000000;omega) λp H6 s6 e6=>?_;have Fb:=(g.low k0 Bm).1;refine q (.knot k0.1 ts) p H6 (sH.trans (s4.trans (s5.trans s6))) ?_ ?_ ?_
    .rw[At];exact⟨jC Fb,bs,e6,B4.mono (n! (s4.trans (s5.trans s6)))⟩
    .rw[G!];refine⟨?_,FitSs.of λt ht=>(Ab t ht).1⟩
     have:(k0.1,(ts.length:Int))=k0:=by
      rw[Ao];exact Prod.ext rfl (by show((k0.2.toNat:Nat):Int)=k0.2;omega)
     rw[this];exact Bm
    .rw[r!];by_cases z:deep=0
     .have Bb:=hz z;have:ts=[]:=Yy.mp (by omega);subst this;rw[aB];omega
     .have:=eJ (n:=(deep - 1).toNat+1) λt ht=>(Ab t ht).2;omega
inductive dO(n:Nat)(vs:List V)(H:Hp)(Q:VK)(_E:XK):Prop
 |mk (l:WT) (x:Int) (oa:WT) (Az:List WT) (outs:List (Xk×Int)) (S C deep:Int) (Aq:vs=[.ref l,.ref oa,.int S,.int C,.int deep]) (Ar:H l=some (.lst [.int x])) (Ax:H oa=some (.tup (Az.map i!))) (AN:KsAt H outs Az) (Bd:bq outs) (Co:S<1000000) (C4:C<1000000) (DT:0<=deep) (HH:deep<(n:Int)) (Jn:∀(t:Th)(r:WT)(x':Int)(H':Hp),SameB l H H'->H' l=some (.lst [.int x'])->At H' t r->t.FitS outs S C->t.tall<=deep.toNat+1->Q (.ref r) H'):dO n vs H Q _E
def i6(n:Nat):Sp:=dO n
theorem cJ:∀n:Nat,FnOk P w K mg base CX0 (n+2) T.g__law_by_digits.f T.g__law_by_digits.d ["left","outs","states","kids","deep"] (i6 n)
 |0=>⟨λ_ _ _ _ h=>by obtain⟨_,_,_,_,_,_,_,_,_,_,_,_,_,_,_,h1,h2,_⟩:=h;omega,λ_ _ _ _ _ _ _ _ _ _ _ _ _ h=>by obtain⟨_,_,_,_,_,_,_,_,_,_,_,_,_,_,_,h1,h2,_⟩:=h;omega⟩
 | n+1=>by
   have ih:=cJ n;refine T.g__law_by_digits.F.okA bz λAj A outer s H vs Q E hr h=>?_;obtain⟨l,x,oa,Az,outs,S,C,deep,rfl,el,eo,Bn,g,Um,Uo,d0,d1,q⟩:=h
   refine⟨_,(ag (cu (PW.pt (ig (aO df (pv 2) ai (aS _)) (ig (aO df (pv 3) ai (aS _)) (ir (aO fD (pcF T.g__law_digit (cY T) hr (ac (pv 0) (ac ai ae))) ai (aS _)))))) (ag (ao 5 bz.nd (pcF T.g__law_digit (cY T) hr (ac (pv 0) (ac (pv 2) ae))))
    (am (aE (aR (ac cD (ac (pv 5) (ac (pcF T.g__law_digit (cY T) hr (ac (pv 0) (ac (pv 3) ae))) ae))))))) bB)
    (ag (dG (i:=6) (N:=[WU "kind",WU "deep"]) (js:=[none,some 4]) (g:=(az 0)) (tt:=(tOr (mH (tOp (rEq) (tOp (jA K) (bc 0) (tC (.int 1))) (tC (.int 0)))) (mH (tOp (rI0 λi j=>.bl (decide (j<i))) (bc 1) (tC (.int 0)))))) (te:=(bc 0)) bz.nd rfl (Or.inl rfl) rfl (bX rfl (by decide +kernel) (by decide +kernel) rfl rfl rfl) (ck (pv 1)) (λ_ _ _ _ _ _=>(pgN 0 zI)) (aP rfl) (λ_ _ _ _ _ _=>gD (PW.pt (xj (aO fD (aw ax (pv 0) ai (λ_ _=>rfl)) ai (aS _)) (uY (aO df (pv 1) ai (aS _)))))) (λ_ _ _ _ _ _=>(pv 0)))
    (ag (ao 7 bz.nd (aw bh (pv 6) (pcF T.g__law_digit (cY T) hr (ac (pv 0) (ac (aD aC rfl T.n_len XQ (ac (pv 6) ae)) ae))) (λ_ _=>rfl)))
    (ag (ao 8 bz.nd (aN ae))
    (ag (bH XE rfl (cp rfl T.n_range (ac (aw ax (pv 7) ai (λ_ _=>rfl)) ae)) (pgN 9 bz.nd) (am (ba (bQ Xg Xu Xs aQ (pv 8) (ac (cB (ih) (hr.mono (W2 _)) rfl T.g__law_by_digits.m T.g__law_by_digits.F.kp T.g__law_by_digits.b .nil cK (ac (pv 0) (ac (pv 1) (ac (pv 2) (ac (pv 3) (ac (av kR (pv 4) ai) ae)))))) ae)))))
    (am (aE (av dJ (aR (ac (aw ax (pv 7) ai (λ_ _=>rfl)) ae)) (aL aJ rfl T.n_tuple XC (ac (pv 8) ae)))))))))),?_⟩
   try dsimp only[AK,Ad]
   have AM:outs.length=Az.length:=W5 Bn;have Uh:=g.le;have EV:=g.ne;refine bI (λi' H'=>(∃x',SameB l H H'/\H' l=some (.lst [.int x']))/\i'=[some (.ref l),some (.ref oa),some (.int S),some (.int C),some (.int deep),none,none,none,none,none]) (λkk hk=>?_) ?_
   .refine cz (λb H'=>(∃x',SameB l H H'/\H' l=some (.lst [.int x']))/\(b=true->0<S/\0<C)) (λk2 Bb=>?_) (λH' hb=>?_) (λH' hb=>?_)
    .refine⟨_,rfl,_,_,rfl,rfl,_,rfl,?_⟩;refine dh (λc1=>?_) (λc1=>Bb _ _ ⟨⟨x,.refl,el⟩,λz=>by cases z⟩);refine⟨_,rfl,_,_,rfl,rfl,_,rfl,?_⟩;refine dh (λc2=>?_) (λc2=>Bb _ _ ⟨⟨x,.refl,el⟩,λz=>by cases z⟩);exact⟨_,rfl,l,x,_,rfl,el,by decide,by decide,λd x' _ _=>⟨rfl,_,rfl,Bb _ _ ⟨⟨x',.set,ad⟩,λ_=>⟨e! c1,e! c2⟩⟩⟩⟩
    .refine hid λZZ kZ=>?_;obtain⟨⟨x1,s1,e1⟩,hb⟩:=hb;obtain⟨hS,hC⟩:=hb rfl;refine kZ ?_;refine⟨_,rfl,_,rfl,l,x1,_,rfl,e1,hS,Um,λd x2 QZ Q0=>?_⟩;refine⟨_,rfl,_,rfl,_,rfl,l,x2,_,rfl,ad,hC,Uo,λc x3 c0' N8=>?_⟩;refine⟨lnE rfl,λca Ds=>?_⟩;have Am:l≠ca:=λz=>by rw[<-z,ad]at Ds;cases Ds
     refine q (.call d c) ca x3 _ (s1.trans (SameB.set.trans (SameB.set.trans (.of (aj Ds _))))) (by rw[af Am];exact ad) ?_ ?_ ?_
     .rw[At];exact ad
     .rw[G!];exact⟨QZ,Q0,c0',N8⟩
     .rw[r!];omega
    .obtain⟨h1,_⟩:=hb;exact hk _ _ ⟨h1,rfl⟩
   rintro i' H1 ⟨⟨x1,s1,e1⟩,rfl⟩;have Q1:H1 oa=some (.tup (Az.map i!)):=s1 _ _ (aA eo el (by intro z;cases z)) eo;have kt1:KT H H1:=s1.kt el;have LJ:=Bn.mono kt1;obtain⟨kz,MU,Ik⟩:=g.zero;refine⟨_,rfl,oa,rfl,⟨_,k! Q1⟩,kO (K:=K) (λk=>decide (o! k.2=o! 0) ||decide (0<deep)) Q1 LJ (by omega) ⟨kz,MU,by rw[Ik];rfl⟩ (λz ka H2 R sm hz r=>?_) (λka H2 R r=>⟨_,rfl,r⟩) (λD bs H2 hD e' hb1 QO AY=>?_)⟩
   .refine⟨_,rfl,ka,_,1,_,rfl,rfl,k! hz,at1,rfl,_,rfl,?_⟩;refine dh (λc=>?_) (λc=>?_)
    .rw[c]at r;exact r
    .rw[Bool.eq_false_iff.mpr c]at r;exact⟨_,rfl,_,_,rfl,rfl,_,rfl,r⟩
   have s2:j! H1 H2:=by rw[e'];exact aj hD _
   have eD:H2 D=some (.lst (bs.map λz=>i! z.2)):=by rw[e'];exact ad
   have hDl:D≠l:=λz=>by rw[z,e1]at hD;cases hD
   have Up:=s2 _ _ e1;clear e';have DJ:0<((bs.map λz=>i! z.2).length:Int):=by rw[WO];omega
   refine⟨_,rfl,_,rfl,_,rfl,D,_,rfl,.inl (l! eD),l,x1,_,rfl,Up,DJ,(by rw[WO];omega),λd x2 QZ Q0=>?_⟩;have s3:SameB l H2 (upd H2 l (.lst [.int x2])):=.set;have FE:(upd H2 l (.lst [.int x2])) l=some (.lst [.int x2]):=ad;generalize(upd H2 l (.lst [.int x2]))=H3 at s3 FE |-;refine hid λZZ kZ=>?_;obtain⟨z,hz⟩:∃z,bs[d.toNat]?=some z:=⟨_,WS (by rw[WO]at Q0;omega)⟩;obtain⟨Bm,gp,AQ⟩:=AY z (WR hz);obtain⟨k0,ka⟩:=z;refine kZ ?_;dsimp only at Bm gp AQ hz;have Q2:KT H2 H3:=s3.kt Up;have Cb:H3 ka=some (.tup [.str k0.1,.int k0.2]):=Q2 _ _ (s2 _ _ AQ);have LK:SameB l H H3:=s1.trans ((SameB.of s2).trans s3);have LL:H3 oa=some (.tup (Az.map i!)):=Q2 _ _ (s2 _ _ Q1);have Q3:=LJ.mono ((n! s2).trans Q2)
   have ED:deep=0->k0.2=0:=λz=>by
    rw[z]at gp;have:decide (o! k0.2=o! 0)=true:=by simpa using gp
    exact V.int.inj (e! this)
   refine⟨D,_,d,.ref ka,rfl,rfl,l! (s3 _ _ hDl eD),at_nonneg QZ (gmE hz),?_⟩;have CU:=g.num k0 Bm;refine⟨lnE rfl,λpl AV=>?_⟩;have LM:pl≠l:=λz=>by rw[z,FE]at AV;cases AV
   refine gU AV λH4 s4 e4=>?_;have LN:=s4 _ _ Cb;have Q4:=s4 _ _ FE;have Q5:=s4 _ _ LL;refine⟨_,rfl,ka,_,1,_,rfl,rfl,k! LN,at1,k0.2,rfl,by omega,by omega,?_⟩
   refine cm (n:=k0.2.toNat) (λi Y H5=>Ex4 λ(kv:Option V)(bs:List WT)(ts:List Th)(x':Int)=>An7 (Y=[some (.ref l),some (.ref oa),some (.int S),some (.int C),some (.int deep),none,some (.ref D),some (.ref ka),some (.ref pl),kv]) ((∀b o,b≠pl->b≠l->H4 b=some o->H5 b=some o)) (H5 l=some (.lst [.int x'])) (H5 pl=some (.lst (bs.map i!))) (Ats H5 ts bs) (ts.length=i) (∀t∈ts,t.FitS outs S C/\t.tall<=(deep - 1).toNat+1))
    ⟨none,[],[],x2,rfl,λ_ _ _ _ e=>e,Q4,e4,.nil,rfl,λt ht=>by cases ht⟩ ?_ ?_
   .rintro i Y H5 hi ⟨kv,Io,ts,x',rfl,s5,Gb,e5,B4,Ao,Ab⟩;have QY:i<k0.2.toNat:=hi;have Es:KT H4 H5:=λb ys e=>s5 b _ (aA e e4 (by intro z;cases z)) (aA e Q4 (by intro z;cases z)) e
    have LI:1<=deep:=by
     by_cases z:deep=0
     .have:=ED z;omega
     .omega
    refine⟨_,rfl,.inl ⟨rfl,_,l! e5⟩,_,rfl,_,rfl,_,rfl,_,rfl,_,rfl,_,_,rfl,rfl,l,x',oa,Az,outs,S,C,deep - 1,rfl,Gb,Es _ _ Q5,Q3.mono ((n! s4).trans Es),g,Um,Uo,by omega,by omega,λt r x6 H6 s6 Nm BQ Aa AD=>?_⟩;have e6:=s6 _ _ LM e5;have Fd:KT H5 H6:=s6.kt Gb;have BM:Io.length=ts.length:=B4.length;refine⟨pl,_,_,rfl,rfl,e6,lbE (by omega),?_⟩;have kt:KT H6 (upd H6 pl (.lst (Io.map i!++[.ref r]))):=bx e6;refine⟨_,Io++[r],ts++[t],x6,rfl,λb o hb Bg e=>?_,?_,?_,?_,?_,?_⟩
    .rw[af hb];exact s6 _ _ Bg (s5 b o hb Bg e)
    .rw[af LM.symm];exact Nm
    .rw[ad,W9];rfl
    .exact(B4.mono (Fd.trans kt)).append (.cons (BQ.mono kt) .nil)
    .rw[W6,Ao];rfl
    .intro u hu;rcases W7.mp hu with hu|hu
     .exact Ab u hu
     .rw[WZ.mp hu];exact⟨Aa,AD⟩
   .rintro Y H5 ⟨kv,Io,ts,x',rfl,s5,Gb,e5,B4,Ao,Ab⟩;have hpH:H pl=none:=LK.free FE AV;have sH:SameB l H H5:=λb o hb e=>s5 b o (ar e hpH) hb (s4 _ _ (LK b o hb e));have Es:KT H4 H5:=λb ys e=>s5 b _ (aA e e4 (by intro z;cases z)) (aA e Q4 (by intro z;cases z)) e;have Fe:H5 ka=some (.tup [.str k0.1,.int k0.2]):=Es _ _ LN;have BM:Io.length=ts.length:=B4.length;refine⟨_,rfl,ka,_,0,.str k0.1,rfl,rfl,k! Fe,at0,lnE rfl,λp1 DI=>?_⟩;refine gU DI λH6 s6 e6=>?_;refine⟨_,rfl,pl,_,rfl,.inl ⟨l! (s6 _ _ e5),λtp By=>?_⟩⟩;refine gU By λH7 s7 e7=>?_;refine nN (s7 _ _ e6) e7 (by rw[WO];show 1+Io.length<=1000000;omega) λp H8 s8 e8=>?_;have En:=s6.trans (s7.trans s8);have Fb:=(g.low k0 Bm).1;refine q (.knot k0.1 ts) p x' H8 (sH.trans (.of En)) (En _ _ Gb) ?_ ?_ ?_
    .rw[At];exact⟨jC Fb,Io,e8,B4.mono (n! En)⟩
    .rw[G!];refine⟨?_,FitSs.of λt ht=>(Ab t ht).1⟩
     have:(k0.1,(ts.length:Int))=k0:=by
      rw[Ao];exact Prod.ext rfl (by show((k0.2.toNat:Nat):Int)=k0.2;omega)
     rw[this];exact Bm
    .rw[r!];by_cases z:deep=0
     .have Bb:=ED z;have:ts=[]:=Yy.mp (by omega);subst this;rw[aB];omega
     .have:=eJ (n:=(deep - 1).toNat+1) λt ht=>(Ab t ht).2;omega
inductive cG(vs:List V)(H:Hp)(Q:VK)(_E:XK):Prop
 |mk (cell:Int) (ia:WT) (Aw:List WT) (ins:List (Xk×Int)) (oa:WT) (Az:List WT) (outs:List (Xk×Int)) (S deep:Int) (Aq:vs=[.int cell,.ref ia,.ref oa,.int S,.int deep]) (Ar:H ia=some (.tup (Aw.map i!))) (Ax:KsAt H ins Aw) (AN:bq ins) (Bd:H oa=some (.tup (Az.map i!))) (Co:KsAt H outs Az) (C4:bq outs) (DT:0<=S) (HH:S<=1000) (Jn:0<=deep) (EY:deep<5) (F1:∀(r ha ra:WT)(AA:List WT)(head:Th)(rows:List (List Th))(H':Hp),j! H H'->BookAt H' ins outs head rows r ia oa ha ra Aw Az AA->dj ins outs S deep.toNat head rows->Q (.ref r) H'):cG  vs H Q _E
def fk:Sp:=cG
theorem eY:FnOk P w K mg base CX0 8 T.g__law_book_by_digits.f T.g__law_book_by_digits.d ["cell","ins","outs","states","deep"] fk:=by
 refine T.g__law_book_by_digits.F.okA aV λAj A outer s H vs Q E hr h=>?_;obtain⟨cell,ia,Aw,ins,oa,Az,outs,S,deep,rfl,ei,CY,gi,eo,Ff,go,Uq,Ur,d0,d1,q⟩:=h
 refine⟨_,(ag (ao 5 aV.nd (aN (ac (pv 0) ae)))
  (ag (ao 6 aV.nd (aN ae))
  (ag (bH XE rfl (cp rfl T.n_range (ac (pv 3) ae)) (pgN 7 aV.nd) (ag (ao 8 aV.nd (aN ae))
  (ag (bH XE rfl (cp rfl T.n_range (ac (aD aC rfl T.n_len XQ (ac (pv 1) ae)) ae)) (pgN 9 aV.nd) (am (ba (bQ Xg Xu Xs aQ (pv 8) (ac (pcF T.g__law_by_digits (cJ T 5) hr (ac (pv 5) (ac (pv 2) (ac (pv 3) (ac (aw ax (aw ax (pv 1) (pv 9) (λ_ _=>rfl)) ai (λ_ _=>rfl)) (ac (pv 4) ae)))))) ae)))))
  (am (ba (bQ Xg Xu Xs aQ (pv 6) (ac (aL aJ rfl T.n_tuple XC (ac (pv 8) ae)) ae)))))))
  (am (aE (aR (ac (pv 1) (ac (pv 2) (ac (pcF T.g__law_by_digits (cJ T 5) hr (ac (pv 5) (ac (pv 2) (ac (pv 3) (ac ai (ac ai ae)))))) (ac (aL aJ rfl T.n_tuple XC (ac (pv 6) ae)) ae)))))))))),?_⟩
 try dsimp only[AK,Ad]
 have BJ:ins.length=Aw.length:=W5 CY;have HJ:=gi.le;have GN:((Aw.map i!).length:Int)=(ins.length:Int):=by rw[WO,BJ]
 refine⟨_,rfl,lnE rfl,λlf CW=>?_⟩;refine⟨lnE rfl,λrl Gd=>?_⟩;have Ge:rl≠lf:=λz=>by rw[z,ad]at Gd;cases Gd
 have Gf:H rl=none:=(aj CW _).free Gd;have GP:j! H (upd (upd H lf (.lst [.int cell])) rl (.lst [])):=(aj CW _).trans (aj Gd _);have Ut:(upd (upd H lf (.lst [.int cell])) rl (.lst [])) lf=some (.lst [.int cell]):=by rw[af Ge.symm,ad]
 have Nn:(upd (upd H lf (.lst [.int cell])) rl (.lst [])) rl=some (.lst []):=ad;generalize(upd (upd H lf (.lst [.int cell])) rl (.lst []))=H1 at GP Ut Nn |-;refine⟨_,rfl,S,rfl,by omega,by omega,?_⟩
 refine cm (n:=S.toNat) (λi Y H3=>Ex6 λ(sv rv kv:Option V)(AA:List WT)(rows:List (List Th))(x:Int)=>An7 (Y=[some (.int cell),some (.ref ia),some (.ref oa),some (.int S),some (.int deep),some (.ref lf),some (.ref rl),sv,rv,kv]) (j! H H3) (H3 lf=some (.lst [.int x])) (H3 rl=some (.lst (AA.map i!))) (Xz (RowAt H3) rows AA) (rows.length=i) (∀row∈rows,qR ins outs S deep.toNat row))
  ⟨none,none,none,[],[],cell,rfl,GP,Ut,Nn,.nil,rfl,λt ht=>by cases ht⟩ ?_ ?_
 .rintro i Y H3 hi ⟨sv,rv,kv,AA,rows,x,rfl,s3,FE,C7,AF,Ip,Ab⟩;have QY:i<S.toNat:=hi;have Fg:rows.length=AA.length:=W5 AF;refine⟨lnE rfl,λAG C9=>?_⟩;have Iq:H AG=none:=s3.free C9;have Ir:AG≠rl:=λz=>by rw[z,C7]at C9;cases C9
  have LO:AG≠lf:=λz=>by rw[z,FE]at C9;cases C9
  refine gU C9 λH4 s4 HS=>?_;refine⟨_,rfl,ia,_,rfl,.inr (k! (s4 _ _ (s3 _ _ ei))),_,rfl,by omega,by omega,?_⟩
  refine cm (n:=((Aw.map i!).length:Int).toNat) (λj Y H5=>Ex4 λ(kv:Option V)(bs:List WT)(ts:List Th)(x:Int)=>An9 (Y=[some (.int cell),some (.ref ia),some (.ref oa),some (.int S),some (.int deep),some (.ref lf),some (.ref rl),some (.int (0+(i:Int))),some (.ref AG),kv]) (j! H H5) (H5 lf=some (.lst [.int x])) (H5 rl=some (.lst (AA.map i!))) (KT H4 H5) (H5 AG=some (.lst (bs.map i!))) (Ats H5 ts bs) (ts.length=j) (∀(j:Nat)(t:Th)(k:Xk×Int),ts[j]?=some t->ins[j]?=some k->t.FitS outs S k.2/\t.tall<=deep.toNat+1))
   ⟨kv,[],[],x,rfl,s3.trans s4,s4 _ _ FE,s4 _ _ C7,λ_ _ e=>e,HS,.nil,rfl,λj t k h=>by simp at h⟩ ?_ ?_
  .rintro j Y H5 hj ⟨kv,bs,ts,x5,rfl,s5,Gb,C8,Es,D8,B4,Ao,B5⟩
   have LP:j<ins.length:=by
    have:j<((Aw.map i!).length:Int).toNat:=hj;omega
   refine hid λZZ kZ=>?_;obtain⟨k0,DN⟩:∃k0,ins[j]?=some k0:=⟨_,WS LP⟩;obtain⟨ka,AI,AQ⟩:=y! CY DN;refine kZ ?_;have CU:=gi.num k0 (WR DN);have BQ:atI (Aw.map i!) (0+(j:Int))=some (.ref ka):=at_nonneg (by omega) (by rw[show(0+(j:Int)).toNat=j by omega,Xj,AI];rfl);refine⟨_,rfl,.inl ⟨rfl,_,l! D8⟩,_,rfl,_,rfl,_,rfl,_,rfl,_,rfl,ia,_,_,.ref ka,rfl,rfl,k! (s5 _ _ ei),BQ,ka,_,1,_,rfl,rfl,k! (s5 _ _ AQ),at1,_,rfl,lf,x5,oa,Az,outs,S,k0.2,deep,rfl,Gb,s5 _ _ eo,Ff.mono (n! s5),go,by omega,by omega,d0,by omega,λt r x6 H6 s6 Nm BQ Aa AD=>?_⟩;have LQ:=s6 _ _ LO D8;have Eb:=s6 _ _ Ge C8;have Fd:KT H5 H6:=s6.kt Gb;have Iu:j! H H6:=λb o e=>s6 b o (ar e CW) (s5 b o e);have BM:bs.length=ts.length:=B4.length;refine⟨AG,_,_,rfl,rfl,LQ,lbE (by omega),?_⟩;have kt:KT H6 (upd H6 AG (.lst (bs.map i!++[.ref r]))):=bx LQ;refine⟨_,bs++[r],ts++[t],x6,rfl,aF Iu Iq,by rw[af LO.symm];exact Nm,by rw[af Ir.symm];exact Eb,Es.trans (Fd.trans kt),?_,?_,?_,?_⟩
   .rw[ad,W9];rfl
   .exact(B4.mono (Fd.trans kt)).append (.cons (BQ.mono kt) .nil)
   .rw[W6,Ao];rfl
   .intro j' t' k' Ec BD;by_cases FA:j'<ts.length
    .rw[XA FA]at Ec;exact B5 j' t' k' Ec BD
    .rw[XX (by omega)]at Ec
     have DM:j' - ts.length=0:=by
      have:=(Xw.mp Ec).1;simp at this;omega
     rw[DM]at Ec;cases Ec;have:j'=j:=by omega
     subst this;rw[DN]at BD;cases BD;exact⟨Aa,AD⟩
  .rintro Y H5 ⟨kv,bs,ts,x5,rfl,s5,Gb,C8,Es,D8,B4,Ao,B5⟩;refine⟨_,rfl,.inl ⟨rfl,_,l! C8⟩,_,rfl,AG,_,rfl,.inl ⟨l! D8,λtp By=>?_⟩⟩;refine gU By λH6 s6 e6=>?_;have Eb:=s6 _ _ C8;refine⟨rl,_,_,rfl,rfl,Eb,lbE (by omega),?_⟩;have kt:KT H6 (upd H6 rl (.lst (AA.map i!++[.ref tp]))):=bx Eb;have Q6:KT H3 (upd H6 rl (.lst (AA.map i!++[.ref tp]))):=(n! s4).trans (Es.trans ((n! s6).trans kt));refine⟨_,_,_,AA++[tp],rows++[ts],x5,rfl,aF (s5.trans s6) Gf,by rw[af Ge.symm];exact s6 _ _ Gb,?_,?_,?_,?_⟩
   .rw[ad,W9];rfl
   .exact q! (v! (λ_ _ e=>RowAt.mono Q6 e) AF) (.cons ⟨bs,kt _ _ e6,B4.mono ((n! s6).trans kt)⟩ .nil)
   .rw[W6,Ip];rfl
   .intro row Af;rcases W7.mp Af with Af|Af
    .exact Ab row Af
    .rw[WZ.mp Af];exact⟨by rw[Ao];omega,B5⟩
 .rintro Y H3 ⟨sv,rv,kv,AA,rows,x,rfl,s3,FE,C7,AF,Ip,Ab⟩;have Fg:rows.length=AA.length:=W5 AF;refine⟨_,rfl,_,rfl,_,rfl,_,rfl,_,rfl,lf,x,oa,Az,outs,S,1,1,rfl,FE,s3 _ _ eo,Ff.mono (n! s3),go,by omega,by decide,by decide,by decide,λt ha x6 H6 s6 Nm BQ Aa AD=>?_⟩;have Eb:=s6 _ _ Ge C7;have Fd:KT H3 H6:=s6.kt FE;have Iu:j! H H6:=λb o e=>s6 b o (ar e CW) (s3 b o e);refine⟨_,rfl,rl,_,rfl,.inl ⟨l! Eb,λra Q7=>?_⟩⟩;refine gU Q7 λH7 s7 e7=>?_;refine⟨lnE rfl,λr Dt=>?_⟩;have s8:j! H7 (upd H7 r (.tup [.ref ia,.ref oa,.ref ha,.ref ra])):=aj Dt _;have sA:=Iu.trans (s7.trans s8);refine q r ha ra AA t rows _ sA ⟨ad,sA _ _ ei,CY.mono (n! sA),sA _ _ eo,Ff.mono (n! sA),BQ.mono (n! (s7.trans s8)),s8 _ _ e7,v! (λ_ _ e=>RowAt.mono (Fd.trans (n! (s7.trans s8))) e) AF⟩ ⟨by rw[Ip];omega,Ab,Aa,AD⟩
inductive gJ(vs:List V)(H:Hp)(Q:VK)(_E:XK):Prop
 |mk (cell:Int) (ia:WT) (Aw:List WT) (ins:List (Xk×Int)) (oa:WT) (Az:List WT) (outs:List (Xk×Int)) (S deep:Int) (Aq:vs=[.int cell,.ref ia,.ref oa,.int S,.int deep]) (Ar:H ia=some (.tup (Aw.map i!))) (Ax:KsAt H ins Aw) (AN:bq ins) (Bd:H oa=some (.tup (Az.map i!))) (Co:KsAt H outs Az) (C4:bq outs) (DT:0<=S) (HH:S<=1000) (Jn:0<=deep) (EY:deep<5) (F1:∀(r ha ra:WT)(AA:List WT)(head:Th)(rows:List (List Th))(H':Hp),j! H H'->BookAt H' ins outs head rows r ia oa ha ra Aw Az AA->dj ins outs S deep.toNat head rows->Q (.ref r) H'):gJ  vs H Q _E
def nB:Sp:=gJ
theorem oo:FnOk P w K mg base CX0 9 T.g__law_book.f T.g__law_book.d ["cell","ins","outs","states","deep"] nB:=by
 refine T.g__law_book.F.okA cL λAj A outer s H vs Q E hr h=>?_;obtain⟨cell,ia,Aw,ins,oa,Az,outs,S,deep,rfl,ei,CY,gi,eo,Ff,go,Uq,Ur,d0,d1,q⟩:=h
 refine⟨_,(ag (cu (aO yO (pv 0) ai (aS _)) (am (aE (pcF T.g__law_book_by_digits (eY T) hr (ac (av ux (pv 0) ai) (ac (pv 1) (ac (pv 2) (ac (pv 3) (ac (pv 4) ae)))))))) bB)
  (ag (ao 5 cL.nd (aN ae))
  (ag (bH XE rfl (cp rfl T.n_range (ac (pv 3) ae)) (pgN 6 cL.nd) (ag (ao 7 cL.nd (aN ae))
  (ag (bH XE rfl (cp rfl T.n_range (ac (aD aC rfl T.n_len XQ (ac (pv 1) ae)) ae)) (pgN 8 cL.nd) (am (ba (bQ Xg Xu Xs aQ (pv 7) (ac (pcF T.g__law_pattern (dk T 5) hr (ac (pcF T.g__law_turn (bN T) hr (ac (pv 0) (ac (av bG (av bG (av d9 ai (pv 6)) (pv 8)) ai) ae))) (ac (pv 2) (ac (pv 3) (ac (aw ax (aw ax (pv 1) (pv 8) (λ_ _=>rfl)) ai (λ_ _=>rfl)) (ac (pv 4) ae)))))) ae)))))
  (am (ba (bQ Xg Xu Xs aQ (pv 5) (ac (aL aJ rfl T.n_tuple XC (ac (pv 7) ae)) ae)))))))
  (am (aE (aR (ac (pv 1) (ac (pv 2) (ac (pcF T.g__law_pattern (dk T 5) hr (ac (pcF T.g__law_turn (bN T) hr (ac (pv 0) (ac ai ae))) (ac (pv 2) (ac (pv 3) (ac ai (ac ai ae)))))) (ac (aL aJ rfl T.n_tuple XC (ac (pv 5) ae)) ae)))))))))),?_⟩
 try dsimp only[AK,Ad]
 have BJ:ins.length=Aw.length:=W5 CY;have HJ:=gi.le;have GN:((Aw.map i!).length:Int)=(ins.length:Int):=by rw[WO,BJ]
 refine bI (λi' H'=>An2 (H=H') (i'=[some (.int cell),some (.ref ia),some (.ref oa),some (.int S),some (.int deep),none,none,none,none])) (λkk hk=>?_) ?_
 .refine⟨_,rfl,_,_,rfl,rfl,_,rfl,?_⟩;refine dh (λc1=>?_) (λc1=>hk _ _ ⟨rfl,rfl⟩);exact⟨_,rfl,_,_,rfl,rfl,⟨by decide,by decide⟩,_,rfl,_,rfl,_,rfl,_,rfl,_,ia,Aw,ins,oa,Az,outs,S,deep,rfl,ei,CY,gi,eo,Ff,go,Uq,Ur,d0,d1,λr ha ra AA head rows H' s1 b1 b2=>q r ha ra AA head rows H' s1 b1 b2⟩
 rintro i' H' ⟨rfl,rfl⟩;refine⟨lnE rfl,λrl Gf=>?_⟩;refine gU Gf λH1 GP Nn=>?_;refine⟨_,rfl,S,rfl,by omega,by omega,?_⟩
 refine cm (n:=S.toNat) (λi Y H3=>Ex5 λ(sv rv kv:Option V)(AA:List WT)(rows:List (List Th))=>An6 (Y=[some (.int cell),some (.ref ia),some (.ref oa),some (.int S),some (.int deep),some (.ref rl),sv,rv,kv]) (j! H H3) (H3 rl=some (.lst (AA.map i!))) (Xz (RowAt H3) rows AA) (rows.length=i) (∀row∈rows,qR ins outs S deep.toNat row))
  ⟨none,none,none,[],[],rfl,GP,Nn,.nil,rfl,λt ht=>by cases ht⟩ ?_ ?_
 .rintro i Y H3 hi ⟨sv,rv,kv,AA,rows,rfl,s3,C7,AF,Ip,Ab⟩;have QY:i<S.toNat:=hi;have Fg:rows.length=AA.length:=W5 AF;refine⟨lnE rfl,λAG C9=>?_⟩;have Iq:H AG=none:=s3.free C9;have Ir:AG≠rl:=λz=>by rw[z,C7]at C9;cases C9
  refine gU C9 λH4 s4 HS=>?_;refine⟨_,rfl,ia,_,rfl,.inr (k! (s4 _ _ (s3 _ _ ei))),_,rfl,by omega,by omega,?_⟩
  refine cm (n:=((Aw.map i!).length:Int).toNat) (λj Y H5=>Ex3 λ(kv:Option V)(bs:List WT)(ts:List Th)=>An8 (Y=[some (.int cell),some (.ref ia),some (.ref oa),some (.int S),some (.int deep),some (.ref rl),some (.int (0+(i:Int))),some (.ref AG),kv]) (j! H H5) (H5 rl=some (.lst (AA.map i!))) (KT H4 H5) (H5 AG=some (.lst (bs.map i!))) (Ats H5 ts bs) (ts.length=j) (∀(j:Nat)(t:Th)(k:Xk×Int),ts[j]?=some t->ins[j]?=some k->t.FitS outs S k.2/\t.tall<=deep.toNat+1))
   ⟨kv,[],[],rfl,s3.trans s4,s4 _ _ C7,λ_ _ e=>e,HS,.nil,rfl,λj t k h=>by simp at h⟩ ?_ ?_
  .rintro j Y H5 hj ⟨kv,bs,ts,rfl,s5,C8,Es,D8,B4,Ao,B5⟩
   have LP:j<ins.length:=by
    have:j<((Aw.map i!).length:Int).toNat:=hj;omega
   refine hid λZZ kZ=>?_;obtain⟨k0,DN⟩:∃k0,ins[j]?=some k0:=⟨_,WS LP⟩;obtain⟨ka,AI,AQ⟩:=y! CY DN;refine kZ ?_;have CU:=gi.num k0 (WR DN);have BQ:atI (Aw.map i!) (0+(j:Int))=some (.ref ka):=at_nonneg (by omega) (by rw[show(0+(j:Int)).toNat=j by omega,Xj,AI];rfl);refine⟨_,rfl,.inl ⟨rfl,_,l! D8⟩,_,rfl,_,rfl,_,_,rfl,rfl,.inl ⟨by decide,by decide⟩,_,rfl,_,_,rfl,rfl,_,_,rfl,rfl,_,_,rfl,by omega,by omega,λr2 _ _=>?_⟩;refine⟨_,rfl,_,rfl,_,rfl,_,rfl,ia,_,_,.ref ka,rfl,rfl,k! (s5 _ _ ei),BQ,ka,_,1,_,rfl,rfl,k! (s5 _ _ AQ),at1,_,rfl,r2,oa,Az,outs,S,k0.2,deep,rfl,s5 _ _ eo,Ff.mono (n! s5),go,d0,by omega,λt r H6 s6 BQ Aa AD=>?_⟩;have LQ:=s6 _ _ D8;have Eb:=s6 _ _ C8;have Fd:KT H5 H6:=n! s6;have Iu:j! H H6:=s5.trans s6;have BM:bs.length=ts.length:=B4.length;refine⟨AG,_,_,rfl,rfl,LQ,lbE (by omega),?_⟩;have kt:KT H6 (upd H6 AG (.lst (bs.map i!++[.ref r]))):=bx LQ;refine⟨_,bs++[r],ts++[t],rfl,aF Iu Iq,by rw[af Ir.symm];exact Eb,Es.trans (Fd.trans kt),?_,?_,?_,?_⟩
   .rw[ad,W9];rfl
   .exact(B4.mono (Fd.trans kt)).append (.cons (BQ.mono kt) .nil)
   .rw[W6,Ao];rfl
   .intro j' t' k' Ec BD;by_cases FA:j'<ts.length
    .rw[XA FA]at Ec;exact B5 j' t' k' Ec BD
    .rw[XX (by omega)]at Ec
     have DM:j' - ts.length=0:=by
      have:=(Xw.mp Ec).1;simp at this;omega
     rw[DM]at Ec;cases Ec;have:j'=j:=by omega
     subst this;rw[DN]at BD;cases BD;exact⟨Aa,AD⟩
  .rintro Y H5 ⟨kv,bs,ts,rfl,s5,C8,Es,D8,B4,Ao,B5⟩;refine⟨_,rfl,.inl ⟨rfl,_,l! C8⟩,_,rfl,AG,_,rfl,.inl ⟨l! D8,λtp By=>?_⟩⟩;refine gU By λH6 s6 e6=>?_;have Eb:=s6 _ _ C8;refine⟨rl,_,_,rfl,rfl,Eb,lbE (by omega),?_⟩;have kt:KT H6 (upd H6 rl (.lst (AA.map i!++[.ref tp]))):=bx Eb;have Q6:KT H3 (upd H6 rl (.lst (AA.map i!++[.ref tp]))):=(n! s4).trans (Es.trans ((n! s6).trans kt));refine⟨_,_,_,AA++[tp],rows++[ts],rfl,aF (s5.trans s6) Gf,?_,?_,?_,?_⟩
   .rw[ad,W9];rfl
   .exact q! (v! (λ_ _ e=>RowAt.mono Q6 e) AF) (.cons ⟨bs,kt _ _ e6,B4.mono ((n! s6).trans kt)⟩ .nil)
   .rw[W6,Ip];rfl
   .intro row Af;rcases W7.mp Af with Af|Af
    .exact Ab row Af
    .rw[WZ.mp Af];exact⟨by rw[Ao];omega,B5⟩
 .rintro Y H3 ⟨sv,rv,kv,AA,rows,rfl,s3,C7,AF,Ip,Ab⟩;have Fg:rows.length=AA.length:=W5 AF;refine⟨_,rfl,_,rfl,_,rfl,_,_,rfl,by decide,by decide,λr2 _ _=>?_⟩;refine⟨_,rfl,_,rfl,r2,oa,Az,outs,S,1,1,rfl,s3 _ _ eo,Ff.mono (n! s3),go,by decide,by decide,λt ha H6 s6 BQ Aa AD=>?_⟩;have Eb:=s6 _ _ C7;have Fd:KT H3 H6:=n! s6;have Iu:j! H H6:=s3.trans s6;refine⟨_,rfl,rl,_,rfl,.inl ⟨l! Eb,λra Q7=>?_⟩⟩;refine gU Q7 λH7 s7 e7=>?_;refine⟨lnE rfl,λr Dt=>?_⟩;have s8:j! H7 (upd H7 r (.tup [.ref ia,.ref oa,.ref ha,.ref ra])):=aj Dt _;have sA:=Iu.trans (s7.trans s8);refine q r ha ra AA t rows _ sA ⟨ad,sA _ _ ei,CY.mono (n! sA),sA _ _ eo,Ff.mono (n! sA),BQ.mono (n! (s7.trans s8)),s8 _ _ e7,v! (λ_ _ e=>RowAt.mono (Fd.trans (n! (s7.trans s8))) e) AF⟩ ⟨by rw[Ip];omega,Ab,Aa,AD⟩
def EH(H:Hp)(t:Th)(a:WT):Prop:=∃ta,H a=some (.tup [.ref ta,.int (t.tall:Nat)])/\At H t ta
theorem EH.mono(k:KT H H'){t:Th}(h:EH H t a):EH H' t a:=by
 obtain⟨ta,h1,h2⟩:=h;exact⟨ta,k _ _ h1,h2.mono k⟩
theorem oP:∀{ts:List Th}{es:List WT},Xz (EH H) ts es->∃BA:List WT,Ats H ts BA/\BA.length=es.length/\∀(i:Nat)(e:WT),es[i]?=some e->∃ta t,BA[i]?=some ta/\ts[i]?=some t/\H e=some (.tup [.ref ta,.int (t.tall:Nat)])
 |_,_,.nil=>⟨[],.nil,rfl,λi e h=>by simp at h⟩
 | _,_,.cons (a:=t) (b:=e) r h=>by
   refine hid λZZ kZ=>?_;obtain⟨ta,h1,h2⟩:=r;obtain⟨BA,g1,g2,g3⟩:=oP h;refine kZ ?_;refine⟨ta::BA,.cons h2 g1,by rw[W8,W8,g2],λi e' he=>?_⟩;cases i with
   | zero =>
     simp at he;subst he;exact⟨ta,t,rfl,rfl,h1⟩
   | succ i =>
     refine hid λZZ kZ=>?_;obtain⟨ta',t',q1,q2,q3⟩:=g3 i e' (by simpa using he);refine kZ ?_;exact⟨ta',t',by simpa using q1,by simpa using q2,q3⟩
theorem lx{M:Int}(h1:M∈(ts.map λt:Th=>((t.tall:Nat):Int))++[0])(h2:∀a∈(ts.map λt:Th=>((t.tall:Nat):Int))++[0],a<=M):M=((aB ts:Nat):Int):=by
 by_cases h:ts=[]
 .subst h;have:M=0:=by simpa using h1
  rw[this,aB];rfl
 .have h0:=h2 0 (by simp);obtain⟨t,ht,he⟩:=mY h;have h3:=h2 _ (Xi _ (List.mem_map_of_mem (f:=λt:Th=>((t.tall:Nat):Int)) ht));rcases W7.mp h1 with h1|h1
  .obtain⟨u,hu,e⟩:=Xq.mp h1;have:=cj hu;omega
  .have h4:M=0:=WZ.mp h1;have h5:t.tall=0:=by omega
   cases t with
   |knot n ks=>rw[r!]at h5;omega
   |call a b=>rw[r!]at h5;omega
inductive g9(vs:List V)(H:Hp)(Q:VK)(_E:XK):Prop
 |mk (ka kl:WT) (k0:Xk×Int) (es:List WT) (ts:List Th) (Aq:vs=[.ref ka,.ref kl]) (Ar:KAt H k0 ka) (Ax:k0.1≠q) (AN:H kl=some (.lst (es.map i!))) (Bd:Xz (EH H) ts es) (Co:ts.length<=1000) (C4:∀(r:WT)(H':Hp),j! H H'->EH H' (.knot k0.1 ts) r->Q (.ref r) H'):g9  vs H Q _E
def nI:Sp:=g9
theorem dz:FnOk P w K mg base CX0 1 T.g__law_knot.f T.g__law_knot.d ["kind","kids"] nI:=by
 refine T.g__law_knot.F.okA iU λAj A outer s H vs Q E hr h=>?_;obtain⟨ka,kl,k0,es,ts,rfl,AQ,hq,Jz,Bw,hlen,q⟩:=h
 refine⟨_,(ag (ao 2 iU.nd (av bG ai (aD (jo rfl) rfl T.n_max Zl (ac (av ij (bR (N:=[WU "kid"]) (js:=[none]) (g:=(az 0)) (tt:=bu) (te:=(tOp (jA K) (bc 0) (tC (.int 1)))) rfl (bX rfl (by decide +kernel) (by decide +kernel) rfl rfl rfl) (dH (pv 1)) (λ_ _ _ _ _ _=>(pgN 0 yc)) (aP rfl) (λ_ _ _ _ _ _=>bC) (λ_ _ _ _ _ _=>(aw ax (pv 0) ai (λ_ _=>rfl)))) (aN (ac ai ae))) ae))))
  (am (aE (aR (ac (av dJ (aR (ac (aw ax (pv 0) ai (λ_ _=>rfl)) ae)) (aL aJ rfl T.n_tuple XC (ac (bR (N:=[WU "kid"]) (js:=[none]) (g:=(az 0)) (tt:=bu) (te:=(tOp (jA K) (bc 0) (tC (.int 0)))) rfl (bX rfl (by decide +kernel) (by decide +kernel) rfl rfl rfl) (dH (pv 1)) (λ_ _ _ _ _ _=>(pgN 0 yc)) (aP rfl) (λ_ _ _ _ _ _=>bC) (λ_ _ _ _ _ _=>(aw ax (pv 0) ai (λ_ _=>rfl)))) ae))) (ac (pv 2) ae)))))),?_⟩
 try dsimp only[AK,Ad]
 have Fs:ts.length=es.length:=W5 Bw;refine⟨_,rfl,kl,rfl,⟨_,l! Jz⟩,dM ts (λt:Th=>o! (t.tall:Nat)) (l! Jz) (by rw[WO];exact Fs) (by rw[WO];omega) (λi x z H2 R W' hx hz s2 hR=>?_) (λD H1 hD s1 e1=>?_)⟩
 .refine hid λZZ kZ=>?_;obtain⟨e,rfl,he⟩:=aZ hx;obtain⟨t,ht,ta,h1,_⟩:=B! Bw he;refine kZ ?_;rw[hz]at ht;cases ht;exact⟨_,rfl,e,_,1,.int (z.tall:Nat),rfl,rfl,k! (s2 _ _ h1),at1,hR H2 (.refl _)⟩
 refine⟨lnE rfl,λzl Ga=>?_⟩;have s2:=aj Ga (.lst [.int 0]);refine⟨D,zl,_,_,rfl,rfl,s2 _ _ e1,ad,be (by rw[WO];show ts.length+1<=1000000;omega),λcl Am=>?_⟩;have s3:j! H _:=s1.trans (s2.trans (aj Am (.lst (ts.map (λt:Th=>o! (t.tall:Nat))++[.int 0]))))
 have e3:(upd (upd H1 zl (.lst [.int 0])) cl (.lst (ts.map (λt:Th=>o! (t.tall:Nat))++[.int 0]))) cl=some (.lst (((ts.map λt:Th=>((t.tall:Nat):Int))++[0]).map o!)):=by
  rw[ad,W9,YU];rfl
 generalize(upd (upd H1 zl (.lst [.int 0])) cl (.lst (ts.map (λt:Th=>o! (t.tall:Nat))++[.int 0])))=H3 at s3 e3 |-;refine⟨cl,(ts.map λt:Th=>((t.tall:Nat):Int))++[0],rfl,l! e3,by simp,λM hM Iv=>⟨_,_,rfl,rfl,?_⟩⟩;have Q8:=lx hM Iv;subst Q8;have Cb:=s3 _ _ AQ;refine⟨_,rfl,ka,_,0,.str k0.1,rfl,rfl,k! Cb,at0,lnE rfl,λp1 DI=>?_⟩;have s4:=s3.trans (aj DI (.tup [.str k0.1]));have e4:(upd H3 p1 (.tup [.str k0.1])) p1=some (.tup [.str k0.1]):=ad;generalize(upd H3 p1 (.tup [.str k0.1]))=H4 at s4 e4 |-;refine hid λZZ kZ=>?_;obtain⟨BA,D3,Ao,Q9⟩:=oP (v! (λ_ _ e=>EH.mono (n! s4) e) Bw);refine kZ ?_;have LR:=s4 _ _ Jz;refine⟨_,rfl,kl,rfl,⟨_,l! LR⟩,dM BA i! (l! LR) (by rw[WO];exact Ao) (by rw[WO];omega) (λi x z H5 R W' hx hz s5 hR=>?_) (λD5 H5 Uu s5 e5=>?_)⟩
 .refine hid λZZ kZ=>?_;obtain⟨e,rfl,he⟩:=aZ hx;obtain⟨ta,t,g1,_,g3⟩:=Q9 i e he;refine kZ ?_;rw[hz]at g1;cases g1;exact⟨_,rfl,e,_,0,.ref z,rfl,rfl,k! (s5 _ _ g3),at0,hR H5 (.refl _)⟩
 refine⟨D5,_,rfl,.inl ⟨l! e5,λtp By=>?_⟩⟩;refine gU By λH6 s6 e6=>?_;refine nN (s6 _ _ (s5 _ _ e4)) e6 (by rw[WO];show 1+BA.length<=1000000;omega) λp H7 s7 e7=>?_;refine⟨_,rfl,lnE rfl,λr Dt=>?_⟩;have s8:=aj Dt (.tup [.ref p,.int (1+((aB ts:Nat):Int))]);have HV:=s5.trans (s6.trans (s7.trans s8));refine q r _ (s4.trans HV) ⟨p,?_,?_⟩
 .rw[ad,r!];congr 4;simp;omega
 .rw[At];exact⟨hq,BA,s8 _ _ e7,D3.mono (n! HV)⟩
theorem vi{c:TT}{K:Bool->Hp->Prop}(R:Bool->Hp->Prop)(h1:∀k:Bool->Hp->Prop,(∀b H',R b H'->k b H')->c Y H k)(h2:∀b H',R b H'->K b H'):c Y H K:=h1 K h2
theorem jQ{kr:WT}{AU:List WT}{ks:List (Xk×Int)}(p:Xk×Int->Bool)(e:H kr=some (.tup (AU.map i!)))(Bn:KsAt H ks AU)(hl:ks.length<=1000)
 (FJ:∀(z:Xk×Int)(ka:WT)(H2:Hp)(R:Bool->Hp->Prop),j! H H2->KAt H2 z ka->R (p z) H2->tt ((cσ js Y).set 0 (some (.ref ka))) H2 R)
 (Hb:∀(ka:WT)(H2:Hp)(R:VK),R (.ref ka) H2->te ((cσ js Y).set 0 (some (.ref ka))) H2 R)
 (q:∀(D:WT)(bs:List ((Xk×Int)×WT))(H':Hp),H D=none->H'=upd H D (.lst (bs.map λz=>i! z.2))->bs.length<=ks.length->(∀z∈bs,z.1∈ks/\p z.1=true/\KAt H z.1 z.2)->fin D H') :
 ∀D,H D=none->∃(n:Nat)(W:Nat->Hp->Prop),W 0 (upd H D (.lst []))/\fH js (az 0) tt te Y (Itt K kr) D n W λH'=>fin D H':=by
 have AM:ks.length=AU.length:=W5 Bn;have Ga:(ks.zip AU).length=ks.length:=by rw[List.length_zip];omega
 have ER:∀(i:Nat)(x:V)(z:(Xk×Int)×WT),(AU.map i!)[i]?=some x->(ks.zip AU)[i]?=some z->x=.ref z.2:=λi x z hx hz=>by
  obtain⟨ka,rfl,AI⟩:=aZ hx;obtain⟨h1,h2⟩:=YD.mp hz;rw[AI]at h2;cases h2;rfl
 refine d5 (ks.zip AU) (λz=>p z.1) (λz=>.ref z.2) (k! e) (by rw[Ga,WO];exact AM) (by rw[WO];omega) (λi x z H2 R hx hz sm r=>?_) (λi x z H2 R hx hz _ sm r=>?_) (λD hD=>?_)
 .rw[ER i x z hx hz];have:=(iu Bn z (WR hz)).2;exact FJ z.1 z.2 H2 R sm (sm _ _ this) r
 .rw[ER i x z hx hz];exact Hb z.2 H2 R r
 .refine q D _ _ hD rfl ?_ ?_
  .exact XS (List.length_filter_le _ _) (by omega)
  .intro z hz;obtain⟨h1,h2⟩:=ZU.mp hz;obtain⟨h3,h4⟩:=iu Bn z h1;exact⟨h3,h2,h4⟩
theorem qK(h:n<=xs.length):cR xs none (some (n:Int))=xs.take n:=by
 unfold cR;rw[x!,J!,Nat.min_eq_left h,Nat.sub_zero,Zk]
theorem mK(n:Nat)(ts:List Th):au (ts.take n)+au (ts.drop n)=au ts:=by rw[<-bf,List.take_append_drop]
inductive gZ(K:WX)(vs:List V)(H:Hp)(Q:VK)(_E:XK):Prop
 |mk (cl ia:WT) (xs:List V) (Aw:List WT) (ins:List (Xk×Int)) (Aq:vs=[.ref cl,.ref ia]) (Ar:H cl=some (.lst xs)) (Ax:(∀v∈xs,∃z,v=.int z)) (AN:xs.length<=60) (Bd:H ia=some (.tup (Aw.map i!))) (Co:KsAt H ins Aw) (C4:bq ins) (DT:∀(t:Th)(r:WT)(H':Hp),j! H H'->At H' t r->t.Fit ins->t.tall<=79->t.size<=300->Q (.ref r) H'):gZ K vs H Q _E
def nL(K:WX):Sp:=gZ K
theorem nW:FnOk P w K mg base CX0 2 T.g__law_tree.f T.g__law_tree.d ["cells","ins"] (nL K):=by
 refine T.g__law_tree.F.okA bi λAj A outer s H vs Q E hr h=>?_;obtain⟨cl,ia,xs,Aw,ins,rfl,Uv,hint,hxl,ei,CY,gi,q⟩:=h
 refine⟨_,(ag (ao 2 bi.nd (pcF T.g__law_knot (dz T) hr (ac (pcF T.g__law_leaf (dF T) hr (ac (pv 1) (ac (aD aC rfl T.n_len XQ (ac (pv 0) ae)) ae))) (ac (aN ae) ae))))
  (ag (dG (i:=3) (N:=[WU "kind"]) (js:=[none]) (g:=(az 0)) (tt:=(mH (tOp (rI0 λi j=>.bl (decide (j<i))) (tOp (jA K) (bc 0) (tC (.int 1))) (tC (.int 1))))) (te:=(bc 0)) bi.nd rfl (Or.inl rfl) rfl (bX rfl (by decide +kernel) (by decide +kernel) rfl rfl rfl) (ck (pv 1)) (λ_ _ _ _ _ _=>(pgN 0 vn)) (aP rfl) (λ_ _ _ _ _ _=>gD (aO df (aw ax (pv 0) ai (λ_ _=>rfl)) ai (aS _))) (λ_ _ _ _ _ _=>(pv 0)))
  (ag (ao 4 bi.nd (aN ae))
  (ag (bH XE rfl (dH (aW gx (pv 0) bt (bp ai))) (pgN 5 bi.nd) (ag (ao 6 bi.nd (pcF T.g__law_turn (bN T) hr (ac (pv 5) (ac (aD aC rfl T.n_len XQ (ac (pv 4) ae)) ae))))
  (ag (ao 7 bi.nd (aw ax (pv 1) (av bv (pv 6) (aD aC rfl T.n_len XQ (ac (pv 1) ae))) (λ_ _=>rfl)))
  (ag (ao 8 bi.nd (pcF T.g__law_knot (dz T) hr (ac (pv 7) (ac (av uq (aW gx (pv 4) (bp (aD (ja rfl) rfl T.n_max Zl (ac ai (ac (av kR (aD aC rfl T.n_len XQ (ac (pv 4) ae)) (aw ax (pv 7) ai (λ_ _=>rfl))) ae)))) bt) (aL jz rfl T.n_int PyProof.Rows.boot_int (ac (ft df (aw ax (pv 7) ai (λ_ _=>rfl)) ai (aS _)) ae))) ae))))
  (am (cu (PW.pt (xj (aO df (aw ax (pv 7) ai (λ_ _=>rfl)) (aD aC rfl T.n_len XQ (ac (pv 4) ae)) (aS _)) (uY (aO df (aw ax (pv 8) ai (λ_ _=>rfl)) ai (aS _))))) (am (ba (bQ Xg Xu Xs aQ (pv 4) (ac (pcF T.g__law_knot (dz T) hr (ac (pcF T.g__law_leaf (dF T) hr (ac (pv 1) (ac (av bF (pv 6) ai) ae))) (ac (aN ae) ae))) ae)))) (am (ao 4 bi.nd (av ij (aW gx (pv 4) bt (bp (av kR (aD aC rfl T.n_len XQ (ac (pv 4) ae)) (aw ax (pv 7) ai (λ_ _=>rfl))))) (aN (ac (pv 8) ae)))))))))))
  (ag (eF XE (PW.pt (ig (aO df (aD aC rfl T.n_len XQ (ac (pv 4) ae)) ai (aS _)) (ir (aO df (aD aC rfl T.n_len XQ (ac (pv 3) ae)) ai (aS _))))) (ag (ao 7 bi.nd (aw bh (pv 3) (av bv (aD aC rfl T.n_len XQ (ac (pv 4) ae)) (aD aC rfl T.n_len XQ (ac (pv 3) ae))) (λ_ _=>rfl)))
  (am (ao 4 bi.nd (av ij (aW gx (pv 4) (bp (aw ax (pv 7) ai (λ_ _=>rfl))) bt) (aN (ac (pcF T.g__law_knot (dz T) hr (ac (pv 7) (ac (aW gx (av ij (pv 4) (aN (ac (pv 2) (ac (pv 2) ae)))) bt (bp (aw ax (pv 7) ai (λ_ _=>rfl)))) ae))) ae)))))))
  (am (aE (aw ax (aw bh (av ij (pv 4) (aN (ac (pv 2) ae))) (aD (ja rfl) rfl T.n_max Zl (ac ai (ac (av kR (aD aC rfl T.n_len XQ (ac (pv 4) ae)) ai) ae))) (λ_ _=>rfl)) ai (λ_ _=>rfl))))))))),?_⟩
 try dsimp only[AK,Ad]
 have BJ:ins.length=Aw.length:=W5 CY;have HJ:=gi.le;have hi1:=gi.ne
 have DO:∀k0:Xk×Int,k0∈ins->k0.2=0->(p! k0.1 []).Fit ins:=λk0 hm hz=>by
  rw[E!,Fits];refine⟨?_,trivial⟩;have:(k0.1,((([]:List Th).length:Nat):Int))=k0:=Prod.ext rfl hz.symm;rw[this];exact hm
 refine⟨_,rfl,_,rfl,cl,_,rfl,.inl (l! Uv),ia,Aw,ins,_,rfl,ei,CY,gi,λk0 ka H1 s1 B7 ED AQ=>?_⟩;refine⟨lnE rfl,λel Fs=>?_⟩;have s2:=s1.trans (aj Fs (.lst []));refine⟨ka,el,k0,[],[],rfl,aj Fs _ _ _ AQ,jC (gi.low k0 B7).1,ad,.nil,XB _,λlf H2 Uw CW=>?_⟩;have Gg:j! H H2:=s2.trans Uw;have Fh:=DO k0 B7 ED;have Ra:(p! k0.1 []).tall<=1:=by rw[r!,aB];exact W2 _
 have Rb:(p! k0.1 []).size<=1:=by rw[w!,au];exact W2 _
 generalize p! k0.1 []=Bq at CW Fh Ra Rb;clear s2 Uw AQ B7 ED s1 Fs
 have Rc:=Gg _ _ ei;have LS:=CY.mono (n! Gg);refine⟨_,rfl,ia,rfl,⟨_,k! Rc⟩,jQ (K:=K) (λk=>decide (1<k.2)) Rc LS (by omega) (λz ka H2 R sm hz r=>⟨_,rfl,ka,_,1,_,rfl,rfl,k! hz,at1,_,_,rfl,rfl,_,rfl,r⟩) (λka H2 R r=>⟨_,rfl,r⟩) (λwd bs H3 hD e' QO AY=>?_)⟩;have s3:j! H2 H3:=by rw[e'];exact aj hD _
 have Np:H3 wd=some (.lst (bs.map λz=>i! z.2)):=by rw[e'];exact ad
 clear e';refine⟨lnE rfl,λGY LU=>?_⟩;have Rf:=s3 _ _ (Gg _ _ Uv);have s4:j! H3 (upd H3 GY (.lst [])):=aj LU _;refine⟨_,rfl,_,rfl,cl,_,rfl,l! (s4 _ _ Rf),λcc Fp=>?_⟩;have Ux:GY≠cc:=λz=>by rw[<-z,ad]at Fp;cases Fp
 have s5:j! H3 (upd (upd H3 GY (.lst [])) cc (.lst (cR xs none (some 96)))):=s4.trans (aj Fp _);have C8:(upd (upd H3 GY (.lst [])) cc (.lst (cR xs none (some 96)))) GY=some (.lst []):=by rw[af Ux,ad]
 have Nq:(upd (upd H3 GY (.lst [])) cc (.lst (cR xs none (some 96)))) cc=some (.lst (cR xs none (some 96))):=ad;generalize(upd (upd H3 GY (.lst [])) cc (.lst (cR xs none (some 96))))=H5 at s5 C8 Nq |-;have GZ:∀v∈cR xs none (some 96),∃z,v=.int z:=λv hv=>hint v (Zz (Y4 hv));have Am:=d4 xs none (some 96);generalize cR xs none (some 96)=ys at Nq GZ Am |-;have Rg:=CW.mono (n! s3);have sb:j! H H3:=Gg.trans s3;have Nr:=sb _ _ ei;have Gh:=CY.mono (n! sb)
 have Rh:∀z∈bs,z.1∈ins/\1<z.1.2/\KAt H3 z.1 z.2:=λz hz=>by
  obtain⟨h1,h2,h3⟩:=AY z hz;exact⟨h1,e! h2,s3 _ _ h3⟩
 clear AY CW LS Rc s4;refine⟨cc,rfl,⟨_,l! Nq⟩,?_⟩
 refine kP (K:=K) (a:=cc) (xs:=ys) (λi Y H6=>Ex7 λ(AG:WT)(es:List WT)(ts:List Th)(c5 c6 c7 c8:Option V)=>zm (Y=[some (.ref cl),some (.ref ia),some (.ref lf),some (.ref wd),some (.ref AG),c5,c6,c7,c8]) (j! H3 H6) (H3 AG=none) (AG≠cc) (H6 cc=some (.lst ys)) (H6 AG=some (.lst (es.map i!))) (Xz (EH H6) ts es) ((∀t∈ts,t.Fit ins)) ((∀t∈ts,t.tall<=20)) (ts.length<=i) (au ts<=i))
  ⟨GY,[],[],none,none,none,none,rfl,s5,LU,Ux,Nq,C8,.nil,(λt ht=>by cases ht),(λt ht=>by cases ht),W2 _,W2 _⟩ (λi Y H6 _⟨_,_,_,_,_,_,_,_,_,_,_,h,_,_,_,_,_,_⟩=>l! h) ?_ ?_
 .rintro i x Y H6 hx ⟨AG,es,ts,c5,c6,c7,c8,rfl,s6,C9,Gi,KI,erw,Bw,Aa,LV,Uy,hsz⟩;obtain⟨c,rfl⟩:=GZ x (WR hx);have E6:i<ys.length:=(glE hx);have Fs:ts.length=es.length:=W5 Bw;have Ri:((es.map i!).length:Int)=(es.length:Int):=by rw[WO]
  refine⟨_,rfl,_,rfl,AG,_,rfl,.inl (l! erw),_,_,rfl,by omega,by omega,λrest r0 r1=>?_⟩;have Uz:=s6 _ _ Nr;have m0:=XM rest (show((Aw.map i!).length:Int)≠0 by rw[WO];omega);have m1:=XF rest (show(0:Int)<((Aw.map i!).length:Int)by rw[WO];omega);refine hid λZZ kZ=>?_;obtain⟨k0,DN⟩:∃k0,ins[(rest%((Aw.map i!).length:Int)).toNat]?=some k0:=⟨_,WS (by rw[WO]at m0 m1 |-;omega)⟩;obtain⟨ka,AI,Cb⟩:=y! Gh DN;refine kZ ?_;have B7:=WR DN;have CU:=gi.num k0 B7;have AQ:=s6 _ _ Cb;refine⟨_,rfl,_,rfl,_,rfl,ia,_,rfl,.inr (k! Uz),_,_,rfl,rfl,(by show(0:Int)<((Aw.map i!).length:Int);rw[WO];omega),ia,_,_,.ref ka,rfl,rfl,k! Uz,at_nonneg m0 (gmE AI),?_⟩
  obtain⟨lo,Sx,ab4⟩:∃lo:Nat,(if((es.map i!).length:Int) - k0.2 > 0 then((es.map i!).length:Int) - k0.2 else 0)=(lo:Int)/\lo=es.length - k0.2.toNat:=by
   refine⟨es.length - k0.2.toNat,?_,rfl⟩;rw[Ri];split <;> omega
  have Fi:cR (es.map i!) (some (lo:Int)) none=(es.drop lo).map i!:=by rw[jk (by rw[WO];omega),List.map_drop]
  refine⟨_,rfl,_,rfl,_,rfl,AG,_,rfl,.inl (l! erw),_,rfl,ka,_,1,_,rfl,rfl,k! AQ,at1,_,_,rfl,rfl,_,_,rfl,_,rfl,AG,_,rfl,l! erw,λs1l N6=>?_⟩;dsimp only;rw[Sx,Fi];refine gU N6 λH7 sA eA=>?_
  have Rj:(Xr (if decide ((0:Int)<k0.2)=true then(1:Int)else 0).toNat ((es.drop lo).map i!)).flatten=(es.drop lo).map i!:=by
   by_cases hc:(0:Int)<k0.2
   .rw[d! hc];simp
   .have:es.drop lo=[]:=List.drop_eq_nil_of_le (by omega);rw[this];simp
  have Rk:(if decide ((0:Int)<k0.2)=true then(1:Int)else 0)=0\/(if decide ((0:Int)<k0.2)=true then(1:Int)else 0)=1:=by split <;> simp
  refine⟨_,rfl,ka,_,1,_,rfl,rfl,k! (sA _ _ AQ),at1,_,_,rfl,rfl,.inr ⟨_,rfl,s1l,_,_,rfl,rfl,eA,by omega,by omega,be ?_,λrp hrp=>?_⟩⟩
  .have:((es.drop lo).map i!).length<=1000:=by rw[WO,XR];omega
   rcases Rk with z|z <;> rw[z] <;> simp <;> omega
  dsimp only;rw[Rj];have sB:=sA.trans (aj hrp (.lst ((es.drop lo).map i!)));have eB:(upd H7 rp (.lst ((es.drop lo).map i!))) rp=some (.lst ((es.drop lo).map i!)):=ad;generalize(upd H7 rp (.lst ((es.drop lo).map i!)))=H8 at sB eB |-;refine⟨ka,rp,k0,es.drop lo,ts.drop lo,rfl,sB _ _ AQ,jC (gi.low k0 B7).1,eB,v! (λ_ _ e=>EH.mono (n! sB) e) (P2.drop lo Bw),by rw[XR];omega,λmd H9 s9 GL=>?_⟩;have LW:j! H6 H9:=sB.trans s9;have Ed:=LW _ _ erw;have Iw:=LW _ _ KI;have LX:=LW _ _ AQ;have Gj:=v! (λ_ _ e=>EH.mono (n! LW) e) Bw;have LY:=s6.trans LW;obtain⟨mta,emd,hmA⟩:=id GL;dsimp only[az];refine cz (λb H'=>An2 (H9=H') ((b=false->k0.2<=(es.length:Int)/\(p! k0.1 (ts.drop lo)).tall<=20))) (λk2 Bb=>?_) (λH' hb=>?_) (λH' hb=>?_)
  .refine⟨_,rfl,ka,_,1,_,rfl,rfl,k! LX,at1,_,rfl,AG,_,rfl,.inl (l! Ed),_,_,rfl,rfl,_,rfl,?_⟩;refine dh (λc1=>Bb _ _ ⟨rfl,λz=>by cases z⟩) (λc1=>?_);refine⟨_,rfl,md,_,1,_,rfl,rfl,k! emd,at1,_,_,rfl,rfl,_,rfl,Bb _ _ ⟨rfl,λz2=>⟨?_,?_⟩⟩⟩
   .have:¬((es.map i!).length:Int)<k0.2:=λz=>c1 (d! z);omega
   .have:=of_decide_eq_false z2;omega
  .obtain⟨rfl,_⟩:=hb;refine⟨_,rfl,.inl ⟨rfl,_,l! Ed⟩,_,rfl,_,rfl,_,_,rfl,rfl,⟨by decide,by decide⟩,ia,Aw,ins,_,rfl,LY _ _ Nr,Gh.mono (n! LY),gi,λk1 QW DD Cf Er QX Rl=>?_⟩;refine⟨lnE rfl,λel LZ=>?_⟩;refine⟨QW,el,k1,[],[],rfl,aj LZ _ _ _ Rl,jC (gi.low k1 Er).1,ad,.nil,XB _,λl2 Gw Eg BI=>?_⟩;have sC:j! H9 Gw:=Cf.trans ((aj LZ _).trans Eg);refine⟨AG,_,_,rfl,rfl,sC _ _ Ed,lbE (by omega),?_⟩;have kt:KT Gw (upd Gw AG (.lst (es.map i!++[.ref l2]))):=bx (sC _ _ Ed);refine⟨AG,es++[l2],ts++[.knot k1.1 []],_,_,_,_,rfl,aF (LY.trans sC) C9,C9,Gi,by rw[af Gi.symm];exact sC _ _ Iw,uAE,q! (v! (λ_ _ e=>EH.mono ((n! sC).trans kt) e) Gj) (.cons (BI.mono kt) .nil),λt ht=>?_,λt ht=>?_,by rw[W6];show ts.length+1<=i+1;omega,by rw[bf,au,au,w!,au];omega⟩
   rotate_left
   .rcases W7.mp ht with ht|ht
    .exact LV t ht
    .rw[WZ.mp ht,r!,aB];decide
   rcases W7.mp ht with ht|ht
   .exact Aa t ht
   .rw[WZ.mp ht];exact DO k1 Er QX
  .obtain⟨rfl,hb⟩:=hb;obtain⟨hle,EW⟩:=hb rfl;have hn:(((es.map i!).length:Int) - k0.2)=(lo:Int):=by rw[Ri];omega
   refine⟨_,rfl,_,rfl,AG,_,rfl,.inl (l! Ed),_,rfl,ka,_,1,_,rfl,rfl,k! LX,at1,_,_,rfl,rfl,_,rfl,AG,_,rfl,l! Ed,λs2l G7=>?_⟩;dsimp only;rw[hn,qK (by rw[WO];omega)];refine gU G7 λDD sC eC=>?_;refine⟨_,rfl,lnE rfl,λRm Gk=>?_⟩;have sD:=sC.trans (aj Gk (.lst [.ref md]));refine⟨s2l,Rm,_,_,rfl,rfl,aj Gk _ _ _ eC,ad,be (by rw[XI,WO];show min lo es.length+1<=1000000;omega),λnr Et=>?_⟩;have sE:=sD.trans (aj Et (.lst ((es.map i!).take lo++[.ref md])));have Iy:H9 nr=none:=sD.free Et;refine⟨nr,es.take lo++[md],ts.take lo++[.knot k0.1 (ts.drop lo)],_,_,_,_,rfl,LY.trans sE,LY.free Iy,(λz=>by rw[z,Iw]at Iy;cases Iy),sE _ _ Iw,by rw[ad,W9,List.map_take];rfl,q! (v! (λ_ _ e=>EH.mono (n! sE) e) (P2.take lo Gj)) (.cons (GL.mono (n! sE)) .nil),λt ht=>?_,λt ht=>?_,by rw[W6,XI];show min lo ts.length+1<=i+1;omega,by rw[bf,au,au,w!];have:=mK lo ts;omega⟩
   rotate_left
   .rcases W7.mp ht with ht|ht
    .exact LV t (Y4 ht)
    .rw[WZ.mp ht];exact EW
   rcases W7.mp ht with ht|ht
   .exact Aa t (Y4 ht)
   .rw[WZ.mp ht,E!];refine⟨?_,Fits.of λu hu=>Aa u (Zz hu)⟩;have:(k0.1,((ts.drop lo).length:Int))=k0:=Prod.ext rfl (by show(((ts.drop lo).length:Nat):Int)=k0.2;rw[XR];omega);rw[this];exact B7
 .rintro Y H6 ⟨AG,es,ts,c5,c6,c7,c8,rfl,s6,C9,Gi,KI,erw,Bw,Aa,LV,Uy,hsz⟩;have Iz:ts.length<=1000:=by omega
  have Rn:ts.length=es.length:=W5 Bw
  have JA:∀t∈ts,t.tall+es.length<=80:=λt ht=>by
   have:=LV t ht;omega
  have Fj:es.length<=60:=by omega
  have CO:au ts+3 * es.length<=260:=by omega
  clear Uy KI Gi LV Rn;refine⟨λm Y H6=>Ex7 λ(AG:WT)(es:List WT)(ts:List Th)(c5 c6 c7 c8:Option V)=>xu (Y=[some (.ref cl),some (.ref ia),some (.ref lf),some (.ref wd),some (.ref AG),c5,c6,c7,c8]) (j! H3 H6) (H6 AG=some (.lst (es.map i!))) (Xz (EH H6) ts es) ((∀t∈ts,t.Fit ins)) ((∀t∈ts,t.tall+es.length<=80)) (es.length<=60) (ts.length<=1000) (au ts+3 * es.length<=260) (m=es.length),⟨_,AG,es,ts,c5,c6,c7,c8,rfl,s6,erw,Bw,Aa,JA,Fj,Iz,CO,rfl⟩,?_⟩;clear s6 C9 erw Bw Aa Iz JA Fj CO hsz;rintro m Y H6 ⟨AG,es,ts,c5,c6,c7,c8,rfl,s6,erw,Bw,Aa,JA,Fj,Iz,CO,rfl⟩;have Fs:ts.length=es.length:=W5 Bw;have Ri:((es.map i!).length:Int)=(es.length:Int):=by rw[WO]
  have Ee:=s6 _ _ Np;have DC:((bs.map λz=>i! z.2).length:Int)=(bs.length:Int):=by rw[WO]
  have CW:=Rg;refine vi (λb H'=>An2 (H6=H') ((b=true->(1:Int)<((es.map i!).length:Int)/\(0:Int)<((bs.map λz=>i! z.2).length:Int)))) (λk2 Bb=>?_) (λb H' hb=>?_)
  .refine⟨_,rfl,AG,_,rfl,.inl (l! erw),_,_,rfl,rfl,_,rfl,?_⟩;refine dh (λc1=>?_) (λc1=>Bb _ _ ⟨rfl,λz=>g! z Xn⟩);exact⟨_,rfl,wd,_,rfl,.inl (l! Ee),_,_,rfl,rfl,_,rfl,Bb _ _ ⟨rfl,λz=>⟨e! c1,e! z⟩⟩⟩
  obtain⟨rfl,hb⟩:=hb;cases b with
  | true =>
    obtain⟨N8,UA⟩:=hb rfl;refine qf ?_;refine⟨λi' H'=>∃m',m'<es.length/\Ex7 λ(AG:WT)(es:List WT)(ts:List Th)(c5 c6 c7 c8:Option V)=>xu (i'=[some (.ref cl),some (.ref ia),some (.ref lf),some (.ref wd),some (.ref AG),c5,c6,c7,c8]) (j! H3 H') (H' AG=some (.lst (es.map i!))) (Xz (EH H') ts es) ((∀t∈ts,t.Fit ins)) ((∀t∈ts,t.tall+es.length<=80)) (es.length<=60) (ts.length<=1000) (au ts+3 * es.length<=260) (m'=es.length),λi' H' h=>h,?_⟩;have m0:=XM ((es.map i!).length:Int) (show((bs.map λz=>i! z.2).length:Int)≠0 by omega);have m1:=XF ((es.map i!).length:Int) UA;refine hid λZZ kZ=>?_;obtain⟨z,hz⟩:∃z,bs[(((es.map i!).length:Int)%((bs.map λz=>i! z.2).length:Int)).toNat]?=some z:=⟨_,WS (by omega)⟩;obtain⟨B7,EV,Cb⟩:=Rh z (WR hz);obtain⟨k0,ka⟩:=z;refine kZ ?_;dsimp only at B7 EV Cb hz;have CU:=gi.num k0 B7;have AQ:=s6 _ _ Cb;refine⟨_,rfl,_,rfl,AG,_,rfl,.inl (l! erw),_,rfl,wd,_,rfl,.inl (l! Ee),_,_,rfl,rfl,UA,wd,_,_,.ref ka,rfl,rfl,l! Ee,at_nonneg m0 (gmE hz),?_⟩;obtain⟨kn,Fc⟩:∃kn:Nat,k0.2=(kn:Int):=⟨k0.2.toNat,by omega⟩
    have Fi:cR (es.map i!) (some (kn:Int)) none=(es.drop kn).map i!:=by
     by_cases hc:kn<=es.length
     .rw[jk (by rw[WO];exact hc),List.map_drop]
     .have h1:es.drop kn=[]:=List.drop_eq_nil_of_le (by omega);have h2:t! (es.map i!).length 0 (some (kn:Int))=(es.map i!).length:=by rw[x!,WO];omega
      unfold cR;rw[h1,h2,List.drop_length];simp
    refine⟨_,rfl,_,rfl,ka,_,1,_,rfl,rfl,k! AQ,at1,_,rfl,AG,_,rfl,l! erw,λdl IY=>?_⟩;dsimp only;rw[Fc,Fi];refine gU IY λH7 sA eA=>?_;refine⟨_,rfl,_,rfl,_,rfl,_,rfl,lnE rfl,λll DV=>?_⟩;have UB:=aj DV (.lst [.ref lf,.ref lf]);have sB:=sA.trans UB;refine⟨AG,ll,_,_,rfl,rfl,sB _ _ erw,ad,be (by rw[WO];show es.length+2<=1000000;omega),λNt Cp=>?_⟩;have Ro:=UB.trans (aj Cp (.lst (es.map i!++[.ref lf,.ref lf])));have eC:(upd (upd H7 ll (.lst [.ref lf,.ref lf])) Nt (.lst (es.map i!++[.ref lf,.ref lf]))) Nt=some (.lst ((es++[lf,lf]).map i!)):=by rw[ad,W9];exact rfl
    generalize(upd (upd H7 ll (.lst [.ref lf,.ref lf])) Nt (.lst (es.map i!++[.ref lf,.ref lf])))=H8 at Ro eC |-;have sC:=sA.trans Ro;refine⟨_,rfl,ka,_,1,_,rfl,rfl,k! (sC _ _ AQ),at1,_,rfl,Nt,_,rfl,l! eC,λtl Ao=>?_⟩;have ab5:(es++[lf,lf]).length=es.length+2:=by rw[W6];rfl
    dsimp only;rw[Fc,qK (by rw[WO];omega),<-List.map_take];have Rp:=Ro.trans (aj Ao (.lst (((es++[lf,lf]).take kn).map i!)));have eD:(upd H8 tl (.lst (((es++[lf,lf]).take kn).map i!))) tl=some (.lst (((es++[lf,lf]).take kn).map i!)):=ad;generalize(upd H8 tl (.lst (((es++[lf,lf]).take kn).map i!)))=H9 at Rp eD |-;have sD:=sA.trans Rp;have L3:=CW.mono (n! (s6.trans sD));have Gj:Xz (EH H9) (ts++[Bq,Bq]) (es++[lf,lf]):=q! (v! (λ_ _ e=>EH.mono (n! sD) e) Bw) (.cons L3 (.cons L3 .nil));refine⟨ka,tl,k0,(es++[lf,lf]).take kn,(ts++[Bq,Bq]).take kn,rfl,sD _ _ AQ,jC (gi.low k0 B7).1,eD,P2.take kn Gj,by rw[XI,W6];show min kn (ts.length+2)<=1000;omega,λmd DD Cf GL=>?_⟩;have sE:=sD.trans Cf;have Rq:=Cf _ _ (Rp _ _ eA);refine⟨lnE rfl,λRm Gk=>?_⟩;have sF:=aj Gk (.lst [.ref md]);refine⟨dl,Rm,_,_,rfl,rfl,sF _ _ Rq,ad,be (by rw[WO,XR];show es.length - kn+1<=1000000;omega),λnr Et=>?_⟩;have sG:=sF.trans (aj Et (.lst ((es.drop kn).map i!++[.ref md])));have sH:=sE.trans sG;refine⟨(es.drop kn++[md]).length,?_,nr,es.drop kn++[md],ts.drop kn++[.knot k0.1 ((ts++[Bq,Bq]).take kn)],_,_,_,_,rfl,s6.trans sH,uAE,q! (v! (λ_ _ e=>EH.mono (n! sH) e) (P2.drop kn Bw)) (.cons (GL.mono (n! sG)) .nil),λt ht=>?_,λt ht=>?_,by rw[W6,XR];show es.length - kn+1<=60;omega,by rw[W6,XR];show ts.length - kn+1<=1000;omega,?_,rfl⟩
    .rw[W6,XR];show es.length - kn+1<es.length;omega
    rotate_left 2
    .have BI:(es.drop kn++[md]).length=es.length - kn+1:=by rw[W6,XR];rfl
     rw[BI,bf,au,au,w!,List.take_append,bf];have h1:=mK kn ts;have h2:=lB (kn - ts.length) [Bq,Bq];have h3:au [Bq,Bq]<=2:=by rw[au,au,au];omega
     omega
    rotate_left
    .have BI:(es.drop kn++[md]).length=es.length - kn+1:=by rw[W6,XR];rfl
     rw[BI];rcases W7.mp ht with ht|ht
     .have:=JA t (Zz ht);omega
     .rw[WZ.mp ht,r!]
      have h1:aB ((ts++[Bq,Bq]).take kn)<=80 - es.length:=eJ λu hu=>by
       rcases W7.mp (Y4 hu)with hu|hu
       .have:=JA u hu;omega
       .have:u=Bq:=by
         rcases Xb.mp hu with h|h
         .exact h
         .exact WZ.mp h
        rw[this];omega
      omega
    .rcases W7.mp ht with ht|ht
     .exact Aa t (Zz ht)
     .rw[WZ.mp ht,E!];refine⟨?_,Fits.of λu hu=>?_⟩
      .have:(k0.1,(((ts++[Bq,Bq]).take kn).length:Int))=k0:=Prod.ext rfl (by
        show((((ts++[Bq,Bq]).take kn).length:Nat):Int)=k0.2;rw[XI,W6];show((min kn (ts.length+2):Nat):Int)=k0.2;omega)
       rw[this];exact B7
      .rcases W7.mp (Y4 hu)with hu|hu
       .exact Aa u hu
       .have:u=Bq:=by
         rcases Xb.mp hu with h|h
         .exact h
         .exact WZ.mp h
        rw[this];exact Fh
  | false =>
    refine sZ ?_;refine⟨_,rfl,_,rfl,lnE rfl,λl1 CC=>?_⟩;have s7:=aj CC (.lst [.ref lf]);refine⟨AG,l1,_,_,rfl,rfl,s7 _ _ erw,ad,be (by rw[WO];show es.length+1<=1000000;omega),λcr Ou=>?_⟩;have s8:=s7.trans (aj Ou (.lst (es.map i!++[.ref lf])));have Rr:=s8 _ _ erw;refine hid λZZ kZ=>?_
    obtain⟨e0,t0,IU,Rt,hF0,hT0,hZ0⟩:∃e0 t0,(es++[lf])[es.length - 1]?=some e0/\EH H6 t0 e0/\t0.Fit ins/\t0.tall<=79/\t0.size<=300:=by
     by_cases hz:es.length=0
     .refine⟨lf,_,?_,CW.mono (n! s6),Fh,by omega,by omega⟩;rw[Yy.mp hz];rfl
     .obtain⟨e0,IU⟩:∃e0,es[es.length - 1]?=some e0:=⟨_,WS (by omega)⟩;obtain⟨t0,Ru,Rt⟩:=B! Bw IU;exact⟨e0,t0,by rw[XA (by omega)];exact IU,Rt,Aa t0 (WR Ru),by have:=JA t0 (WR Ru);omega,by have:=mi (WR Ru);omega⟩
    obtain⟨UC,ee0,Hz⟩:=Rt;refine kZ ?_
    have E6:atI (es.map i!++[.ref lf]) (if((es.map i!).length:Int) - 1 > 0 then((es.map i!).length:Int) - 1 else 0)=some (.ref e0):=by
     have hi:(if((es.map i!).length:Int) - 1 > 0 then((es.map i!).length:Int) - 1 else 0)=((es.length - 1:Nat):Int):=by
      rw[WO];split <;> omega
     rw[hi];refine bw ?_;have:es.map i!++[i! lf]=(es++[lf]).map i!:=by rw[W9];rfl
     rw[this,Xj,IU];rfl
    refine⟨_,rfl,AG,_,rfl,.inl (l! Rr),_,_,rfl,rfl,_,_,rfl,cr,_,_,.ref e0,rfl,rfl,l! ad,E6,e0,_,0,.ref UC,rfl,rfl,k! (s8 _ _ ee0),at0,?_⟩;exact q t0 UC _ ((sb.trans s6).trans s8) (Hz.mono (n! s8)) hF0 hT0 hZ0
theorem kU:∀{ts:List Th}{as:List WT},ts.length=as.length->(∀(i:Nat)(a:WT)(t:Th),as[i]?=some a->ts[i]?=some t->At H t a)->Ats H ts as
 | [],[],_,_=>.nil
 | [],a::as,h,_=>by simp at h
 |t::ts,[],h,_=>by simp at h
 |t::ts,a::as,h,g=>.cons (g 0 a t rfl rfl) (kU (by simpa using h) λi b u hb hu=>g (i+1) b u (by simpa using hb) (by simpa using hu))
theorem vL(n:Nat)(z:WT):(Xr n [i! z]).flatten=(Xr n z).map i!:=by
 induction n with
 |zero=>rfl
 |succ n ih=>rw[Yv,Z2,ih,Yv];rfl
theorem oG{R:Th->Prop}{B:Nat}:∀{ts:List Th}{as:List WT},Xz (λ(z:Th)a=>∃t',At H t' a/\R t'/\t'.size<=z.size * B) ts as->∃Dc:List Th,Dc.length=ts.length/\Ats H Dc as/\(∀t∈Dc,R t)/\Xz (λf t=>w! f<=t.size * B) Dc ts
 |_,_,.nil=>⟨[],rfl,.nil,(λt ht=>by cases ht),.nil⟩
 | _,_,.cons r h=>by
   refine hid λZZ kZ=>?_;obtain⟨t',h1,h2,h3⟩:=r;obtain⟨Dc,g1,g2,g3,g4⟩:=oG h;refine kZ ?_;refine⟨t'::Dc,by rw[W8,W8,g1],.cons h1 g2,λt ht=>?_,.cons h3 g4⟩;rcases Xb.mp ht with rfl|ht
   .exact h2
   .exact g3 t ht
def di:Nat->Sp
 |0=>λ_ _ _ _=>False
 |n+1=>λvs H Q _=>∃(pa ka la:WT)(outs:List (Xk×Int))(S C:Int)(p:Th)(k1:Xk×Int)(ln:Xk)(many:Int),vs=[.ref pa,.ref ka,.ref la,.int many]/\At H p pa/\p.FitS outs S C/\bq outs/\KAt H k1 ka/\k1∈outs/\0<k1.2/\At H (.knot ln []) la/\(ln,(0:Int))∈outs/\0<=many/\many<=20/\p.tall<=n+1/\∀(p':Th)(r:WT)(H':Hp),j! H H'->At H' p' r->p'.FitS outs S C->p'.tall<=p.tall+many.toNat->p'.size<=p.size * (1+3 * many.toNat)->Q (.ref r) H'
theorem fE:∀n:Nat,FnOk P w K mg base CX0 n T.g__law_wrapped.f T.g__law_wrapped.d ["pattern","kind","leaf","many"] (di n)
 |0=>⟨λ_ _ _ _ h=>h.elim,λ_ _ _ _ _ _ _ _ _ _ _ _ _ h=>h.elim⟩
 | n+1=>by
   have ih:=fE n;refine T.g__law_wrapped.F.ok cC (λvs H Q E h=>?_) (λAj A outer s H vs Q E hr h=>?_)
   .obtain⟨pa,ka,la,outs,S,C,p,k1,ln,many,rfl,_⟩:=h;rfl
   obtain⟨pa,ka,la,outs,S,C,p,k1,ln,many,rfl,hA,hF,go,AQ,Er,Fl,L4,DJ,m0,m1,Ao,q⟩:=h
   refine⟨_,(ag (cu (aO fD (aw ax (pv 0) ai (λ_ _=>rfl)) cD (aS _)) (ag (bH XE rfl (cp rfl T.n_range (ac (pv 3) ae)) (pgN 4 cC.nd) (ag (ao 5 cC.nd (av uq (aN (ac (pv 2) ae)) (aw ax (pv 1) ai (λ_ _=>rfl))))
    (ag (kW (pv 0) (vg (pv 5) (av bv (pv 4) (aw ax (pv 1) ai (λ_ _=>rfl))) set_list))
    (am (ao 0 cC.nd (av dJ (aR (ac (aw ax (pv 1) ai (λ_ _=>rfl)) ae)) (aL aJ rfl T.n_tuple XC (ac (pv 5) ae))))))))
    (am (aE (pv 0)))) bB)
    (am (aE (av dJ (aR (ac (aw ax (pv 0) ai (λ_ _=>rfl)) ae)) (aL aJ rfl T.n_tuple XC (ac (bR (N:=[WU "part",WU "kind",WU "leaf",WU "many"]) (js:=[none,some 1,some 2,some 3]) (g:=(az 0)) (tt:=bu) (te:=(f9 (di _) [] E0 (aU (bc 0) (aU (bc 1) (aU (bc 2) (aU (bc 3) dS)))))) rfl (bX rfl (by decide +kernel) (by decide +kernel) rfl rfl rfl) (ck (aW dX (pv 0) (bp ai) bt)) (λ_ _ _ _ _ _=>(pgN 0 zt)) (aP rfl) (λ_ _ _ _ _ _=>bC) (λ_ _ _ _ _ _=>(cB (ih) (hr.mono (W2 _)) rfl T.g__law_wrapped.m T.g__law_wrapped.F.kp T.g__law_wrapped.b .nil cK (ac (pv 0) (ac (pv 1) (ac (pv 2) (ac (pv 3) ae))))))) ae)))))),?_⟩
   try dsimp only[AK,Ad]
   have CU:=go.num k1 Er;cases p with
   | call sn cn =>
     have Fz:=hA;rw[At]at Fz;refine⟨_,rfl,pa,_,0,.str BB.q,rfl,rfl,k! Fz,at0,rfl,_,rfl,?_⟩;refine dh (λ_=>?_) (λc=>g! (d! rfl) c);refine⟨_,rfl,_,rfl,by omega,by omega,?_⟩
     have UD:(p! ln []).FitS outs S C:=by
      rw[G!,FitSs];exact⟨DJ,trivial⟩
     have hlT:(p! ln []).tall<=1:=by rw[r!,aB];exact W2 _
     have UE:(p! ln []).size<=1:=by rw[w!,au];exact W2 _
     generalize p! ln []=Bq at L4 UD hlT UE
     refine cm (n:=many.toNat) (λi Y H5=>Ex4 λ(ta:WT)(t:Th)(c5 c6:Option V)=>An6 (Y=[some (.ref ta),some (.ref ka),some (.ref la),some (.int many),c5,c6]) (j! H H5) (At H5 t ta) (t.FitS outs S C) (t.tall<=1+i) (t.size<=1+3 * i))
      ⟨pa,.call sn cn,none,none,rfl,.refl _,hA,hF,by rw[r!];exact W2 _,by rw[w!];exact W2 _⟩ ?_ ?_
     .rintro i Y H5 hi ⟨ta,t,c5,c6,rfl,s5,Rv,Rw,Rx,UG⟩;have Fe:H5 ka=some (.tup [.str k1.1,.int k1.2]):=s5 _ _ AQ;refine⟨_,rfl,lnE rfl,λl1 CC=>?_⟩;have sa:=aj CC (.lst [.ref la]);have e1:(upd H5 l1 (.lst [.ref la])) l1=some (.lst [.ref la]):=ad;generalize(upd H5 l1 (.lst [.ref la]))=H6 at sa e1 |-;refine⟨_,rfl,ka,_,1,_,rfl,rfl,k! (sa _ _ Fe),at1,l1,_,_,rfl,rfl,e1,by omega,by omega,be (by show 1 * k1.2.toNat<=1000000;omega),λkl AM=>?_⟩;dsimp only;rw[vL];obtain⟨kn,Fc⟩:∃kn:Nat,k1.2.toNat=kn:=⟨_,rfl⟩;rw[Fc];refine gU AM λH7 s7 e7=>?_;have Ry:=s7 _ _ (sa _ _ Fe);have y0:=XM (0+(i:Int)) (show k1.2≠0 by omega);have y1:=XF (0+(i:Int)) Fl;obtain⟨ix,E6⟩:∃ix:Nat,(0+(i:Int))%k1.2=(ix:Int):=⟨_,(Yd y0).symm⟩;refine⟨_,rfl,_,rfl,_,rfl,_,rfl,ka,_,1,_,rfl,rfl,k! Ry,at1,_,_,rfl,rfl,Fl,kl,_,_,ix,rfl,rfl,e7,?_,?_⟩
      .rw[E6];unfold ixN;rw[b! (by omega),b! (by rw[WO,YX];omega)];simp
      have e8:(upd H7 kl (.lst (((Xr kn la).map i!).set ix (.ref ta)))) kl=some (.lst (((Xr kn la).set ix ta).map i!)):=by rw[ad,List.map_set]
      have kt8:KT H7 (upd H7 kl (.lst (((Xr kn la).map i!).set ix (.ref ta)))):=bx e7;have Rz:H5 kl=none:=sa.free AM;have s8:j! H5 (upd H7 kl (.lst (((Xr kn la).map i!).set ix (.ref ta)))):=aF (sa.trans s7) Rz;generalize(upd H7 kl (.lst (((Xr kn la).map i!).set ix (.ref ta))))=H8 at e8 kt8 s8 |-
      have D3:Ats H8 ((Xr kn Bq).set ix t) ((Xr kn la).set ix ta):=by
       refine kU (by rw[List.length_set,List.length_set,YX,YX]) λj a u ha hu=>?_;by_cases hj:ix=j
       .subst hj;rw[X2 (by rw[YX];omega)]at ha hu;cases ha;cases hu;exact Rv.mono (n! s8)
       .rw[Yq hj]at ha hu;have h1:=ZC (WR ha);have h2:=ZC (WR hu);rw[h1,h2];exact L4.mono (n! (s5.trans s8))
      refine⟨_,rfl,ka,_,0,.str k1.1,rfl,rfl,k! (s8 _ _ Fe),at0,lnE rfl,λp1 DI=>?_⟩;dsimp only;have s9:=aj DI (.tup [.str k1.1]);have e9:(upd H8 p1 (.tup [.str k1.1])) p1=some (.tup [.str k1.1]):=ad;generalize(upd H8 p1 (.tup [.str k1.1]))=H9 at s9 e9 |-;refine⟨_,rfl,kl,_,rfl,.inl ⟨l! (s9 _ _ e8),λtp By=>?_⟩⟩;have Cf:=aj By (.tup (((Xr kn la).set ix ta).map i!));have GQ:(upd H9 tp (.tup (((Xr kn la).set ix ta).map i!))) tp=some (.tup (((Xr kn la).set ix ta).map i!)):=ad;generalize(upd H9 tp (.tup (((Xr kn la).set ix ta).map i!)))=DD at Cf GQ |-;refine nN (Cf _ _ e9) GQ (by rw[WO,List.length_set,YX];show 1+kn<=1000000;omega) λp Gw Eg RA=>?_;have Dy:=s9.trans (Cf.trans Eg);refine⟨p,.knot k1.1 ((Xr kn Bq).set ix t),_,_,rfl,s5.trans (s8.trans Dy),?_,?_,?_,?_⟩
      .rw[At];exact⟨jC (go.low k1 Er).1,_,RA,D3.mono (n! Dy)⟩
      .rw[G!];refine⟨?_,FitSs.of λu hu=>?_⟩
       .have:(k1.1,(((Xr kn Bq).set ix t).length:Int))=k1:=Prod.ext rfl (by
         show((((Xr kn Bq).set ix t).length:Nat):Int)=k1.2;rw[List.length_set,YX];omega)
        rw[this];exact Er
       .rcases List.mem_or_eq_of_mem_set hu with hu|hu
        .rw[ZC hu];exact UD
        .rw[hu];exact Rw
      .rw[r!]
       have:aB ((Xr kn Bq).set ix t)<=1+i:=eJ λu hu=>by
        rcases List.mem_or_eq_of_mem_set hu with hu|hu
        .rw[ZC hu];omega
        .rw[hu];exact Rx
       omega
      .rw[w!];have h0:(Xr kn Bq)[ix]?=some Bq:=by rw[List.getElem?_replicate,b! (by omega)]
       have h1:=mO (x:=t) h0;have h2:=mB Bq kn;have h3:kn * Bq.size<=kn * 1:=Nat.mul_le_mul_left _ UE;have h4:0<Bq.size:=size_pos Bq;omega
     .rintro Y H5 ⟨ta,t,c5,c6,rfl,s5,Rv,Rw,Rx,UG⟩;exact⟨_,rfl,q t ta H5 s5 Rv Rw (by rw[r!];exact Rx) (by rw[w!,Nat.one_mul];exact UG)⟩
   | knot m ts =>
     rw[r!]at Ao;have Nu:=hF;rw[G!]at Nu
     have hw:ts.length<=3:=by
      have:=(go.num _ Nu.1).2;have h2:((ts.length:Nat):Int)<=3:=this;omega
     rw[At]at hA;refine hid λZZ kZ=>?_;obtain⟨Gm,BA,ea,B6⟩:=hA;refine kZ ?_;have D9:BA.length=ts.length:=B6.length;refine⟨_,rfl,pa,_,0,.str m,rfl,rfl,k! ea,at0,rfl,_,rfl,?_⟩;refine dh (λc=>g! (e! c) (λz=>Gm (V.str.inj z))) (λ_=>?_);refine⟨_,rfl,pa,_,0,.str m,rfl,rfl,k! ea,at0,lnE rfl,λp1 DI=>?_⟩;dsimp only;refine gU DI λH1 s1 e1=>?_;refine⟨_,rfl,1,rfl,pa,_,rfl,k! (s1 _ _ ea),?_,λp2 Bp=>?_⟩
     .rintro⟨z,_⟩;rw[W8,show(1:Int)=((1:Nat):Int)by rfl,x!]at z;omega
     dsimp only;rw[cy];refine gU Bp λH2 s2 e2=>?_;have E8:=s1.trans s2;refine⟨p2,rfl,⟨_,k! e2⟩,i4 (F:=λH(z:Th)a=>∃t',At H t' a/\t'.FitS outs S C/\t'.tall<=aB ts+many.toNat/\t'.size<=z.size * (1+3 * many.toNat)) (xs:=BA.map i!) ts (λH1 H2 z p kt h=>by obtain⟨t',h1,h2⟩:=h;exact⟨t',h1.mono kt,h2⟩) (by rw[WO];omega) (by rw[WO];omega) (λi Hx sx hi=>⟨_,_,k! (sx _ _ e2),WS hi⟩) (λHx sx=>⟨_,k! (sx _ _ e2),W2 _⟩) (λi Hx x Hy sx hi hy=>⟨hy.1,hy.2 _ (k! (sx _ _ e2))⟩) (λi x z Hx R W' hx Dx sx hR=>?_) (λD H3 as hD s3 eD DU=>?_)⟩
     .obtain⟨ua,rfl,Gn⟩:=aZ hx;obtain⟨u,hu,Gp⟩:=B6.get Gn;rw[Dx]at hu;cases hu;have G0:z∈ts:=WR Dx;have UH:=cj G0;have hut:=z.tall_eq;have G1:=E8.trans sx;cases n with
      |zero=>omega
      |succ n =>
      refine⟨_,rfl,_,rfl,_,rfl,_,rfl,ua,ka,la,outs,S,C,z,k1,ln,many,rfl,Gp.mono (n! G1),je Nu.2 z G0,go,G1 _ _ AQ,Er,Fl,L4.mono (n! G1),DJ,m0,m1,by omega,λp' r H4 s4 L5 RB ht4 UI=>?_⟩;exact hR H4 r s4 ⟨p',L5,RB,by omega,UI⟩
     have AR:ts.length=as.length:=W5 DU;refine hid λZZ kZ=>?_;obtain⟨Dc,DA,IC,CS,Fv⟩:=oG (R:=λt'=>t'.FitS outs S C/\t'.tall<=aB ts+many.toNat) (v! (λ_ _ h=>by obtain⟨t',h1,h2,h3,h4⟩:=h;exact⟨t',h1,⟨h2,h3⟩,h4⟩) DU);refine kZ ?_;refine⟨D,_,rfl,.inl ⟨l! eD,λtp By=>?_⟩⟩;refine gU By λH4 s4 e4=>?_;refine nN (s4 _ _ (s3 _ _ (s2 _ _ e1))) e4 (by rw[WO];show 1+as.length<=1000000;omega) λp H5 s5 e5=>?_;refine q (.knot m Dc) p H5 (E8.trans (s3.trans (s4.trans s5))) ?_ ?_ ?_ ?_
     .rw[At];exact⟨Gm,as,e5,IC.mono (n! (s4.trans s5))⟩
     .rw[G!,DA];exact⟨Nu.1,FitSs.of λt ht=>(CS t ht).1⟩
     .rw[r!,r!];have:=eJ λt ht=>(CS t ht).2;omega
     .rw[w!,w!,Nat.add_mul];have:=ox Fv;omega
theorem mx{R:α->Th->Prop}:∀{zs:List α}{as:List WT},Xz (λz a=>∃t',At H t' a/\R z t') zs as->∃Dc:List Th,Dc.length=zs.length/\Ats H Dc as/\∀(i:Nat)(z:α)(t:Th),zs[i]?=some z->Dc[i]?=some t->R z t
 |_,_,.nil=>⟨[],rfl,.nil,λi z t h=>by simp at h⟩
 | _,_,.cons r h=>by
   refine hid λZZ kZ=>?_;obtain⟨t',h1,h2⟩:=r;obtain⟨Dc,g1,g2,g3⟩:=mx h;refine kZ ?_;refine⟨t'::Dc,by rw[W8,W8,g1],.cons h1 g2,λi z t hz ht=>?_⟩;cases i with
   | zero =>
     simp at hz ht;subst hz;subst ht;exact h2
   |succ i=>exact g3 i z t (by simpa using hz) (by simpa using ht)
theorem wF{d d':Nat}{head:Th}(h:dj ins outs S d head rows)(hd:d<=d'):dj ins outs S d' head rows:=by
 refine⟨h.len,λrow hr=>⟨(h.row row hr).len,λj t k h1 h2=>?_⟩,h.hdf,h.hdt⟩;have:=(h.row row hr).fit j t k h1 h2;exact⟨this.1,by omega⟩
inductive eU(K:WX)(vs:List V)(H:Hp)(Q:VK)(_E:XK):Prop
 |mk (a:WT) (ns:List Int) (most deep:Int) (Aq:vs=[.ref a,.int most,.int deep]) (Ar:SqL K H a (ns.map o!)) (Ax:ns.length<=63) (AN:0<=most) (Bd:most<=100) (Co:0<=deep) (C4:deep<=2) (DT:∀(r b ta:WT)(ins outs:List (Xk×Int))(head:Th)(rows:List (List Th))(S:Int)(t:Th)(H':Hp),j! H H'->H' r=some (.tup [.ref b,.ref ta])->Bk H' ins outs head rows b->bq ins->bq outs->dj ins outs S (deep.toNat+9) head rows->S<=most->(∀row∈rows,∀p∈row,p.size<=364)->head.size<=364->At H' t ta->t.Fit ins->t.tall<=79->t.size<=300->Q (.ref r) H'):eU K vs H Q _E
def jU(K:WX):Sp:=eU K
theorem jW:FnOk P w K mg base CX0 10 T.g__law_setting.f T.g__law_setting.d ["script","most","deep"] (jU K):=by
 refine T.g__law_setting.F.okA aM λAj A outer s H vs Q E hr h=>?_;obtain⟨a,ns,most,deep,rfl,hS,Dh,m0,m1,d0,d1,q⟩:=h
 refine⟨_,(ag (ao 3 aM.nd (pcF T.g__law_kinds (gQ T) hr (ac (pcF T.g__law_cell (dC T) hr (ac (pv 0) (ac ai ae))) (ac cD ae))))
  (ag (ao 4 aM.nd (pcF T.g__law_kinds (gQ T) hr (ac (pcF T.g__law_cell (dC T) hr (ac (pv 0) (ac ai ae))) (ac (aw bh (aN (ac cD (ac cD ae))) (av bv (av bF (pcF T.g__law_cell (dC T) hr (ac (pv 0) (ac ai ae))) ai) ai) (λ_ _=>rfl)) ae))))
  (ag (ao 5 aM.nd (pcF T.g__law_cell (dC T) hr (ac (pv 0) (ac ai ae))))
  (ag (ao 6 aM.nd (pcF T.g__law_book (oo T) hr (ac (pv 5) (ac (pv 3) (ac (pv 4) (ac (av bv (av bF (pv 5) ai) (av bG (pv 1) ai)) (ac (pv 2) ae)))))))
  (ag (ao 7 aM.nd (pcF T.g__law_turn (bN T) hr (ac (pv 5) (ac ai ae))))
  (ag (dG (i:=8) (N:=[WU "kind"]) (js:=[none]) (g:=(az 0)) (tt:=(mH (tOp (rI0 λi j=>.bl (decide (j<i))) (tOp (jA K) (bc 0) (tC (.int 1))) (tC (.int 0))))) (te:=(bc 0)) aM.nd rfl (Or.inl rfl) rfl (bX rfl (by decide +kernel) (by decide +kernel) rfl rfl rfl) (ck (pv 4)) (λ_ _ _ _ _ _=>(pgN 0 vn)) (aP rfl) (λ_ _ _ _ _ _=>gD (aO df (aw ax (pv 0) ai (λ_ _=>rfl)) ai (aS _))) (λ_ _ _ _ _ _=>(pv 0)))
  (ag (cu (PW.pt (ig (aO fD (av bv (pv 7) ai) ai (aS _)) (ir (aO df (aD aC rfl T.n_len XQ (ac (pv 8) ae)) ai (aS _))))) (ag (ao 9 aM.nd (aR (ac (aw ax (pcF T.g__law_leaf (dF T) hr (ac (pv 4) (ac (av bF (pv 7) ai) ae))) ai (λ_ _=>rfl)) ae)))
  (ag (ao 10 aM.nd (aw bh (pv 8) (av bv (av bF (pv 7) ai) (aD aC rfl T.n_len XQ (ac (pv 8) ae))) (λ_ _=>rfl)))
  (ag (ao 11 aM.nd (aN ae))
  (ag (bH XE rfl (ck (aw ax (pv 6) ai (λ_ _=>rfl))) (pgN 12 aM.nd) (am (ba (bQ Xg Xu Xs aQ (pv 11) (ac (aL aJ rfl T.n_tuple XC (ac (bR (N:=[WU "pattern",WU "kind",WU "leaf",WU "rest"]) (js:=[none,some 10,some 9,some 7]) (g:=(az 0)) (tt:=bu) (te:=(f9 (di _) [] E0 (aU (bc 0) (aU (bc 1) (aU (bc 2) (aU (tOp (rI0 λi j=>.int (i+j)) (tC (.int 1)) (tOp (rI (λ_ j=>0<j) λi j=>.int (i%j)) (tOp (rI yL λi j=>.int (i / j)) (bc 3) (tC (.int 7))) (tC (.int 9)))) dS)))))) rfl (bX rfl (by decide +kernel) (by decide +kernel) rfl rfl rfl) (ck (pv 12)) (λ_ _ _ _ _ _=>(pgN 0 yM)) (aP rfl) (λ_ _ _ _ _ _=>bC) (λ_ _ _ _ _ _=>(pcF T.g__law_wrapped (fE T 5) hr (ac (pv 0) (ac (pv 1) (ac (pv 2) (ac (av bG ai (av bv (av bF (pv 3) ai) ai)) ae))))))) ae)) ae)))))
  (am (ao 6 aM.nd (aR (ac (pv 3) (ac (pv 4) (ac (aw ax (pv 6) ai (λ_ _=>rfl)) (ac (aL aJ rfl T.n_tuple XC (ac (pv 11) ae)) ae))))))))))) bB)
  (am (aE (aR (ac (pv 6) (ac (pcF T.g__law_tree (nW T) hr (ac (aW gx (pv 0) (bp ai) bt) (ac (pv 3) ae))) ae)))))))))))),?_⟩
 try dsimp only[AK,Ad]
 refine⟨_,rfl,a,ns,0,rfl,hS,by decide,λc=>⟨c,_,rfl,rX,λia Aw ins H1 s1 ei CY gi=>?_⟩⟩;refine⟨_,rfl,a,ns,1,rfl,s1.seq hS,by decide,λc1=>?_⟩;refine⟨lnE rfl,λll DV=>?_⟩;have sl:=aj DV (.lst [.str (WU "npwz"),.str (WU "bdhk")]);refine⟨_,rfl,a,ns,1,rfl,(s1.trans sl).seq hS,by decide,λc2=>?_⟩
 obtain⟨lt,Ae,DL⟩:∃lt,atI [H! (WU "npwz"),H! (WU "bdhk")] (c2 / 3%2)=some (.str lt)/\o8 lt:=by
  have z0:=XM (c2 / 3) (show(2:Int)≠0 by decide);have z1:=XF (c2 / 3) (show(0:Int)<2 by decide);rcases(by omega:c2 / 3%2=0\/c2 / 3%2=1)with z|z <;> rw[z]
  .exact⟨_,rfl,wJ⟩
  .exact⟨_,rfl,rX⟩
 refine⟨_,_,rfl,rfl,⟨by decide,by decide⟩,_,_,rfl,rfl,(by show(0:Int)<2;decide),ll,_,_,.str lt,rfl,rfl,l! ad,Ae,?_⟩;refine⟨c1,lt,rfl,DL,λoa Az outs H2 s2 eo Ff go=>?_⟩;have Gg:j! H1 H2:=sl.trans s2;have UJ:=s1.trans Gg;refine⟨_,rfl,a,ns,2,rfl,UJ.seq hS,by decide,λcell=>?_⟩;have z0:=XM (cell / 7) (show(most+1)≠0 by omega);have z1:=XF (cell / 7) (show(0:Int)<most+1 by omega);refine⟨_,rfl,_,rfl,_,rfl,_,rfl,_,_,rfl,rfl,⟨by decide,by decide⟩,_,rfl,_,_,rfl,rfl,_,_,rfl,rfl,(by show(0:Int)<most+1;omega),_,rfl,cell,ia,Aw,ins,oa,Az,outs,_,deep,rfl,Gg _ _ ei,CY.mono (n! Gg),gi,eo,Ff,go,z0,by omega,d0,by omega,λr ha ra AA head rows H3 s3 b3 bo=>?_⟩;have sH3:=UJ.trans s3
 have UK:∀row∈rows,∀p∈row,p.size<=13:=λrow hr p hp=>by
  obtain⟨j,hj⟩:=Xe.mp hp;have CM:=bo.row row hr;have Ct:=(glE hj);obtain⟨k,hk⟩:∃k,ins[j]?=some k:=⟨_,WS (by rw[<-CM.len];exact Ct)⟩;obtain⟨h1,h2⟩:=CM.fit j p k hj hk;have h3:=(gA go p h1).1;have h4:3 ^ p.tall<=3 ^ 3:=Zx (by decide) (by omega);have h5:3 ^ 3=27:=rfl;omega
 have hhz:head.size<=364:=by
  have h3:=(gA go head bo.hdf).1;have h2:=bo.hdt;have h4:3 ^ head.tall<=3 ^ 3:=Zx (by decide) (by omega);have h5:3 ^ 3=27:=rfl;omega
 have LK:=Gg.trans s3;have Nr:=LK _ _ ei;have Gh:=CY.mono (n! LK);have LL:=s3 _ _ eo;have L6:=Ff.mono (n! s3);have Lb:cell / 7%(most+1)<=most:=by omega
 generalize cell / 7%(most+1)=S at bo Lb;refine⟨_,rfl,_,_,rfl,by omega,by omega,λrest r0 r1=>?_⟩;have ho8:=go.le;refine⟨_,rfl,oa,rfl,⟨_,k! LL⟩,jQ (K:=K) (λk=>decide (0<k.2)) LL L6 (by omega) (λz ka H2 R sm hz r=>⟨_,rfl,ka,_,1,_,rfl,rfl,k! hz,at1,_,_,rfl,rfl,_,rfl,r⟩) (λka H2 R r=>⟨_,rfl,r⟩) (λwd bs H4 hD e' QO AY=>?_)⟩;have s4:j! H3 H4:=by rw[e'];exact aj hD _
 have Np:H4 wd=some (.lst (bs.map λz=>i! z.2)):=by rw[e'];exact ad
 clear e';have DC:((bs.map λz=>i! z.2).length:Int)=(bs.length:Int):=by rw[WO]
 have b4:=b3.mono (n! s4);dsimp only;refine bI (λi' H'=>Ex6 λ(b':WT)(CZ:List (List Th))(c9 CD UL c12:Option V)=>An5 (i'=[some (.ref a),some (.int most),some (.int deep),some (.ref ia),some (.ref oa),some (.int cell),some (.ref b'),some (.int rest),some (.ref wd),c9,CD,UL,c12]) (j! H4 H') (Bk H' ins outs head CZ b') (dj ins outs S (deep.toNat+9) head CZ) ((∀row∈CZ,∀p∈row,p.size<=364))) (λkk hk=>?_) ?_
 .dsimp only;refine cz (λb H'=>An2 (H4=H') ((b=true->0<bs.length))) (λk2 Bb=>?_) (λH' hb=>?_) (λH' hb=>?_)
  .refine⟨_,rfl,_,_,rfl,rfl,(by show(0:Int)<5;decide),rfl,_,rfl,?_⟩;refine dh (λc1=>?_) (λc1=>Bb _ _ ⟨rfl,λz=>g! z Xn⟩);refine⟨_,rfl,wd,_,rfl,.inl (l! Np),_,_,rfl,rfl,_,rfl,Bb _ _ ⟨rfl,λz=>?_⟩⟩;have:=e! z;omega
  rotate_left
  .obtain⟨rfl,_⟩:=hb;exact hk _ _ ⟨r,rows,none,none,none,none,rfl,.refl _,⟨_,_,_,_,_,_,_,b4⟩,wF bo (by omega),λrow hr p hp=>by have:=UK row hr p hp;omega⟩
  obtain⟨rfl,hb⟩:=hb;have BM:=hb rfl;have Q5:=s4 _ _ LL;have RC:=L6.mono (n! s4);refine⟨_,rfl,_,rfl,_,_,rfl,rfl,⟨by decide,by decide⟩,oa,Az,outs,_,rfl,Q5,RC,go,λk0 ka0 H5 s5 B7 ED RD=>?_⟩;refine⟨ka0,_,0,.str k0.1,rfl,rfl,k! RD,at0,lnE rfl,λlf CW=>?_⟩;have s6:=s5.trans (aj CW (.tup [.str k0.1]));have UM:(upd H5 lf (.tup [.str k0.1])) lf=some (.tup [.str k0.1]):=ad;generalize(upd H5 lf (.tup [.str k0.1]))=H6 at s6 UM |-
  have L4:At H6 (.knot k0.1 []) lf:=by
   rw[At];exact⟨jC (go.low k0 B7).1,[],UM,.nil⟩
  have DJ:(k0.1,(0:Int))∈outs:=by
   have:(k0.1,(0:Int))=k0:=Prod.ext rfl ED.symm;rw[this];exact B7
  have Ee:=s6 _ _ Np;have y0:=XM (rest / 5) (show((bs.map λz=>i! z.2).length:Int)≠0 by omega);have y1:=XF (rest / 5) (show(0:Int)<((bs.map λz=>i! z.2).length:Int)by omega);refine hid λZZ kZ=>?_;obtain⟨z,hz⟩:∃z,bs[(rest / 5%((bs.map λz=>i! z.2).length:Int)).toNat]?=some z:=⟨_,WS (by omega)⟩;obtain⟨Er,EV,L7⟩:=AY z (WR hz);obtain⟨k1,ka⟩:=z;refine kZ ?_;dsimp only at Er EV L7 hz;have Fl:(0:Int)<k1.2:=e! EV;have RE:KAt H6 k1 ka:=s6 _ _ (s4 _ _ L7);refine⟨_,rfl,_,rfl,_,_,rfl,rfl,⟨by decide,by decide⟩,_,rfl,wd,_,rfl,.inl (l! Ee),_,_,rfl,rfl,(by show(0:Int)<((bs.map λz=>i! z.2).length:Int);omega),wd,_,_,.ref ka,rfl,rfl,l! Ee,at_nonneg y0 (gmE hz),?_⟩;refine⟨lnE rfl,λru UN=>?_⟩;refine gU UN λH7 s7 e7=>?_;have e7:H7 ru=some (.lst (([]:List WT).map i!)):=e7;have Ld:=s6.trans s7;have b7:=b4.mono (n! Ld);have GN:rows.length=AA.length:=W5 b7.rw;have hrS:=bo.len;have BJ:ins.length=Aw.length:=W5 CY;have HJ:=gi.le;have w0:=XM (rest / 7) (show(9:Int)≠0 by decide);have w1:=XF (rest / 7) (show(0:Int)<9 by decide);refine⟨_,rfl,r,_,3,.ref ra,rfl,rfl,k! b7.bk,bw (j:=3) rfl,ra,rfl,⟨_,k! b7.rl⟩,?_⟩
  refine vP (K:=K) (a:=ra) (xs:=AA.map i!) (λi Y H8=>Ex3 λ(c12:Option V)(G2:List WT)(Bx:List (List Th))=>An7 (Y=[some (.ref a),some (.int most),some (.int deep),some (.ref ia),some (.ref oa),some (.int cell),some (.ref r),some (.int rest),some (.ref wd),some (.ref lf),some (.ref ka),some (.ref ru),c12]) (j! H6 H8) (H8 ru=some (.lst (G2.map i!))) (Xz (RowAt H8) Bx G2) (Bx.length=i) ((∀row∈Bx,qR ins outs S (deep.toNat+9) row)) ((∀row∈Bx,∀p∈row,p.size<=364)))
   ⟨none,[],[],rfl,s7,e7,.nil,rfl,(λrow Af=>by cases Af),(λrow Af=>by cases Af)⟩ (λi Y H8 _⟨_,_,_,_,s8,_,_,_,_,_⟩=>k! (s8 _ _ (b4.mono (n! s6)).rl)) ?_ ?_
  .rintro i x Y H8 hx ⟨c12,G2,Bx,rfl,s8,Nv,Et,Eh,ID,RF⟩
   have E6:i<AA.length:=by
    have:=(glE hx);rw[WO]at this;exact this
   have b8:=b4.mono (n! (s6.trans s8));refine hid λZZ kZ=>?_;obtain⟨Ef,rfl,C0⟩:=aZ hx;obtain⟨row,Af,BA,C1,Cw⟩:=B! b8.rw C0;refine kZ ?_;have CM:=bo.row row (WR Af);have Ao:=Cw.length;have Ga:(row.zip ins).length=row.length:=by rw[List.length_zip,CM.len];exact Nat.min_self _
   have hnl:Bx.length=G2.length:=W5 Et;refine⟨_,rfl,.inl ⟨rfl,_,l! Nv⟩,_,rfl,Ef,rfl,⟨_,k! C1⟩,i4 (F:=λH(z:Th×(Xk×Int))a=>∃t',At H t' a/\t'.FitS outs S z.2.2/\t'.tall<=deep.toNat+9+1/\t'.size<=364) (xs:=BA.map i!) (row.zip ins) (λH1 H2 z p kt h=>by obtain⟨t',h1,h2⟩:=h;exact⟨t',h1.mono kt,h2⟩) (by rw[WO];omega) (by rw[WO,Ao,CM.len];omega) (λi Hx sx hi=>⟨_,_,k! (sx _ _ C1),WS hi⟩) (λHx sx=>⟨_,k! (sx _ _ C1),W2 _⟩) (λi Hx x Hy sx hi hy=>⟨hy.1,hy.2 _ (k! (sx _ _ C1))⟩) (λi x z Hx R W' hx Dx sx hR=>?_) (λD H9 as hD s9 eD DU=>?_)⟩
   .obtain⟨ua,rfl,Gn⟩:=aZ hx;obtain⟨u,hu,Gp⟩:=Cw.get Gn;obtain⟨h1,h2⟩:=YD.mp Dx;rw[hu]at h1;cases h1;obtain⟨QB,ht1⟩:=CM.fit i _ _ hu h2;have UO:=s8.trans sx;refine⟨_,rfl,_,rfl,_,rfl,_,rfl,_,_,rfl,rfl,⟨by decide,by decide⟩,_,_,rfl,rfl,(by show(0:Int)<9;decide),_,_,rfl,rfl,ua,ka,lf,outs,S,z.2.2,z.1,k1,k0.1,_,rfl,Gp.mono (n! sx),QB,go,UO _ _ RE,Er,Fl,L4.mono (n! UO),DJ,by omega,by omega,(by show z.1.tall<=5;omega),λp' r4 H4' s4' L5 RB ht4 UI=>?_⟩;have RG:=UK row (WR Af) z.1 (WR hu);have hz6:z.1.size * (1+3 * (1+rest / 7%9).toNat)<=13 * 28:=Nat.mul_le_mul RG (by omega);exact hR H4' r4 s4' ⟨p',L5,RB,by omega,by omega⟩
   .refine hid λZZ kZ=>?_;obtain⟨Dc,DA,IC,CS⟩:=mx (R:=λ(z:Th×(Xk×Int))t'=>t'.FitS outs S z.2.2/\t'.tall<=deep.toNat+9+1/\t'.size<=364) DU;refine kZ ?_;refine⟨D,_,rfl,.inl ⟨l! eD,λtp By=>?_⟩⟩;refine gU By λDD Cf GQ=>?_;have Dz:=s9.trans Cf;have G3:=Dz _ _ Nv;refine⟨ru,_,_,rfl,rfl,G3,lbE (by omega),?_⟩;have kt:KT DD (upd DD ru (.lst (G2.map i!++[.ref tp]))):=bx G3;refine⟨_,G2++[tp],Bx++[Dc],rfl,aF (s8.trans Dz) UN,uAE,q! (v! (λ_ _ e=>e.mono ((n! Dz).trans kt)) Et) (.cons ⟨as,kt _ _ GQ,IC.mono ((n! Cf).trans kt)⟩ .nil),by rw[W6,Eh];rfl,λCu Bc=>?_,λCu Bc p' Ce=>?_⟩
    rotate_left
    .rcases W7.mp Bc with Bc|Bc
     .exact RF Cu Bc p' Ce
     .rw[WZ.mp Bc]at Ce;obtain⟨j,hj⟩:=Xe.mp Ce;have Ct:=(glE hj);obtain⟨zz,Dx⟩:∃zz,(row.zip ins)[j]?=some zz:=⟨_,WS (by omega)⟩;exact(CS j zz p' Dx hj).2.2
    rcases W7.mp Bc with Bc|Bc
    .exact ID Cu Bc
    .rw[WZ.mp Bc];refine⟨by rw[DA,Ga,CM.len],λj t k h1 h2=>?_⟩;have Ct:=(glE h2);obtain⟨u,hu⟩:∃u,row[j]?=some u:=⟨_,WS (by rw[CM.len];exact Ct)⟩;have:=CS j (u,k) t (YD.mpr ⟨hu,h2⟩) h1;exact⟨this.1,this.2.1⟩
  .rintro Y H8 ⟨c12,G2,Bx,rfl,s8,Nv,Et,Eh,ID,RF⟩;rw[WO]at Eh;have b8:=b4.mono (n! (s6.trans s8));refine⟨_,rfl,_,rfl,_,rfl,r,_,2,.ref ha,rfl,rfl,k! b8.bk,at2,_,rfl,ru,_,rfl,.inl ⟨l! Nv,λtp By=>?_⟩⟩;refine gU By λH9 s9 e9=>?_;refine⟨lnE rfl,λnb hnb=>?_⟩;have Cf:=aj hnb (.tup [.ref ia,.ref oa,.ref ha,.ref tp]);have Dz:=s9.trans Cf;have L8:=b8.mono (n! Dz);refine hk _ _ ⟨nb,Bx,_,_,_,_,rfl,s6.trans (s8.trans Dz),⟨ia,oa,ha,tp,Aw,Az,G2,⟨ad,L8.inE,L8.inK,L8.outE,L8.outK,L8.hd,Cf _ _ e9,v! (λ_ _ e=>e.mono (n! Dz)) Et⟩⟩,⟨by omega,ID,bo.hdf,bo.hdt⟩,RF⟩
 rintro i' H5 ⟨b',CZ,c9,CD,UL,c12,rfl,s5,RH,bo5,RG⟩;have JB:=s4.trans s5;have UP:=sH3.trans JB;refine⟨_,rfl,_,rfl,_,rfl,a,_,rfl,UP.seq hS,λsc hsc=>?_⟩;have s6:=aj hsc (.lst (cR (ns.map o!) (some 3) none))
 have Fi:(cR (ns.map o!) (some 3) none).length<=60:=by
  by_cases h3:3<=ns.length
  .rw[show(some (3:Int))=some ((3:Nat):Int)from rfl,jk (by rw[WO];exact h3),XR,WO];omega
  .have Am:=d4 (ns.map o!) (some 3) none;rw[WO]at Am;omega
 refine⟨_,rfl,sc,ia,_,Aw,ins,rfl,ad,(λv hv=>?_),Fi,s6 _ _ (JB _ _ Nr),Gh.mono (n! (JB.trans s6)),gi,λt ta H7 s7 hA hF hT hZ=>?_⟩
 .obtain⟨z,_,rfl⟩:=Xq.mp (Zz (Y4 hv));exact⟨z,rfl⟩
 refine⟨lnE rfl,λrr hrr=>?_⟩;have s8:=aj hrr (.tup [.ref b',.ref ta]);have En:=s6.trans (s7.trans s8);exact q rr b' ta ins outs head CZ S t _ (UP.trans En) ad (RH.mono (n! En)) gi go bo5 Lb RG hhz (hA.mono (n! s8)) hF hT hZ
def tz(H:Hp)(o:Th)(r:WT):Prop:=H r=some (.tup [.int (o.size:Nat),.int (o.tall:Nat)])
def fe:Nat->Sp
 |0=>λ_ _ _ _=>False
 |n+1=>λvs H Q _=>∃(pa kl:WT)(ins outs:List (Xk×Int))(rows:List (List Th))(S C:Int)(p:Th)(nm:Xk)(ks:List Th)(AU:List WT)(o:Th),vs=[.ref pa,.ref kl]/\At H p pa/\H kl=some (.lst (AU.map i!))/\Xz (SzAt H ins rows) ks AU/\Out ins rows p (.knot nm ks) o/\p.tall<=n+1/\p.FitS outs S C/\bq outs/\∀(r:WT)(H':Hp),j! H H'->tz H' o r->Q (.ref r) H'
theorem eZ:∀n:Nat,FnOk P w K mg base CX0 n T.g__law_size.f T.g__law_size.d ["pattern","kids"] (fe n)
 |0=>⟨λ_ _ _ _ h=>h.elim,λ_ _ _ _ _ _ _ _ _ _ _ _ _ h=>h.elim⟩
 | n+1=>by
   have ih:=eZ n;refine T.g__law_size.F.ok iI (λvs H Q E h=>?_) (λAj A outer s H vs Q E hr h=>?_)
   .obtain⟨pa,kl,ins,outs,rows,S,C,p,nm,ks,AU,o,rfl,_⟩:=h;rfl
   obtain⟨pa,kl,ins,outs,rows,S,C,p,nm,ks,AU,o,rfl,hA,Jz,Bn,BO,Ao,Aa,go,k⟩:=h
   refine⟨_,(ag (cu (aO fD (aw ax (pv 0) ai (λ_ _=>rfl)) cD (aS _)) (am (aE (aw bh (aw bh (pv 1) (aw ax (pv 0) ai (λ_ _=>rfl)) (λ_ _=>rfl)) (aw ax (pv 0) ai (λ_ _=>rfl)) (λ_ _=>rfl)))) bB)
    (ag (dG (i:=2) (N:=[WU "part",WU "kids"]) (js:=[none,some 1]) (g:=(az 0)) (tt:=bu) (te:=(f9 (fe _) [] E0 (aU (bc 0) (aU (bc 1) dS)))) iI.nd rfl (Or.inl rfl) rfl (bX rfl (by decide +kernel) (by decide +kernel) rfl rfl rfl) (ck (aW dX (pv 0) (bp ai) bt)) (λ_ _ _ _ _ _=>(pgN 0 ze)) (aP rfl) (λ_ _ _ _ _ _=>bC) (λ_ _ _ _ _ _=>(cB (ih) (hr.mono (W2 _)) rfl T.g__law_size.m T.g__law_size.F.kp T.g__law_size.b .nil cK (ac (pv 0) (ac (pv 1) ae)))))
    (am (aE (aR (ac (av bG ai (aD (ut rfl) rfl T.n_sum PyProof.Rows.boot_sum (ac (bR (N:=[WU "size"]) (js:=[none]) (g:=(az 0)) (tt:=bu) (te:=(tOp (jA K) (bc 0) (tC (.int 0)))) rfl (bX rfl (by decide +kernel) (by decide +kernel) rfl rfl rfl) (dH (pv 2)) (λ_ _ _ _ _ _=>(pgN 0 wS)) (aP rfl) (λ_ _ _ _ _ _=>bC) (λ_ _ _ _ _ _=>(aw ax (pv 0) ai (λ_ _=>rfl)))) ae))) (ac (av bG ai (aD (jo rfl) rfl T.n_max Zl (ac (av ij (bR (N:=[WU "size"]) (js:=[none]) (g:=(az 0)) (tt:=bu) (te:=(tOp (jA K) (bc 0) (tC (.int 1)))) rfl (bX rfl (by decide +kernel) (by decide +kernel) rfl rfl rfl) (dH (pv 2)) (λ_ _ _ _ _ _=>(pgN 0 wS)) (aP rfl) (λ_ _ _ _ _ _=>bC) (λ_ _ _ _ _ _=>(aw ax (pv 0) ai (λ_ _=>rfl)))) (aN (ac ai ae))) ae))) ae))))))),?_⟩
   try dsimp only[AK,Ad]
   cases p with
   | call sn cn =>
     rw[At]at hA;refine hid λZZ kZ=>?_;obtain⟨p',h,st,ho⟩:=BO.unstep;obtain⟨s0,c0,D6,_⟩:=id st;obtain⟨ka,AI,es,ees,_,Bw⟩:=y! Bn D6;obtain⟨e,he,ee⟩:=Bw sn o (Out.step (uH st) ho);refine kZ ?_;refine⟨_,rfl,pa,_,0,.str q,rfl,rfl,k! hA,at0,rfl,_,rfl,?_⟩;refine dh (λ_=>?_) (λc=>g! (d! rfl) c);exact⟨_,rfl,_,rfl,pa,_,2,.int cn,rfl,rfl,k! hA,at2,kl,_,cn,.ref ka,rfl,rfl,l! Jz,at_nonneg c0 (gmE AI),_,rfl,pa,_,1,.int sn,rfl,rfl,k! hA,at1,ka,_,sn,.ref e,rfl,rfl,l! ees,at_nonneg s0 (gmE he),k e H (.refl _) ee⟩
   | knot m ts =>
     refine hid λZZ kZ=>?_;obtain⟨os,rfl,BH⟩:=BO.unknot;have UQ:=BH.length;rw[r!]at Ao;rw[G!]at Aa
     have hw:ts.length<=3:=by
      have:=(go.num _ Aa.1).2;have h2:((ts.length:Nat):Int)<=3:=this;omega
     rw[At]at hA;obtain⟨Gm,BA,ea,B6⟩:=hA;refine kZ ?_;have D9:BA.length=ts.length:=B6.length;refine⟨_,rfl,pa,_,0,.str m,rfl,rfl,k! ea,at0,rfl,_,rfl,?_⟩;refine dh (λc=>g! (e! c) (λz=>Gm (V.str.inj z))) (λ_=>?_);refine⟨_,rfl,1,rfl,pa,_,rfl,k! ea,?_,λp2 Bp=>?_⟩
     .rintro⟨z,_⟩;rw[W8,show(1:Int)=((1:Nat):Int)by rfl,x!]at z;omega
     dsimp only;rw[cy];refine gU Bp λH1 s1 e1=>?_;refine⟨p2,rfl,⟨_,k! e1⟩,i4 (F:=tz) (xs:=BA.map i!) os (λH1 H2 z p kt h=>kt _ _ h) (by rw[WO];omega) (by rw[WO];omega) (λi Hx sx hi=>⟨_,_,k! (sx _ _ e1),WS hi⟩) (λHx sx=>⟨_,k! (sx _ _ e1),W2 _⟩) (λi Hx x Hy sx hi hy=>⟨hy.1,hy.2 _ (k! (sx _ _ e1))⟩) (λi x z Hx R W' hx Dx sx hR=>?_) (λD H2 as hD s2 eD DU=>?_)⟩
     .obtain⟨ua,rfl,Gn⟩:=aZ hx;obtain⟨u,hu,Gp⟩:=B6.get Gn;have G0:u∈ts:=WR hu;have UH:=cj G0;have RI:=s1.trans sx;cases n with
      | zero =>
        have:=u.tall_eq;omega
      |succ n =>
      refine⟨_,rfl,_,rfl,ua,kl,ins,outs,rows,S,C,u,nm,ks,AU,z,rfl,Gp.mono (n! RI),RI _ _ Jz,v! (λ_ _ e=>e.same RI) Bn,BH.get i hu Dx,by omega,je Aa.2 u G0,go,λr H3 s3 hr3=>?_⟩;exact hR H3 r s3 hr3
     have AR:os.length=as.length:=W5 DU;have E8:=s1.trans s2;refine⟨_,rfl,D,rfl,⟨_,l! eD⟩,dM os (λo:Th=>o! (o.size:Nat)) (l! eD) (by rw[WO];exact AR) (by rw[WO];omega) (λi x z Hx R W' hx hz sx hR=>?_) (λD2 H3 Ub s3 e3=>?_)⟩
     .obtain⟨e,rfl,he⟩:=aZ hx;obtain⟨t,ht,h1⟩:=B! DU he;rw[hz]at ht;cases ht;exact⟨_,rfl,e,_,0,.int (z.size:Nat),rfl,rfl,k! (sx _ _ h1),at0,hR Hx (.refl _)⟩
     refine⟨D2,os.map (λo=>((o.size:Nat):Int)),rfl,l! (by rw[<-ints_map];exact e3),⟨_,_,rfl,rfl,?_⟩⟩;rw[ng];have Kz:=s3 _ _ eD;have RJ:Xz (tz H3) os as:=v! (λ_ _ e=>s3 _ _ e) DU;refine⟨_,rfl,D,rfl,⟨_,l! Kz⟩,dM os (λo:Th=>o! (o.tall:Nat)) (l! Kz) (by rw[WO];exact AR) (by rw[WO];omega) (λi x z Hx R W' hx hz sx hR=>?_) (λD4 H4 hD4 s4 e4=>?_)⟩
     .obtain⟨e,rfl,he⟩:=aZ hx;obtain⟨t,ht,h1⟩:=B! RJ he;rw[hz]at ht;cases ht;exact⟨_,rfl,e,_,1,.int (z.tall:Nat),rfl,rfl,k! (sx _ _ h1),at1,hR Hx (.refl _)⟩
     refine⟨lnE rfl,λzl Ga=>?_⟩;have s5:=aj Ga (.lst [.int 0]);refine⟨D4,zl,_,_,rfl,rfl,s5 _ _ e4,ad,be (by rw[WO];show os.length+1<=1000000;omega),λcl Am=>?_⟩;have s6:j! H _:=E8.trans (s3.trans (s4.trans (s5.trans (aj Am (.lst (os.map (λt:Th=>o! (t.tall:Nat))++[.int 0]))))))
     have e6:(upd (upd H4 zl (.lst [.int 0])) cl (.lst (os.map (λt:Th=>o! (t.tall:Nat))++[.int 0]))) cl=some (.lst (((os.map λt:Th=>((t.tall:Nat):Int))++[0]).map o!)):=by
      rw[ad,W9,YU];rfl
     generalize(upd (upd H4 zl (.lst [.int 0])) cl (.lst (os.map (λt:Th=>o! (t.tall:Nat))++[.int 0])))=H6 at s6 e6 |-;refine⟨cl,(os.map λt:Th=>((t.tall:Nat):Int))++[0],rfl,l! e6,by simp,λM hM Iv=>⟨_,_,rfl,rfl,?_⟩⟩;have Q8:=lx hM Iv;subst Q8;refine⟨lnE rfl,λr Dt=>?_⟩;refine k r _ (s6.trans (aj Dt _)) ?_;unfold tz;rw[ad,w!,r!];congr 4
     .simp;omega
     .simp;omega
def gW:Nat->Sp
 |0=>λ_ _ _ _=>False
 |n+1=>λvs H Q _=>∃(b ta:WT)(ins outs:List (Xk×Int))(head:Th)(rows:List (List Th))(S:Int)(d:Nat)(t:Th),vs=[.ref b,.ref ta]/\Bk H ins outs head rows b/\bq ins/\bq outs/\dj ins outs S d head rows/\d<=18/\S<=1000/\At H t ta/\t.Fit ins/\t.tall<=n+1/\∀(r:WT)(H':Hp),j! H H'->H r=none->SzAt H' ins rows t r->Q (.ref r) H'
theorem g7:∀n:Nat,FnOk P w K mg base CX0 (21+n) T.g__law_sizes.f T.g__law_sizes.d ["book","tree"] (gW n)
 |0=>⟨λ_ _ _ _ h=>h.elim,λ_ _ _ _ _ _ _ _ _ _ _ _ _ h=>h.elim⟩
 | n+1=>by
   have ih:=g7 n;refine T.g__law_sizes.F.ok eg (λvs H Q E h=>?_) (λAj A outer s H vs Q E hr h=>?_)
   .obtain⟨b,ta,ins,outs,head,rows,S,d,t,rfl,_⟩:=h;rfl
   obtain⟨b,ta,ins,outs,head,rows,S,d,t,rfl,hb,gi,go,ok,hd,hS,hA,Aa,Ao,k⟩:=h
   refine⟨_,(ag (ao 2 eg.nd (bR (N:=[WU "kind"]) (js:=[none]) (g:=(az 0)) (tt:=bu) (te:=(tOp (jA K) (bc 0) (tC (.int 0)))) rfl (bX rfl (by decide +kernel) (by decide +kernel) rfl rfl rfl) (ck (aw ax (pv 0) ai (λ_ _=>rfl))) (λ_ _ _ _ _ _=>(pgN 0 vn)) (aP rfl) (λ_ _ _ _ _ _=>bC) (λ_ _ _ _ _ _=>(aw ax (pv 0) ai (λ_ _=>rfl)))))
    (ag (ao 3 eg.nd (bR (N:=[WU "kid",WU "book"]) (js:=[none,some 0]) (g:=(az 0)) (tt:=bu) (te:=(f9 (gW _) [] E0 (aU (bc 1) (aU (bc 0) dS)))) rfl (bX rfl (by decide +kernel) (by decide +kernel) rfl rfl rfl) (ck (aW dX (pv 1) (bp ai) bt)) (λ_ _ _ _ _ _=>(pgN 0 yW)) (aP rfl) (λ_ _ _ _ _ _=>bC) (λ_ _ _ _ _ _=>(cB (ih) (hr.mono (W2 _)) rfl T.g__law_sizes.m T.g__law_sizes.F.kp T.g__law_sizes.b .nil cK (ac (pv 1) (ac (pv 0) ae))))))
    (am (aE (bR (N:=[WU "row",WU "kids",WU "names",WU "tree"]) (js:=[none,some 3,some 2,some 1]) (g:=(az 0)) (tt:=bu) (te:=(f9 (fe _) [] E0 (aU (tOp (jA K) (bc 0) (tBM K "list" (rZ K) (bc 2) (aU (tOp (jA K) (bc 3) (tC (.int 0))) dS))) (aU (bc 1) dS)))) rfl (bX rfl (by decide +kernel) (by decide +kernel) rfl rfl rfl) (ck (aw ax (pv 0) ai (λ_ _=>rfl))) (λ_ _ _ _ _ _=>(pgN 0 zr)) (aP rfl) (λ_ _ _ _ _ _=>bC) (λ_ _ _ _ _ _=>(cB (eZ T 20) (hr.mono (XS (by decide:20<=21) (YN 21 n))) rfl T.g__law_size.m T.g__law_size.F.kp T.g__law_size.b .nil cK (ac (aw ax (pv 0) (bQ Xg ZI PySem.F.type_list_index mS (pv 2) (ac (aw ax (pv 3) ai (λ_ _=>rfl)) ae)) (λ_ _=>rfl)) (ac (pv 1) ae))))))))),?_⟩
   try dsimp only[AK,Ad]
   refine hid λZZ kZ=>?_;obtain⟨ia,oa,BE,ra,Aw,Az,AA,bk⟩:=id hb;refine kZ ?_;have BJ:ins.length=Aw.length:=W5 bk.inK;have HJ:=gi.le;have GN:rows.length=AA.length:=W5 bk.rw;have hrS:=ok.len;cases t with
   |call a b=>rw[E!]at Aa;exact Aa.elim
   |knot m hs =>
   have UR:=Aa;rw[E!]at Aa;refine hid λZZ kZ=>?_;obtain⟨j,hj⟩:=Xe.mp Aa.1;rw[At]at hA;obtain⟨Gm,has,ea,Nw⟩:=hA;refine kZ ?_;have hhl:has.length=hs.length:=Nw.length
   have hw:hs.length<=3:=by
    have:=(gi.num _ Aa.1).2;have h2:((hs.length:Nat):Int)<=3:=this;omega
   rw[r!]at Ao
   refine⟨_,rfl,b,_,0,.ref ia,rfl,rfl,k! bk.bk,at0,ia,rfl,⟨_,k! bk.inE⟩,fN ins (λk=>H! k.1) (k! bk.inE) (by rw[WO];exact BJ) (by rw[WO];omega) (λi x z H2 R W' hx hz s2 hR=>?_) (λD H1 hD s1 e1=>?_)⟩
   .obtain⟨ka,rfl,AI⟩:=aZ hx;obtain⟨z',DG,ez⟩:=B! bk.inK AI;rw[hz]at DG;cases DG;exact⟨_,rfl,ka,_,0,.str z.1,rfl,rfl,k! (s2 _ _ ez),at0,hR H2 (.refl _)⟩
   have en:ins.map (λk=>H! k.1)=(ins.map (·.1)).map H!:=by rw[YU];rfl
   rw[en]at e1
   refine⟨_,rfl,1,rfl,ta,_,rfl,k! (s1 _ _ ea),?_,λp2 Bp=>?_⟩
   .rintro⟨z,_⟩;rw[W8,show(1:Int)=((1:Nat):Int)by rfl,x!]at z;omega
   dsimp only;rw[cy];refine gU Bp λH2 s2 e2=>?_;have E8:=s1.trans s2;refine⟨p2,rfl,⟨_,k! e2⟩,vQ (F:=λH h a=>SzAt H ins rows h a) (xs:=has.map i!) hs (λH1 H2 z p kt hk h=>h.keep kt hk) (by rw[WO];omega) (by rw[WO];omega) (λi Hx sx hi=>⟨_,_,k! (sx _ _ e2),WS hi⟩) (λHx sx=>⟨_,k! (sx _ _ e2),W2 _⟩) (λi Hx x Hy sx hi hy=>⟨hy.1,hy.2 _ (k! (sx _ _ e2))⟩) (λi x z Hx R W' hx Dx sx hR=>?_) (λkd H3 AU Fw s3 ekd F2=>?_)⟩
   .obtain⟨ua,rfl,Gn⟩:=aZ hx;obtain⟨u,hu,Gp⟩:=Nw.get Gn;rw[Dx]at hu;cases hu;have G0:z∈hs:=WR Dx;have UH:=cj G0;have G1:=E8.trans sx;cases n with
    | zero =>
      have:=z.tall_eq;omega
    |succ n =>
    refine⟨_,rfl,_,rfl,b,ua,ins,outs,head,rows,S,d,z,rfl,hb.mono (n! G1),gi,go,ok,hd,hS,Gp.mono (n! G1),gg Aa.2 z G0,by omega,λr H4 s4 nr L5=>?_⟩;exact hR H4 r s4 nr L5
   have Jw:=E8.trans s3
   obtain⟨os,UQ,BH⟩:∃os:List Th,os.length=rows.length/\∀(i:Nat)(row:List Th)(o:Th),rows[i]?=some row->os[i]?=some o->∃p,row[j]?=some p/\Out ins rows p (.knot m hs) o/\p.FitS outs S (hs.length:Int)/\p.tall<=d+1:=by
    refine rV rows λrow Af=>?_;have CM:=ok.row row Af;have Ct:=(glE hj);obtain⟨p,hp⟩:∃p,row[j]?=some p:=⟨_,WS (by rw[CM.len];exact Ct)⟩;obtain⟨h1,h2⟩:=CM.fit j p _ hp hj;obtain⟨o,g1,_⟩:=uZ ok _ m hs (W2 _) (gg Aa.2) _ p (W2 _) h1;exact⟨o,p,hp,g1,h1,h2⟩
   have JC:=bk.mono (n! Jw);refine⟨_,rfl,b,_,3,.ref ra,rfl,rfl,k! JC.bk,bw (j:=3) rfl,ra,rfl,⟨_,k! JC.rl⟩,i4 (F:=tz) (xs:=AA.map i!) os (λH1 H2 z p kt h=>kt _ _ h) (by rw[WO];omega) (by rw[WO];omega) (λi Hx sx hi=>⟨_,_,k! (sx _ _ JC.rl),WS hi⟩) (λHx sx=>⟨_,k! (sx _ _ JC.rl),W2 _⟩) (λi Hx x Hy sx hi hy=>⟨hy.1,hy.2 _ (k! (sx _ _ JC.rl))⟩) (λi x z Hx R W' hx Dx sx hR=>?_) (λD5 H5 as Uu s5 e5 GV=>?_)⟩
   .refine hid λZZ kZ=>?_;obtain⟨Ef,rfl,C0⟩:=aZ hx;obtain⟨row,Af,BA,C1,Cw⟩:=B! JC.rw C0;obtain⟨p,hp,BO,hpf,hpt⟩:=BH i row z Af Dx;have BI:=Cw.length;have ab6:=(glE hp);obtain⟨Ma,Gq⟩:∃a,BA[j]?=some a:=⟨_,WS (by omega)⟩;obtain⟨t2,Nx,RK⟩:=Cw.get Gq;refine kZ ?_;rw[hp]at Nx;cases Nx;have G1:=Jw.trans sx;have US:=sx _ _ (s3 _ _ (s2 _ _ e1));refine⟨_,rfl,_,rfl,.inl ⟨rfl,_,l! US⟩,_,rfl,ta,_,0,.str m,rfl,rfl,k! (G1 _ _ ea),at0,?_⟩;refine⟨D,ins.map (·.1),m,j,rfl,rfl,l! US,by rw[Xj,hj];rfl,λi hi hz=>?_,by rw[WO];omega,?_⟩
    .rw[Xj]at hz;obtain⟨k',BD,e⟩:=Yi.mp hz;have:=gi.nd i j k' _ BD hj e;omega
    refine⟨Ef,_,(j:Int),.ref Ma,rfl,rfl,k! (sx _ _ C1),bw (gmE Gq),?_⟩;refine⟨_,rfl,Ma,kd,ins,outs,rows,S,(hs.length:Int),p,m,hs,AU,z,rfl,RK.mono (n! sx),sx _ _ ekd,v! (λ_ _ e=>e.same sx) F2,BO,(by show p.tall<=20;omega),hpf,go,λr H6 s6 hr6=>?_⟩;exact hR H6 r s6 hr6
   .have AR:=W5 GV;refine k D5 H5 (Jw.trans s5) (Jw.free Uu) ⟨as,e5,by omega,λst o ho=>?_⟩;refine hid λZZ kZ=>?_;obtain⟨p,h,stp,Cc⟩:=ho.unstep;obtain⟨s0,_,UT,m',Hh,c',j',row,rfl,BW,Af,hp⟩:=stp;refine kZ ?_;simp at UT;obtain⟨rfl,rfl⟩:=UT;have OS:=gi.nd j j' _ _ hj BW rfl;subst OS;have Ae:=(glE Af);refine hid λZZ kZ=>?_;obtain⟨z,hz⟩:∃z,os[st.toNat]?=some z:=⟨_,WS (by omega)⟩;obtain⟨p',Ce,Mb,_⟩:=BH _ row z Af hz;refine kZ ?_;rw[hp]at Ce;cases Ce;have:=j6 gi Cc Mb;subst this;obtain⟨e,he,hpe⟩:=y! GV hz;exact⟨e,he,hpe⟩
mutual
theorem ug:∀t:Th,(∀p∈t.walk,p.nm.length<=8)->t.lw.length+1<=13 * t.size
 |.call _ _,h=>by rw[Th.lw,w!];show q.length+1<=13;decide +kernel
 | .knot n ts,h=>by
   have h1:=oi ts λp hp=>h p (by rw[A!];exact WQ _ hp);have h2:=h (.knot n ts) (by rw[A!];exact WY ..);have Dm:n.length<=8:=h2;have h3:=join_le (lws ts);have l1:=qg.1;have l2:=qg.2.1;have l3:=qg.2.2;have h4:(lws ts).length=ts.length:=by rw[j8,WO]
   rw[Th.lw,w!,Zq,Zq,Zq];omega
theorem oi:∀ts:List Th,(∀p∈walks ts,p.nm.length<=8)->((lws ts).map (·.length)).sum+ts.length<=13 * au ts
 | [],_=>by rw[lws,au];simp
 | t::ts,h=>by
   have h1:=ug t λp hp=>h p (by rw[walks];exact Xi _ hp);have h2:=oi ts λp hp=>h p (by rw[walks];exact Xl _ hp);rw[lws,au,XH,List.sum_cons,W8];omega
end
def gO:Nat->Sp
 |0=>λ_ _ _ _=>False
 |n+1=>λvs H Q _=>∃(a:WT)(t:Th),vs=[.ref a]/\At H t a/\NmL t/\(∀p∈t.walk,p.nm.length<=8)/\t.size<=1000/\t.tall<=n+1/\∀H',j! H H'->Q (.str t.lw) H'
theorem gG:∀n:Nat,FnOk P w K mg base CX0 n T.g__law_words.f T.g__law_words.d ["tree"] (gO n)
 |0=>⟨λ_ _ _ _ h=>h.elim,λ_ _ _ _ _ _ _ _ _ _ _ _ _ h=>h.elim⟩
 | n+1=>by
   have ih:=gG n;refine T.g__law_words.F.ok l8 (λvs H Q E h=>?_) (λAj A outer s H vs Q E hr h=>?_)
   .obtain⟨a,t,rfl,_⟩:=h;rfl
   obtain⟨a,t,rfl,hA,CF,K6,hsz,Ao,k⟩:=h;refine⟨_,(am (aE (av cU (av cU (av cU (aw ax (pv 0) ai (λ_ _=>rfl)) cD) (bQ PySem.F.plainAttrs_str PySem.F.slot_str_join PySem.F.type_str_join vt cD (ac (bR (N:=[WU "kid"]) (js:=[none]) (g:=(az 0)) (tt:=bu) (te:=(f9 (gO _) [] E0 (aU (bc 0) dS))) rfl (bX rfl (by decide +kernel) (by decide +kernel) rfl rfl rfl) (ck (aW dX (pv 0) (bp ai) bt)) (λ_ _ _ _ _ _=>(pgN 0 yc)) (aP rfl) (λ_ _ _ _ _ _=>bC) (λ_ _ _ _ _ _=>(cB (ih) (hr.mono (W2 _)) rfl T.g__law_words.m T.g__law_words.F.kp T.g__law_words.b .nil cK (ac (pv 0) ae)))) ae))) cD))),?_⟩
   try dsimp only[AK,Ad]
   refine hid λZZ kZ=>?_;obtain⟨m,ts,rfl,_⟩:=CF t (by rw[z!];exact WY ..);have hlw:=ug _ K6;have Fz:=hA;rw[At]at Fz;obtain⟨Gm,BA,ea,B6⟩:=Fz;refine kZ ?_;have D9:BA.length=ts.length:=B6.length;rw[w!]at hsz;rw[r!]at Ao;have IW:=cV ts;refine⟨_,rfl,a,_,0,.str m,rfl,rfl,k! ea,at0,?_⟩;have l1:=qg.1;have l2:=qg.2.1;have l3:=qg.2.2;have QP:m.length<=8:=K6 (.knot m ts) (by rw[A!];exact WY ..);have UU:((lws ts).map (·.length)).sum+ts.length<=13 * au ts:=oi ts λp hp=>K6 p (by rw[A!];exact WQ _ hp);have Ct:=join_le (lws ts);have DV:(lws ts).length=ts.length:=by rw[j8,WO]
   refine⟨m,lpar,rfl,rfl,Za (aX (by omega)),rfl,_,rfl,1,rfl,a,_,rfl,k! ea,?_,λp2 Bp=>?_⟩
   .rintro⟨z,_⟩;rw[W8,show(1:Int)=((1:Nat):Int)by rfl,x!]at z;omega
   rw[cy];refine gU Bp λH3 s3 e3=>?_;refine⟨p2,rfl,⟨_,k! e3⟩,fN ts (λt=>H! t.lw) (k! e3) (by rw[WO];exact D9.symm) (by rw[WO];omega) (λi x z H2 R W' hx hz s2 hR=>?_) (λD H4 hD s4 e4=>?_)⟩
   .obtain⟨ka,rfl,AI⟩:=aZ hx;obtain⟨u,hu,hAu⟩:=B6.get AI;rw[hz]at hu;cases hu;have Mc:=WR hz
    have Bv:∀p∈z.walk,p∈(p! m ts).walk:=λp hp=>by
     rw[A!];exact WQ _ (eL _ _ (W2 _) _ (eO _ _ Mc) _ hp)
    have Fv:z.size<=au ts:=xN Mc;have hzt:=cj Mc;cases n with
    |zero=>have:=Th.tall_eq z;omega
    |succ n =>
    exact⟨_,rfl,ka,z,rfl,hAu.mono (n! (s3.trans s2)),λp hp=>CF p (Bv p hp),λp hp=>K6 p (Bv p hp),by omega,by omega,λH5 s5=>hR H5 s5⟩
   .have e4':H4 D=some (.lst ((lws ts).map H!)):=by rw[e4,j8,YU];rfl
    refine⟨comma,D,lws ts,rfl,rfl,l! e4',by rw[l1];omega,?_⟩;refine⟨_,_,rfl,rfl,Za (aX (by rw[Zq];omega)),_,rpar,rfl,rfl,Za (aX (by rw[Zq,Zq];omega)),?_⟩;have:=k H4 (s3.trans s4);rw[Th.lw]at this;exact this
inductive eI(tp:WT)(vs:List V)(H:Hp)(Q:VK)(_E:XK):Prop
 |mk (b ta:WT) (ins outs:List (Xk×Int)) (S:Int) (dp:Nat) (head:Th) (rows:List (List Th)) (t o:Th) (Aq:vs=[.ref b,.ref ta]) (Ar:ShI H ins outs S dp head rows t b ta o) (Ax:TabSt H tp (gh aK) jV) (AN:(o.tall<=150->∀H',SameT tp H H'->TabSt H' tp (gh aK) jV->Q .non H')) (Bd:(¬o.tall<=150->∀(l:WT)(H':Hp),j! H H'->H' l=some (.lst ([true,false,true].map V.bl))->Q (.ref l) H')):eI tp vs H Q _E
def jZ(tp:WT):Sp:=eI tp
theorem fG(L:Lam mg base T.tc_shared T.tp_shared):FnOk P w K mg base CX0 10 T.g__law_refusal.f T.g__law_refusal.d ["book","tree"] (jZ T.tp_shared):=by
 refine T.g__law_refusal.F.okA cA λAj A outer s H vs Q E hr h=>?_;obtain⟨b,ta,ins,outs,S,dp,head,rows,t,o,rfl,I,E7,hq,hn⟩:=h
 refine⟨_,(ag (ao 2 cA.nd t7)
  (ag (sI (Ch:=T.e_BookError) (i:=3) (tb:=λR=>(w8 (vd (nq T.e_Great T.tp_shared) [] R (aU (bc 0) (aU (bc 1) dS))))) (ts:=λea C=>(tw (zn (aU (tCB (v5 K ea C) (aU (bc 3) (aU (tC (.ref T.e_Great)) dS))) (aU (tCB (v5 K ea C) (aU (bc 3) (aU (tC (.ref T.e_Many)) dS))) (aU (tCB (v5 K ea C) (aU (bc 3) (aU (tC (.ty "ValueError")) dS))) dS)))) (az 2))) (λZ R=>(am (ba (tX (nn T L) (hr.mono (by first|decide|omega)) rfl T.g_shared.m T.g_shared.F.kp T.g_shared.b .nil (ac (pv 0) (ac (pv 1) ae)))))) (λea oe C Fo hX=>(am (ao 2 cA.nd (aN (ac (aD (lQ jv Fo hX) rfl T.n_isinstance ZR (ac (pv 3) (ac (cX (v:=.ref T.e_Great) rfl T.x_Great rfl) ae))) (ac (aD (lQ jv Fo hX) rfl T.n_isinstance ZR (ac (pv 3) (ac (cX (v:=.ref T.e_Many) rfl T.x_Many rfl) ae))) (ac (aD (lQ jv Fo hX) rfl T.n_isinstance ZR (ac (pv 3) (ac (rL (v:=.ty "ValueError") rfl T.n_ValueError PyProof.Rows.Boot.«ValueError» rfl) ae))) ae))))))) cA.nd rfl rfl rfl rfl rfl T.x_BookError)
  (am (aE (pv 2))))),?_⟩
 try dsimp only[AK,Ad]
 dsimp only[tw,tC,az,tV];refine sV (λAH c H2=>An4 (AH=[some (.ref b),some (.ref ta),some .non,none]) (c=.ref T.e_Great) (j! H H2) (¬o.tall<=150)) (λR' hR=>?_) ?_
 .exact⟨_,rfl,_,rfl,b,ta,ins,outs,S,dp,head,rows,t,o,rfl,I,E7,λhle r ra cs To ix H2 s2 Nx _ _ _ _ _=>⟨_,rfl,hq hle H2 s2 Nx⟩,λBL H2 s2=>hR _ _ _ ⟨rfl,rfl,s2,BL⟩⟩
 .rintro AH c H2 ⟨rfl,rfl,s2,ho⟩;refine⟨_,rfl,⟨T.X_Great,T.hit_Great_BookError⟩,λea QJ=>?_⟩;refine⟨_,rfl,_,_,rfl,T.kit_Great_Great,_,rfl,_,_,rfl,T.kit_Great_Many,_,rfl,_,_,rfl,T.kit_Great_ValueError,lnE rfl,λla Hm=>?_⟩;exact⟨_,rfl,hn ho la _ (s2.trans (aj Hm _)) ad⟩
def KnOk(ins:List (Xk×Int))(rows:List (List Th))(W:List Th)(Ts:List Th)(Be:List (List Key×V)):Prop:=(Be.map (·.1)).Nodup/\∀kv∈Be,∃(s:Int)(u p o:Th)(j:Nat),kv=([Xo s,Z1 u.lw],.int (j:Nat))/\u∈W/\Step ins rows s 0 [u] p u/\Out ins rows p u o/\Ts[j]?=some o
theorem KnOk.up(h:KnOk ins rows W Ts Be)(p:Ts <+: Bz):KnOk ins rows W Bz Be:=⟨h.1,λkv Ag=>by
 refine hid λZZ kZ=>?_;obtain⟨s,u,q,o,j,h1,h2,h3,h4,h5⟩:=h.2 kv Ag;refine kZ ?_;exact⟨s,u,q,o,j,h1,h2,h3,h4,rN p h5⟩⟩
structure yP(W:List Th):Prop where
 kids:∀u∈W,∀k∈u.kids,k∈W
 nm:∀u∈W,NmL u
 len:∀u∈W,∀p∈u.walk,p.nm.length<=8
 size:∀u∈W,u.size<=1000
 wl:W.length<=1000
theorem KnOk.hit(g:bq ins)(tr:yP W)(h:KnOk ins rows W Ts Be){s:Int}{u o:Th}(hu:u∈W)(hs:Step ins rows s 0 [u] p u)(ho:Out ins rows p u o)(hv:aG Be [Xo s,Z1 u.lw]=some v):∃j:Nat,v=.int (j:Nat)/\Ts[j]?=some o:=by
 refine hid λZZ kZ=>?_;obtain⟨s',u',p',o',j,e,h2,h3,h4,h5⟩:=h.2 _ (fx hv);refine kZ ?_;simp only[Prod.mk.injEq,List.cons.injEq,Sum.inl.injEq,Sum.inr.injEq,and_true]at e;obtain⟨⟨e1,e2⟩,e3⟩:=e;have eu:u=u':=xx (tr.nm u hu) (tr.nm u' h2) e2;subst eu;subst e1;obtain⟨ep,_⟩:=oW g hs h3;subst ep;rw[j6 g ho h4];exact⟨j,e3,h5⟩
theorem mf{p0:Th}(h:p∈p0.walk):p.size<=p0.size:=by
 obtain⟨i,hi⟩:=Xe.mp h;have e:walks [p0]=p0.walk:=by simp[walks]
 obtain⟨r,hr⟩:=gy _ [p0] (W2 _) i p (by rw[e];exact hi);have:=h! Ze hr;rw[e,XR,W6,p0.walk_len,p.walk_len]at this;omega
theorem me{E:List (Xk×List Nat)}(c:Cl E Ts):ce Ts:=λt ht u hu=>by
 obtain⟨i,hi⟩:=Xe.mp ht;have hl:=(glE hi);obtain⟨ks,h1,h2⟩:=c.ent i _ (WS (by rw[c.len];exact hl));rw[hi]at h1;cases h1;obtain⟨j,hj⟩:=Xe.mp hu;have Ct:=(glE hj);have AV:=W5 h2;exact WR (nD h2 (WS (by rw[AV];exact Ct)) hj).2
theorem KnOk.len(h:KnOk ins rows W Ts Be):Be.length<=rows.length * W.length:=by
 have h1:=bT (m:=(Yn rows.length).flatMap λs=>W.map λu=>([Xo ((s:Nat):Int),Z1 u.lw]:List Key)) h.1 λk hk=>by
  obtain⟨kv,Ag,rfl⟩:=Xq.mp hk;obtain⟨s,u,p,o,j,rfl,h2,⟨s0,_,_,m,hs,c,i,row,_,_,h3,_⟩,_⟩:=h.2 kv Ag;refine List.mem_flatMap.mpr ⟨s.toNat,ZK.mpr (glE h3),Xq.mpr ⟨u,h2,?_⟩⟩;rw[Yd s0]
 have h2:=iR (f:=λs=>W.map λu=>([Xo ((s:Nat):Int),Z1 u.lw]:List Key)) (n:=W.length) (Yn rows.length) λs _=>by rw[WO];exact W2 _
 rw[WO]at h1;rw[List.length_range]at h2;exact XS h1 h2
theorem KnOk.put(h:KnOk ins rows W Ts Be){s:Int}{u o:Th}(hu:u∈W)(hs:Step ins rows s 0 [u] p u)(ho:Out ins rows p u o)(hj:Ts[j]?=some o):KnOk ins rows W Ts (putK Be [Xo s,Z1 u.lw] (.int (j:Nat))):=by
 refine⟨?_,λkv Ag=>?_⟩
 .rw[mq];split
  .exact h.1
  .rename_i hn
   rw[YG];refine⟨h.1,by simp,λa ha b hb z=>?_⟩;rw[WZ.mp hb]at z;exact hn (z ▸ ha)
 .rcases iT Ag with rfl|⟨h1,_⟩
  .exact⟨s,u,p,o,j,rfl,hu,hs,ho,hj⟩
  .exact h.2 kv h1
structure EnS(ins:List (Xk×Int))(rows:List (List Th))(head t:Th):Prop where
 gi:bq ins
 tr:yP t.walk
 al:(lJ ins rows head t.walk t).length<=900000
 rl:rows.length<=1000
 pz:∀s u p,d3 ins rows head s u p->p.size<=10000
structure EnSt(ins:List (Xk×Int))(rows:List (List Th))(head t:Th)(H:Hp)(kn ro:WT)(Ts:List Th)(E:List (Xk×List Nat))(Be:List (List Key×V)):Prop where
 eR:H ro=some (.dT (kvsOf E))
 eK:H kn=some (.dT Be)
 cl:Cl E Ts
 ok:KnOk ins rows t.walk Ts Be
 al:∀u∈Ts,u∈lJ ins rows head t.walk t
def XK2(kn ro:WT):WT->Prop:=λz=>z=kn\/z=ro
section
variable{head t:Th}{kn ro:WT}{E:List (Xk×List Nat)}
theorem EnSt.mv(h:EnSt ins rows head t H kn ro Ts E Be)(s:j! H H'):EnSt ins rows head t H' kn ro Ts E Be:=⟨s _ _ h.eR,s _ _ h.eK,h.cl,h.ok,h.al⟩
theorem EnSt.nx(h:EnSt ins rows head t H kn ro Ts E Be)(e:H b=some o)(n:∀kv,o≠.dT kv):¬XK2 kn ro b:=by
 rintro(rfl|rfl)
 .rw[h.eK]at e;exact n _ (Xf e).symm
 .rw[h.eR]at e;exact n _ (Xf e).symm
theorem EnSt.kt(h:EnSt ins rows head t H kn ro Ts E Be)(f:FrX (XK2 kn ro) H H'):KT H H':=λb xs e=>f _ _ (h.nx e λ_ z=>nomatch z) e
theorem EnSt.lt(g:EnS ins rows head t)(h:EnSt ins rows head t H kn ro Ts E Be):E.length<=900000/\Be.length<=1000000:=by
 refine⟨?_,?_⟩
 .rw[h.cl.len];exact XS (bT h.cl.nd h.al) g.al
 .exact XS h.ok.len (XS (Nat.mul_le_mul g.rl g.tr.wl) (by decide))
end
def gI:Nat->Sp
 |0=>λ_ _ _ _=>False
 |n+1=>λvs H Q _=>∃(b pa tr kn ro:WT)(ins outs:List (Xk×Int))(head t:Th)(rows:List (List Th))(p p0:Th)(s0:Int)(nm:Xk)(ks:List Th)(AU:List WT)(o:Th)(Ts:List Th)(E:List (Xk×List Nat))(Be:List (List Key×V)),vs=[.ref b,.ref pa,.ref tr,.ref kn,.ref ro]/\Bk H ins outs head rows b/\EnS ins rows head t/\At H p pa/\H tr=some (.tup (AU.map i!))/\Ats H ks AU/\Out ins rows p (.knot nm ks) o/\p∈p0.walk/\d3 ins rows head s0 (.knot nm ks) p0/\InW t.walk t (.knot nm ks)/\kn≠ro/\EnSt ins rows head t H kn ro Ts E Be/\o.tall+aB ks<=n+1/\∀(j:Nat)(E':List (Xk×List Nat))(Bf:List (List Key×V))(H':Hp),FrX (XK2 kn ro) H H'->EnSt ins rows head t H' kn ro (post o Ts) E' Bf->(post o Ts)[j]?=some o->Q (.int (j:Nat)) H'
theorem gH:∀n:Nat,FnOk P w K mg base CX0 n T.g__law_entry.f T.g__law_entry.d ["book","pattern","trees","known","row"] (gI n)
 |0=>⟨λ_ _ _ _ h=>h.elim,λ_ _ _ _ _ _ _ _ _ _ _ _ _ h=>h.elim⟩
 | n+1=>by
   have ih:=gH n;refine T.g__law_entry.F.ok cb (λvs H Q E h=>?_) (λAj A outer s H vs Q E hr h=>?_)
   .obtain⟨b,pa,tr,kn,ro,ins,outs,head,t,rows,p,p0,s0,nm,ks,AU,o,Ts,E1,Be,rfl,_⟩:=h;rfl
   obtain⟨b,pa,tr,kn,ro,ins,outs,head,t,rows,p,p0,s0,nm,ks,AU,o,Ts,E1,Be,rfl,hb,G,hA,UW,Bn,BO,F',BP,B9,Ay,S0,Ao,k⟩:=h
   refine⟨_,(ag (cu (aO fD (aw ax (pv 1) ai (λ_ _=>rfl)) cD (aS _)) (ag (ao 5 cb.nd (aw ax (pv 2) (aw ax (pv 1) ai (λ_ _=>rfl)) (λ_ _=>rfl)))
    (ag (ao 6 cb.nd (aR (ac (aw ax (pv 1) ai (λ_ _=>rfl)) (ac (pcF T.g__law_words (gG T n) hr (ac (pv 5) ae)) ae))))
    (ag (cu (ol (gE (cg hr) (pv 6) (pv 3))) (ag (dG (i:=7) (N:=[WU "kind"]) (js:=[none]) (g:=(az 0)) (tt:=bu) (te:=(tOp (jA K) (bc 0) (tC (.int 0)))) cb.nd rfl (Or.inl rfl) rfl (bX rfl (by decide +kernel) (by decide +kernel) rfl rfl rfl) (ck (aw ax (pv 0) ai (λ_ _=>rfl))) (λ_ _ _ _ _ _=>(pgN 0 vn)) (aP rfl) (λ_ _ _ _ _ _=>bC) (λ_ _ _ _ _ _=>(aw ax (pv 0) ai (λ_ _=>rfl))))
    (ag (ao 8 cb.nd (aw ax (aw ax (aw ax (pv 0) ai (λ_ _=>rfl)) (aw ax (pv 1) ai (λ_ _=>rfl)) (λ_ _=>rfl)) (bQ Xg ZI PySem.F.type_list_index mS (pv 7) (ac (aw ax (pv 5) ai (λ_ _=>rfl)) ae)) (λ_ _=>rfl)))
    (am (dI (cg hr) (pv 3) (pv 6) (cB (ih) (hr.mono (W2 _)) rfl T.g__law_entry.m T.g__law_entry.F.kp T.g__law_entry.b .nil cK (ac (pv 0) (ac (pv 8) (ac (aW dX (pv 5) (bp ai) bt) (ac (pv 3) (ac (pv 4) ae)))))) rfl)))) bB)
    (am (aE (dA (cg hr) (pv 3) (pv 6) (λ_ _=>rfl))))))) bB)
    (ag (ao 9 cb.nd (av dJ (aR (ac (aw ax (pv 1) ai (λ_ _=>rfl)) ae)) (aL aJ rfl T.n_tuple XC (ac (bR (N:=[WU "part",WU "book",WU "trees",WU "known",WU "row"]) (js:=[none,some 0,some 2,some 3,some 4]) (g:=(az 0)) (tt:=bu) (te:=(f9 (gI _) [] E0 (aU (bc 1) (aU (bc 0) (aU (bc 2) (aU (bc 3) (aU (bc 4) dS))))))) rfl (bX rfl (by decide +kernel) (by decide +kernel) rfl rfl rfl) (ck (aW dX (pv 1) (bp ai) bt)) (λ_ _ _ _ _ _=>(pgN 0 yX)) (aP rfl) (λ_ _ _ _ _ _=>bC) (λ_ _ _ _ _ _=>(cB (ih) (hr.mono (W2 _)) rfl T.g__law_entry.m T.g__law_entry.F.kp T.g__law_entry.b .nil cK (ac (pv 1) (ac (pv 0) (ac (pv 2) (ac (pv 3) (ac (pv 4) ae)))))))) ae))))
    (ag (cu (ol (gE (cg hr) (pv 9) (pv 4))) (am (dI (cg hr) (pv 4) (pv 9) (aD mR rfl T.n_len XQ (ac (pv 4) ae)) rfl)) bB)
    (am (aE (dA (cg hr) (pv 4) (pv 9) (λ_ _=>rfl))))))),?_⟩
   try dsimp only[AK,Ad]
   have gi:=G.gi;have hot:=o.tall_eq;cases p with
   | call sn cn =>
     rw[At]at hA;refine hid λZZ kZ=>?_;obtain⟨p',h,st,ho⟩:=BO.unstep;obtain⟨s1,c1,D6,m,hs,c',j,row,rfl,hj,Af,hp⟩:=id st;have Ny:p! m hs∈ks:=WR D6;have CA:=cj Ny;have hkt:=(p! m hs).tall_eq;obtain⟨ha,Nw,BQ⟩:=Bn.at D6;have Md:=BQ;rw[At]at Md;obtain⟨Gm,bs,UX,AY⟩:=Md;obtain⟨ia,oa,BE,ra,Aw,Az,AA,bk⟩:=id hb;refine kZ ?_;have BJ:ins.length=Aw.length:=W5 bk.inK;have HJ:=gi.le
     have hW:p! m hs∈t.walk:=by
      rcases B9 with h|h
      .exact G.tr.kids _ h _ Ny
      .injection h with _ h2;rw[h2,WZ]at Ny;rw[Ny,z!];exact WY ..
     have MB:Step ins rows sn 0 [p! m hs] p' (.knot m hs):=⟨s1,Int.le_refl _,rfl,m,hs,c',j,row,rfl,hj,Af,hp⟩;cases n with
     |zero=>omega
     |succ n =>
     refine⟨_,rfl,pa,_,0,.str q,rfl,rfl,k! hA,at0,rfl,_,rfl,?_⟩;refine dh (λ_=>?_) (λc=>g! (d! rfl) c);refine⟨_,rfl,_,rfl,pa,_,2,.int cn,rfl,rfl,k! hA,at2,tr,_,cn,.ref ha,rfl,rfl,k! UW,at_nonneg c1 (gmE Nw),?_⟩;refine⟨_,rfl,pa,_,1,.int sn,rfl,rfl,k! hA,at1,_,rfl,ha,.knot m hs,rfl,BQ,G.tr.nm _ hW,G.tr.len _ hW,G.tr.size _ hW,by omega,λH1 t1=>?_⟩;refine⟨lnE rfl,λpk DL=>?_⟩;dsimp only;refine gU DL λH2 t2 e2=>?_;have e2:H2 pk=some (.tup (([Xo sn,Z1 (p! m hs).lw]:List Key).map kV)):=e2;have Fm:=t1.trans t2;have S2:=S0.mv Fm;refine bI (λi' H'=>Ex5 λ(c7 c8:Option V)(j:Nat)(E':List (Xk×List Nat))(Bf:List (List Key×V))=>An5 (i'=[some (.ref b),some (.ref pa),some (.ref tr),some (.ref kn),some (.ref ro),some (.ref ha),some (.ref pk),c7,c8,none]) (FrX (XK2 kn ro) H2 H') (EnSt ins rows head t H' kn ro (post o Ts) E' Bf) ((post o Ts)[j]?=some o) (aG Bf [Xo sn,Z1 (p! m hs).lw]=some (.int (j:Nat)))) (λkk hk=>?_) ?_
     .refine⟨_,rfl,_,rfl,kn,_,rfl,DGet.t S2.eK e2,?_⟩;cases hv:aG Be [Xo sn,Z1 (p! m hs).lw]with
      | some v =>
        obtain⟨j',rfl,BW⟩:=S0.ok.hit gi G.tr hW MB ho hv;have UY:post o Ts=Ts:=qM (me S0.cl) (WR BW);refine⟨_,rfl,sZ (hk _ _ ⟨_,_,j',E1,Be,rfl,I! (.refl _),?_,?_,hv⟩)⟩
        .rw[UY];exact S2
        .rw[UY];exact BW
      | none =>
        refine⟨_,rfl,qf ?_⟩;refine⟨_,rfl,b,_,0,.ref ia,rfl,rfl,k! (Fm _ _ bk.bk),at0,ia,rfl,⟨_,k! (Fm _ _ bk.inE)⟩,fN ins (λk=>H! k.1) (k! (Fm _ _ bk.inE)) (by rw[WO];exact BJ) (by rw[WO];omega) (λi x z H3 R W' hx hz s2 hR=>?_) (λD H3 hD s3 e3=>?_)⟩
        .obtain⟨ka,rfl,AI⟩:=aZ hx;obtain⟨z',DG,ez⟩:=B! bk.inK AI;rw[hz]at DG;cases DG;exact⟨_,rfl,ka,_,0,.str z.1,rfl,rfl,k! ((Fm.trans s2) _ _ ez),at0,hR H3 (.refl _)⟩
        have en:ins.map (λk=>H! k.1)=(ins.map (·.1)).map H!:=by rw[YU];rfl
        rw[en]at e3;have Me:=Fm.trans s3;have RL:=bk.mono (n! Me);refine hid λZZ kZ=>?_;obtain⟨Ef,C0,BA,C1,Cw⟩:=y! RL.rw Af;obtain⟨Ma,Gq,RM⟩:=Cw.at hp;refine kZ ?_;refine⟨_,rfl,b,_,3,.ref ra,rfl,rfl,k! RL.bk,bw (j:=3) rfl,_,rfl,pa,_,1,.int sn,rfl,rfl,k! (Me _ _ hA),at1,ra,_,_,.ref Ef,rfl,rfl,k! RL.rl,at_nonneg s1 (gmE C0),_,rfl,.inl ⟨rfl,_,l! e3⟩,_,rfl,ha,_,0,.str m,rfl,rfl,k! (Me _ _ UX),at0,?_⟩;refine⟨D,ins.map (·.1),m,j,rfl,rfl,l! e3,by rw[Xj,hj];rfl,λi hi hz=>?_,by rw[WO];omega,?_⟩
        .rw[Xj]at hz;obtain⟨k',BD,e⟩:=Yi.mp hz;have:=gi.nd i j k' _ BD hj e;omega
        refine⟨Ef,_,(j:Int),.ref Ma,rfl,rfl,k! C1,bw (gmE Gq),?_⟩;refine⟨_,rfl,_,rfl,_,rfl,1,rfl,ha,_,rfl,k! (Me _ _ UX),?_,λp2 Bp=>?_⟩
        .rintro⟨z,_⟩;rw[W8,show(1:Int)=((1:Nat):Int)by rfl,x!]at z;omega
        dsimp only;rw[cy];refine gU Bp λH4 s4 e4=>?_;have Nz:=Me.trans s4;have hhs:=hkt;rw[Th.kids]at hhs;refine⟨_,rfl,_,rfl,b,Ma,p2,kn,ro,ins,outs,head,t,rows,p',p',sn,m,hs,bs,o,Ts,E1,Be,rfl,hb.mono (n! Nz),G,RM.mono (n! s4),e4,AY.mono (n! Nz),ho,(by rw[z!];exact WY ..),st.pat,.inl hW,Ay,S0.mv Nz,by omega,λj' E' Bf H5 f5 S5 UZ=>?_⟩;have U0:=s3.trans s4;have e5:=(S0.mv Nz).kt f5 _ _ (U0 _ _ e2);refine⟨_,rfl,_,rfl,kn,_,rfl,DPut.t S5.eK e5 (aX ?_),?_⟩
        .have:=(S5.lt G).2;omega
        refine hk _ _ ⟨_,_,j',E',_,rfl,λb' o' n' e'=>?_,⟨by rw[af Ay.symm];exact S5.eR,ad,S5.cl,S5.ok.put hW MB ho UZ,S5.al⟩,UZ,by rw[bW,b! rfl]⟩;rw[af (λz=>n' (.inl z))];exact f5 _ _ n' (U0 _ _ e')
     .rintro i' H3 ⟨c7,c8,j',E',Bf,rfl,f3,S3,LP,QS⟩;have e3:=S2.kt f3 _ _ e2;have hg:DGet H3 kn (.ref pk) (some (.int (j':Nat))):=by have:=DGet.t S3.eK e3;rw[QS]at this;exact this
      exact⟨_,rfl,_,rfl,kn,_,rfl,hg,k j' E' Bf H3 ((I! Fm).trans f3) S3 LP⟩
   | knot m ts =>
     refine hid λZZ kZ=>?_;obtain⟨os,rfl,BH⟩:=BO.unknot;have UQ:=BH.length;rw[r!]at Ao;have Fz:=hA;rw[At]at Fz;obtain⟨Gm,BA,ea,B6⟩:=Fz;refine kZ ?_;have D9:BA.length=ts.length:=B6.length
     have htz:ts.length<=10000:=by
      have h1:=G.pz _ _ _ BP;have h2:=mf F';rw[w!]at h2;have h3:=cV ts;omega
     refine⟨_,rfl,pa,_,0,.str m,rfl,rfl,k! ea,at0,rfl,_,rfl,?_⟩;refine dh (λc=>g! (e! c) (λz=>Gm (V.str.inj z))) (λ_=>?_);refine⟨_,rfl,pa,_,0,.str m,rfl,rfl,k! ea,at0,lnE rfl,λp1 DI=>?_⟩;dsimp only;refine gU DI λH1 t1 e1=>?_;refine⟨_,rfl,1,rfl,pa,_,rfl,k! (t1 _ _ ea),?_,λp2 Bp=>?_⟩
     .rintro⟨z,_⟩;rw[W8,show(1:Int)=((1:Nat):Int)by rfl,x!]at z;omega
     dsimp only;rw[cy];refine gU Bp λH2 t2 e2=>?_;have Fm:=t1.trans t2;have S2:=S0.mv Fm;refine⟨p2,rfl,⟨_,k! e2⟩,nM (xs:=BA.map i!) (λi acc H3=>An2 (FrX (XK2 kn ro) H2 H3) (Ex3 λ(ids:List Nat)(E':List (Xk×List Nat))(Bf:List (List Key×V))=>An3 (acc=ids.map nV) (EnSt ins rows head t H3 kn ro (aY (os.take i) Ts) E' Bf) (Xz (λid u=>(aY (os.take i) Ts)[id]?=some u) ids (os.take i)))) (λi acc H3⟨f3,_⟩=>k! (S2.kt f3 _ _ e2)) (by rw[WO];omega) ⟨I! (.refl _),[],E1,Be,rfl,by rw[List.take_zero,aY];exact S2,by rw[List.take_zero];exact .nil⟩ ?_ ?_ ?_⟩
     .rintro i acc H3 D l D0 ⟨f3,ids,E',Bf,rfl,S3,DK⟩ hD
      have M6:∀{x:WT}{kv},H3 x=some (.dT kv)->x≠D:=λe z=>by
       rw[z]at e;rcases hD with h|⟨l0,h⟩ <;> · rw[h]at e;cases e
      refine⟨λb' o' n' e'=>?_,ids,E',Bf,rfl,⟨by rw[af (M6 S3.eR)];exact S3.eR,by rw[af (M6 S3.eK)];exact S3.eK,S3.cl,S3.ok,S3.al⟩,DK⟩;rw[af (ar e' D0)];exact f3 _ _ n' e'
     .rintro i x acc D H3 R W' hx ⟨f3,ids,E',Bf,rfl,S3,DK⟩ AR eD hR;obtain⟨ua,rfl,Gn⟩:=aZ hx;obtain⟨u,hu,Gp⟩:=B6.get Gn
      have BJ:i<os.length:=by
       have:=(glE hu);omega
      have hz:os[i]?=some os[i]:=WS BJ;have Mc:os[i]∈os:=WR hz;have ab7:=cj Mc;have hzt:=os[i].tall_eq;have NA:KT H H3:=(n! Fm).trans (S2.kt f3);have CA:os.take (i+1)=os.take i++[os[i]]:=by rw[Yp,hz];rfl
      have BS:aY (os.take (i+1)) Ts=post os[i] (aY (os.take i) Ts):=by rw[CA,du,aY,aY]
      cases n with
      |zero=>omega
      |succ n =>
      refine⟨_,rfl,_,rfl,_,rfl,_,rfl,_,rfl,b,ua,tr,kn,ro,ins,outs,head,t,rows,u,p0,s0,nm,ks,AU,os[i],_,E',Bf,rfl,hb.mono NA,G,Gp.mono NA,NA _ _ UW,Bn.mono NA,BH.get i hu hz,?_,BP,B9,Ay,S3,by omega,λj' E2 RN H4 f4 S4 hj4=>?_⟩
      .refine iW F' ?_;rw[A!];exact WQ _ (eO _ _ (WR hu))
      refine hR _ _ ⟨f3.trans f4,ids++[j'],E2,RN,by rw[W9];rfl,by rw[BS];exact S4,?_⟩ (f4 _ _ (S3.nx eD λ_ z=>nomatch z) eD);refine hid λZZ kZ=>?_;obtain⟨⟨M,hM,_⟩,_⟩:=j2 os[i] (me S3.cl) S3.cl.nd;refine kZ ?_;rw[BS,CA];refine q! (v! (λid v h=>?_) DK) (.cons hj4 .nil);rw[hM,XA (glE h)];exact h
     .rintro D H3 acc D0 ⟨f3,ids,E',Bf,rfl,S3,DK⟩ AR eD;have CA:os.take (BA.map i!).length=os:=by rw[Yr (by rw[WO];omega)]
      rw[CA]at S3 DK;have Lk:ids.length=os.length:=W5 DK;refine⟨D,_,rfl,.inl ⟨l! eD,λtp By=>?_⟩⟩;refine gU By λH4 s4 e4=>?_;refine nN (s4 _ _ (S2.kt f3 _ _ (t2 _ _ e1))) e4 (by rw[WO];show 1+ids.length<=1000000;omega) λp5 H5 s5 e5=>?_;have JB:=s4.trans s5;have S5:=S3.mv JB;have Jy:H5 p5=some (.tup ((fb (m,ids)).map kV)):=by rw[kD];exact e5
      have f5:FrX (XK2 kn ro) H H5:=((I! Fm).trans f3).trans (I! JB);obtain⟨Nh,_⟩:=S5.lt G;refine bI (λi' H'=>Ex2 λ(j:Nat)(E':List (Xk×List Nat))=>An5 (i'=[some (.ref b),some (.ref pa),some (.ref tr),some (.ref kn),some (.ref ro),none,none,none,none,some (.ref p5)]) (FrX (XK2 kn ro) H5 H') (EnSt ins rows head t H' kn ro (post (.knot m os) Ts) E' Bf) ((post (.knot m os) Ts)[j]?=some (.knot m os)) (aG (kvsOf E') (fb (m,ids))=some (.int (j:Nat)))) (λkk hk=>?_) ?_
      .refine⟨_,rfl,_,rfl,ro,_,rfl,DGet.t S5.eR Jy,?_⟩;cases hv:aG (kvsOf E') (fb (m,ids))with
       | some v =>
         obtain⟨i0,rfl,Ql⟩:=kB hv;have Ni:=S5.cl.found Ql DK;have Mf:post (.knot m os) Ts=aY os Ts:=by rw[post,b! (WR Ni)]
         refine⟨_,rfl,sZ (hk _ _ ⟨i0,E',rfl,I! (.refl _),?_,?_,hv⟩)⟩
         .rw[Mf];exact S5
         .rw[Mf];exact Ni
       | none =>
         obtain⟨Ic,F9⟩:=kN hv;have D':=S5.cl.snoc Ic DK
         have hnT:p! m os∉aY os Ts:=λz=>by
          have:=(YG.mp D'.nd).2.2 _ z _ (WZ.mpr rfl);exact this rfl
         have Mf:post (.knot m os) Ts=aY os Ts++[.knot m os]:=by rw[post,a! hnT]
         refine⟨_,rfl,qf ?_⟩;refine⟨_,rfl,ro,_,rfl,S5.eR,_,rfl,_,rfl,ro,_,rfl,DPut.t S5.eR Jy (aX (by rw[eG];omega)),?_⟩;rw[eG,F9];refine hk _ _ ⟨E'.length,E'++[(m,ids)],rfl,λb' o' n' e'=>?_,?_,?_,?_⟩
         .rw[af (λz=>n' (.inr z))];exact e'
         .rw[Mf];refine⟨ad,by rw[af Ay];exact S5.eK,D',S5.ok.up (List.prefix_append _ _),λu hu=>?_⟩;rcases W7.mp hu with hu|hu
          .exact S5.al u hu
          .rw[WZ.mp hu];exact rG gi BP B9 F' BO
         .rw[Mf,S5.cl.len];simp
         .rw[<-F9,bW,b! rfl]
      .rintro i' H6 ⟨j',E2,rfl,f6,S6,RO,hv6⟩;have e6:=S5.kt f6 _ _ Jy;have hg:DGet H6 ro (.ref p5) (some (.int (j':Nat))):=by have:=DGet.t S6.eR e6;rw[hv6]at this;exact this
       exact⟨_,rfl,_,rfl,ro,_,rfl,hg,k j' E2 Bf H6 (f5.trans f6) S6 RO⟩
theorem oY{ks:List (Xk×Int)}{C:Int}(g:bq ks):∀n:Nat,(∀t:Th,t.size<=n->t.FitS ks S C->(t.walk.filter Th.isKnot).length=t.kn)/\(∀ts:List Th,au ts<=n->FitSs ks S C ts->((walks ts).filter Th.isKnot).length=kns ts):=by
 intro n;induction n with
 | zero =>
   refine⟨λt h=>?_,λts h _=>?_⟩
   .have:=size_pos t;omega
   .cases ts with
    |nil=>rw[walks,kns];rfl
    | cons t ts =>
      rw[au]at h;have:=size_pos t;omega
 | succ n ih =>
   have one:∀t:Th,t.size<=n+1->t.FitS ks S C->(t.walk.filter Th.isKnot).length=t.kn:=λt hn h=>by
    cases t with
    |call s k=>rw[A!,Th.kn];rfl
    | knot nm ts =>
      rw[G!]at h;rw[w!]at hn;have hs:nm≠star:=u5 (g.low _ h.1).1
      have e:(p! nm ts).isKnot=true:=by
       show(!false && !(decide (nm=star/\ts=[])))=true;rw[c! (λz=>hs z.1)];rfl
      rw[A!,List.filter_cons,b! e,W8,ih.2 ts (by omega) h.2,Th.kn]
   refine⟨one,λts=>?_⟩;induction ts with
   |nil=>intro _ _;rw[walks,kns];rfl
   | cons t ts ih2 =>
     intro h hf;rw[au]at h;rw[FitSs]at hf;rw[walks,kns,List.filter_append,W6,one t (by omega) hf.1,ih2 (by omega) hf.2]
theorem qZ{ks:List (Xk×Int)}{C:Int}(g:bq ks)(h:p.FitS ks S C)(hz:p.size<=10000)(ht:p.tall<=150):PatS p:=⟨hz,ht,(oY g _).1 p (W2 _) h⟩
inductive rD(K:WX)(tp:WT)(vs:List V)(H:Hp)(Q:VK)(_E:XK):Prop
 |mk (a:WT) (ns:List Int) (Aq:vs=[.ref a]) (Ar:SqL K H a (ns.map o!)) (Ax:ns.length<=63) (AN:H tp=some (.tbl #[])) (Bd:∀H',Q (.bl true) H'):rD K tp vs H Q _E
def nG(K:WX)(tp:WT):Sp:=rD K tp
def qj(e:Xk×List Nat):Dv:=.tup (.str e.1::e.2.map λ(i:Nat)=>Dv.int (i:Nat))
theorem re:∀ns:List Nat,DAts H (ns.map λ(i:Nat)=>Dv.int (i:Nat)) (ns.map nV)
 | []=>.nil
 |n::ns=>.cons (by rw[DAt];rfl) (re ns)
theorem nz:∀{To:List (Xk×List Nat)}{cs:List WT},Xz (EnA H) To cs->DAts H (To.map qj) (cs.map i!)
 |_,_,.nil=>.nil
 |_,_,.cons (a:=e) (b:=b) h t=>.cons (by unfold qj;rw[DAt];exact⟨b,_,rfl,h,.cons (by rw[DAt]) (re e.2)⟩) (nz t)
theorem nj:∀ns:List Nat,bY (ns.map λ(i:Nat)=>Dv.int (i:Nat))=0
 | []=>by rw[ZA,bY]
 |n::ns=>by rw[XH,bY,nj ns,Dv.deep];rfl
theorem ny:∀To:List (Xk×List Nat),bY (To.map qj)<=1
 | []=>by rw[ZA,bY];omega
 | e::To=>by
   have:=ny To;rw[XH,bY];unfold qj;rw[Dv.deep,bY,nj,Dv.deep];unfold qj at this;omega
mutual
theorem ly{ks:List (Xk×Int)}:∀{t:Th},t.Fit ks->∀p∈t.walk,∃m us,p=.knot m us/\∃i,(m,i)∈ks
 |.call _ _,h,_,_=>by rw[E!]at h;exact h.elim
 | .knot n ts,h,p,hp=>by
   rw[E!]at h;rw[A!]at hp;rcases Xb.mp hp with rfl|hp
   .exact⟨n,ts,rfl,_,h.1⟩
   .exact jH h.2 p hp
theorem jH{ks:List (Xk×Int)}:∀{ts:List Th},Fits ks ts->∀p∈walks ts,∃m us,p=.knot m us/\∃i,(m,i)∈ks
 | [],_,p,hp=>by rw[walks]at hp;cases hp
 | t::ts,h,p,hp=>by
   rw[Fits]at h;rw[walks]at hp;rcases W7.mp hp with hp|hp
   .exact ly h.1 p hp
   .exact jH h.2 p hp
end
inductive jI(tp:WT)(vs:List V)(H:Hp)(Q:VK)(_E:XK):Prop
 |mk (b ta:WT) (ins outs:List (Xk×Int)) (S:Int) (dp:Nat) (head:Th) (rows:List (List Th)) (t o:Th) (Aq:vs=[.ref b,.ref ta]) (Ar:ShI H ins outs S dp head rows t b ta o) (Ax:TabSt H tp (gh aK) jV) (AN:o.tall<=150) (Bd:∀(r ra:WT)(cs:List WT)(To:List (Xk×List Nat))(ix:Nat)(H':Hp),SameT tp H H'->TabSt H' tp (gh aK) jV->H' r=some (.tup [.ref ra,.int (ix:Nat)])->H' ra=some (.tup (cs.map i!))->Xz (EnA H') To cs->Cl To (post o [])->(post o [])[ix]?=some o->Q (.ref r) H'):jI tp vs H Q _E
def qh(tp:WT):Sp:=jI tp
theorem ShI.mv{dp:Nat}{head:Th}{t o:Th}(h:ShI H ins outs S dp head rows t b ta o)(k:KT H H'):ShI H' ins outs S dp head rows t b ta o:=by
 have c:=h.cnt;exact⟨⟨c.bk.mono k,c.gi,c.ok0,c.hdf,c.le,c.pat,c.hd,c.tr.mono k,c.fit,c.tall,c.size⟩,h.out,h.al,h.cs⟩
theorem xB{E F:List (Xk×List Nat)}(h:Cl E Ts)(g:Cl F Ts):E=F:=by
 refine List.ext_getElem? λi=>?_;by_cases hi:i<E.length
 .have hj:i<F.length:=by rw[g.len,<-h.len];exact hi
  rw[WS hi,WS hj];refine hid λZZ kZ=>?_;obtain⟨k1,a1,b1⟩:=h.ent i _ (WS hi);obtain⟨k2,a2,b2⟩:=g.ent i _ (WS hj);refine kZ ?_;rw[a1]at a2;injection a2 with a2;injection a2 with a3 a4;subst a4;exact h! some (Prod.ext a3 (nO h.nd (v! (λ_ _ z=>z.2) b1) (v! (λ_ _ z=>z.2) b2)))
 .rw[Yw (by omega),Yw (by rw[g.len,<-h.len];omega)]
theorem qu(L:Lam mg base T.tc_shared T.tp_shared):FnOk P w K mg base CX0 9 T.g_shared.f T.g_shared.d ["book","tree"] (qh T.tp_shared) :=
 (nn T L).x0 λvs H Q E h=>by
  obtain⟨b,ta,ins,outs,S,dp,head,rows,t,o,rfl,I,E7,hle,q⟩:=h;exact⟨b,ta,ins,outs,S,dp,head,rows,t,o,rfl,I,E7,λ_=>q,λhn=>g! hle hn⟩
theorem xX(L:Lam mg base T.tc_shared T.tp_shared):FnOk P w K mg base CX0 231 T.g_law.f T.g_law.d ["script"] (nG K T.tp_shared):=by
 refine T.g_law.F.okA jn λAj A outer s H vs Q E hr h=>?_;obtain⟨a,ns,rfl,hS,Dh,By,k⟩:=h
 refine⟨_,(ag (kW (pcF T.g__law_setting (jW T) hr (ac (pv 0) (ac ai (ac ai ae)))) (cv rfl (aI (pgN 1 jn.nd) (aI (pgN 2 jn.nd) bS))))
  (ag (cu (aO df (aw ax (pcF T.g__law_size (eZ T 20) hr (ac (aw ax (pv 1) ai (λ_ _=>rfl)) (ac (aN (ac (pcF T.g__law_sizes (g7 T 80) hr (ac (pv 1) (ac (pv 2) ae))) ae)) ae))) ai (λ_ _=>rfl)) ai (aS _)) (am (aE (ft (wD (xD hr)) (pcF T.g__law_refusal (fG T L) hr (ac (pv 1) (ac (pv 2) ae))) (aN (ac oH (ac oH (ac oH ae)))) (aS _)))) bB)
  (ag (ao 3 jn.nd eM)
  (ag (ao 4 jn.nd (pcF T.g__law_entry (gH T 230) hr (ac (pv 1) (ac (aw ax (pv 1) ai (λ_ _=>rfl)) (ac (aR (ac (pv 2) ae)) (ac eM (ac (pv 3) ae)))))))
  (ag (cu (aO wH (pcF T.g__law_refusal (fG T L) hr (ac (pv 1) (ac (pv 2) ae))) t7 (aS _)) (am (aE oH)) bB)
  (ag (ao 5 jn.nd (pcF T.g_shared (qu T L) hr (ac (pv 1) (ac (pv 2) ae))))
  (am (aE (yl (aD (sK (T:="tuple")) rfl T.n_isinstance ZR (ac (pv 5) (ac (rL (v:=.ty "tuple") rfl T.n_tuple XC rfl) ae))) (xQ (ft (xE (B:=150) (k9 hr)) (pv 5) (aR (ac (aL aJ rfl T.n_tuple XC (ac (aL (gu rfl) rfl T.n_list PyProof.Rows.boot_list (ac (pv 3) ae)) ae)) (ac (pv 4) ae))) (aS _)))))))))))),?_⟩
 try dsimp only[AK,Ad]
 refine⟨_,rfl,a,ns,4,2,rfl,hS,Dh,by decide,by decide,by decide,by decide,λr b ta ins outs head rows S t H1 s1 er bk gi go bo Lb RP U1 hA hF hT hZ=>?_⟩;refine⟨r,_,rfl,k! er,rfl,_,_,rfl,_,_,rfl,rfl,?_⟩;have hd:((2:Int).toNat+9)=11:=rfl;rw[hd]at bo;have hht:=bo.hdt
 have F0:∀row∈rows,∀p∈row,∃C,p.FitS outs S C/\p.tall<=21:=λrow hr p hp=>by
  obtain⟨j,hj⟩:=Xe.mp hp;have CM:=bo.row row hr;have Ct:=(glE hj);obtain⟨kk,hk⟩:∃kk,ins[j]?=some kk:=⟨_,WS (by rw[<-CM.len];exact Ct)⟩;obtain⟨h1,h2⟩:=CM.fit j p kk hj hk;exact⟨_,h1,by omega⟩
 have hR:∀s u p,d3 ins rows head s u p->p.size<=364/\∃C,p.FitS outs S C:=λs u p hp=>by
  rcases hp with⟨_,rfl,_⟩|⟨_,m,hs,c,j,row,h1,h2,h3,h4⟩
  .exact⟨U1,_,bo.hdf⟩
  .exact⟨RP row (WR h3) p (WR h4),(F0 row (WR h3) p (WR h4)).imp λ_ h=>h.1⟩
 have GN:rows.length<=4:=by have:=bo.len;omega
 have DC:=t.walk_len
 have AR:(lJ ins rows head t.walk t).length<=900000:=by
  have h1:=wM (ins:=ins) (W:=t.walk) (t:=t) (N:=364) U1 (by decide) RP;have h2:(t.walk.length+1) * ((rows.length+1) * 364)<=301 * (5 * 364):=Nat.mul_le_mul (by omega) (Nat.mul_le_mul (by omega) (W2 _));omega
 have Mg:∀h∈[t],h.Fit ins:=λh hh=>by rw[WZ.mp hh];exact hF
 refine hid λZZ kZ=>?_;obtain⟨o,ho,hoF⟩:=uZ bo _ YI [t] (W2 _) Mg _ head (W2 _) bo.hdf
 have I1:ShI H1 ins outs S 11 head rows t b ta o:=⟨⟨bk,gi,⟨head,bo⟩,bo.hdf,by omega,λrow hr p hp=>by
  obtain⟨C,h1,h2⟩:=F0 row hr p hp;exact qZ go h1 (by have:=RP row hr p hp;omega) (by omega),qZ go bo.hdf (by omega) (by omega),hA,hF,by omega,by omega⟩,ho,AR,λs u p hp c hc=>by
  obtain⟨_,C,h1⟩:=hR s u p hp;have:=gC p [] h1 c hc;exact⟨this.1,this.2.2.1⟩⟩
 have U2:=ly hF
 have G:EnS ins rows head t:=⟨gi,⟨λu hu kd hk=>jd t u kd hu hk,λu hu p hp=>by
  obtain⟨m,us,rfl,i,hi⟩:=U2 p (iW hu hp);exact⟨m,us,rfl,(gi.low _ hi).1⟩,λu hu p hp=>by
  obtain⟨m,us,rfl,i,hi⟩:=U2 p (iW hu hp);exact(gi.low _ hi).2,λu hu=>by have:=mf hu;omega,by omega⟩,AR,by omega,λs u p hp=>by have:=(hR s u p hp).1;omega⟩
 have IE:=s1 _ _ By;obtain⟨ia,oa,BE,ra,Aw,Az,AA,NB⟩:=id bk;refine kZ ?_;dsimp only[az,tV];refine cz (λz H'=>An2 (j! H1 H') ((z=true↔¬o.tall<=150))) (λk2 Bb=>?_) (λH' Bg=>?_) (λH' Bg=>?_)
 .refine⟨_,rfl,b,_,2,.ref BE,rfl,rfl,k! NB.bk,at2,_,rfl,_,rfl,b,ta,ins,outs,head,rows,S,11,t,rfl,bk,gi,go,bo,by decide,by omega,hA,hF,(by show t.tall<=80;omega),λsz H2 s2 nsz hsz=>?_⟩;refine⟨lnE rfl,λl1 CC=>?_⟩;have s3:=aj CC (.lst [.ref sz]);have U3:=s2.trans s3;refine⟨BE,l1,ins,outs,rows,S,1,head,YI,[t],[sz],o,rfl,NB.hd.mono (n! U3),ad,.cons (hsz.same s3) .nil,ho,(by show head.tall<=20;omega),bo.hdf,go,λpr H4 s4 BP=>?_⟩;unfold tz at BP;refine⟨pr,_,1,_,rfl,rfl,k! BP,at1,_,_,rfl,rfl,_,rfl,Bb _ _ ⟨U3.trans s4,?_⟩⟩;rw[decide_eq_true_iff];omega
 .obtain⟨s2,hb⟩:=Bg;have RQ:=hb.mp rfl;refine⟨_,rfl,_,rfl,b,ta,ins,outs,S,11,head,rows,t,o,rfl,I1.mv (n! s2),.inl (s2 _ _ IE),λhs=>g! hs RQ,λ_ l H3 s3 el=>?_⟩;refine⟨lnE rfl,λl2 BI=>?_⟩;have s4:=aj BI (.lst [.bl true,.bl false,.bl true]);exact⟨l,l2,[true,false,true],[true,false,true],rfl,rfl,l! (s4 _ _ el),l! ad,k _⟩
 obtain⟨s2,hb⟩:=Bg;have hle:o.tall<=150:=Classical.byContradiction λz=>by cases hb.mpr z
 have k12:=n! s2;have I2:=I1.mv k12;have Mh:=s2 _ _ IE;have U4:=NB.mono k12;clear I1 s1 By IE NB bk;generalize H'=H2 at*;intro ro hro;dsimp only[az];refine gU hro λH3 s3 e3=>?_;have e3:H3 ro=some (.dT (kvsOf [])):=e3;refine⟨_,rfl,_,rfl,b,_,2,.ref BE,rfl,rfl,k! (s3 _ _ U4.bk),at2,_,rfl,lnE rfl,λtt FJ=>?_⟩;refine gU FJ λH4 s4 e4=>?_;have e4:H4 tt=some (.tup ([ta].map i!)):=e4;intro kn Fc;refine gU Fc λH5 s5 e5=>?_;have RR:=s3.trans (s4.trans s5);have Ay:kn≠ro:=λz=>by rw[z,s4 _ _ e3]at Fc;cases Fc
 have S5:EnSt ins rows head t H5 kn ro [] [] []:=⟨s5 _ _ (s4 _ _ e3),e5,⟨rfl,YT,λi e h=>by simp at h⟩,⟨YT,λkv h=>by cases h⟩,λu h=>by cases h⟩;have k25:=n! RR;have I5:=I2.mv k25;have RH:=U4.mono k25;have t1:aB [t]=t.tall:=by rw[aB,aB];exact Nat.max_zero _
 refine⟨_,rfl,b,BE,tt,kn,ro,ins,outs,head,t,rows,head,head,-1,YI,[t],[ta],o,[],[],[],rfl,I5.cnt.bk,G,RH.hd,s5 _ _ e4,.cons I5.cnt.tr .nil,ho,(by rw[z!];exact WY ..),.inl ⟨rfl,rfl,t,rfl⟩,.inr rfl,Ay,S5,(by show o.tall+aB [t]<=230;rw[t1];omega),λj E Be H6 f6 S6 RO=>?_⟩;dsimp only[az];have I6:=I5.mv (S5.kt f6);have IF:=f6 _ _ (S5.nx (RR _ _ Mh) λ_ z=>nomatch z) (RR _ _ Mh);dsimp only[tV];refine cz (λz H'=>An3 (z=false) (SameT T.tp_shared H6 H') (TabSt H' T.tp_shared (gh aK) jV)) (λk2 Bb=>?_) (λH' Bg=>by cases Bg.1) (λH7 Bg=>?_)
 .refine⟨_,rfl,_,rfl,b,ta,ins,outs,S,11,head,rows,t,o,rfl,I6,.inl IF,λ_ H7 s7 RS=>?_,λhn=>g! hle hn⟩;exact⟨rfl,_,rfl,Bb _ _ ⟨rfl,s7,RS⟩⟩
 obtain⟨_,s7,RS⟩:=Bg;have k67:KT H6 H7:=s7.kt IF;have I7:=I6.mv k67;have Et:ro≠T.tp_shared:=λz=>by have:=S6.eR;rw[z,IF]at this;cases this
 have eR7:=s7 _ _ Et S6.eR;refine⟨_,rfl,_,rfl,b,ta,ins,outs,S,11,head,rows,t,o,rfl,I7,RS,hle,λr' QL cs To ix H8 s8 ht8 U5 RT Jx RU E6=>?_⟩;dsimp only[az];have eR8:=s8 _ _ Et eR7;have hE:=xB S6.cl RU;subst hE;have FA:=io S6.cl.nd RO E6;subst FA;refine⟨_,rfl,_,_,_,rfl,.tup U5,xP,?_⟩;refine⟨true,rfl,qf ?_⟩;refine⟨_,rfl,_,rfl,ro,_,rfl,eR8,λl bs hl AY=>?_⟩;refine gU hl λH9 s9 e9=>?_;refine⟨l,_,rfl,.inl ⟨l! e9,λp9 hp9=>?_⟩⟩;refine gU hp9 λDD Cf GQ=>?_;refine⟨_,rfl,lnE rfl,λp11 RV=>?_⟩;refine gU RV λGw Eg RA=>?_;have Dy:=s9.trans (Cf.trans Eg);have d1:DAts Gw [.tup (E.map qj),.int (j:Nat)] [.ref QL,.int (j:Nat)]:=.cons (by rw[DAt];exact⟨_,_,rfl,Dy _ _ RT,nz (v! (λ_ _ h=>Dy _ _ h) Jx)⟩) (.cons (by rw[DAt]) .nil);have d2:DAts Gw [.tup (E.map qj),.int (j:Nat)] [.ref p9,.int (j:Nat)]:=.cons (by rw[DAt];exact⟨_,_,rfl,Eg _ _ GQ,nz (v! (λ_ _ h=>Dy _ _ h) (ph AY))⟩) (.cons (by rw[DAt]) .nil);refine⟨r',p11,_,_,_,_,rfl,rfl,k! (Dy _ _ U5),k! RA,d1,d2,?_,λbb OA=>?_⟩
 .have:=ny E;rw[bY,Dv.deep,bY,Dv.deep,bY];omega
 .have e:bb=true:=OA.mpr rfl;subst e;exact k _
end
theorem all_mk{l:PySem.W.OpenLaw}{fa:WT}(X:K.In h)(G:h.Ns Xv mg)(Lf:mg "law"=some (.ref fa))
 {Ac:WT} {Mi:WT} {RW RX:Option WT} {RY:Array (Option WW)} {RZ R0 R1 R3 Mj R4:WW} {Ml:WT} {R5 R6:Option WT} {R7:Array (Option WW)} {R8 R9 Sa Sb Mm Sd:WW} {NC:WT} {Se Sf:Option WT} {Sg:Array (Option WW)} {Sh Si Sj Sk IG Sl:WW} {Mn:WT} {Sm Mo:Option WT} {Sn:Array (Option WW)} {So Mp Mq Mr IH Mt:WW} {tc_shared tp_shared:WT} {Cj:YF} {U6:Tok} {Fu:Tok} {MD:Tok} {AX:WT} {Ai:WT} {Cy:WT}
 (g_kids_of:FX K mg "kids_of" jr ["thing"])
 (g_walked:FX K mg "walked" kq ["thing"])
 (g_placed:FX K mg "placed" lR ["thing"])
 (g_tall:FX K mg "tall" qo ["tree"])
 (g_is_call:FX K mg "is_call" jp ["thing"])
 (g_called_by:FX K mg "called_by" fW ["call"])
 (g_tall_of:FX K mg "tall_of" jb ["pattern"])
 (g_calls_in:FX K mg "calls_in" im ["pattern"])
 (g_ins_of:FX K mg "ins_of" lA ["book"])
 (g_head_of:FX K mg "head_of" jx ["book"])
 (g_rules_of:FX K mg "rules_of" hG ["book"])
 (g_above:FX K mg "above" n8 ["tree"])
 (g_digests_of:FX K mg "digests_of" ff ["book","digest"])
 (g_hand_on:FX K mg "hand_on" jc ["digests","level","number","beneath"])
 (g_levels_of:FX K mg "levels_of" gj ["digests","head","tree"])
 (g_kid_worths:FX K mg "kid_worths" fw ["spots","beneath"])
 (g_folded:FX K mg "folded" kQ ["book","head","tree","digest","worth"])
 (g_depths_in:FX K mg "depths_in" f8 ["pattern"])
 (g_height_worth:FX K mg "height_worth" dP ["pair","heights"])
 (g_height_of:FX K mg "height_of" fZ ["book","tree"])
 (g_parts_in:FX K mg "parts_in" ik ["pattern"])
 (g_entered:FX K mg "entered" jl ["entries","parts","numbers"])
 (g_in_order:FX K mg "in_order" hV ["row","at"])
 (g__law_cell:FX K mg "_law_cell" fP ["script","k"])
 (g__law_turn:FX K mg "_law_turn" gw ["cell","k"])
 (g__law_kinds:FX K mg "_law_kinds" fc ["cell","letters"])
 (g__law_leaf:FX K mg "_law_leaf" fS ["kinds","cell"])
 (g__law_pattern:FX K mg "_law_pattern" dW ["cell","outs","states","kids","deep"])
 (g__law_digit:FX K mg "_law_digit" fj ["left","many"])
 (g__law_by_digits:FX K mg "_law_by_digits" cW ["left","outs","states","kids","deep"])
 (g__law_book_by_digits:FX K mg "_law_book_by_digits" cf ["cell","ins","outs","states","deep"])
 (g__law_book:FX K mg "_law_book" fM ["cell","ins","outs","states","deep"])
 (g__law_knot:FX K mg "_law_knot" fX ["kind","kids"])
 (g__law_tree:FX K mg "_law_tree" gq ["cells","ins"])
 (g__law_size:FX K mg "_law_size" gm ["pattern","kids"])
 (g__law_sizes:FX K mg "_law_sizes" fB ["book","tree"])
 (g__law_wrapped:FX K mg "_law_wrapped" dQ ["pattern","kind","leaf","many"])
 (g__law_setting:FX K mg "_law_setting" dZ ["script","most","deep"])
 (g__law_words:FX K mg "_law_words" fo ["tree"])
 (g__law_entry:FX K mg "_law_entry" fy ["book","pattern","trees","known","row"])
 (g__law_refusal:FX K mg "_law_refusal" dR ["book","tree"])
 (on_Level:XU K Xv "Level"=some (some (.ref Ac)))
 (pg_Level:PySem.W.plainGet K Ac YI=true)
 (hd_Level:PySem.W.hasDictIn K Ac=true)
 (po_Level:PySem.W.plainOver K Ac=true)
 (sa_Level:XT K (.ref Ac) "__setattr__"=some (some (.builtin "object.__setattr__")))
 (mk_Level:PySem.W.makesIn K Ac=true)
 (kc_Level:YJ K (.ref Ac)=true)
 (na_Level_trees:XT K (.ref Ac) "trees"=some none)
 (na_Level_asked:XT K (.ref Ac) "asked"=some none)
 (na_Level_kid_spots:XT K (.ref Ac) "kid_spots"=some none)
 (a12:XT K (.ref Ac) "__init__"=some (some (.ref Mi))) (i12:PySem.W.isFn K (.ref Mi)=true) (l12:K.lookup Mi=some ⟨RZ,RW,.func (YR "__init__" "Level.__init__" (bA cq) (bj cq) (aq cq) .none R0 R1 R3 RX Mj R4),RY⟩) (c12:PySem.W.codeIn K Mj "Level.__init__"=true) (k12:YJ K (.ref Mi)=true)
 (a13:XT K (.ref Ac) "spot_of"=some (some (.ref Ml))) (i13:PySem.W.isFn K (.ref Ml)=true) (l13:K.lookup Ml=some ⟨R8,R5,.func (YR "spot_of" "Level.spot_of" (bA bJ) (bj bJ) (aq bJ) .none R9 Sa Sb R6 Mm Sd),R7⟩) (c13:PySem.W.codeIn K Mm "Level.spot_of"=true) (k13:YJ K (.ref Ml)=true)
 (a25:XU K Xv "shared"=some (some (.ref NC))) (l25:K.lookup NC=some ⟨Sh,Se,.func (YR "shared" "shared" (bA cO) (bj cO) (aq cO) .none Si Sj Sk Sf IG Sl),Sg⟩) (c25:PySem.W.codeIn K IG "shared"=true) (k25:YJ K (.ref NC)=true)
 (a44:XU K Xv "law"=some (some (.ref Mn))) (l44:K.lookup Mn=some ⟨So,Sm,.func (YR "law" "law" (bA iX) (bj iX) (aq iX) .none Mp Mq Mr Mo IH Mt),Sn⟩) (c44:PySem.W.codeIn K IH "law"=true) (k44:YJ K (.ref Mn)=true)
 (e_shared:IG=.ref tc_shared) (v_shared:K.lookup tc_shared=some Cj) (x_shared:tabAt Cj=some tp_shared) (u_shared:K.lookup tp_shared=none)
 (z0:XU K Xv "ValueError"=some none)
 (z1:XU K Xv "dict"=some none)
 (z2:XU K Xv "enumerate"=some none)
 (z3:XU K Xv "int"=some none)
 (z4:XU K Xv "isinstance"=some none)
 (z5:XU K Xv "len"=some none)
 (z6:XU K Xv "list"=some none)
 (z7:XU K Xv "max"=some none)
 (z8:XU K Xv "numbers"=some none)
 (z9:XU K Xv "pair"=some none)
 (z10:XU K Xv "range"=some none)
 (z11:XU K Xv "reversed"=some none)
 (z12:XU K Xv "sum"=some none)
 (z13:XU K Xv "tuple"=some none)
 (z14:XU K Xv "zip"=some none)
 (y0:XU K Xv "CALL_SIGN"=some (some (.str (WU "?") U6)))
 (y1:XU K Xv "TALLEST"=some (some (.int (150) Fu)))
 (y2:XU K Xv "HEAD"=some (some (.int (-1) MD)))
 (xn_BookError:XU K Xv "BookError"=some (some (.ref AX)))
 (xn_Great:XU K Xv "Great"=some (some (.ref Ai)))
 (xn_Many:XU K Xv "Many"=some (some (.ref Cy)))
 (xe_Great:PySem.W.excIn K Ai [.type "ValueError",.type "Exception",.type "BaseException",.type "object"] "ValueError.__new__"=true)
 (xg_Great:XT K (.ref Ai) "__getattribute__"=some (some (.builtin "BaseException.__getattribute__")))
 (xh_Great:XT K (.ref Ai) "__getattr__"=some none)
 (xc_Great:XT K (.ref Ai) "__class__"=some (some (.builtin "object.__class__")))
 (xo_Great:PySem.W.mroIn K Ai (.type "object")=some true)
 (xb_Great:PySem.W.mroIn K Ai (.type "BaseException")=some true)
 (hit_Great_BookError:PySem.W.exmOne K (.ref Ai) (.ref AX)=some true)
 (kit_Great_Great:Y3 K (.ref Ai) (.ref Ai)=some true)
 (kit_Great_Many:Y3 K (.ref Ai) (.ref Cy)=some false)
 (kit_Great_ValueError:Y3 K (.ref Ai) (.type "ValueError")=some true) :
 ∃(fd:YO)(c T:WT),(∀(s:W3)(v:WW),BindsTo s fd ⟨[v],[]⟩ [("script",v)])/\PySem.W.tabIn K "shared"=some (c,T)/\K.lookup T=none/\∀base:X4,K.In base->base.Ns Xv mg->Lam mg base c T->FnOk l.prog w K mg base CX0 231 fa fd ["script"] (nG K T):=by
 have e0:=Lf.symm.trans (Zc X G a44);have e:Mn=fa:=(Value.ref.inj (Xf e0)).symm;subst e;have U7:=cQ (st:=cq) l12 c12 k12;have b12:=U7.binds (ps:=["self"]) λ_ _ _ _ _ _ us hl=>by obtain⟨y0,rfl⟩:=us1 hl;rfl
 have U8:=cQ (st:=bJ) l13 c13 k13;have b13:=U8.binds (ps:=["self","tree"]) λ_ _ _ _ _ _ us hl=>by obtain⟨y0,y1,rfl⟩:=us2 hl;rfl
 have Sq:=cQ (st:=cO) l25 c25 k25;have b25:=Sq.binds (ps:=["book","tree"]) λ_ _ _ _ _ _ us hl=>by obtain⟨y0,y1,rfl⟩:=us2 hl;rfl
 have U9:=cQ (st:=iX) l44 c44 k44;have b44:=U9.binds (ps:=["script"]) λ_ _ _ _ _ _ us hl=>by obtain⟨y0,rfl⟩:=us1 hl;rfl
 have C2:=yb a25 l25 e_shared v_shared x_shared
 let T:TX K mg:=⟨⟨U6,Zc X G y0⟩,⟨Fu,Zc X G y1⟩,⟨MD,Zc X G y2⟩,AX,Zc X G xn_BookError,Ai,Zc X G xn_Great,Cy,Zc X G xn_Many,xe_Great,xg_Great,xh_Great,xc_Great,xo_Great,xb_Great,hit_Great_BookError,kit_Great_Great,kit_Great_Many,kit_Great_ValueError,g_kids_of,g_walked,g_placed,g_tall,g_is_call,g_called_by,g_tall_of,g_calls_in,g_ins_of,g_head_of,g_rules_of,g_above,Mi,_,U7,b12,Ml,_,U8,b13,g_digests_of,g_hand_on,g_levels_of,g_kid_worths,g_folded,g_depths_in,g_height_worth,g_height_of,g_parts_in,g_entered,g_in_order,⟨NC,_,Sq,b25,Zc X G a25⟩,tc_shared,tp_shared,vY Sq a25 C2,g__law_cell,g__law_turn,g__law_kinds,g__law_leaf,g__law_pattern,g__law_digit,g__law_by_digits,g__law_book_by_digits,g__law_book,g__law_knot,g__law_tree,g__law_size,g__law_sizes,g__law_wrapped,g__law_setting,g__law_words,g__law_entry,g__law_refusal,⟨Mn,_,U9,b44,Zc X G a44⟩,Ac,Zc X G on_Level,⟨pg_Level,hd_Level,po_Level,sa_Level⟩,⟨mk_Level,a12,i12,kc_Level⟩,na_Level_trees,na_Level_asked,na_Level_kid_spots,⟨a13,i13,k13⟩,X1 X G z0,X1 X G z1,X1 X G z2,X1 X G z3,X1 X G z4,X1 X G z5,X1 X G z6,X1 X G z7,X1 X G z8,X1 X G z9,X1 X G z10,X1 X G z11,X1 X G z12,X1 X G z13,X1 X G z14⟩
 exact⟨YR "law" "law" (bA iX) (bj iX) (aq iX) .none Mp Mq Mr Mo IH Mt,tc_shared,tp_shared,λs v=>.of_eq rfl,C2,u_shared,λbase _ _ L=>xX T L⟩
theorem walk{l:PySem.W.OpenLaw}{q:Xm}{d dt:DefRec}{K:Params->WX}(hn:l.most=some 63)(hdf:d.params.defaults=[])(hq:(PyProof.Rows.recsOf q).find? (λe=>e.name == ("shared":Xk))=some dt)
 (hY:∀(w:XD)(h:X4),YP w h->(K w.params).In h)
 (F:∀(w:XD)(mg:Xk->Option WW)(fa:WT)(h:X4),(K w.params).In h->h.Ns Xv mg->mg d.name=some (.ref fa) ->
  ∃(fd:YO)(c T:WT),(∀(s:W3)(u:WW),BindsTo s fd ⟨[u],[]⟩ [("script",u)])/\PySem.W.tabIn (K w.params) "shared"=some (c,T)/\(K w.params).lookup T=none/\∀base:X4,(K w.params).In base->base.Ns Xv mg->Lam mg base c T->FnOk l.prog w (K w.params) mg base CX0 231 fa fd ["script"] (nG (K w.params) T)) :
 PySem.W.WalkO q loose XP YP l.row.toRowW d [] (λf vs=>PySem.call f vs) :=
 L2.uW (n:=63) (k:=231) (x:="script") (tn:="shared") (CX:=λ_=>CX0) (sp:=λw T=>nG (K w.params) T) hn (by decide) hdf ⟨rfl,by decide,by decide⟩ hq hY F (λ_ _ _ a ns hl hS hT=>⟨a,ns,rfl,hS,hl,hT,λ_=>rfl⟩) λ_ _ _ _ _ z=>z
end LAW
open LAW renaming fx1->C!,fx2->D!
open PySem PySem.W PyProof.Rows
set_option maxRecDepth 100000 in
theorem PySem.Challenge.cw_boughbook_k26_outcomes_shared_holds : PySem.Challenge.rw_boughbook_k26_outcomes_shared.Holds := by
 w_on;o_law;(refine holds_open (q:=LAW.vw) (N:=90000) (loose:=[]) (XP:=XL LAW.vw []) (Yf:=Hook.obs (kHook LAW.d0.heap_1 LAW.ks LAW.ke)) (Ya:=Hook.val (kHook LAW.d0.heap_1 LAW.ks LAW.ke)) (YP:=Hook.says (kHook LAW.d0.heap_1 LAW.ks LAW.ke)) (Xt:=LAW.xt) (HD.sM (by kernel_rfl) (by kernel_rfl) (λ_=>by kernel_rfl) LAW.lk0 LAW.lk1 LAW.lk2 LAW.lk3 LAW.lk4 LAW.lk5 (HD.Pc.k LAW.kp)) (Hook.of (kHook LAW.d0.heap_1 LAW.ks LAW.ke)) (Hook.keeps (kHook LAW.d0.heap_1 LAW.ks LAW.ke)) (λs e=>xl_of s (Bool.and_eq_true_iff.mp e).1) XL.keeps (by rfl) (by rfl) (by rfl) (λs e=>recFacts_of (Bool.and_eq_true_iff.mp e).2) (by rfl) (by assumption) (by decide +kernel) ⟨rfl,rfl,rfl,rfl,rfl,by decide +kernel⟩ ?_ ?_);w_witness2
 k_fill
 refine LAW.walk (l:=PySem.Challenge.rw_boughbook_k26_outcomes_shared) rfl rfl (by rfl) (λw h Y=>PySem.W.kIn_of Y) ?F
 case F =>
  intro w mg fa h KX G JR;refine' LAW.all_mk KX G JR (C! KX G) (C! KX G) (C! KX G) (C! KX G) (C! KX G) (C! KX G) (C! KX G) (C! KX G) (C! KX G) (C! KX G) (C! KX G) (C! KX G) (D! KX G) (LAW.fx4 KX G) (LAW.fx3 KX G) (D! KX G) (LAW.fx5 KX G) (C! KX G) (D! KX G) (D! KX G) (C! KX G) (LAW.fx3 KX G) (D! KX G) (D! KX G) (D! KX G) (D! KX G) (D! KX G) (LAW.fx5 KX G) (D! KX G) (LAW.fx5 KX G) (LAW.fx5 KX G) (LAW.fx5 KX G) (D! KX G) (D! KX G) (D! KX G) (D! KX G) (LAW.fx4 KX G) (LAW.fx3 KX G) (C! KX G) (LAW.fx5 KX G) (D! KX G) ?on_Level ?pg_Level ?hd_Level ?po_Level ?sa_Level ?mk_Level ?kc_Level ?na_Level_trees ?na_Level_asked ?na_Level_kid_spots ?a12 ?i12 ?l12 ?c12 ?k12 ?a13 ?i13 ?l13 ?c13 ?k13 ?a25 ?l25 ?c25 ?k25 ?a44 ?l44 ?c44 ?k44 ?e_shared ?v_shared ?x_shared ?u_shared ?z0 ?z1 ?z2 ?z3 ?z4 ?z5 ?z6 ?z7 ?z8 ?z9 ?z10 ?z11 ?z12 ?z13 ?z14 ?y0 ?y1 ?y2 ?xn_BookError ?xn_Great ?xn_Many ?xe_Great ?xg_Great ?xh_Great ?xc_Great ?xo_Great ?xb_Great ?hit_Great_BookError ?kit_Great_Great ?kit_Great_Many ?kit_Great_ValueError
  (case on_Level=>k_is)
  (case pg_Level=>k_is)
  (case hd_Level=>k_is)
  (case po_Level=>k_is)
  (case sa_Level=>k_is)
  (case mk_Level=>k_is)
  (case kc_Level=>k_is)
  (case na_Level_trees=>k_is)
  (case na_Level_asked=>k_is)
  (case na_Level_kid_spots=>k_is)
  (case a12=>k_is)
  (case i12=>k_is)
  (case l12=>k_is)
  (case c12=>k_is)
  (case k12=>k_is)
  (case a13=>k_is)
  (case i13=>k_is)
  (case l13=>k_is)
  (case c13=>k_is)
  (case k13=>k_is)
  (case a25=>k_is)
  (case l25=>k_is)
  (case c25=>k_is)
  (case k25=>k_is)
  (case a44=>k_is)
  (case l44=>k_is)
  (case c44=>k_is)
  (case k44=>k_is)
  (case e_shared=>rfl)
  (case v_shared=>k_is)
  (case x_shared=>rfl)
  (case u_shared=>kernel_rfl)
  (case z0=>k_is)
  (case z1=>k_is)
  (case z2=>k_is)
  (case z3=>k_is)
  (case z4=>k_is)
  (case z5=>k_is)
  (case z6=>k_is)
  (case z7=>k_is)
  (case z8=>k_is)
  (case z9=>k_is)
  (case z10=>k_is)
  (case z11=>k_is)
  (case z12=>k_is)
  (case z13=>k_is)
  (case z14=>k_is)
  (case y0=>k_is)
  (case y1=>k_is)
  (case y2=>k_is)
  (case xn_BookError=>k_is)
  (case xn_Great=>k_is)
  (case xn_Many=>k_is)
  (case xe_Great=>k_exc)
  (case xg_Great=>k_is)
  (case xh_Great=>k_is)
  (case xc_Great=>k_is)
  (case xo_Great=>k_is)
  (case xb_Great=>k_is)
  (case hit_Great_BookError=>kts_exm)
  (case kit_Great_Great=>kit_is)
  (case kit_Great_Many=>kit_is)
  (case kit_Great_ValueError=>kit_is)
