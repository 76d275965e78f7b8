import PyProof.Rows.All
import Wide.All
import OpenK.AllK
import Wide.FinOn
import Lean
import PyProof.EqAt
import PyProof.EqKinds
import PyProof.TupleCall
import KE.KRevIter
import PyProof.ListNew
import PyProof.Draws
import PyProof.EnumMake
import PyProof.Rows.EnumRows
import PyProof.ZipIter
import PyProof.ConsumeWalk
import KE.LcSums
import PyProof.AttrMissHeap
import KE.KDictOf
import PyProof.DictWalks
import PyProof.ListMulRoad
import PyProof.FactsAll.tuple
import PyProof.NeKinds
import KE.RegKTryMore
import KE.RegKIsAll
import PyProof.StrWalks
import PyProof.Rows.SetFrom
import PyProof.FString5
import Wide.Txt
import PyProof.Rows.SeqMore
import PyProof.StrOps2
import KE.KEqDict
import PyProof.CollectIter
import PyProof.JoinWalk
import PyProof.CallStr
import PyProof.DictRoadsH
import PyProof.MeetsDictList
import PyProof.DictTruth
import PyProof.StrLawsChain
import PyProof.StrCalls6
import PyProof.ToksMono
import PyProof.StrCalls2
import KE.KWords
import PyProof.MeetsStr2
import KE.KLam
import KE.KDictLaws
import PyProof.DictItems
import PyProof.DictValues
import PyProof.DictItemsLoops
import PySem.Challenge.RW_boughbook_k65_early_books_turn_alike
set_option maxHeartbeats 0
set_option Elab.async false
set_option linter.all false
set_option maxRecDepth 100000
set_option genInjectivity false
set_option genSizeOf false
local macro_rules | `(tactic| omega) => `(tactic| lia)
open PySem renaming wpAny_bind->WN,Addr->WS,Value->WV,wpAny_pure->WX,Shared->WZ,Program->W6,wpAny->Xa,sizeLine->Xe,World->Xj,Str->Xk,mainGlobals->Xr,Paired->Xs,model->Xu,starEach->XE,Around->XF,boot_len->XT,wpAny_field->XW,wpAny_callSpecial?_slot->X2,wpAny_call_entry->X5,Heap->X7,Expr->X8,wpAny_newObj_type->Ye,mem_of_lookup->Yk,wpAny_Call_Name_kw->Yl,wpAny_specialOf->Ys,builtinLookup_eq_fast->Yv,wpAny_holding->Yx,Stmt->Yz,wpAny_seqItems->YB,cLine->YM,sysModules->YO,wpAny_updateSeq->YT,tupleKeyHash->YW,eval->Y3,typeLookup_type->Y6,wpAny_mono->Y7,rawInt->Y8,Obj->Ze,IsPair->Zk,FuncData->Zl,Builtin->Zt,wpAny_rule->Zy,NameKind->ZA,wpAny_typeOf->ZI,wpAny_isInstance->ZL,wpAny_setField_rec->ZS,wpAny_pyIter_tuple->ZT,backTo->Z4,Scope->Z7,Pos->Z9
open List renaming length_map->WO,getElem?_eq_getElem->WR,mem_of_getElem?->WU,getElem?_map->W0,size_toArray->W2,length_cons->W3,mem_singleton->W7,mem_cons->W9,map_append->Xc,mem_cons_of_mem->Xf,length_append->Xg,mem_cons_self->Xh,length_range->Xo,mem_iff_getElem?->Xp,mem_append->Xq,append_nil->XA,map_cons->XB,mem_append_right->XC,mem_map->XD,range->XG,mem_append_left->XH,length_take->XO,append_assoc->XS,filter_cons->XX,getElem?_range->X4,length_eq_zero_iff->X6,reverse_cons->X9,take_add_one->Yi,cons_append->Yn,length_reverse->Yt,getElem?_append_left->Yw,reverse_append->YC,getElem?_eq_some_iff->YH,take_of_length_le->YI,lookup_cons->YK,take_length->YR,mem_range->YY,map_map->Y1,dropLast_concat_getLast->Y2,reverse_reverse->Y5,map_nil->Zb,getElem?_append_right->Zc,getElem?_zip_eq_some->Zf,nil_append->Zp,mem_filter->Zq,zip_cons_cons->ZC,filter_append->ZD,length_filter_le->ZG,getElem?_eq_none->ZH,nodup_cons->ZO,getD->ZP,find?_cons->ZQ,lookup->ZW,length->ZX,filterMap_cons->Z6
open PySem.W renaming Frag->WQ,nsIn->XZ,mg_none_of->Yq,findIn->YD,keepIn->YX,kia_one->YZ,fnOf->Y0,mg_of->Y9,emptyDict->Za,instObj->ZM,boot_heap->ZU,codeIn->Z8
open PySem.Str renaming ofString->WT
open PySem.Heap renaming get?_push_of_some->WW,get?_push_size->W4,lt_size->Xb,get?_update_self->XN,get?_update_other->XU,size_push->X3,SameBut->YF
open Nat renaming le_refl->WY,zero_le->Xi,le_trans->Xv,ne_of_lt->Xy,lt_of_lt_of_le->XI,lt_irrefl->Ym,mul_le_mul_right->Y4,le_add_right->Zj,not_lt_zero->ZN,le_of_lt->ZV,add_assoc->Z3
open PySem.Paired renaming length->W5
open Bool renaming false_ne_true->W8,and_eq_true->XY,false_eq_true->Yd,eq_false_iff->Yj
open PySem.F renaming plainAttrs_list->Xd,type_list_append->Xw,slot_list_append->Xx,plain_extend_loop->YG,slot_dict_setdefault->Zo,slot_tuple_hash->Zx,slot_dict_keyiterator_next->Zz,type_list_pop->ZE,slot_list_pop->ZF,type_list_extend->Z0,slot_list_extend->Z1
open PySem.Value renaming ref->Xl,none->Yp,type->Zm
open Option.some renaming inj->Xm
open Sum renaming inl->Xn,inr->Zv
open PySem.PassesOwn renaming never->Xz
open Option renaming map_eq_some_iff->XJ,isSome_iff_exists->Z2
open Int renaming toNat_natCast->XM,emod_nonneg->Yo,emod_lt_of_pos->Yr,toNat_of_nonneg->Yu,zero_add->YA,le_refl->Zw
open PyProof.Rows renaming slot_tuple_getitem->XQ,callWith_type1->X0,boot_tuple->Yg
open Array renaming length_toList->XR,getElem?_eq_getElem->Zg
open PySem.Builtin.SmallTypes renaming nextOf->X1,ownedTupleIsFree->Yb
open PySem.Builtin.Tuple renaming tupleHashOf->Yc,tupleExact->YN,tupleItemsOf->ZY
open PySem.Obj renaming mapSeq->Yh,data_mapFields->Zn
open PySem.NameKind renaming free->Yy
open False renaming elim->YE
open PySem.Builtin.Slice renaming slicePlaces->YJ,sliceAdjust->Z5
open PySem.Calls renaming spliced_cons->YL,spliced_nil->Zh
open Ne renaming symm->YQ
open PySem.Value.type renaming inj->YS
open True renaming intro->YU
open Sum.inl renaming inj->YV
open PySem.Builtin.List renaming listExtendWith->Zd,listTooLong->Zr,listSameRef->Zs,listLengthHint->ZJ,listItems->ZK
open PySem.Heap.SameBut renaming update->Zi
open PySem.AutoSeq1 renaming wpAny_loadPart'->Zu
open ForInStep renaming yield->ZR
variable{w:Xj}{m i t' j n B W:Nat}{h base h':X7}{α β γ:Type}{a f b it c sl d I z tp l1 l2 i1 i2 ia oa ha ra la:WS}{loose N ps:List Xk}{as ch fp Ag AM:List WS}{K:WQ}{e tg iter elt:X8}{x qual:Xk}{us its:List WV}{u oc vl vu:WV}{F:α->β->Prop}{P prog:W6}{M:Model}{A:XF}{E Q:WV->WZ->Prop}{s:WZ}{pos pos':Z9}{pins:List (WS×Ze)}{op:CmpOp}{es ifs elts:List X8}{body:List Yz}{R:Result->WZ->Prop}{lo hi:Option Int}{C S S':Int}{ns pre:List Int}{kw:List (Xk×WV)}{env:Env}{mg:Xk->Option WV}{fd:Zl}{kindOf:Xk->Option ZA}{sc scope:Z7}{params:Arguments}{od:Option WS}{items ys:Array WV}{XP:(Xk->Option WV)->X7->Prop}{YP:Xj->X7->Prop}{js:List (Option Nat)}{cl:List (Xk×WS)}{ins outs Ez:List (Xk×Int)}
def a!:=@if_neg
def b!:=@if_pos
def c!:=@decide_eq_false
def d!:=@decide_eq_true
def e!:=@of_decide_eq_true
def g!:=@absurd
def h!:=@congrArg
namespace HD
open PySem PySem.W PySem.Calls PyProof.Rows
def lY(tb:String->Option Zt)(p:W6)(w:Xj)(m:Nat)(ann:Option WV):Nat->SharedT->Thread->Option SharedT
 |0,_,_=>none
 | n+1,s,t=>match through t with
   |true=>some s
   | false=>match stepOk m ann t with
     |false=>none
     | true=>match stepT (denote tb) p w s t with
       |some (s',t')=>lY tb p w m ann n s' t'
       |none=>none
theorem nT{tb:String->Option Zt}{p:W6}{ann:Option WV}:∀{n:Nat}{s s':SharedT}{t:Thread},lY tb p w m ann n s t=some s'->topRun tb p w m ann n s.abs t=some s'.abs
 |0,_,_,_,h=>by cases h
 | n+1,s,s',t,h=>by
   unfold lY at h;unfold topRun;cases he:through t with
   |true=>rw[he]at h;cases h;rfl
   | false =>
     rw[he]at h;cases hk:stepOk m ann t with
     |false=>rw[hk]at h;cases h
     | true =>
       rw[hk]at h;cases hs:stepT (denote tb) p w s t with
       |none=>rw[hs]at h;cases h
       | some r =>
         obtain⟨s2,t2⟩:=r;rw[hs]at h;rw[stepT_spec hs];exact nT h
def yo:List Ze->Nat->BT->BT
 | [],_,t=>t
 |o::l,n,t=>yo l (n+1) (t.ins n o)
def zO:List Ze->Nat->BT->Bool
 | [],_,_=>true
 |o::l,n,t=>((t.ins n o).get n).isSome && zO l (n+1) (t.ins n o)
theorem o6:∀(l:List Ze)(n:Nat)(t:BT),zO l n t=true->(yo l n t).list (n+l.length)=t.list n++l
 | [],n,t,_=>by rw[XA];rfl
 | o::l,n,t,h=>by
   obtain⟨h1,h2⟩:=Bool.and_eq_true_iff.mp h;have e:=absHeap_ins (life:=default) h1
   have e2:(t.ins n o).list (n+1)=t.list n++[o]:=by
    have:=h! (λx:X7=>x.objs.toList) e;simpa[absHeap,Heap.push]using this
   have ih:=o6 l (n+1) (t.ins n o) h2;rw[e2,XS]at ih;rw[W3,show n+(l.length+1)=n+1+l.length by omega];exact ih
theorem abT(ok:zO h.objs.toList 0 .nil=true):absHeap (yo h.objs.toList 0 .nil) h.objs.size h.life=h:=by
 have e:=o6 _ _ _ ok;rw[Nat.zero_add]at e;unfold absHeap;rw[<-XR,e];rfl
noncomputable abbrev qE(p:W6)(N:Nat)(w:Xj)(os:OsState):Option SharedT :=
 lY treeTable p w 11 (some (.ref 6)) N ⟨yo (ZU w.params).objs.toList 0 .nil,11,(ZU w.params).life,Array.mk [],boot_drawn,boot_toks,os⟩ (topStub p)
theorem zY(P:Params):(zO (ZU P).objs.toList 0 .nil,(ZU P).isNs Xr,(ZU P).objs.size,(ZU P).nsMap Xr "__annotations__")=(true,true,11,some (.ref 6)):=by kernel_rfl
theorem map_some{o:Option α}{a:α}{f:α->β}{b:β}(h:o=some a)(e:o.map f=some b):f a=b:=by rw[h]at e;exact Xm e
abbrev Tr0(p q:W6)(loose:List Xk)(Xt:WZ->Bool)(N:Nat)(g0:Bool):Prop:=∀(w:Xj)(os:OsState),((qE p N w os).map λs=>(staticsOk (importedModules p.main.body) (ZU w.params) s.abs.heap && namesBound p s.abs.heap && gensDone s.abs && laidKept (ZU w.params) s.abs.heap,s.abs.heap.bltView,pinSeenD q (drecsOf q) s.abs,plainSeenD q loose s.abs,clsSeenW q loose s.abs,(s.abs.heap.accountedOkI (importedModules p.main.body),s.abs.heap.isNs Xr,s.abs.heap.isNs builtinsNs,tablesOk q s.abs.heap,Xt s.abs,(if g0 then s.abs.gens.size == 0 else !leftWithCleanup s.abs.gens))))=some (true,bltViewBooted,pinGoodD (drecsOf q),plainGoodD q loose,clsGoodW q loose,(true,true,true,true,true,true))
abbrev Tr1(p q:W6)(N:Nat):Prop:=∀(w:Xj)(os:OsState),((qE p N w os).map λs=>seen ((recsOf q).map (·.name)) (ownsOf q) [] {s.abs with gens:=#[]})=some (expectedOf q)
abbrev Tr2(p q:W6)(loose:List Xk)(N:Nat):Prop:=∀(w:Xj)(os:OsState),((qE p N w os).map λs=>s.abs.heap.keysOk (looseW q loose) ((recsOf q).map (·.name)) ((litsOf q).map (·.1)) ((clssOf q (looseW q loose)).map (·.name)))=some true
abbrev Tr3(p q:W6)(N:Nat):Prop:=∀(w:Xj)(os:OsState),((qE p N w os).map λs=>tabsOk q s.abs)=some true
abbrev Tr4(p q:W6)(loose:List Xk)(N:Nat):Prop:=∀(w:Xj)(os:OsState),((qE p N w os).map λs=>plainSeenE q (looseW q loose) s.abs)=some (plainGoodE q (looseW q loose))
abbrev Tr5(p q:W6)(N:Nat):Prop:=∀(w:Xj)(os:OsState),((qE p N w os).map λs=>wideSeen q s.abs)=some (wideGood q)
theorem wy{p q:W6}{Xt:WZ->Bool}{Yf:WZ->α}{Ya:Xj->α}{N:Nat}{g0:Bool}
 (e:opening p=plainProg p.main.scope.names) (hN:Nat.ble 600 N=true) (f:∀s,fenceModules? p s=some s)
 (r0:Tr0 p q loose Xt N g0)
 (r1:Tr1 p q N)
 (r2:Tr2 p q loose N)
 (r3:Tr3 p q N)
 (r4:Tr4 p q loose N)
 (r5:Tr5 p q N)
 (rY:∀(w:Xj)(os:OsState),((qE p N w os).map λs=>Yf s.abs)=some (Ya w)) :
 LeftO p q loose Xt Yf Ya N g0:=λw=>by
 obtain⟨⟨h,gs,d,k,os⟩,e1,e'⟩:=XJ.mp (boot_open e hN f w);obtain⟨rfl,rfl,rfl,rfl⟩:h=ZU w.params/\gs=Array.mk []/\d=boot_drawn/\k=boot_toks:=by simpa using e'
 have LP:=zY w.params;have z0:=h! Prod.fst LP;have z1:=h! (λx=>x.2.1) LP;have z2:=h! (λx=>x.2.2.1) LP;have z3:=h! (λx=>x.2.2.2) LP;dsimp only at z0 z1 z2 z3;obtain⟨s1,GI,hY⟩:=XJ.mp (rY w os);have q0:=map_some GI (r0 w os);have q1:=map_some GI (r1 w os);have q2:=map_some GI (r2 w os);have q3:=map_some GI (r3 w os);have q4:=map_some GI (r4 w os);have q5:=map_some GI (r5 w os);have rr:=nT GI
 have M1:SharedT.abs ⟨yo (ZU w.params).objs.toList 0 .nil,11,(ZU w.params).life,Array.mk [],boot_drawn,boot_toks,os⟩=⟨ZU w.params,Array.mk [],boot_drawn,boot_toks,os⟩:=by
  unfold SharedT.abs;dsimp only;rw[<-z2,abT z0]
 rw[M1]at rr;have a0:=h! Prod.fst q0;have a1:=h! (λx=>x.2.1) q0;have a2:=h! (λx=>x.2.2.1) q0;have a3:=h! (λx=>x.2.2.2.1) q0;have a4:=h! (λx=>x.2.2.2.2.1) q0;have b0:=h! (λx=>x.2.2.2.2.2.1) q0;have b1:=h! (λx=>x.2.2.2.2.2.2.1) q0;have b2:=h! (λx=>x.2.2.2.2.2.2.2.1) q0;have b3:=h! (λx=>x.2.2.2.2.2.2.2.2.1) q0;have b4:=h! (λx=>x.2.2.2.2.2.2.2.2.2.1) q0;have b5:=h! (λx=>x.2.2.2.2.2.2.2.2.2.2) q0;dsimp only at a0 a1 a2 a3 a4 b0 b1 b2 b3 b4 b5
 have l2:openSeen q loose (importedModules p.main.body) Xt g0 s1.abs=openGood q loose:=by
  unfold openSeen openGood;rw[q1,a1,q2,b0,b1,b2,b3,b4,b5,q3,a2,q4,a3,q5,a4];rfl
 have t:topFrom treeTable p w N ⟨ZU w.params,Array.mk [],boot_drawn,boot_toks,os⟩=some s1.abs:=by
  unfold topFrom;dsimp only;rw[z1,z2,z3,rr];show(match staticsOk (importedModules p.main.body) (ZU w.params) s1.abs.heap && namesBound p s1.abs.heap && gensDone s1.abs && laidKept (ZU w.params) s1.abs.heap with|true=>_|false=>_)=_;rw[a0]
 unfold openEnds;rw[e1];show(topFrom treeTable p w N _).map _=_;rw[t];exact h! some (Prod.ext l2 hY)
def p0:Params:={strHash:=λ_=>0,shareClass:=λ_=>0,mergeTok:=λt=>t,idOf:=λ_=>0,idOfShared:=λ_ _=>0,followText:=λ_=>false,idOfImm:=λ_=>0}
structure Pc(p:W6)(N:Nat)(as:List WS)(vs:Xj->List (Option Ze)):Prop where
 out:∀(w:Xj)(os:OsState),((qE p N w os).map λs=>as.map s.abs.heap.get?)=some (vs w)
theorem Pc.cut{p:W6}{N:Nat}{vs:Xj->List (Option Ze)}(n:Nat)(h1:Pc p N (as.take n) λw=>(vs w).take n)(h2:Pc p N (as.drop n) λw=>(vs w).drop n):Pc p N as vs:=⟨λw os=>by
 obtain⟨s,e,a1⟩:=XJ.mp (h1.out w os);have a2:=map_some e (h2.out w os);rw[e];refine h! some ?_;have:=congr (h! HAppend.hAppend a1) a2;rw[<-Xc,List.take_append_drop,List.take_append_drop]at this;exact this⟩
theorem Pc.k{p:W6}{N:Nat}{K:Params->Frag}{e:∀P,as=(K P).map (·.1)}(h:Pc p N as λw=>(K w.params).map λp=>some p.2):∀(w:Xj)(os:OsState),((qE p N w os).map λs=>(kHook K as e).obs s.abs)=some ((kHook K as e).val w):=h.out
end HD
section
open PySem PySem.W PyProof.Rows
def LAW.vw:W6:=PySem.W.view PySem.Challenge.pw_boughbook_k65_early_books_turn_alike [1,2,3,4,6,7,8,9,10,11,12,13,14,15,16,18,19,20,21,22,23,24,25,26,27,28,29,30,31,32,34,35,36,37,38,39,40,41,42,43,44,46,47,48,49,50,51,52,53,54,56,57,59,60,61,63,64,65,66,67,68,69,70,71,72,73,74]
def LAW.xt(s:WZ):Bool:=xlAt LAW.vw [] s && recOk (RowW.records (OpenRow.toRowW (OpenLaw.row PySem.Challenge.rw_boughbook_k65_early_books_turn_alike))) s
theorem LAW.lk0:HD.Tr0 PySem.Challenge.pw_boughbook_k65_early_books_turn_alike LAW.vw [] LAW.xt 90000 true:=λ_ _=>by kernel_rfl
theorem LAW.lk1:HD.Tr1 PySem.Challenge.pw_boughbook_k65_early_books_turn_alike LAW.vw 90000:=λ_ _=>by kernel_rfl
theorem LAW.lk2:HD.Tr2 PySem.Challenge.pw_boughbook_k65_early_books_turn_alike LAW.vw [] 90000:=λ_ _=>by kernel_rfl
theorem LAW.lk3:HD.Tr3 PySem.Challenge.pw_boughbook_k65_early_books_turn_alike LAW.vw 90000:=λ_ _=>by kernel_rfl
theorem LAW.lk4:HD.Tr4 PySem.Challenge.pw_boughbook_k65_early_books_turn_alike LAW.vw [] 90000:=λ_ _=>by kernel_rfl
theorem LAW.lk5:HD.Tr5 PySem.Challenge.pw_boughbook_k65_early_books_turn_alike LAW.vw 90000:=λ_ _=>by kernel_rfl
section
local macro_rules | `(tactic| o_head $_H) => `(tactic| assumption)
theorem LAW.d0(h:OpenRow.Holds (OpenLaw.row PySem.Challenge.rw_boughbook_k65_early_books_turn_alike)):OpenRow.Holds (OpenLaw.row PySem.Challenge.rw_boughbook_k65_early_books_turn_alike):=by
 k_head
end
noncomputable def LAW.ks:List WS:=(LAW.d0.heap_1 HD.p0).map (·.1)
theorem LAW.ke:∀P,LAW.ks=(LAW.d0.heap_1 P).map (·.1):=λ_=>by kernel_rfl
theorem LAW.kp:HD.Pc PySem.Challenge.pw_boughbook_k65_early_books_turn_alike 90000 LAW.ks λw=>(LAW.d0.heap_1 w.params).map λp=>some p.2:=⟨λ_ _=>by kernel_rfl⟩
end
namespace L2
open PySem PySem.Spec PyProof.Rows
theorem gmE{f:α->β}{l:List α}{x:α}(h:l[i]?=some x):(l.map f)[i]?=some (f x):=by rw[W0,h];rfl
theorem glE{l:List α}{x:α}(h:l[i]?=some x):i<l.length:=(YH.mp h).1
abbrev Key:=Sum Int Xk
def iJ:Key->WV->Bool
 |.inl k,v=>Value.isInt k v
 |.inr x,v=>Value.isStrOf x v
def adl(w:Xj):Key->Int
 |.inl k=>hashInt k
 |.inr x=>hashStr w x
theorem bi:∀{k:Key}{v:WV},iJ k v=true->(∃i t,k=Xn i/\v=Value.int i t)\/(∃x t,k=Zv x/\v=Value.str x t)
 | .inl i,v,h=>by
   obtain⟨t,e⟩:=Value.isInt_shape (k:=i) (v:=v) h;exact .inl ⟨i,t,rfl,e⟩
 | .inr x,v,h=>by
   obtain⟨t,e⟩:=Value.isStrOf_shape (x:=x) (v:=v) h;exact .inr ⟨x,t,rfl,e⟩
theorem wM(i:Int)(t:Tok):iJ (.inl i) (.int i t)=true:=by simp[iJ,Value.isInt]
theorem wH(x:Xk)(t:Tok):iJ (.inr x) (.str x t)=true:=by simp[iJ,Value.isStrOf]
theorem abf(a b:Int):decide ((Xn a:Key)=Xn b)=(a == b):=by
 by_cases e:a=b
 .subst e;simp
 .have h:¬(Xn a:Key)=Xn b:=λq=>e (YV q);rw[c! h];exact(beq_eq_false_iff_ne.mpr e).symm
theorem abS(a b:Xk):decide ((Zv a:Key)=Zv b)=decide (a=b):=by
 by_cases e:a=b
 .subst e;simp
 .have h:¬(Zv a:Key)=Zv b:=λq=>e (Sum.inr.inj q);rw[c! h,c! e]
theorem abK(a:Int)(b:Xk):decide ((Xn a:Key)=Zv b)=false:=c! (λq=>nomatch q)
theorem abR(a:Xk)(b:Int):decide ((Zv a:Key)=Xn b)=false:=c! (λq=>nomatch q)
def av(prog:W6)(w:Xj):PySem.KeyKind prog w Key where
 is:=iJ
 hash:=adl w
 inj:=λv a b ha hb=>by
  rcases bi ha with⟨i,t,rfl,rfl⟩|⟨x,t,rfl,rfl⟩
  .rcases bi hb with⟨j,u,rfl,e⟩|⟨y,u,rfl,e⟩
   .injection e with e1 _;rw[e1]
   .exact nomatch e
  .rcases bi hb with⟨j,u,rfl,e⟩|⟨y,u,rfl,e⟩
   .exact nomatch e
   .injection e with e1 _;rw[e1]
 byValue:=λk v h=>by
  rcases bi h with⟨i,t,rfl,rfl⟩|⟨x,t,rfl,rfl⟩ <;> rfl
 pyHash:=λhv h=>by
  rcases bi hv with⟨i,t,rfl,rfl⟩|⟨x,t,rfl,rfl⟩
  .exact wpAny_pyHash_int h
  .exact wpAny_pyHash_str h
 eqBool:=λhu hv h=>by
  rcases bi hu with⟨i,t,rfl,rfl⟩|⟨x,t,rfl,rfl⟩
  .rcases bi hv with⟨j,u,rfl,rfl⟩|⟨y,u,rfl,rfl⟩
   .rw[abf]at h;exact wpAny_eqBool_int h
   .rw[abK]at h;exact SeqAt.EqAt.int_str i t y u _ _ _ _ h
  .rcases bi hv with⟨j,u,rfl,rfl⟩|⟨y,u,rfl,rfl⟩
   .rw[abR]at h;exact SeqAt.EqAt.str_int x t j u _ _ _ _ h
   .rw[abS]at h;exact wpAny_eqBool_str h
 «strs»:=λk x t v h=>by
  rcases bi h with⟨i,u,rfl,e⟩|⟨y,u,rfl,e⟩
  .exact nomatch e
  .injection e with e1 _;subst e1;cases v <;> rfl
theorem rO(prog:W6)(w:Xj)(i:Int)(t:Tok):(av prog w).is (.inl i) (.int i t)=true:=wM i t
theorem sy(prog:W6)(w:Xj)(x:Xk)(t:Tok):(av prog w).is (.inr x) (.str x t)=true:=wH x t
set_option genInjectivity true in
inductive V where
 |non|bl (b:Bool)|int (i:Int)|str (x:Xk)|byt (b:Array UInt8)|flt (b:UInt64)|ref (a:WS)|ty (n:String)
 deriving DecidableEq
def RelV:V->WV->Prop
 |.non,u=>u=Yp
 |.bl b,u=>u=Value.bool b
 |.int i,u=>∃t,u=Value.int i t
 |.str x,u=>∃t,u=Value.str x t
 |.byt b,u=>∃t,u=Value.bytes b t
 |.flt b,u=>∃t,u=Value.float b t
 |.ref a,u=>u=Xl a
 |.ty n,u=>u=Zm n
abbrev Vals:List V->List WV->Prop:=Xs RelV
theorem Vals.length{xs:List V}(r:Vals xs us):xs.length=us.length:=W5 r
theorem Vals.get:∀{xs:List V}{us:List WV}{i:Nat}{x:V},Vals xs us->xs[i]?=some x->∃u,us[i]?=some u/\RelV x u
 |_,_,_,_,.nil,e=>by simp at e
 |_,_,0,_,.cons r _,e=>by simp at e;subst e;exact⟨_,rfl,r⟩
 | _,_,i+1,x,.cons _ t,e=>by
   obtain⟨u,h1,h2⟩:=Vals.get (i:=i) (x:=x) t (by simpa using e);exact⟨u,by simpa using h1,h2⟩
theorem Vals.set{x:V}(r:RelV x u):∀{xs:List V}{us:List WV}(i:Nat),Vals xs us->Vals (xs.set i x) (us.set i u)
 |_,_,_,.nil=>.nil
 |_,_,0,.cons _ t=>.cons r t
 |_,_,i+1,.cons q t=>.cons q (Vals.set r i t)
theorem Vals.append:∀{xs ys:List V}{us ws:List WV},Vals xs us->Vals ys ws->Vals (xs++ys) (us++ws)
 |_,_,_,_,.nil,s=>s
 |_,_,_,_,.cons r t,s=>.cons r (Vals.append t s)
theorem Vals.take:∀{xs:List V}{us:List WV}(n:Nat),Vals xs us->Vals (xs.take n) (us.take n)
 |_,_,0,_=>.nil
 |_,_,_+1,.nil=>.nil
 |_,_,n+1,.cons r t=>.cons r (Vals.take n t)
theorem Vals.drop:∀{xs:List V}{us:List WV}(n:Nat),Vals xs us->Vals (xs.drop n) (us.drop n)
 |_,_,0,r=>r
 |_,_,_+1,.nil=>.nil
 |_,_,n+1,.cons _ t=>Vals.drop n t
def RelO:Option V->Option WV->Prop
 |some v,some u=>RelV v u
 |none,none=>True
 |_,_=>False
def KV{κ:Type}:List (κ×V)->List (κ×WV)->Prop:=Xs λ(p:κ×V)(q:κ×WV)=>p.1=q.1/\RelV p.2 q.2
def kV:Key->V
 |.inl i=>.int i
 |.inr x=>.str x
inductive HO where
 |lst (xs:List V)
 |tup (xs:List V)
 |dK (f':List (Key×V))|dT (f':List (List Key×V))
 |set (S:Int->Bool) (n:Nat)
 |ins (C dx:WS) (fs:List (Xk×V))
 |own (x:WS)
 |xd (fs:List (Xk×V))
 |met (f x:WS)
 |rng (lo hi:Int)
 |frz (o:Ze) (u:HO)
 |tbl (ps:Array WV)
 |ext (φ:X7->Prop)
abbrev Hp:=WS->Option HO
def upd(H:Hp)(a:WS)(o:HO):Hp:=λb=>if b=a then some o else H b
theorem ac{H:Hp}{o:HO}:upd H a o a=some o:=by unfold upd;rw[b! rfl]
theorem aj{H:Hp}{o:HO}(h:b≠a):upd H a o b=H b:=by unfold upd;rw[a! h]
theorem l6{H:Hp}{o u:HO}:upd (upd H a o) a u=upd H a u:=by
 funext b;unfold upd;split <;> rfl
theorem ej{H:Hp}{o u:HO}(h:H a=some o)(h':H b=some u)(d:o≠u):a≠b:=by
 intro e;subst e;rw[h]at h';exact d (Xm h')
theorem ax{H:Hp}{o:HO}(h:H a=some o)(h':H b=none):a≠b:=by
 intro e;subst e;rw[h]at h';cases h'
section
variable(P:W6)(w:Xj)
def ObjOk(H:Hp)(h:X7)(a:WS):HO->Prop
 |.lst xs=>xs.length<=Xe/\∃(its:List WV)(n:Nat),Vals xs its/\h.get? a=some {cls:=.type "list",data:=.seq its.toArray n}
 |.tup xs=>xs.length<=Xe/\∃(its:List WV)(n:Nat),Vals xs its/\h.get? a=some {cls:=.type "tuple",data:=.seq its.toArray n}
 |.dK f'=>f'.length<=Xe/\(a == YO)=false/\∃vs,KV f' vs/\h.DictOf (av P w) a vs
 |.dT f'=>f'.length<=Xe/\(a == YO)=false/\∃xs:List (List Key×WS×WV),
  Xs (λ(p:List Key×V)(q:List Key×WS×WV)=>p.1=q.1/\H q.2.1=some (.tup (p.1.map kV))/\RelV p.2 q.2.2) f' xs /\
  ∃o es ep,h.get? a=some o/\o.ExactDict/\o.data=.dict es ep/\es.toList=xs.map (entryOfKey (tupleKind (av P w)))/\(xs.map (·.1)).Nodup
 |.set S n=>h.SetOf (intKind P w) a S n
 |.ins C dx fs=>H dx=some (.own a)/\fs.length<=1000/\dx≠a/\h.get? a=some (ZM C dx) /\
  ∃mA,h.Ns1 dx mA/\(∀f,RelO (fs.lookup f) (mA f))/\PySem.Within mA (fs.map (·.1))
 |.own _=>∃o,h.get? a=some o
 |.xd fs=>∃mA,h.Ns1 a mA/\∀f,RelO (fs.lookup f) (mA f)
 |.rng lo hi=>∃t u v,h.get? a=some {cls:=.type "range",data:=.fields #[.int lo t,.int hi u,.int 1 v]}
 |.frz o u=>h.get? a=some o/\ObjOk H h a u
 |.tbl ps=>h.get? a=some {cls:=.none,data:=.fields ps}
 |.met f x=>h.get? a=some (PySem.W.methodObj (.ref f) (.ref x))
 |.ext φ=>φ h/\(∃o,h.get? a=some o)/\∀h1 h2:X7,φ h1->(∀o,h1.get? a=some o->h2.get? a=some o)->φ h2
def HOk(H:Hp)(h:X7):Prop:=∀a o,H a=some o->ObjOk P w H h a o
end
section
variable{H H':Hp}{o:HO}
theorem ObjOk.lt(x:ObjOk P w H h a o):a<h.objs.size:=by
 cases o with
 |lst xs=>obtain⟨_,_,_,_,e⟩:=x;exact Xb e
 |tup xs=>obtain⟨_,_,_,_,e⟩:=x;exact Xb e
 |dK f'=>obtain⟨_,_,_,_,o,_,_,e,_⟩:=x;exact Xb e
 |dT f'=>obtain⟨_,_,_,_,o,_,_,e,_⟩:=x;exact Xb e
 |set S n=>obtain⟨o,_,_,_,e,_⟩:=x;exact Xb e
 |ins C dx fs=>obtain⟨_,_,_,e,_⟩:=x;exact Xb e
 |own y=>obtain⟨_,e⟩:=x;exact Xb e
 |xd fs=>obtain⟨_,⟨_,_,_,e,_⟩,_⟩:=x;exact Xb e
 |rng lo hi=>obtain⟨_,_,_,e⟩:=x;exact Xb e
 |frz ob u=>obtain⟨e,_⟩:=x;exact Xb e
 |tbl ps=>exact Xb (show h.get? a=some _ from x)
 |met f y=>exact Xb (show h.get? a=some _ from x)
 |ext φ=>obtain⟨_,⟨_,e⟩,_⟩:=x;exact Xb e
theorem Xs.mapP{G:α->β->Prop}:∀{IQ:List α}{IS:List β},Xs F IQ IS->(∀a b,F a b->G a b)->Xs G IQ IS
 |_,_,.nil,_=>.nil
 |_,_,.cons r t,f=>.cons (f _ _ r) (Xs.mapP t f)
theorem ObjOk.stay(x:ObjOk P w H h a o)(k:∀b u,(b=a\/H b=some (.own a))->h.get? b=some u->h'.get? b=some u)
 (ho:∀b,H b=some (.own a)->H' b=some (.own a)) (ht:∀b xs,H b=some (.tup xs)->H' b=some (.tup xs)):ObjOk P w H' h' a o:=by
 induction o with
 |lst xs=>obtain⟨z,its,n,r,e⟩:=x;exact⟨z,its,n,r,k _ _ (.inl rfl) e⟩
 |tup xs=>obtain⟨z,its,n,r,e⟩:=x;exact⟨z,its,n,r,k _ _ (.inl rfl) e⟩
 |dK f'=>obtain⟨z,y,vs,r,ob,es,ep,e,c⟩:=x;exact⟨z,y,vs,r,ob,es,ep,k _ _ (.inl rfl) e,c⟩
 | dT f' =>
   obtain⟨z,y,xs,r,ob,es,ep,e,c⟩:=x;exact⟨z,y,xs,Xs.mapP r λp q z=>⟨z.1,ht _ _ z.2.1,z.2.2⟩,ob,es,ep,k _ _ (.inl rfl) e,c⟩
 |set S n=>obtain⟨ob,es,ep,t,e,c⟩:=x;exact⟨ob,es,ep,t,k _ _ (.inl rfl) e,c⟩
 | ins C dx fs =>
   obtain⟨d,z,ne,e,mA,⟨od,es,ep,e2,c⟩,r⟩:=x;exact⟨ho _ d,z,ne,k _ _ (.inl rfl) e,mA,⟨od,es,ep,k _ _ (.inr d) e2,c⟩,r⟩
 |own y=>obtain⟨ob,e⟩:=x;exact⟨ob,k _ _ (.inl rfl) e⟩
 |xd fs=>obtain⟨mA,⟨od,es,ep,e,c⟩,r⟩:=x;exact⟨mA,⟨od,es,ep,k _ _ (.inl rfl) e,c⟩,r⟩
 |rng lo hi=>obtain⟨t,u,v,e⟩:=x;exact⟨t,u,v,k _ _ (.inl rfl) e⟩
 |frz ob u ih=>obtain⟨e,q⟩:=x;exact⟨k _ _ (.inl rfl) e,ih q⟩
 | tbl ps =>
   have e:h.get? a=some {cls:=.none,data:=.fields ps}:=x;show h'.get? a=some {cls:=.none,data:=.fields ps};exact k a _ (.inl rfl) e
 | met f y =>
   have e:h.get? a=some (PySem.W.methodObj (.ref f) (.ref y)):=x;show h'.get? a=some (PySem.W.methodObj (.ref f) (.ref y));exact k a _ (.inl rfl) e
 |ext φ=>obtain⟨p,⟨o,e⟩,st⟩:=x;exact⟨st _ _ p λo q=>k _ _ (.inl rfl) q,⟨o,k _ _ (.inl rfl) e⟩,st⟩
theorem HOk.lt(x:HOk P w H h)(e:H a=some o):a<h.objs.size:=(x a o e).lt
theorem HOk.fresh(x:HOk P w H h)(e:h.objs.size<=a):H a=none:=by
 cases q:H a with
 |none=>rfl
 |some u=>exact g! (XI (x.lt q) e) (Ym _)
theorem HOk.kept(x:HOk P w H h)(k:∀b u,h.get? b=some u->h'.get? b=some u):HOk P w H h':=λa o e =>
 (x a o e).stay (λb u _ q=>k b u q) (λ_ q=>q) λ_ _ q=>q
theorem HOk.laid(x:HOk P w H h)(k:∀b u,h.get? b=some u->h'.get? b=some u)(hp:h.objs.size<=a)(new:ObjOk P w (upd H a o) h' a o):HOk P w (upd H a o) h':=λb u e=>by
 have hn:=x.fresh hp;by_cases hb:b=a
 .subst hb;rw[ac]at e;cases e;exact new
 .rw[aj hb]at e;exact(x b u e).stay (λc v _ q=>k c v q) (λc q=>by rw[aj (ax q hn)];exact q) λc xs q=>by rw[aj (ax q hn)];exact q
end
def Rd(H:Hp)(a:WS)(u:HO):Prop:=H a=some u\/∃o,H a=some (.frz o u)
theorem Rd.ok{H:Hp}{u:HO}(r:Rd H a u)(x:HOk P w H h):ObjOk P w H h a u:=by
 rcases r with r|⟨o,r⟩
 .exact x a u r
 .obtain⟨_,q⟩:=x a _ r;exact q
def Mut:Option HO->Prop
 |some (.lst _)=>True
 |some (.dK _)=>True
 |some (.dT _)=>True
 |some (.set _ _)=>True
 |some (.ins _ _ _)=>True
 |some (.ext _)=>True
 |_=>False
section
variable{H:Hp}{x e:WS}{o':HO}
theorem HOk.write(ok:HOk P w H h)(mu:Mut (H x))(he:e=x\/H e=some (.own x))(k:∀b u,b≠e->h.get? b=some u->h'.get? b=some u)(Ih:∃u,h'.get? e=some u)
 (new:ObjOk P w (upd H x o') h' x o'):HOk P w (upd H x o') h':=λb u q=>by
 have IT:∀c y,H c=some (.own y)->c≠x:=λc y r z=>by subst z;rw[r]at mu;exact mu
 have M3:∀c xs,H c=some (.tup xs)->c≠x:=λc xs r z=>by subst z;rw[r]at mu;exact mu
 by_cases hb:b=x
 .subst hb;rw[ac]at q;cases q;exact new
 .rw[aj hb]at q;by_cases DJ:b=e
  .have q':H b=some (.own x):=by
    rcases he with z|z
    .exact g! (DJ.trans z) hb
    .rw[DJ];exact z
   rw[q]at q';cases q';obtain⟨v,hv⟩:=Ih;exact⟨v,by rw[DJ];exact hv⟩
  .refine(ok b u q).stay (λc v hc r=>k c v ?_ r) (λc r=>by rw[aj (IT c b r)];exact r) λc xs r=>by rw[aj (M3 c xs r)];exact r
   rcases hc with rfl|hc
   .exact DJ
   .rintro rfl;rcases he with z|z
    .exact IT c b hc z
    .rw[hc]at z;cases z;exact hb rfl
end
structure Un(fs ex:List WS)(H H':Hp)(h h':X7):Prop where
 keep:∀b o,h.get? b=some o->H b=none->b∉fs->b∉ex->h'.get? b=some o
 slot:∀b o,h.get? b=some o->H b=none->b∈fs->b∉ex->∃sl,h'.get? b=some {o with slots:=sl}
 free:∀b o,h.get? b=some o->H b=none->b∉ex->H' b=none
 there:∀b o,h.get? b=some o->b∉ex->∃o',h'.get? b=some o'
 tups:∀b xs,H b=some (.tup xs)->H' b=some (.tup xs)
 frzs:∀b o u,H b=some (.frz o u)->H' b=some (.frz o u)
 tbls:∀b ps,H b=some (.tbl ps)->∃more,H' b=some (.tbl (ps++more))
section
variable{fs Ii ex LR:List WS}{H H1 H2:Hp}{h1 h2:X7}{x e:WS}{o:HO}
theorem Un.any(u:Un fs ex H H1 h h1){ob:Ze}(q:h.get? b=some ob)(n:H b=none)(hx:b∉ex):∃sl,h1.get? b=some {ob with slots:=sl}:=by
 by_cases hb:b∈fs
 .exact u.slot b ob q n hb hx
 .exact⟨ob.slots,u.keep b ob q n hb hx⟩
theorem Un.kept(k:∀b u,h.get? b=some u->h'.get? b=some u):Un fs ex H H h h' :=
 ⟨λb ob q _ _ _=>k b ob q,λb ob q _ _ _=>⟨ob.slots,k b ob q⟩,λ_ _ _ n _=>n,λb ob q _=>⟨ob,k b ob q⟩,λ_ _ q=>q,λ_ _ _ q=>q,λ_ ps q=>⟨#[],by rw[q];simp⟩⟩
theorem Un.refl:Un fs ex H H h h:=Un.kept λ_ _ q=>q
theorem Un.laid(k:∀b u,h.get? b=some u->h'.get? b=some u)(hp:h.objs.size<=a)(hn:H a=none):Un fs ex H (upd H a o) h h' where
 keep:=λb u q _ _ _=>k b u q
 slot:=λb u q _ _ _=>⟨u.slots,k b u q⟩
 free:=λb u q n _=>by rw[aj (Xy (XI (Xb q) hp))];exact n
 there:=λb u q _=>⟨u,k b u q⟩
 tups:=λb xs q=>by rw[aj (ax q hn)];exact q
 frzs:=λb u xs q=>by rw[aj (ax q hn)];exact q
 tbls:=λb ps q=>⟨#[],by rw[aj (ax q hn),q];simp⟩
theorem Un.write(mu:Mut (H x))(he:e=x\/H e=some (.own x))(k:∀b u,b≠e->h.get? b=some u->h'.get? b=some u)(Ih:∃u,h'.get? e=some u):Un fs ex H (upd H x o) h h':=by
 have hx:∀b,H b=none->b≠x:=λb n z=>by subst z;rw[n]at mu;exact mu
 have hb:∀b,H b=none->b≠e:=λb n z=>by
  subst z;rcases he with r|r
  .exact hx b n r
  .rw[n]at r;cases r
 have hm:∀b u,H b=some u->¬Mut (some u)->b≠x:=λb u q nm z=>by subst z;rw[q]at mu;exact nm mu
 refine⟨λb u q n _ _=>k b u (hb b n) q,λb u q n _ _=>⟨u.slots,k b u (hb b n) q⟩,λb u q n _=>by rw[aj (hx b n)];exact n,λb u q _=>?_,
  λb xs q=>by rw[aj (hm b _ q λz=>z)];exact q,λb u xs q=>by rw[aj (hm b _ q λz=>z)];exact q,λb ps q=>⟨#[],by rw[aj (hm b _ q λz=>z),q];simp⟩⟩
 by_cases DJ:b=e
 .subst DJ;exact Ih
 .exact⟨u,k b u DJ q⟩
end
def trk(h:X7)(H:Hp):List WS:=(XG h.objs.size).filter λa=>(H a).isSome
def oI(h:X7)(H:Hp):X7:=PySem.W.hideAll h (trk h H)
theorem w8(h:X7)(H:Hp):(oI h H).objs.size=h.objs.size:=PySem.W.hideAll_size _ _
theorem xK{H:Hp}{o:Ze}(e:h.get? b=some o)(n:H b=none):(oI h H).get? b=some o :=
 PySem.W.hideAll_get _ e λhm=>by
  have q:(H b).isSome=true:=(Zq.mp hm).2;rw[n]at q;simp at q
theorem zV{H:Hp}{o:Ze}(e:(oI h H).get? b=some o):h.get? b=some o/\H b=none:=by
 have e':h.get? b=some o:=PySem.W.of_hideAll (trk h H) e;refine⟨e',?_⟩;cases q:H b with
 |none=>rfl
 | some x =>
   have hm:b∈trk h H:=Zq.mpr ⟨YY.mpr (Xb e'),by simp[q]⟩;have z:(oI h H).get? b=none:=PySem.W.hideAll_none (trk h H) hm;rw[z]at e;cases e
end L2
open L2.V renaming ref->i!,int->q!,str->K!
variable{o:L2.HO}{vs xs ws:List L2.V}{H H' H1 H2:L2.Hp}{v y:L2.V}{fin:WS->L2.Hp->Prop}
namespace L2
open PySem PySem.Spec PyProof.Rows
structure Mod(K:WQ)(mg:Xk->Option WV)(base:X7):Prop where
 kin:K.In base
 glob:base.Ns Xr mg
 blt:∃mb,base.Ns builtinsNs mb/\∀x:Xk,x≠"__name__"->mb x=bootBuiltins x
 nolimit:base.NoLimit
set_option genInjectivity true in
structure Cx where
 prog:W6
 w:Xj
 K:WQ
 mg:Xk->Option WV
 base:X7
 A:XF
 N:List Xk
 s₀:WZ
 H₀:Hp
 env:Env
 outer:List Env
 stack:List Env
 ex:List WS
 fn:Xk->Bool
 calm:Bool
 pn:List (WS×Ze)
 xe:WV->WZ->Prop
def frs(l:List Env):List WS:=l.filterMap (·.frame)
abbrev Cx.fs(X:Cx):List WS:=frs X.outer
def Vis(sc:Z7)(x:Xk):Prop:=sc.names.lookup x=some .local\/sc.names.lookup x=some .cell\/sc.names.lookup x=some .free
def Loc(sc:Z7)(x:Xk):Prop:=sc.names.lookup x=some .local\/sc.names.lookup x=some .cell
def Look(env:Env)(h:X7)(m:Xk->Option WV)(x:Xk)(u:WV):Prop :=
 (env.kindOf x=some .local/\m x=some u)\/((env.kindOf x=some .cell\/env.kindOf x=some .free)/\∃c,env.cells.lookup x=some c/\h.IsCell c (some u))
structure Cx.Ok(X:Cx):Prop where
 mod:Mod X.K X.mg X.base
 kind:X.env.scope.kind=.function
 glob:X.env.globals=Xr
 blt:X.env.builtins=builtinsNs
 above:X.s₀.heap.objs.size<=X.env.locals
 inj:∀x y c,X.env.cells.lookup x=some c->X.env.cells.lookup y=some c->x=y
 has:∀x,(X.env.kindOf x=some .cell\/X.env.kindOf x=some .free)->∃c,X.env.cells.lookup x=some c
 cab:∀x c,X.fn x=true->X.env.cells.lookup x=some c->X.s₀.heap.objs.size<=c
 hd:X.calm=true->X.A.handled=none
 frames:X.A.frames=some X.stack
 stk:X.stack=X.outer\/(X.stack=X.env::X.outer/\X.env.frame=some X.env.locals)
 exf:∀b∈X.ex,b≠X.env.locals/\∀x c,X.env.cells.lookup x=some c->c≠b
 bs:∀b o,X.base.get? b=some o->X.s₀.heap.get? b=some o/\X.H₀ b=none
 bsz:X.base.objs.size<=X.s₀.heap.objs.size
 noex:∀b o,X.base.get? b=some o->b∉X.ex
 exfs:∀b∈X.ex,b∉X.fs
 funs:X.s₀.heap.FunFrames X.base X.outer
 frf:∀b∈X.fs,X.H₀ b=none
structure Inv(X:Cx)(U:List (WS×Ze))(Z:List (Option V))(H:Hp)(s:WZ):Prop where
 ok:X.Ok
 os:s.os=X.s₀.os
 bare:AllBare s.gens
 base:Un X.fs X.ex X.H₀ H X.s₀.heap s.heap
 loc:∃m,s.heap.Ns X.env.locals m/\∀(i:Nat)(x:Xk)(v:V),X.N[i]?=some x->Z[i]?=some (some v)->Vis X.env.scope x->∃u,RelV v u/\Look X.env s.heap m x u
 cell:∀x c,X.env.cells.lookup x=some c->∃v,s.heap.IsCell c v
 free:H X.env.locals=none
 freeC:∀x c,X.env.cells.lookup x=some c->H c=none
 pin:∀p∈X.pn++U,s.heap.get? p.1=some p.2/\H p.1=none/\p.1≠X.env.locals/\p.1∉X.fs/\∀v,p.2.data≠.cell v
 hok:HOk X.prog X.w H s.heap
 len:Z.length=X.N.length
section
variable{X:Cx}{Z:List (Option V)}
theorem Cx.Ok.nofr(ok:X.Ok){o:Ze}(e:X.base.get? b=some o):b∉X.fs:=λhb=>by
 have:=(ok.funs.mem hb).1;rw[e]at this;cases this
theorem Inv.bs(I:Inv X U Z H s):∀b o,X.base.get? b=some o->s.heap.get? b=some o/\H b=none:=λb o e =>
 ⟨I.base.keep b o (I.ok.bs b o e).1 (I.ok.bs b o e).2 (I.ok.nofr e) (I.ok.noex b o e),I.base.free b o (I.ok.bs b o e).1 (I.ok.bs b o e).2 (I.ok.noex b o e)⟩
theorem Inv.bk(I:Inv X U Z H s):∀b o,X.base.get? b=some o->s.heap.get? b=some o:=λb o e=>(I.bs b o e).1
theorem Inv.mod(I:Inv X U Z H s):Mod X.K X.mg X.base:=I.ok.mod
theorem Inv.kIn(I:Inv X U Z H s):X.K.In s.heap:=I.ok.mod.kin.keeps I.bk
theorem Inv.lt(I:Inv X U Z H s):X.env.locals<s.heap.objs.size:=let⟨_,hn,_⟩:=I.loc;hn.lt
theorem Inv.sz(I:Inv X U Z H s):X.s₀.heap.objs.size<=s.heap.objs.size:=Xv I.ok.above (ZV I.lt)
theorem Inv.nofs(I:Inv X U Z H s)(h:s.heap.objs.size<=a):a∉X.fs:=λhb=>by
 obtain⟨_,o,ho,_⟩:=I.ok.funs.mem hb;exact g! (XI (Xb ho) (Xv I.sz h)) (Ym _)
theorem Inv.cne(I:Inv X U Z H s):∀x c,X.env.cells.lookup x=some c->c≠X.env.locals:=λx c e z=>by
 obtain⟨v,o,ho,hd⟩:=I.cell x c e;obtain⟨m,⟨o',es,ep,BC,BD,_⟩,_⟩:=I.loc;rw[z,BC]at ho;cases ho;rw[BD]at hd;cases hd
theorem Inv.funs(I:Inv X U Z H s):s.heap.FunFrames X.base X.outer:=by
 have all:∀(l:List Env),(∀b∈frs l,b∈X.fs)->X.s₀.heap.FunFrames X.base l->s.heap.FunFrames X.base l:=by
  intro l;induction l with
  |nil=>intro _ _;trivial
  | cons env r ih =>
    intro hs hl;obtain⟨hk,⟨L,o,hf,hn,ho,hd⟩,hr⟩:=hl;have hL:L∈X.fs:=hs L (by unfold frs;rw[Z6,hf];exact Xh);obtain⟨sl,e⟩:=I.base.slot L o ho (I.ok.frf L hL) hL λz=>I.ok.exfs L z hL;exact⟨hk,⟨L,_,hf,hn,e,hd⟩,ih (λb hb=>hs b (by unfold frs;rw[Z6,hf];exact Xf _ hb)) hr⟩
 exact all X.outer (λ_ hb=>hb) I.ok.funs
theorem Inv.stack(I:Inv X U Z H s):s.heap.FunFrames X.base X.stack:=by
 rcases I.ok.stk with e|⟨e,hf⟩
 .rw[e];exact I.funs
 .rw[e];obtain⟨m,hn,_⟩:=I.loc;refine .cons (by rw[I.ok.kind];decide) hf hn ?_ I.funs;exact Heap.get?_none_of_le (Xv I.ok.bsz I.ok.above)
theorem Inv.stkSub(I:Inv X U Z H s):∀b∈frs X.stack,b∈X.env.locals::X.fs:=λb hb=>by
 rcases I.ok.stk with e|⟨e,hf⟩
 .rw[e]at hb;exact Xf _ hb
 .rw[e]at hb;unfold frs at hb;rw[Z6,hf]at hb;exact hb
theorem Inv.stkFree(I:Inv X U Z H s):∀b∈frs X.stack,H b=none:=λb hb=>by
 rcases W9.mp (I.stkSub b hb)with e|hb
 .rw[e];exact I.free
 .obtain⟨_,o,ho,_⟩:=I.ok.funs.mem hb;exact I.base.free b o ho (I.ok.frf b hb) λz=>I.ok.exfs b z hb
theorem Inv.step{g':Array GenState}{d':Drawn}(I:Inv X U Z H s)
 (ES:∀b∈ch,(b∈X.ex\/X.s₀.heap.objs.size<=b)/\b≠X.env.locals/\(∀x c,X.env.cells.lookup x=some c->c≠b)/\∀p∈X.pn++U,p.1≠b)
 (keep:∀b o,b≠X.env.locals->b∉X.fs->b∉ch->s.heap.get? b=some o->H b=none->h'.get? b=some o)
 (slot:∀b o,b≠X.env.locals->b∈X.fs->b∉ch->s.heap.get? b=some o->H b=none->∃sl,h'.get? b=some {o with slots:=sl}) (free:∀b o,b∉ch->s.heap.get? b=some o->H b=none->H' b=none)
 (there:∀b o,b∉ch->s.heap.get? b=some o->∃o',h'.get? b=some o')
 (tups:∀b xs,H b=some (.tup xs)->H' b=some (.tup xs)) (frzs:∀b o u,H b=some (.frz o u)->H' b=some (.frz o u)) (tbls:∀b ps,H b=some (.tbl ps)->∃more,H' b=some (.tbl (ps++more)))
 (ns:∀m,s.heap.Ns X.env.locals m->h'.Ns X.env.locals m) (hok:HOk X.prog X.w H' h') (hg:AllBare g') :
 Inv X U Z H' {s with heap:=h',gens:=g',drawn:=d',toks:=t'}:=by
 have Rj:∀b o,X.s₀.heap.get? b=some o->b≠X.env.locals:=λb o e=>Xy (XI (Xb e) I.ok.above)
 have LS:∀b o,X.s₀.heap.get? b=some o->b∉X.ex->b∉ch:=λb o e hx hb=>by
  rcases(ES b hb).1 with z|z
  .exact hx z
  .exact g! (XI (Xb e) z) (Ym _)
 have cellK:∀x c,X.env.cells.lookup x=some c->∀v,s.heap.IsCell c v->h'.IsCell c v:=λx c e v⟨o,ho,hd⟩=>by
  have IU:c∉ch:=λz=>(ES c z).2.2.1 x c e rfl;by_cases hc:c∈X.fs
  .obtain⟨sl,q⟩:=slot c o (I.cne x c e) hc IU ho (I.freeC x c e);exact⟨_,q,hd⟩
  .exact⟨o,keep c o (I.cne x c e) hc IU ho (I.freeC x c e),hd⟩
 refine⟨I.ok,I.os,hg,⟨λb o e n hb hx=>?_,λb o e n hb hx=>?_,λb o e n hx=>?_,λb o e hx=>?_,λb xs e=>tups b xs (I.base.tups b xs e),λb o xs e=>frzs b o xs (I.base.frzs b o xs e),λb ps e=>?_⟩,?_,λx c e=>?_,?_,λx c e=>?_,λp hp=>?_,hok,I.len⟩
 .exact keep b o (Rj b o e) hb (LS b o e hx) (I.base.keep b o e n hb hx) (I.base.free b o e n hx)
 .obtain⟨sl,e1⟩:=I.base.slot b o e n hb hx;obtain⟨TM,e2⟩:=slot b _ (Rj b o e) hb (LS b o e hx) e1 (I.base.free b o e n hx);exact⟨TM,e2⟩
 .obtain⟨o',e1⟩:=I.base.there b o e hx;exact free b o' (LS b o e hx) e1 (I.base.free b o e n hx)
 .obtain⟨o',e1⟩:=I.base.there b o e hx;exact there b o' (LS b o e hx) e1
 .obtain⟨m1,e1⟩:=I.base.tbls b ps e;obtain⟨m2,e2⟩:=tbls b _ e1;exact⟨m1++m2,by rw[e2,Array.append_assoc]⟩
 .obtain⟨m,hn,hl⟩:=I.loc;refine⟨m,ns m hn,λi x v e1 e2 e3=>?_⟩;obtain⟨u,r,l⟩:=hl i x v e1 e2 e3;refine⟨u,r,?_⟩;rcases l with l|⟨k,c,e,z⟩
  .exact .inl l
  .exact .inr ⟨k,c,e,cellK x c e _ z⟩
 .obtain⟨v,z⟩:=I.cell x c e;exact⟨v,cellK x c e v z⟩
 .obtain⟨m,⟨o,_,_,ho,_⟩,_⟩:=I.loc;exact free _ o (λz=>(ES _ z).2.1 rfl) ho I.free
 .obtain⟨v,o,ho,hd⟩:=I.cell x c e;exact free c o (λz=>(ES c z).2.2.1 x c e rfl) ho (I.freeC x c e)
 .obtain⟨e,n,ne,nf,d⟩:=I.pin p hp;have IU:p.1∉ch:=λz=>(ES p.1 z).2.2.2 p hp rfl;exact⟨keep p.1 p.2 ne nf IU e n,free p.1 p.2 IU e n,ne,nf,d⟩
theorem Inv.un(I:Inv X U Z H s)(u:Un X.fs [] H H' s.heap h')(hok:HOk X.prog X.w H' h'):Inv X U Z H' {s with heap:=h',toks:=t'}:=by
 obtain⟨m,⟨o,es,ep,ho,r⟩,_⟩:=id I.loc;obtain⟨sl,hL⟩:=u.any ho I.free (by simp)
 exact I.step (g':=s.gens) (d':=s.drawn) (ch:=[]) (λ_ z=>nomatch z) (λb o _ hb _ e n=>u.keep b o e n hb (by simp)) (λb o _ hb _ e n=>u.slot b o e n hb (by simp)) (λb o _ e n=>u.free b o e n (by simp)) (λb o _ e=>u.there b o e (by simp)) u.tups u.frzs u.tbls (λm' hm=>by
  obtain⟨o',M4,M5,BC,r'⟩:=hm;rw[ho]at BC;cases BC;exact⟨_,M4,M5,hL,r'⟩) hok I.bare
theorem Inv.call{g':Array GenState}{d':Drawn}(I:Inv X U Z H s)(u:Un (frs X.stack) ch H H' s.heap h')(hok:HOk X.prog X.w H' h')(hg:AllBare g')
 (ES:∀b∈ch,(b∈X.ex\/X.s₀.heap.objs.size<=b)/\b≠X.env.locals/\(∀x c,X.env.cells.lookup x=some c->c≠b)/\∀p∈X.pn++U,p.1≠b) :
 Inv X U Z H' {s with heap:=h',gens:=g',drawn:=d',toks:=t'}:=by
 obtain⟨m,⟨o,es,ep,ho,r⟩,_⟩:=id I.loc;obtain⟨sl,hL⟩:=u.any ho I.free λz=>(ES _ z).2.1 rfl
 exact I.step (ch:=ch) ES (λb o hL hb hc e n=>u.keep b o e n (λz=>(W9.mp (I.stkSub b z)).elim hL hb) hc) (λb o _ _ hc e n=>u.any e n hc) (λb o hc e n=>u.free b o e n hc) (λb o hc e=>u.there b o e hc) u.tups u.frzs u.tbls (λm' hm=>by
  obtain⟨o',M4,M5,BC,r'⟩:=hm;rw[ho]at BC;cases BC;exact⟨_,M4,M5,hL,r'⟩) hok hg
theorem Inv.turned(I:Inv X U Z H s)(k:∀b o,b≠it->s.heap.get? b=some o->h'.get? b=some o)(hn:H it=none)(hL:it≠X.env.locals)
 (h1:it∈X.ex\/X.s₀.heap.objs.size<=it) (h2:∀x c,X.env.cells.lookup x=some c->c≠it) (h3:∀p∈X.pn++U,p.1≠it):Inv X U Z H {s with heap:=h',toks:=t'}:=by
 have IV:∀b u,H b=some u->b≠it:=λb u e z=>by rw[z,hn]at e;cases e
 refine I.step (g':=s.gens) (d':=s.drawn) (ch:=[it]) (λb hb=>?_) (λb o _ _ hc e _=>k b o (λz=>hc (by simp[z])) e) (λb o _ _ hc e _=>⟨o.slots,k b o (λz=>hc (by simp[z])) e⟩) (λ_ _ _ _ n=>n)
  (λb o hc e=>⟨o,k b o (λz=>hc (by simp[z])) e⟩) (λ_ _ e=>e) (λ_ _ _ e=>e) (λb ps e=>⟨#[],by rw[e];simp⟩) (λm hm=>?_) (λb u e=>?_) I.bare
 .have e:b=it:=by simpa using hb
  subst e;exact⟨h1,hL,h2,h3⟩
 .obtain⟨o,es,ep,ho,r⟩:=hm;exact⟨o,es,ep,k _ o (YQ hL) ho,r⟩
 .refine(I.hok b u e).stay (λc v hc q=>k c v ?_ q) (λ_ q=>q) λ_ _ q=>q;rcases hc with z|z
  .rw[z];exact IV b u e
  .exact IV c _ z
theorem Inv.tok(I:Inv X U Z H s)(t:Nat):Inv X U Z H {s with toks:=t}:=I.un (h':=s.heap) (t':=t) Un.refl I.hok
theorem Inv.kept(I:Inv X U Z H s)(k:∀b u,s.heap.get? b=some u->h'.get? b=some u):Inv X U Z H {s with heap:=h',toks:=t'}:=I.un (Un.kept k) (I.hok.kept k)
theorem Inv.laid(I:Inv X U Z H s)(k:∀b u,s.heap.get? b=some u->h'.get? b=some u)(hp:s.heap.objs.size<=a)(new:ObjOk X.prog X.w (upd H a o) h' a o) :
 Inv X U Z (upd H a o) {s with heap:=h',toks:=t'}:=I.un (Un.laid k hp (I.hok.fresh hp)) (I.hok.laid k hp new)
theorem Inv.write{x e:WS}(I:Inv X U Z H s)(mu:Mut (H x))(he:e=x\/H e=some (.own x))(k:∀b u,b≠e->s.heap.get? b=some u->h'.get? b=some u)(Ih:∃u,h'.get? e=some u)
 (new:ObjOk X.prog X.w (upd H x o) h' x o):Inv X U Z (upd H x o) {s with heap:=h',toks:=t'}:=I.un (Un.write mu he k Ih) (I.hok.write mu he k Ih new)
theorem Inv.weak{Ab:List (Option V)}(I:Inv X U Z H s)(hl:Ab.length=Z.length)(w:∀(i:Nat)v,Ab[i]?=some (some v)->Z[i]?=some (some v)):Inv X U Ab H s :=
 ⟨I.ok,I.os,I.bare,I.base,let⟨m,hn,GJ⟩:=I.loc;⟨m,hn,λi x v e1 e2 e3=>GJ i x v e1 (w i v e2) e3⟩,I.cell,I.free,I.freeC,I.pin,I.hok,hl.trans I.len⟩
theorem Inv.pins_of{FZ:List (WS×Ze)}(I:Inv X U Z H s)(h:∀p∈FZ,s.heap.get? p.1=some p.2/\H p.1=none/\p.1≠X.env.locals/\p.1∉X.fs/\∀v,p.2.data≠.cell v):Inv X FZ Z H s :=
 ⟨I.ok,I.os,I.bare,I.base,I.loc,I.cell,I.free,I.freeC,λp hp=>(Xq.mp hp).elim (λz=>I.pin p (XH _ z)) (h p),I.hok,I.len⟩
theorem rm(hN:N.Nodup)(a:N[i]?=some x)(b:N[j]?=some x):i=j:=by
 obtain⟨h1,e1⟩:=YH.mp a;obtain⟨h2,e2⟩:=YH.mp b;exact(List.getElem_inj hN).mp (e1.trans e2.symm)
theorem pT{Q:Unit->WZ->Prop}(I:Inv X U Z H s)(hN:X.N.Nodup)(hi:X.N[i]?=some x)(hx:Loc X.env.scope x)(r:RelV v u)
 (h:∀s',Inv X U (Z.set i (some v)) H s'->(∃a,YF a s.heap s'.heap/\(a=X.env.locals\/X.env.cells.lookup x=some a))->Q () s') (hf:X.fn x=true\/X.env.scope.names.lookup x=some .local:=by first|exact .inl rfl|exact .inr rfl|assumption):Xa M A (storeName X.env x u) Q E s:=by
 obtain⟨m,hn,hl⟩:=id I.loc;have M6:(X.env.scope.kind == .class ||(X.env.scope.kind == .module && X.env.locals != X.env.globals))=false:=by rw[I.ok.kind];rfl
 have IW:i<Z.length:=by rw[I.len];exact(glE hi)
 have cne:=I.cne
 have tracked:∀{a:WS}{h':X7},(∃o,s.heap.get? a=some o/\H a=none)->YF a s.heap h'->HOk X.prog X.w H h':=λ{a h'}ha hs b ob e=>by
  obtain⟨_,_,Cy⟩:=ha;refine(I.hok b ob e).stay (λc w' hc q=>(hs.2 c ?_).trans q) (λ_ q=>q) λ_ _ q=>q;rintro rfl;rcases hc with rfl|hc
  .rw[Cy]at e;cases e
  .rw[Cy]at hc;cases hc
 rcases hx with hk|hk
 .refine wpAny_storeName_local hk hn (λh' TN hs=>?_) M6;obtain⟨oL,_,_,TQ,_⟩:=id hn;refine h _ ⟨I.ok,I.os,I.bare,⟨λb o e n hb hx=>?_,λb o e n hb hx=>?_,I.base.free,λb o e hx=>?_,I.base.tups,I.base.frzs,I.base.tbls⟩,⟨_,TN,λj y v' e1 e2 e3=>?_⟩,λy c e=>?_,I.free,I.freeC,λp hp=>?_,tracked ⟨oL,TQ,I.free⟩ hs,by simpa using I.len⟩ ⟨_,hs,.inl rfl⟩
  .exact(hs.2 b (Xy (XI (Xb e) I.ok.above))).trans (I.base.keep b o e n hb hx)
  .obtain⟨sl,e1⟩:=I.base.slot b o e n hb hx;exact⟨sl,(hs.2 b (Xy (XI (Xb e) I.ok.above))).trans e1⟩
  .obtain⟨o',e1⟩:=I.base.there b o e hx;exact⟨o',(hs.2 b (Xy (XI (Xb e) I.ok.above))).trans e1⟩
  .by_cases hj:j=i
   .subst hj;rw[hi]at e1;cases e1;rw[List.getElem?_set_self IW]at e2;cases e2;exact⟨u,r,.inl ⟨hk,by simp⟩⟩
   .rw[List.getElem?_set_ne (YQ hj)]at e2;obtain⟨u',r',q⟩:=hl j y v' e1 e2 e3;refine⟨u',r',?_⟩;rcases q with⟨k,e⟩|⟨k,c,e,z⟩
    .refine .inl ⟨k,?_⟩;have:y≠x:=λe=>hj (rm hN e1 (e ▸ hi));simp[this,e]
    .exact .inr ⟨k,c,e,z.sameBut hs (cne y c e)⟩
  .obtain⟨w',z⟩:=I.cell y c e;exact⟨w',z.sameBut hs (cne y c e)⟩
  .obtain⟨e,n,ne,nf,d⟩:=I.pin p hp;exact⟨(hs.2 p.1 ne).trans e,n,ne,nf,d⟩
 .have M7:X.fn x=true:=by
   rcases hf with z|z
   .exact z
   .rw[z]at hk;cases hk
  obtain⟨c,hc⟩:=I.ok.has x (.inl hk);obtain⟨w',z⟩:=I.cell x c hc;refine wpAny_storeName_cell I.ok.kind hk hc z (λh' AX hs=>?_);obtain⟨oc,Rk,M8⟩:=id z;refine h {s with heap:=h'} ⟨I.ok,I.os,I.bare,⟨λb o e n hb hx=>?_,λb o e n hb hx=>?_,I.base.free,λb o e hx=>?_,I.base.tups,I.base.frzs,I.base.tbls⟩,⟨m,hn.sameBut hs (YQ (cne x c hc)),λj y v' e1 e2 e3=>?_⟩,λy c' e=>?_,I.free,I.freeC,λp hp=>?_,tracked ⟨oc,Rk,I.freeC x c hc⟩ hs,by simpa using I.len⟩ ⟨c,hs,.inr hc⟩
  .exact(hs.2 b (Xy (XI (Xb e) (I.ok.cab x c M7 hc)))).trans (I.base.keep b o e n hb hx)
  .obtain⟨sl,e1⟩:=I.base.slot b o e n hb hx;exact⟨sl,(hs.2 b (Xy (XI (Xb e) (I.ok.cab x c M7 hc)))).trans e1⟩
  .obtain⟨o',e1⟩:=I.base.there b o e hx;exact⟨o',(hs.2 b (Xy (XI (Xb e) (I.ok.cab x c M7 hc)))).trans e1⟩
  .by_cases hj:j=i
   .subst hj;rw[hi]at e1;cases e1;rw[List.getElem?_set_self IW]at e2;cases e2;exact⟨u,r,.inr ⟨.inl hk,c,hc,AX⟩⟩
   .rw[List.getElem?_set_ne (YQ hj)]at e2;obtain⟨u',r',q⟩:=hl j y v' e1 e2 e3;refine⟨u',r',?_⟩;rcases q with q|⟨k,c',e,z'⟩
    .exact .inl q
    .refine .inr ⟨k,c',e,z'.sameBut hs ?_⟩;rintro rfl;exact hj (rm hN e1 (I.ok.inj _ _ _ e hc ▸ hi))
  .by_cases C6:c'=c
   .subst C6;exact⟨_,AX⟩
   .obtain⟨w2,z2⟩:=I.cell y c' e;exact⟨w2,z2.sameBut hs C6⟩
  .obtain⟨e,n,ne,nf,d⟩:=I.pin p hp;refine⟨(hs.2 p.1 ?_).trans e,n,ne,nf,d⟩;intro q;rw[q,Rk]at e;have q':oc=p.2:=Xm e;exact d w' (by rw[<-q'];exact M8)
theorem gP{Q:Unit->WZ->Prop}(I:Inv X U Z H s)(hN:X.N.Nodup)(hi:X.N[i]?=some x)(hx:Loc X.env.scope x)(r:RelV v u)
 (h:∀s',Inv X U (Z.set i (some v)) H s'->Q () s') (hf:X.fn x=true\/X.env.scope.names.lookup x=some .local:=by first|exact .inl rfl|exact .inr rfl|assumption):Xa M A (storeName X.env x u) Q E s :=
 pT I hN hi hx r (λs' I' _=>h s' I') hf
theorem Inv.call'{s':WZ}(I:Inv X U Z H s)(ho:s'.os=s.os)(u:Un (frs X.stack) ch H H' s.heap s'.heap)(hok:HOk X.prog X.w H' s'.heap)(hg:AllBare s'.gens)
 (ES:∀b∈ch,(b∈X.ex\/X.s₀.heap.objs.size<=b)/\b≠X.env.locals/\(∀x c,X.env.cells.lookup x=some c->c≠b)/\∀p∈X.pn++U,p.1≠b):Inv X U Z H' s':=by
 obtain⟨h',g',d',t',o'⟩:=s';have e:o'=s.os:=ho;subst e;exact I.call (g':=g') (t':=t') (d':=d') u hok hg ES
end
abbrev XK:=WV->Option WS->Hp->Prop
abbrev St:=List (Option V)
abbrev VK:=V->Hp->Prop
abbrev TE:=St->Hp->VK->Prop
abbrev TT:=St->Hp->(Bool->Hp->Prop)->Prop
abbrev TA:=St->Hp->(List V->Hp->Prop)->Prop
structure Ends where
 nx:St->Hp->Prop
 rt:VK
 bk:St->Hp->Prop:=λ_ _=>False
 ct:St->Hp->Prop:=λ_ _=>False
abbrev TS:=Ends->St->Hp->Prop
def EP(X:Cx)(U:List (WS×Ze))(Z:St)(Q:VK)(u:WV)(s':WZ):Prop:=∃v H',Inv X U Z H' s'/\RelV v u/\Q v H'
def TP(X:Cx)(U:List (WS×Ze))(Z:St)(Q:Bool->Hp->Prop)(b:Bool)(s':WZ):Prop:=∃H',Inv X U Z H' s'/\Q b H'
def AP(X:Cx)(U:List (WS×Ze))(Z:St)(Q:List V->Hp->Prop)(us:List WV)(s':WZ):Prop:=∃vs H',Inv X U Z H' s'/\Vals vs us/\Q vs H'
def SP(X:Cx)(U:List (WS×Ze))(D:Ends)(f:Flow)(s':WZ):Prop :=
 match f with
 |.next=>∃Ab H',Inv X U Ab H' s'/\D.nx Ab H'
 |.brk=>∃Ab H',Inv X U Ab H' s'/\D.bk Ab H'
 |.cont=>∃Ab H',Inv X U Ab H' s'/\D.ct Ab H'
 |.ret u=>∃v Ab H',Inv X U Ab H' s'/\RelV v u/\D.rt v H'
def PE(X:Cx)(e:X8)(t:TE):Prop :=
 ∀(U:List (WS×Ze))(s:WZ)(Z:St)(H:Hp)(Q:VK),Inv X U Z H s->t Z H Q->Xa (Xu X.prog X.w) X.A (Y3 e X.env) (EP X U Z Q) X.xe s
def PT(X:Cx)(e:X8)(t:TT):Prop :=
 ∀(U:List (WS×Ze))(s:WZ)(Z:St)(H:Hp)(Q:Bool->Hp->Prop),Inv X U Z H s->t Z H Q->Xa (Xu X.prog X.w) X.A (isTrue e X.env (Y3 e X.env)) (TP X U Z Q) X.xe s
def PW(X:Cx)(e:X8)(t:TT):Prop :=
 ∀(whole:Sem WV)(U:List (WS×Ze))(s:WZ)(Z:St)(H:Hp)(Q:Bool->Hp->Prop),Inv X U Z H s->t Z H Q->Xa (Xu X.prog X.w) X.A (isTrue e X.env whole) (TP X U Z Q) X.xe s
theorem PW.pt{X:Cx}{t:TT}(h:PW X e t):PT X e t:=h _
def PA(X:Cx)(es:List X8)(t:TA):Prop :=
 ∀(pos:Z9)(U:List (WS×Ze))(s:WZ)(Z:St)(H:Hp)(Q:List V->Hp->Prop),Inv X U Z H s->t Z H Q->Xa (Xu X.prog X.w) X.A (spliced (Z4 pos (XE es X.env))) (AP X U Z Q) X.xe s
def PS(X:Cx)(st:Yz)(t:TS):Prop :=
 ∀(U:List (WS×Ze))(s:WZ)(Z:St)(H:Hp)(D:Ends),Inv X U Z H s->t D Z H->Xa (Xu X.prog X.w) X.A (exec st X.env) (SP X U D) X.xe s
def PSs(X:Cx)(st:List Yz)(t:TS):Prop :=
 ∀(U:List (WS×Ze))(s:WZ)(Z:St)(H:Hp)(D:Ends),Inv X U Z H s->t D Z H->Xa (Xu X.prog X.w) X.A (execs st X.env) (SP X U D) X.xe s
theorem thn{t:Sem α}{Q Q':α->WZ->Prop}(h:Xa M A t Q E s)(hQ:∀a s,Q a s->Q' a s):Xa M A t Q' E s:=Y7 h hQ λ_ _ x=>x
end L2
variable{tb:L2.TS}{X:L2.Cx}{Z:L2.St}{D:L2.Ends}{te tl:L2.TE}{tt:L2.TT}
namespace L2
open PySem PySem.Spec PyProof.Rows
section
inductive aaJ(i:Nat)(Z:St)(H:Hp)(Q:VK):Prop
 |mk (v:_) (An:Z[i]?=some (some v)) (Ao:Q v H):aaJ i Z H Q
def aX(i:Nat):TE:=aaJ i
def tC(v:V):TE:=λ_ H Q=>Q v H
theorem xj(hN:X.N[i]?=some x)(hv:Vis X.env.scope x)(hd:(x == ("__debug__":Xk))=false:=by decide)(Cg:(x == ("__classdict__":Xk))=false:=by decide):PE X (.Name x pos) (aX i):=by
 intro U s Z H Q I h;obtain⟨v,e,h⟩:=h;obtain⟨m,hn,hl⟩:=I.loc;obtain⟨u,r,l⟩:=hl i x v hN e hv;have fin:EP X U Z Q u s:=⟨v,H,I,r,h⟩;rcases l with⟨hk,hm⟩|⟨hk,c,hc,Bp⟩
 .exact wpAny_Name (wpAny_loadName_local I.ok.kind hk hn hm fin) hd
 .rcases hk with hk|hk
  .exact wpAny_Name (wpAny_loadName_cell I.ok.kind hk hc Bp fin) hd
  .exact wpAny_Name (wpAny_loadName_free I.ok.kind hk hc Bp fin Cg) hd
theorem ai{i j pos}:PE X (.Constant (.int i) j pos) (tC (.int i)):=λ_ _ _ H _ I h=>wpAny_Constant_int ⟨.int i,H,I.tok _,⟨_,rfl⟩,h⟩
theorem vX{b j pos}:PE X (.Constant (.bool b) j pos) (tC (.bl b)):=λ_ _ _ H _ I h=>Constant_bool ⟨.bl b,H,I,rfl,h⟩
theorem iN{x j pos}:PE X (.Constant (.str x) j pos) (tC (.str x)):=λ_ _ _ H _ I h=>Calls.Constant_str ⟨.str x,H,I.tok _,⟨_,rfl⟩,h⟩
def Gl(X:Cx)(x:Xk):Prop:=X.env.kindOf x=some .globalImplicit
theorem l9(I:Inv X U Z H s)(hg:Gl X x)(hm:X.mg x=some u)(h:Q u s)
 (hd:(x == ("__debug__":Xk))=false:=by decide):Xa (Xu X.prog X.w) X.A (Y3 (.Name x pos) X.env) Q E s :=
 Calls.Name_function_global I.ok.kind hg (Calls.loadGlobal_global (by rw[I.ok.glob];exact I.mod.glob.keeps I.bk) hm h) hd
theorem de(I:Inv X U Z H s)(hg:Gl X x)(hm:X.mg x=none)(hv:bootBuiltins x=some u)(h:Q u s)
 (hn:x≠"__name__":=by decide) (hd:(x == ("__debug__":Xk))=false:=by decide):Xa (Xu X.prog X.w) X.A (Y3 (.Name x pos) X.env) Q E s:=by
 obtain⟨mb,h1,h2⟩:=I.mod.blt;exact Calls.Name_function_global I.ok.kind hg (Calls.loadGlobal_builtin (by rw[I.ok.glob];exact I.mod.glob.keeps I.bk) hm (by rw[I.ok.blt];exact h1.keeps I.bk) ((h2 x hn).trans hv) h) hd
theorem cz(hg:Gl X x)(hm:X.mg x=some u)(r:RelV v u)(hd:(x == ("__debug__":Xk))=false:=by decide):PE X (.Name x pos) (tC v) :=
 λ_ _ _ H _ I h=>l9 I hg hm ⟨v,H,I,r,h⟩ hd
theorem u8(hg:Gl X x)(hm:X.mg x=none)(hv:bootBuiltins x=some u)(r:RelV v u)(hn:x≠"__name__":=by decide)(hd:(x == ("__debug__":Xk))=false:=by decide):PE X (.Name x pos) (tC v) :=
 λ_ _ _ H _ I h=>de I hg hm hv ⟨v,H,I,r,h⟩ hn hd
variable{a b:X8}{ta tb:TE}
def PC(X:Cx)(op:CmpOp)(a b:X8)(t:TE):Prop :=
 ∀(U:List (WS×Ze))(s:WZ)(Z:St)(H:Hp)(Q:VK),Inv X U Z H s->t Z H Q ->
   Xa (Xu X.prog X.w) X.A (Y3 a X.env) (λv Ac=>Xa (Xu X.prog X.w) X.A (Y3 b X.env) (λu AN=>Xa (Xu X.prog X.w) X.A (compareOp op v u) (EP X U Z Q) X.xe AN) X.xe Ac) X.xe s
def tB(t:TE):TT:=λZ H Q=>t Z H λx H1=>∃c,x=.bl c/\Q c H1
theorem ug{t:TE}(h:PC X op a b t)(h1:behindInMarks op b=false:=by first|exact IX _ (by decide) (by decide)|rfl):PT X (.Compare a [op] [b] pos) (tB t):=by
 intro U s Z H Q I hw;refine wpAny_isTrue_Compare1 (thn (h U s Z H _ I hw) λv s1 h1=>thn h1 λu s2 h2=>thn h2 λc s3⟨x,H1,I1,r1,q1⟩=>?_) h1;obtain⟨d,rfl,q⟩:=q1;cases r1;exact wpAny_truthy_bool ⟨H1,I1,q⟩
variable{tA LU:TT}{rest:List X8}
def acQ(t u:TT):TT:=λZ H Q=>t Z H λc H1=>if c=true then u Z H1 Q else Q false H1
def tOr(t u:TT):TT:=λZ H Q=>t Z H λc H1=>if c=true then Q true H1 else u Z H1 Q
def ado(t:TT):TT:=λZ H Q=>t Z H λc H1=>Q (!c) H1
theorem zt(ha:PT X a tA):PW X (.BoolOp .And [a] pos) tA:=by
 intro wh U s Z H Q I h;refine isTrue_and (thn (ha U s Z H Q I h) λc s1 e=>?_);cases c with
 |true=>exact isTrue_and_nil e
 |false=>exact e
theorem m8(ha:PT X a tA):PW X (.BoolOp .Or [a] pos) tA:=by
 intro wh U s Z H Q I h;refine isTrue_or (thn (ha U s Z H Q I h) λc s1 e=>?_);cases c with
 |false=>exact isTrue_or_nil e
 |true=>exact e
theorem aa8(ha:PT X a tA)(hb:PW X (.BoolOp .And (b::rest) pos) LU):PW X (.BoolOp .And (a::b::rest) pos) (acQ tA LU):=by
 intro wh U s Z H Q I h;refine isTrue_and (thn (ha U s Z H _ I h) λc s1⟨H1,I1,q1⟩=>?_);cases c with
 |true=>exact hb wh U s1 Z H1 Q I1 q1
 |false=>exact⟨H1,I1,q1⟩
theorem sU(ha:PT X a tA)(hb:PW X (.BoolOp .Or (b::rest) pos) LU):PW X (.BoolOp .Or (a::b::rest) pos) (tOr tA LU):=by
 intro wh U s Z H Q I h;refine isTrue_or (thn (ha U s Z H _ I h) λc s1⟨H1,I1,q1⟩=>?_);cases c with
 |true=>exact⟨H1,I1,q1⟩
 |false=>exact hb wh U s1 Z H1 Q I1 q1
theorem t6(ha:PT X a tA):PT X (.UnaryOp .Not a pos) (ado tA):=by
 intro U s Z H Q I h;exact isTrue_not (ha U s Z H (λc H1=>Q (!c) H1) I h)
def ab3(ta tb:TE):TE:=λZ H Q=>ta Z H λx H1=>∃c,x=.bl c/\if c=true then tb Z H1 Q else Q (.bl false) H1
def acD(ta:TE):TE:=λZ H Q=>ta Z H λx H1=>∃c,x=.bl c/\Q (.bl (!c)) H1
theorem kC{op}{t:TE}(h:PE X a t):PE X (.BoolOp op [a] pos) t:=λU s Z H Q I hw=>BoolOp_one (h U s Z H Q I hw)
theorem gD(ha:PE X a ta)(hb:PE X (.BoolOp .And (b::rest) pos) tb):PE X (.BoolOp .And (a::b::rest) pos) (ab3 ta tb):=by
 intro U s Z H Q I h;refine BoolOp_and (thn (ha U s Z H _ I h) λv s1⟨x,H1,I1,r1,q1⟩=>?_);obtain⟨c,rfl,q1⟩:=q1;cases r1;refine wpAny_truthy_bool ?_;cases c with
 |true=>exact hb U s1 Z H1 Q I1 q1
 |false=>exact⟨.bl false,H1,I1,rfl,q1⟩
theorem uN(ha:PE X a ta):PE X (.UnaryOp .Not a pos) (acD ta):=by
 intro U s Z H Q I h;refine UnaryOp_ (thn (ha U s Z H _ I h) λv s1⟨x,H1,I1,r1,q1⟩=>?_);obtain⟨c,rfl,q1⟩:=q1;cases r1;exact not_of (wpAny_truthy_bool ⟨.bl (!c),H1,I1,rfl,q1⟩)
end
def SqL(K:WQ)(H:Hp)(a:WS)(xs:List V):Prop :=
 Rd H a (.lst xs) \/
  ∃(o:Ze)(its:Array WV)(n:Nat),K.lookup a=some o/\o.cls=.type "list"/\o.dict=none/\o.data=.seq its n/\its.size<=Xe/\Vals xs its.toList
def SqT(K:WQ)(H:Hp)(a:WS)(xs:List V):Prop :=
 Rd H a (.tup xs) \/
  ∃(o:Ze)(its:Array WV)(n:Nat),K.lookup a=some o/\o.cls=.type "tuple"/\o.data=.seq its n/\its.size<=Xe/\Vals xs its.toList
def ac1:WV->Option V
 |.none=>some .non
 |.bool b=>some (.bl b)
 |.int i _=>some (.int i)
 |.str x _=>some (.str x)
 |.bytes b _=>some (.byt b)
 |.float b _=>some (.flt b)
 |.ref a=>some (.ref a)
 |.type n=>some (.ty n)
 |_=>none
theorem RelV.abs{x:V}(r:RelV x u):ac1 u=some x:=by
 cases x with
 |non=>cases r;rfl
 |bl _=>cases r;rfl
 |int _=>obtain⟨t,rfl⟩:=r;rfl
 |str _=>obtain⟨t,rfl⟩:=r;rfl
 |byt _=>obtain⟨t,rfl⟩:=r;rfl
 |flt _=>obtain⟨t,rfl⟩:=r;rfl
 |ref _=>cases r;rfl
 |ty _=>cases r;rfl
theorem RelV.inj{x:V}(r:RelV x u)(q:RelV y u):x=y:=Xm (r.abs.symm.trans q.abs)
theorem Vals.inj:∀{xs ys:List V}{us:List WV},Vals xs us->Vals ys us->xs=ys
 |_,_,_,.nil,.nil=>rfl
 |_,_,_,.cons r t,.cons r' t'=>by rw[r.inj r',Vals.inj t t']
section
variable{ys:List V}
theorem SqL.of(h:H a=some (.lst xs)):SqL K H a xs:=.inl (.inl h)
theorem SqT.of(h:H a=some (.tup xs)):SqT K H a xs:=.inl (.inl h)
theorem Inv.list(I:Inv X U Z H s)(h:SqL X.K H a xs):∃its:List WV,Vals xs its/\PlainL s.heap a its.toArray/\xs.length<=Xe:=by
 rcases h with h|⟨o,its,n,hk,hc,hd,hs,hz,r⟩
 .obtain⟨z,its,n,r,e⟩:=h.ok I.hok;exact⟨its,r,⟨_,n,e,rfl,rfl,rfl⟩,z⟩
 .refine⟨its.toList,r,⟨o,n,I.kIn a o hk,hc,hd,by simpa using hs⟩,?_⟩;have e:=r.length;simp only[XR]at e;omega
theorem Inv.tuple(I:Inv X U Z H s)(h:SqT X.K H a xs):∃its:List WV,Vals xs its/\IsTup s.heap a its.toArray/\xs.length<=Xe:=by
 rcases h with h|⟨o,its,n,hk,hc,hs,hz,r⟩
 .obtain⟨z,its,n,r,p⟩:=h.ok I.hok;exact⟨its,r,⟨_,p,rfl,n,rfl⟩,z⟩
 .refine⟨its.toList,r,⟨o,I.kIn a o hk,hc,n,by simpa using hs⟩,?_⟩;have e:=r.length;simp only[XR]at e;omega
theorem Inv.list_inj(I:Inv X U Z H s)(h:SqL X.K H a xs)(h':SqL X.K H a ys):xs=ys:=by
 obtain⟨its,r,⟨o,n,e,_,_,d⟩,_⟩:=I.list h;obtain⟨its',r',⟨o',n',e',_,_,d'⟩,_⟩:=I.list h';rw[e]at e';cases e';rw[d]at d';injection d' with d1 _;have:its=its':=by simpa using h! Array.toList d1
 subst this;exact r.inj r'
theorem Inv.tuple_inj(I:Inv X U Z H s)(h:SqT X.K H a xs)(h':SqT X.K H a ys):xs=ys:=by
 obtain⟨its,r,⟨o,e,_,n,d⟩,_⟩:=I.tuple h;obtain⟨its',r',⟨o',e',_,n',d'⟩,_⟩:=I.tuple h';rw[e]at e';cases e';rw[d]at d';injection d' with d1 _;have:its=its':=by simpa using h! Array.toList d1
 subst this;exact r.inj r'
end
abbrev Cx.wish(X:Cx)(E:WV->WZ->Prop):Cx:={X with xe:=E}
abbrev Cx.nox(X:Cx):Cx:=X.wish λ_ _=>False
theorem Cx.Ok.wish(ok:X.Ok)(E:WV->WZ->Prop):(X.wish E).Ok :=
 ⟨ok.mod,ok.kind,ok.glob,ok.blt,ok.above,ok.inj,ok.has,ok.cab,ok.hd,ok.frames,ok.stk,ok.exf,ok.bs,ok.bsz,ok.noex,ok.exfs,ok.funs,ok.frf⟩
theorem Cx.Ok.unwish(ok:(X.wish E).Ok):X.Ok :=
 ⟨ok.mod,ok.kind,ok.glob,ok.blt,ok.above,ok.inj,ok.has,ok.cab,ok.hd,ok.frames,ok.stk,ok.exf,ok.bs,ok.bsz,ok.noex,ok.exfs,ok.funs,ok.frf⟩
theorem Inv.wish(I:Inv X U Z H s)(E:WV->WZ->Prop):Inv (X.wish E) U Z H s:=⟨I.ok.wish E,I.os,I.bare,I.base,I.loc,I.cell,I.free,I.freeC,I.pin,I.hok,I.len⟩
theorem Inv.unwish(I:Inv (X.wish E) U Z H s):Inv X U Z H s:=⟨I.ok.unwish,I.os,I.bare,I.base,I.loc,I.cell,I.free,I.freeC,I.pin,I.hok,I.len⟩
theorem SP.unwish{f:Flow}{s':WZ}(h:SP (X.wish E) U D f s'):SP X U D f s':=by
 cases f with
 |next=>obtain⟨Ab,H',I,q⟩:=h;exact⟨Ab,H',I.unwish,q⟩
 |brk=>obtain⟨Ab,H',I,q⟩:=h;exact⟨Ab,H',I.unwish,q⟩
 |cont=>obtain⟨Ab,H',I,q⟩:=h;exact⟨Ab,H',I.unwish,q⟩
 |ret u=>obtain⟨v,Ab,H',I,r,q⟩:=h;exact⟨v,Ab,H',I.unwish,r,q⟩
theorem PSs.nox{st:List Yz}{t:TS}(h:PSs X.nox st t):PSs X st t:=λU s Z H D I hw =>
 Y7 (h U s Z H D (I.wish _) hw) (λ_ _ q=>q.unwish) λ_ _ z=>YE z
section
variable{st:Yz}{rest:List Yz}{t u:TS}
def aaP:TS:=λD Z H=>D.nx Z H
def abY(t u:TS):TS:=λD Z H=>t {D with nx:=u D} Z H
theorem bN:PSs X [] aaP:=λ_ _ Z H _ I h=>wpAny_execs_nil ⟨Z,H,I,h⟩
theorem ad(h1:PS X st t)(h2:PSs X rest u):PSs X (st::rest) (abY t u):=by
 intro U s Z H D I h;refine wpAny_execs_cons (thn (h1 U s Z H {D with nx:=u D} I h) λf s1 q=>?_);cases f with
 | next =>
   obtain⟨Ab,H',I',q⟩:=q;exact h2 U s1 Ab H' D I' q
 |ret v=>exact q
 |brk=>exact q
 |cont=>exact q
theorem af(h1:PS X st t):PSs X [st] t:=by
 intro U s Z H D I h;refine wpAny_execs_cons (thn (h1 U s Z H D I h) λf s1 q=>?_);cases f with
 |next=>exact wpAny_execs_nil q
 |ret v=>exact q
 |brk=>exact q
 |cont=>exact q
theorem Inv.quiet(I:Inv X U Z H s):interactive X.env=false:=by simp[interactive,I.ok.kind]
def acA(te:TE):TS:=λD Z H=>te Z H λ_ H1=>D.nx Z H1
theorem aU(he:PE X e te)(hs:swapsWith e none pos.line X.env=pure false:=by rfl):PS X (.Expr e pos) (acA te):=by
 intro U s Z H D I h;exact wpAny_Expr_any (thn (he U s Z H _ I h) λv s1⟨x,H1,I1,r1,q1⟩=>⟨Z,H1,I1,q1⟩) I.quiet hs
def adb(te:TE):TS:=λD Z H=>te Z H D.rt
theorem az(he:PE X e te):PS X (.Return (some e) pos) (adb te):=by
 intro U s Z H D I h;exact wpAny_Return_some (thn (he U s Z H _ I h) λv s1⟨x,H1,I1,r1,q1⟩=>⟨x,Z,H1,I1,r1,q1⟩)
def acw(c:TT)(t u:TS):TS:=λD Z H=>c Z H λb H1=>if b=true then t D Z H1 else u D Z H1
theorem cB{c:X8}{a b:List Yz}{tc:TT}(hc:PT X c tc)(ha:PSs X a t)(hb:PSs X b u):PS X (.If c a b pos) (acw tc t u):=by
 intro U s Z H D I h;refine wpAny_If (thn (hc U s Z H _ I h) λd s1⟨H1,I1,q1⟩=>?_);cases d with
 |true=>exact ha U s1 Z H1 D I1 q1
 |false=>exact hb U s1 Z H1 D I1 q1
def abw:TS:=λ_ _ _=>False
theorem oo:PS X st abw:=λ_ _ _ _ _ _ h=>h.elim
end
abbrev TG:=V->St->Hp->(St->Hp->Prop)->Prop
abbrev TGs:=List V->St->Hp->(St->Hp->Prop)->Prop
def PG(X:Cx)(target:X8)(t:TG):Prop :=
 ∀(U:List (WS×Ze))(s:WZ)(Z:St)(H:Hp)(v:V)(u:WV)(Q:St->Hp->Prop),Inv X U Z H s->RelV v u->t v Z H Q ->
   Xa (Xu X.prog X.w) X.A (assign target X.env u) (λ_ s'=>∃Ab H',Inv X U Ab H' s'/\Q Ab H') X.xe s
def PGs(X:Cx)(ts:List X8)(t:TGs):Prop :=
 ∀(U:List (WS×Ze))(s:WZ)(Z:St)(H:Hp)(vs:List V)(us:List WV)(Q:St->Hp->Prop),Inv X U Z H s->Vals vs us->t vs Z H Q ->
   Xa (Xu X.prog X.w) X.A (assignInOrder ((assignEach ts X.env).map (·.2)) us) (λ_ s'=>∃Ab H',Inv X U Ab H' s'/\Q Ab H') X.xe s
abbrev abX:=V->V->V->Hp->(Hp->Prop)->Prop
def acg(X:Cx)(t:abX):Prop :=
 ∀(U:List (WS×Ze))(s:WZ)(Z:St)(H:Hp)(o i v:V)(ov iv u:WV)(Q:Hp->Prop),Inv X U Z H s->RelV o ov->RelV i iv->RelV v u->t o i v H Q ->
   Xa (Xu X.prog X.w) X.A (setItem ov iv u) (λ_ s'=>∃H',Inv X U Z H' s'/\Q H') X.xe s
abbrev TIp:=V->V->Hp->VK->Prop
def PIp(X:Cx)(op:Operator)(t:TIp):Prop :=
 ∀(U:List (WS×Ze))(s:WZ)(Z:St)(H:Hp)(x y:V)(v u:WV)(Q:VK),Inv X U Z H s->RelV x v->RelV y u->t x y H Q ->
   Xa (Xu X.prog X.w) X.A (inplaceOp op v u) (EP X U Z Q) X.xe s
def aq(i:Nat):TG:=λv Z H Q=>Q (Z.set i (some v)) H
theorem aaq(hN:X.N.Nodup)(hi:X.N[i]?=some x)(hx:Loc X.env.scope x)(hf:X.fn x=true\/X.env.scope.names.lookup x=some .local:=by first|exact .inl rfl|exact .inr rfl|assumption):PG X (.Name x pos) (aq i):=by
 intro U s Z H v u Q I r h;exact wpAny_assign_Name (gP I hN hi hx r (λs' I'=>⟨_,H,I',h⟩) hf)
def oM:TGs:=λvs Z H Q=>vs=[]/\Q Z H
def cW(t:TG)(u:TGs):TGs:=λvs Z H Q=>∃v r,vs=v::r/\t v Z H λAb H'=>u r Ab H' Q
theorem aT:PGs X [] oM:=by
 intro U s Z H vs us Q I r h;obtain⟨e,h⟩:=h;subst e;cases r;exact assignInOrder_nil ⟨Z,H,I,h⟩
theorem ak{t:TG}{u:TGs}(h1:PG X e t)(h2:PGs X es u)
 (hs:(assignEach (e::es) X.env).map (·.2)=assign e X.env::(assignEach es X.env).map (·.2):=by rfl):PGs X (e::es) (cW t u):=by
 intro U s Z H vs us Q I r h;obtain⟨v,vr,e1,h⟩:=h;subst e1;cases r with
 | cons r rr =>
   rw[hs];refine assignInOrder_cons (thn (h1 U s Z H _ _ _ I r h) λ_ s1⟨B7,H1,I1,q1⟩=>?_);exact h2 U s1 B7 H1 _ _ Q I1 rr q1
def oJ(K:WQ)(n:Nat)(t:TGs):TG:=λv Z H Q=>∃a xs,v=.ref a/\SqT K H a xs/\xs.length=n/\t xs Z H Q
theorem bj{k:Nat}{t:TGs}(hc:X.calm=true)(h:PGs X es t)
 (hn:(assignEach es X.env).length=n:=by rfl) (A7:(assignEach es X.env).findIdx? (·.1)=none:=by rfl):PG X (.Tuple es k pos) (oJ X.K n t):=by
 intro U s Z H v u Q I r hw;obtain⟨a,xs,e1,hq,hl,hw⟩:=hw;subst e1;cases r;obtain⟨its,rv,ht,hz⟩:=I.tuple hq;refine assign_Tuple_tuple (I.ok.hd hc) ht (by simp[hn,<-hl,rv.length]) A7 λh' hx=>?_;have I1:Inv X U Z H {s with heap:=h'}:=I.kept (t':=s.toks) λb o e=>hx b o (Xy (Xb e)) e;exact h U _ Z H xs _ Q I1 (by simpa using rv) hw
def ac3(to ti:TE)(t:abX):TG:=λv Z H Q=>to Z H λo H1=>ti Z H1 λi H2=>t o i v H2 λH3=>Q Z H3
theorem ye{o i:X8}{to ti:TE}{t:abX}(ho:PE X o to)(hi:PE X i ti)(hs:acg X t)
 (ha:∀v,assign (.Subscript o i pos) X.env v=(do
  let ov <-holding [v] (Y3 o X.env)
  let iv <-holding [v,ov] (Y3 i X.env)
  standAt pos
  holding [v,ov,iv] (setItem ov iv v)
  release [v,ov,iv] []):=by intro _;rfl):PG X (.Subscript o i pos) (ac3 to ti t):=by
 intro U s Z H v u Q I r h;rw[ha];refine WN (Yx (thn (ho U s Z H _ I h) λov s1⟨x,H1,I1,r1,q1⟩=>?_));refine WN (Yx (thn (hi U s1 Z H1 _ I1 q1) λiv s2⟨y,H2,I2,r2,q2⟩=>?_));refine WN (wpAny_standAt (WN (Yx (thn (hs U s2 Z H2 x y v ov iv u _ I2 r1 r2 r q2) λ_ s3⟨H3,I3,q3⟩=>?_))));exact wpAny_release ⟨Z,H3,I3,q3⟩
def xU(te:TE)(g:TG):TS:=λD Z H=>te Z H λx H1=>g x Z H1 D.nx
theorem fg{g:TG}(he:PE X e te)(hg:PG X tg g)(hs:swapsWithSole [tg] e pos.line X.env=pure false:=by rfl)(hw:swappedStores [tg] e X.env=pure none:=by rfl)
 (h1:(assignEach [tg] X.env).map (·.2)=[assign tg X.env]:=by rfl):PS X (.Assign [tg] e pos) (xU te g):=by
 intro U s Z H D I h;refine wpAny_Assign_stores (thn (he U s Z H _ I h) λv s1⟨x,H1,I1,r1,q1⟩=>?_) hs hw;rw[h1];exact thn (hg U s1 Z H1 x v _ I1 r1 q1) λ_ s2 q=>q
theorem xy(hN:X.N.Nodup)(hi:X.N[i]?=some x)(hx:Loc X.env.scope x)(he:PE X e te)(hs:swapsWith e (some (.Name x pos')) pos.line X.env=pure false:=by rfl)(hf:X.fn x=true\/X.env.scope.names.lookup x=some .local:=by first|exact .inl rfl|exact .inr rfl|assumption) :
 PS X (.Assign [.Name x pos'] e pos) (xU te (aq i)):=by
 intro U s Z H D I h;refine wpAny_Assign_Name (thn (he U s Z H _ I h) λv s1⟨y,H1,I1,r1,q1⟩=>?_) hs;exact gP I1 hN hi hx r1 (λs2 I2=>⟨_,H1,I2,q1⟩) hf
def adj(i:Nat)(te:TE)(ti:TIp):TS:=λD Z H=>∃x,Z[i]?=some (some x)/\te Z H λy H1=>ti x y H1 λz H2=>D.nx (Z.set i (some z)) H2
theorem yZ{op:Operator}{ti:TIp}(hN:X.N.Nodup)(hi:X.N[i]?=some x)(hx:Loc X.env.scope x)(he:PE X e te)(ho:PIp X op ti)(hf:X.fn x=true\/X.env.scope.names.lookup x=some .local:=by first|exact .inl rfl|exact .inr rfl|assumption) :
 PS X (.AugAssign (.Name x pos') op e pos) (adj i te ti):=by
 intro U s Z H D I h;obtain⟨v,e1,h⟩:=h;obtain⟨m,hn,hl⟩:=I.loc;have Rl:Vis X.env.scope x:=by rcases hx with k|k;exact .inl k;exact .inr (.inl k)
 obtain⟨u,r,l⟩:=hl i x v hi e1 Rl;refine wpAny_AugAssign_Name ?_
 have go:Xa (Xu X.prog X.w) X.A (Y3 e X.env) (λw AN=>Xa (Xu X.prog X.w) X.A (inplaceOp op u w) (λr Ci=>Xa (Xu X.prog X.w) X.A (storeName X.env x r) (λ_=>SP X U D .next) X.xe Ci) X.xe AN) X.xe s:=by
  refine thn (he U s Z H _ I h) λw s1⟨y,H1,I1,r1,q1⟩=>?_;refine thn (ho U s1 Z H1 v y u w _ I1 r r1 q1) λz s2⟨zv,H2,I2,r2,q2⟩=>?_;exact gP I2 hN hi hx r2 (λs3 I3=>⟨_,H2,I3,q2⟩) hf
 rcases l with⟨hk,hm⟩|⟨hk,c,hc,Bp⟩
 .exact wpAny_loadName_local I.ok.kind hk hn hm go
 .rcases hk with hk|hk
  .exact wpAny_loadName_cell I.ok.kind hk hc Bp go
  .rcases hx with k|k
   .have:X.env.scope.names.lookup x=some .free:=hk;rw[k]at this;cases this
   .have:X.env.scope.names.lookup x=some .free:=hk;rw[k]at this;cases this
def ipI(f:Int->Int->Int):TIp:=λx y H Q=>∃i j,x=.int i/\y=.int j/\Q (.int (f i j)) H
theorem xx:PIp X .Add (ipI λi j=>i+j):=by
 intro U s Z H x y v u Q I r1 r2 h;obtain⟨i,j,e1,e2,q⟩:=h;subst e1;subst e2;obtain⟨t,rfl⟩:=r1;obtain⟨t',rfl⟩:=r2;exact iadd_int ⟨.int _,H,I.tok _,⟨_,rfl⟩,q⟩
def abx(c:TT)(tb:TS):TS:=λD Z H=>∃W:Nat->St->Hp->Prop,(∃m,W m Z H)/\∀m Z H,W m Z H ->
 c Z H λb H1=>if b=true then∃N:St->Hp->Prop,(∀Ab H',N Ab H'->∃m',m'<m/\W m' Ab H')/\tb {D with nx:=N,ct:=N,bk:=D.nx} Z H1 else D.nx Z H1
theorem eF{c:X8}{tc:TT}(hp:PassesOwn (Xu X.prog X.w) X.A X.env X.xe)(hc:PT X c tc)(hb:PSs X body tb):PS X (.While c body [] pos) (abx tc tb):=by
 intro U s Z H D I h;obtain⟨W,⟨m0,w0⟩,turn⟩:=h;refine wpAny_While (codeAny_whileLoop (λn s'=>∃Ab H',Inv X U Ab H' s'/\W n Ab H') ?_ m0 ⟨Z,H,I,w0⟩);rintro n s1 ⟨B7,H1,I1,w1⟩;refine wpAny_passesOwn hp (thn (hc U s1 B7 H1 _ I1 (turn n B7 H1 w1)) λb s2⟨H2,I2,q2⟩=>?_);cases b with
 | true =>
   obtain⟨N,hN,q2⟩:=q2;rw[b! rfl];refine wpAny_passesOwn hp (thn (hb U s2 B7 H2 _ I2 q2) λf s3 q3=>?_);cases f with
   | next =>
     obtain⟨Eb,H3,I3,n3⟩:=q3;obtain⟨m',hm,w3⟩:=hN Eb H3 n3;exact⟨m',hm,Eb,H3,I3,w3⟩
   | cont =>
     obtain⟨Eb,H3,I3,n3⟩:=q3;obtain⟨m',hm,w3⟩:=hN Eb H3 n3;exact⟨m',hm,Eb,H3,I3,w3⟩
   |brk=>exact q3
   |ret v=>exact q3
 | false =>
   rw[a! W8];exact wpAny_execs_nil ⟨B7,H2,I2,q2⟩
structure It where
 go:Nat->Hp->Prop
 yld:Nat->Hp->V->Hp->Prop
 stop:Nat->Hp->Prop
def km(X:Cx)(U:List (WS×Ze))(H:Hp)(b:WS):Prop :=
 H b=none/\b≠X.env.locals/\b∉X.fs/\(b∈X.ex\/X.s₀.heap.objs.size<=b)/\(∀x c,X.env.cells.lookup x=some c->c≠b)/\∀p∈X.pn++U,p.1≠b
theorem Inv.fpOk(I:Inv X U Z H s)(hb:s.heap.objs.size<=b)(hn:H' b=none):km X U H' b:=by
 refine⟨hn,Nat.ne_of_gt (XI I.lt hb),I.nofs hb,.inr (Xv I.sz hb),λx c e z=>?_,λp hp z=>?_⟩
 .obtain⟨v,q⟩:=I.cell x c e;exact g! (XI q.lt (by rw[z];exact hb)) (Ym _)
 .exact g! (XI (Xb (I.pin p hp).1) (by rw[z];exact hb)) (Ym _)
structure Turn(P:W6)(w:Xj)(K:WQ)(tg:X8)(J:It)(fp:List WS)(it:WS)(tn:Nat->X7->Prop):Prop where
 mem:it∈fp
 obj:∀i h,tn i h->∀b∈fp,∃o,h.get? b=some o/\∀v,o.data≠.cell v
 keep:∀i h h',tn i h->(∀b∈fp,∀o,h.get? b=some o->h'.get? b=some o)->tn i h'
 item:∀(X:Cx),X.prog=P->X.w=w->X.K=K->X.calm=true->∀(i:Nat)(U:List (WS×Ze))(s:WZ)(Z:St)(H:Hp)(E:WV->WZ->Prop),Inv X U Z H s->(∀b∈fp,km X U H b)->tn i s.heap->J.go i H ->
  Xa (Xu P w) X.A (pyNext (.ref it)) (λr s1=>∃u,r=some u /\
   Xa (Xu P w) X.A (letOwnedTupleGo tg (.ref it) u) (λ_ s2=>∃x H',Inv X U Z H' s2/\RelV x u/\J.yld i H x H'/\tn (i+1) s2.heap/\∀b∈fp,H' b=none) E s1) E s
 done:∀(X:Cx),X.prog=P->X.w=w->X.K=K->X.calm=true->∀(i:Nat)(U:List (WS×Ze))(s:WZ)(Z:St)(H:Hp)(E:WV->WZ->Prop),Inv X U Z H s->(∀b∈fp,km X U H b)->tn i s.heap->J.stop i H ->
  Xa (Xu P w) X.A (pyNext (.ref it)) (λr s1=>r=none/\Inv X U Z H s1) E s
 self:∀(A:XF)(i:Nat)(s:WZ)(Q:WV->WZ->Prop)(E:WV->WZ->Prop),tn i s.heap->Q (.ref it) s->Xa (Xu P w) A (pyIter (.ref it)) Q E s
abbrev TI:=St->Hp->(It->Hp->Prop)->Prop
def PIE(X:Cx)(U:List (WS×Ze))(Z:St)(tg:X8)(R:It->Hp->Prop)(LV:WV)(s2:WZ):Prop :=
 ∃(it:WS)(fp:List WS)(tn:Nat->X7->Prop)(J:It)(H':Hp),LV=.ref it/\Inv X U Z H' s2/\Turn X.prog X.w X.K tg J fp it tn/\tn 0 s2.heap/\(∀b∈fp,km X U H' b)/\R J H'
def PI(X:Cx)(tg iter:X8)(wi:TI):Prop :=
 ∀(U:List (WS×Ze))(s:WZ)(Z:St)(H:Hp)(R:It->Hp->Prop),Inv X U Z H s->wi Z H R ->
   Xa (Xu X.prog X.w) X.A (Y3 iter X.env) (λv s1=>Xa (Xu X.prog X.w) X.A (pyIter v) (PIE X U Z tg R) X.xe s1) X.xe s
theorem uY{o:Ze}{n:String}{vs:Array WV}{Q:Unit->WZ->Prop}(ho:s.heap.get? it=some o)(hc:o.cls=.type n)(hd:o.data=.fields vs)
 (hn:["enumerate","zip","dict_itemiterator","dict_reverseitemiterator","odict_iterator","itertools.zip_longest","itertools.pairwise"].contains n=false) (hQ:Q () s):Xa M A (letOwnedTupleGo tg (.ref it) u) Q E s:=by
 unfold letOwnedTupleGo
 cases tg <;> first
  |exact WX hQ
  |(cases u <;> first
   |exact WX hQ
   | (refine WN (wpAny_load ho ?_)
      rw[hc,hd];show Xa M A (if(["enumerate","zip","dict_itemiterator","dict_reverseitemiterator","odict_iterator","itertools.zip_longest","itertools.pairwise"].contains n && vs[0]? == some (Y8 _))=true then _ else _) Q E s;rw[a! (by intro h;rw[hn,Bool.false_and]at h;cases h)];exact WX hQ))
def Itl(K:WQ)(a:WS):It :=
 ⟨λi H=>∃xs x,SqL K H a xs/\xs[i]?=some x,λi H x H'=>H'=H/\∀xs,SqL K H a xs->xs[i]?=some x,λi H=>∃xs,SqL K H a xs/\xs.length<=i⟩
def Itt(K:WQ)(a:WS):It :=
 ⟨λi H=>∃xs x,SqT K H a xs/\xs[i]?=some x,λi H x H'=>H'=H/\∀xs,SqT K H a xs->xs[i]?=some x,λi H=>∃xs,SqT K H a xs/\xs.length<=i⟩
def Itr(lo:Int)(n:Nat):It:=⟨λi _=>i<n,λi H x H'=>H'=H/\x=.int (lo+i),λi _=>n<=i⟩
theorem o9(a it:WS):Turn P w K tg (Itl K a) [it] it (λi h=>h.IsListIter it a i) where
 mem:=by simp
 obj:=λi h st b hb=>by
  have e:b=it:=by simpa using hb
  subst e;obtain⟨o,e,c,d⟩:=st;exact⟨o,e,λv z=>by rw[d]at z;cases z⟩
 keep:=λi h h' st k=>st.at λo e=>k it (by simp) o e
 item:=by
  intro X hP hw hK hc i U s Z H E I hf st hg;subst hP hw hK;obtain⟨xs,x,hq,hx⟩:=hg;obtain⟨its,rv,p,hz⟩:=I.list hq;obtain⟨u,hu,ru⟩:=rv.get hx;obtain⟨f0,f1,f2,f3,f4,f5⟩:=hf it (by simp);refine wpAny_pyNext_list_item st p.isList (x:=u) (by simpa using hu) λh' D3 sb=>?_;have I1:Inv X U Z H {s with heap:=h'}:=I.turned (t':=s.toks) (λb o hb e=>(sb.2 b hb).trans e) f0 f1 f3 f4 f5;obtain⟨o,e,c,d⟩:=id D3;exact⟨u,rfl,uY (s:={s with heap:=h'}) e c d (by decide) ⟨x,H,I1,ru,⟨rfl,λys hy=>by rw[I.list_inj hy hq];exact hx⟩,D3,λb hb=>(hf b hb).1⟩⟩
 done:=by
  intro X hP hw hK hc i U s Z H E I hf st hg;subst hP hw hK;obtain⟨xs,hq,hx⟩:=hg;obtain⟨its,rv,p,hz⟩:=I.list hq;obtain⟨f0,f1,f2,f3,f4,f5⟩:=hf it (by simp);have hl:=rv.length;exact wpAny_pyNext_list_end (I.ok.hd hc) st p.isList (by simp;omega) λh' eb=>⟨rfl,I.turned (t':=s.toks) (λb o hb e=>eb b o hb e) f0 f1 f3 f4 f5⟩
 self:=λ_ _ _ _ _ st h=>wpAny_pyIter_listiter st h
theorem mV(a it:WS):Turn P w K tg (Itt K a) [it] it (λi h=>h.IsTupleIter it a i) where
 mem:=by simp
 obj:=λi h st b hb=>by
  have e:b=it:=by simpa using hb
  subst e;obtain⟨o,e,c,d⟩:=st;exact⟨o,e,λv z=>by rw[d]at z;cases z⟩
 keep:=λi h h' st k=>st.at λo e=>k it (by simp) o e
 item:=by
  intro X hP hw hK hc i U s Z H E I hf st hg;subst hP hw hK;obtain⟨xs,x,hq,hx⟩:=hg;obtain⟨its,rv,p,hz⟩:=I.tuple hq;obtain⟨u,hu,ru⟩:=rv.get hx;obtain⟨f0,f1,f2,f3,f4,f5⟩:=hf it (by simp);refine wpAny_pyNext_tuple_item st (show s.heap.IsTuple a its.toArray from p) (x:=u) (by simpa using hu) λh' D3 sb=>?_;have I1:Inv X U Z H {s with heap:=h'}:=I.turned (t':=s.toks) (λb o hb e=>(sb.2 b hb).trans e) f0 f1 f3 f4 f5;obtain⟨o,e,c,d⟩:=id D3;exact⟨u,rfl,uY (s:={s with heap:=h'}) e c d (by decide) ⟨x,H,I1,ru,⟨rfl,λys hy=>by rw[I.tuple_inj hy hq];exact hx⟩,D3,λb hb=>(hf b hb).1⟩⟩
 done:=by
  intro X hP hw hK hc i U s Z H E I hf st hg;subst hP hw hK;obtain⟨xs,hq,hx⟩:=hg;obtain⟨its,rv,p,hz⟩:=I.tuple hq;obtain⟨f0,f1,f2,f3,f4,f5⟩:=hf it (by simp);have hl:=rv.length;exact wpAny_pyNext_tuple_end (I.ok.hd hc) st (show s.heap.IsTuple a its.toArray from p) (by simp;omega) λh' eb=>⟨rfl,I.turned (t':=s.toks) (λb o hb e=>eb b o hb e) f0 f1 f3 f4 f5⟩
 self:=λ_ _ _ _ _ st h=>wpAny_pyIter_tupleiter st h
theorem uC(it:WS)(lo:Int)(n:Nat):Turn P w K tg (Itr lo n) [it] it (λi h=>IsRangeIter h it (lo+(i:Nat) * 1) ((n:Int) - (i:Nat)) 1) where
 mem:=by simp
 obj:=λi h st b hb=>by
  have e:b=it:=by simpa using hb
  subst e
  exact⟨_,st,λv z=>by
   have z':Data.fields _=Data.cell v:=z;cases z'⟩
 keep:=λi h h' st k=>k it (by simp) _ st
 item:=by
  intro X hP hw hK hc i U s Z H E I hf st hg;subst hP hw hK;obtain⟨f0,f1,f2,f3,f4,f5⟩:=hf it (by simp);have W:=Walks.range (prog:=X.prog) (w:=X.w) (I.ok.hd hc) it lo 1 n;refine W.item i s _ _ hg st λv h' tk hv D3 kk=>?_;obtain⟨t,rfl⟩:=hv;have I1:Inv X U Z H {s with heap:=h',toks:=tk}:=I.turned (λb o hb e=>kk b o (by simpa using hb) e) f0 f1 f3 f4 f5;refine⟨_,rfl,uY (s:={s with heap:=h',toks:=tk}) (n:="range_iterator") D3 rfl rfl (by decide) ⟨.int (lo+i),H,I1,⟨t,?_⟩,⟨rfl,rfl⟩,D3,λb hb=>(hf b hb).1⟩⟩;rw[Int.mul_one]
 done:=by
  intro X hP hw hK hc i U s Z H E I hf st hg;subst hP hw hK;obtain⟨f0,f1,f2,f3,f4,f5⟩:=hf it (by simp);exact wpAny_pyNext_range_end (I.ok.hd hc) st (by have:n<=i:=hg;omega) λh' eb=>⟨rfl,I.turned (t':=s.toks) (λb o hb e=>eb b o hb e) f0 f1 f3 f4 f5⟩
 self:=λ_ _ _ _ _ st h=>wpAny_pyIter_rangeiter st h
end L2
open L2.SqL renaming of->l!
open L2.SqT renaming of->n!
variable{g:L2.TG}{wi:L2.TI}
namespace L2
open PySem PySem.Spec PyProof.Rows
def acu(K:WQ)(tl:TE):TI:=λZ H R=>tl Z H λx H1=>∃a,x=.ref a/\(∃xs,SqL K H1 a xs)/\R (Itl K a) H1
def adg(K:WQ)(tl:TE):TI:=λZ H R=>tl Z H λx H1=>∃a,x=.ref a/\(∃xs,SqT K H1 a xs)/\R (Itt K a) H1
theorem cj{l:X8}(hl:PE X l tl):PI X tg l (acu X.K tl):=by
 intro U s Z H R I h;refine thn (hl U s Z H _ I h) λv s1⟨x,H1,I1,r1,q1⟩=>?_;obtain⟨a,e,⟨xs,hq⟩,q⟩:=q1;subst e;cases r1;obtain⟨its,rv,p,hz⟩:=I1.list hq;refine wpAny_pyIter_list p.isList ?_;refine⟨s1.heap.objs.size,[s1.heap.objs.size],_,_,H1,rfl,I1.kept (t':=s1.toks) λb o e=>WW _ e,o9 a _,⟨_,W4 _ rfl,rfl,rfl⟩,λb hb=>?_,q⟩;have e:b=s1.heap.objs.size:=by simpa using hb
 subst e;exact I1.fpOk (WY _) (I1.hok.fresh (WY _))
theorem eZ{l:X8}(hl:PE X l tl):PI X tg l (adg X.K tl):=by
 intro U s Z H R I h;refine thn (hl U s Z H _ I h) λv s1⟨x,H1,I1,r1,q1⟩=>?_;obtain⟨a,e,⟨xs,hq⟩,q⟩:=q1;subst e;cases r1;obtain⟨its,rv,p,hz⟩:=I1.tuple hq;refine ZT (show s1.heap.IsTuple a its.toArray from p) ?_;refine⟨s1.heap.objs.size,[s1.heap.objs.size],_,_,H1,rfl,I1.kept (t':=s1.toks) λb o e=>WW _ e,mV a _,⟨_,W4 _ rfl,rfl,rfl⟩,λb hb=>?_,q⟩;have e:b=s1.heap.objs.size:=by simpa using hb
 subst e;exact I1.fpOk (WY _) (I1.hok.fresh (WY _))
theorem sg{R:It->Hp->Prop}{lo hi:Int}{t u v:Tok}{tk:Nat}(I:Inv X U Z H s)(h1:-(2 ^ 62)<=lo)(h2:lo<2 ^ 62)(h3:-(2 ^ 62)<=hi)(h4:hi<2 ^ 62)
 (q:R (Itr lo (hi - lo).toNat) H):Xa (Xu X.prog X.w) X.A (pyIter (.ref s.heap.objs.size)) (PIE X U Z tg R) E {s with heap:=s.heap.push {cls:=.type "range",data:=.fields #[.int lo t,.int hi u,.int 1 v]},toks:=tk}:=by
 refine wpAny_pyIter_range (IsRange.new ..) (small_one h1 h2 h3 h4) ?_;have I1:Inv X U Z H {s with heap:=s.heap.push {cls:=.type "range",data:=.fields #[.int lo t,.int hi u,.int 1 v]},toks:=tk}:=I.kept λb o e=>WW _ e
 refine⟨(s.heap.push {cls:=.type "range",data:=.fields #[.int lo t,.int hi u,.int 1 v]}).objs.size,[(s.heap.push {cls:=.type "range",data:=.fields #[.int lo t,.int hi u,.int 1 v]}).objs.size],_,_,H,rfl,
  I1.kept (t':=tk) λb o e=>WW _ e,uC _ lo (hi - lo).toNat,?_,λb hb=>?_,q⟩
 .have e1:lo+((0:Nat):Int) * 1=lo:=by simp
  have e2:(((hi - lo).toNat:Nat):Int) - ((0:Nat):Int)=Builtin.Range.rangeSize lo hi 1:=by rw[rangeSize_one];split <;> omega
  show IsRangeIter _ _ (lo+((0:Nat):Int) * 1) ((((hi - lo).toNat:Nat):Int) - ((0:Nat):Int)) 1;rw[e1,e2];exact W4 _ rfl
 .have e:b=(s.heap.push {cls:=.type "range",data:=.fields #[.int lo t,.int hi u,.int 1 v]}).objs.size:=by simpa using hb
  subst e;exact I1.fpOk (WY _) (I1.hok.fresh (WY _))
def acn(ta:TA):TI:=λZ H R=>ta Z H λvs H1=>∃j:Int,vs=[.int j]/\-(2 ^ 62)<=j/\j<2 ^ 62/\R (Itr 0 j.toNat) H1
def acj(ta:TA):TI:=λZ H R=>ta Z H λvs H1=>∃i j:Int,vs=[.int i,.int j]/\(-(2 ^ 62)<=i/\i<2 ^ 62/\-(2 ^ 62)<=j/\j<2 ^ 62)/\R (Itr i (j - i).toNat) H1
theorem bA{a:X8}{ta:TA}{p:Z9}(hg:Gl X "range")(hm:X.mg "range"=none)(ha:PA X [a] ta)(hs:XE [a] X.env=[(false,Y3 a X.env)]:=by rfl):PI X tg (.Call (.Name "range" p) [a] [] pos) (acn ta):=by
 intro U s Z H R I h;refine Call_ (de I hg hm boot_range (X0 (thn (ha pos U s Z H _ I h) λus s1⟨vs,H1,I1,r1,q1⟩=>?_) hs rfl));obtain⟨j,e,q1,q2,q⟩:=q1;subst e;cases r1 with
 | cons r rr =>
   cases rr;obtain⟨t,rfl⟩:=r;exact call_range_1 (sg I1 (by omega) (by omega) q1 q2 (by simpa using q))
theorem w6{a b:X8}{ta:TA}{p:Z9}(hg:Gl X "range")(hm:X.mg "range"=none)(ha:PA X [a,b] ta)(hs:XE [a,b] X.env=[(false,Y3 a X.env),(false,Y3 b X.env)]:=by rfl)(IY:XE [b] X.env=[(false,Y3 b X.env)]:=by rfl) :
 PI X tg (.Call (.Name "range" p) [a,b] [] pos) (acj ta):=by
 intro U s Z H R I h;refine Call_ (de I hg hm boot_range (X0 (thn (ha pos U s Z H _ I h) λus s1⟨vs,H1,I1,r1,q1⟩=>?_) (by rw[hs,IY]) (by rw[IY];rfl)));obtain⟨i,j,e,⟨q1,q2,q3,q4⟩,q⟩:=q1;subst e;cases r1 with
 | cons r rr =>
   cases rr with
   | cons r' rr =>
     cases rr;obtain⟨t,rfl⟩:=r;obtain⟨t',rfl⟩:=r';exact call_range_2 (sg I1 q1 q2 q3 q4 q)
def ac9(wi:TI)(g:TG)(tb:TS):TS:=λD Z H=>wi Z H λJ H1=>∃W:Nat->Nat->St->Hp->Prop,(∃m,W 0 m Z H1)/\∀i m Z H,W i m Z H ->
 (J.stop i H/\D.nx Z H)\/(J.go i H/\∃N:St->Hp->Prop,(∀Ab H',N Ab H'->∃m',m'<m/\W (i+1) m' Ab H')/\∀x H',J.yld i H x H'->g x Z H' λAz H2=>tb {D with nx:=N,ct:=N,bk:=D.nx} Az H2)
def nV(fp:List WS)(h:X7):List (WS×Ze):=fp.filterMap λb=>(h.get? b).map λo=>(b,o)
theorem fY{o:Ze}(hb:b∈fp)(e:h.get? b=some o):(b,o)∈nV fp h:=List.mem_filterMap.mpr ⟨b,hb,by rw[e];rfl⟩
theorem xb{p:WS×Ze}(hp:p∈nV fp h):p.1∈fp/\h.get? p.1=some p.2:=by
 obtain⟨b,hb,e⟩:=List.mem_filterMap.mp hp;cases q:h.get? b with
 |none=>rw[q]at e;cases e
 | some o =>
   rw[q]at e;have e':(b,o)=p:=Xm e;subst e';exact⟨hb,q⟩
theorem Inv.pinned(I:Inv X U Z H s)(hf:∀b∈fp,km X U H b)(ho:∀b∈fp,∃o,s.heap.get? b=some o/\∀v,o.data≠.cell v):Inv X (U++nV fp s.heap) Z H s :=
 I.pins_of λp hp=>(Xq.mp hp).elim (λz=>I.pin p (XC _ z)) λz=>by
  obtain⟨hb,e⟩:=xb z;obtain⟨f0,f1,f2,_⟩:=hf p.1 hb;obtain⟨o,e',d⟩:=ho p.1 hb;rw[e]at e';cases e';exact⟨e,f0,f1,f2,d⟩
theorem Inv.unpinned{pl:List (WS×Ze)}(I:Inv X (U++pl) Z H s):Inv X U Z H s:=I.pins_of λp hp=>I.pin p (XC _ (XH _ hp))
theorem bE(hp:PassesOwn (Xu X.prog X.w) X.A X.env X.xe)(hc:X.calm=true)(hi:PI X tg iter wi)(hg:PG X tg g)(hb:PSs X body tb)
 (hs:∀x,foldedSetIterable iter X.env x=pure x:=by intro _;rfl):PS X (.For tg iter body [] pos) (ac9 wi g tb):=by
 intro U s Z H D I h;refine wpAny_For (thn (hi U s Z H _ I h) λv s1 h1=>thn h1 λLV s2 h2=>?_) hs;obtain⟨it,fp,tn,J,H2,e,I2,T,C7,f2,W,⟨m0,w0⟩,turn⟩:=h2;subst e
 have C8:∀{H':Hp},(∀b∈fp,H' b=none)->∀b∈fp,km X U H' b:=λhn b hb=>⟨hn b hb,(f2 b hb).2⟩;refine codeAny_forLoop_any (λn s'=>∃i Ab H',Inv X U Ab H' s'/\tn i s'.heap/\(∀b∈fp,H' b=none)/\W i n Ab H') ?_ m0 ⟨0,Z,H2,I2,C7,λb hb=>(f2 b hb).1,w0⟩;rintro n s3 ⟨i,Eb,H3,I3,Rm,Rn,w3⟩;rcases turn i n Eb H3 w3 with⟨stop,qn⟩|⟨go,N,hN,step⟩
 .refine wpAny_passesOwn hp (thn (T.done X rfl rfl rfl hc i U s3 Eb H3 X.xe I3 (C8 Rn) Rm stop) λr s4⟨hr,I4⟩=>?_);subst hr;exact wpAny_execs_nil ⟨Eb,H3,I4,qn⟩
 .refine wpAny_passesOwn hp (thn (T.item X rfl rfl rfl hc i U s3 Eb H3 X.xe I3 (C8 Rn) Rm go) λr s4⟨u,hr,h4⟩=>?_);subst hr;refine wpAny_passesOwn hp (thn h4 λ_ s5⟨x,H5,I5,r5,y5,Ij,LW⟩=>?_);have TR:=I5.pinned (C8 LW) (T.obj _ _ Ij);refine wpAny_passesOwn hp (thn (hg _ s5 Eb H5 x u _ TR r5 (step x H5 y5)) λ_ s6⟨TU,H6,I6,q6⟩=>?_);refine wpAny_passesOwn hp (thn (hb _ s6 TU H6 _ I6 q6) λf s7 q7=>?_)
  have again:∀{Ec:St}{H7:Hp},Inv X (U++nV fp s5.heap) Ec H7 s7->N Ec H7->∃m,m<n/\∃i Ab H',Inv X U Ab H' s7/\tn i s7.heap/\(∀b∈fp,H' b=none)/\W i m Ab H':=λ{Ec H7}I7 n7=>by
   obtain⟨m',hm,w7⟩:=hN Ec H7 n7;refine⟨m',hm,i+1,Ec,H7,I7.unpinned,T.keep _ _ _ Ij λb hb o e=>(I7.pin (b,o) (XC _ (XC _ (fY hb e)))).1,λb hb=>?_,w7⟩;obtain⟨o,e,d⟩:=T.obj _ _ Ij b hb;exact(I7.pin (b,o) (XC _ (XC _ (fY hb e)))).2.1
  cases f with
  |next=>obtain⟨Ec,H7,I7,n7⟩:=q7;exact again I7 n7
  |cont=>obtain⟨Ec,H7,I7,n7⟩:=q7;exact again I7 n7
  |brk=>obtain⟨Ec,H7,I7,q7⟩:=q7;exact⟨Ec,H7,I7.unpinned,q7⟩
  |ret v=>obtain⟨x7,Ec,H7,I7,r7,q7⟩:=q7;exact⟨x7,Ec,H7,I7.unpinned,r7,q7⟩
theorem cD(Pv:Nat->St->Hp->Prop)(h0:Pv 0 Z H)(hl:∀i Z H,i<=xs.length->Pv i Z H->SqL K H a xs)
 (hs:∀i x Z H,xs[i]?=some x->Pv i Z H->g x Z H λAz H2=>tb {D with nx:=Pv (i+1),ct:=Pv (i+1),bk:=D.nx} Az H2) (hd:∀Z H,Pv xs.length Z H->D.nx Z H) :
 ∃W:Nat->Nat->St->Hp->Prop,(∃m,W 0 m Z H)/\∀i m Z H,W i m Z H ->
   ((Itl K a).stop i H/\D.nx Z H)\/((Itl K a).go i H/\∃N:St->Hp->Prop,(∀Ab H',N Ab H'->∃m',m'<m/\W (i+1) m' Ab H')/\∀x H',(Itl K a).yld i H x H'->g x Z H' λAz H2=>tb {D with nx:=N,ct:=N,bk:=D.nx} Az H2):=by
 refine⟨λi m Z H=>m=xs.length - i/\i<=xs.length/\Pv i Z H,⟨xs.length,by simp,Xi _,h0⟩,?_⟩;rintro i m Z H ⟨rfl,hi,p⟩;have q:=hl i Z H hi p;by_cases Am:i<xs.length
 .refine .inr ⟨⟨xs,xs[i],q,by simp[Am]⟩,Pv (i+1),λAb H' p'=>⟨xs.length - (i+1),by omega,rfl,Am,p'⟩,λx H' y=>?_⟩;obtain⟨e,y⟩:=y;subst e;exact hs i x Z _ (y xs q) p
 .have e:i=xs.length:=by omega
  subst e;exact .inl ⟨⟨xs,q,WY _⟩,hd Z H p⟩
theorem aac(Pv:Nat->St->Hp->Prop)(h0:Pv 0 Z H)(hl:∀i Z H,i<=xs.length->Pv i Z H->SqT K H a xs)
 (hs:∀i x Z H,xs[i]?=some x->Pv i Z H->g x Z H λAz H2=>tb {D with nx:=Pv (i+1),ct:=Pv (i+1),bk:=D.nx} Az H2) (hd:∀Z H,Pv xs.length Z H->D.nx Z H) :
 ∃W:Nat->Nat->St->Hp->Prop,(∃m,W 0 m Z H)/\∀i m Z H,W i m Z H ->
   ((Itt K a).stop i H/\D.nx Z H)\/((Itt K a).go i H/\∃N:St->Hp->Prop,(∀Ab H',N Ab H'->∃m',m'<m/\W (i+1) m' Ab H')/\∀x H',(Itt K a).yld i H x H'->g x Z H' λAz H2=>tb {D with nx:=N,ct:=N,bk:=D.nx} Az H2):=by
 refine⟨λi m Z H=>m=xs.length - i/\i<=xs.length/\Pv i Z H,⟨xs.length,by simp,Xi _,h0⟩,?_⟩;rintro i m Z H ⟨rfl,hi,p⟩;have q:=hl i Z H hi p;by_cases Am:i<xs.length
 .refine .inr ⟨⟨xs,xs[i],q,by simp[Am]⟩,Pv (i+1),λAb H' p'=>⟨xs.length - (i+1),by omega,rfl,Am,p'⟩,λx H' y=>?_⟩;obtain⟨e,y⟩:=y;subst e;exact hs i x Z _ (y xs q) p
 .have e:i=xs.length:=by omega
  subst e;exact .inl ⟨⟨xs,q,WY _⟩,hd Z H p⟩
theorem dP{lo:Int}(Pv:Nat->St->Hp->Prop)(h0:Pv 0 Z H)
 (hs:∀i Z H,i<n->Pv i Z H->g (.int (lo+i)) Z H λAz H2=>tb {D with nx:=Pv (i+1),ct:=Pv (i+1),bk:=D.nx} Az H2) (hd:∀Z H,Pv n Z H->D.nx Z H) :
 ∃W:Nat->Nat->St->Hp->Prop,(∃m,W 0 m Z H)/\∀i m Z H,W i m Z H ->
   ((Itr lo n).stop i H/\D.nx Z H)\/((Itr lo n).go i H/\∃N:St->Hp->Prop,(∀Ab H',N Ab H'->∃m',m'<m/\W (i+1) m' Ab H')/\∀x H',(Itr lo n).yld i H x H'->g x Z H' λAz H2=>tb {D with nx:=N,ct:=N,bk:=D.nx} Az H2):=by
 refine⟨λi m Z H=>m=n - i/\i<=n/\Pv i Z H,⟨n,by simp,Xi _,h0⟩,?_⟩;rintro i m Z H ⟨rfl,hi,p⟩;by_cases Am:i<n
 .refine .inr ⟨Am,Pv (i+1),λAb H' p'=>⟨n - (i+1),by omega,rfl,Am,p'⟩,λx H' y=>?_⟩;obtain⟨e,y⟩:=y;subst e y;exact hs i Z _ Am p
 .have e:i=n:=by omega
  subst e;exact .inl ⟨WY _,hd Z H p⟩
abbrev R2:=V->V->Hp->VK->Prop
def OpR(X:Cx)(f:WV->WV->Sem WV)(r:R2):Prop :=
 ∀(U:List (WS×Ze))(s:WZ)(Z:St)(H:Hp)(x y:V)(v u:WV)(Q:VK),Inv X U Z H s->RelV x v->RelV y u->r x y H Q ->
   Xa (Xu X.prog X.w) X.A (f v u) (EP X U Z Q) X.xe s
def UnR(X:Cx)(f:WV->Sem WV)(r:V->Hp->VK->Prop):Prop :=
 ∀(U:List (WS×Ze))(s:WZ)(Z:St)(H:Hp)(x:V)(v:WV)(Q:VK),Inv X U Z H s->RelV x v->r x H Q ->
   Xa (Xu X.prog X.w) X.A (f v) (EP X U Z Q) X.xe s
def eQ(X:Cx)(f:WV)(r:List V->Hp->VK->Prop):Prop :=
 ∀(U:List (WS×Ze))(s:WZ)(Z:St)(H:Hp)(xs:List V)(us:List WV)(Q:VK),Inv X U Z H s->Vals xs us->r xs H Q ->
   Xa (Xu X.prog X.w) X.A (call f us) (EP X U Z Q) X.xe s
def acW(X:Cx)(r:V->Hp->(Bool->Hp->Prop)->Prop):Prop :=
 ∀(U:List (WS×Ze))(s:WZ)(Z:St)(H:Hp)(x:V)(v:WV)(Q:Bool->Hp->Prop),Inv X U Z H s->RelV x v->r x H Q ->
   Xa (Xu X.prog X.w) X.A (truthy v) (TP X U Z Q) X.xe s
def tOp(r:R2)(ta tb:TE):TE:=λZ H Q=>ta Z H λx H1=>tb Z H1 λy H2=>r x y H2 Q
def tUn(r:V->Hp->VK->Prop)(ta:TE):TE:=λZ H Q=>ta Z H λx H1=>r x H1 Q
inductive IrI(C:Int->Int->Prop)(g:Int->Int->V)(x:V)(y:V)(H:Hp)(Q:VK):Prop
 |mk (i:_) (j:_) (An:x=.int i) (Ao:y=.int j) (Au:C i j) (AD:Q (g i j) H):IrI C g x y H Q
def rI(C:Int->Int->Prop)(g:Int->Int->V):R2:=IrI C g
inductive acC(g:Int->Int->V)(x:V)(y:V)(H:Hp)(Q:VK):Prop
 |mk (i:_) (j:_) (An:x=.int i) (Ao:y=.int j) (Au:Q (g i j) H):acC g x y H Q
def rI0(g:Int->Int->V):R2:=acC g
inductive IrU(g:Int->V)(x:V)(H:Hp)(Q:VK):Prop
 |mk (i:_) (An:x=.int i) (Ao:Q (g i) H):IrU g x H Q
def rU(g:Int->V):V->Hp->VK->Prop:=IrU g
section
variable{a b c:X8}{ta tb tc:TE}
theorem abP(ha:PE X a ta)(hb:PE X b tb){R:V->V->Hp->Prop}(I:Inv X U Z H s)
 (h:ta Z H λx H1=>tb Z H1 λy H2=>R x y H2) {f:WV->WV->Sem WV}
 (hf:∀v u s2 x y H2,Inv X U Z H2 s2->RelV x v->RelV y u->R x y H2->Xa (Xu X.prog X.w) X.A (f v u) Q X.xe s2) :
 Xa (Xu X.prog X.w) X.A (Y3 a X.env) (λv Ac=>Xa (Xu X.prog X.w) X.A (Y3 b X.env) (λu AN=>Xa (Xu X.prog X.w) X.A (f v u) Q X.xe AN) X.xe Ac) X.xe s:=by
 refine thn (ha U s Z H _ I h) λv s1⟨x,H1,I1,r1,q1⟩=>?_;refine thn (hb U s1 Z H1 _ I1 q1) λu s2⟨y,H2,I2,r2,q2⟩=>?_;exact hf v u s2 x y H2 I2 r1 r2 q2
theorem aB{op:Operator}{r:R2}(ho:OpR X (binaryOp op) r)(ha:PE X a ta)(hb:PE X b tb):PE X (.BinOp a op b pos) (tOp r ta tb):=by
 intro U s Z H Q I h;exact wpAny_BinOp (abP ha hb I h λv u s2 x y H2 I2 rx ry q=>ho U s2 Z H2 x y v u Q I2 rx ry q)
theorem ab2{op:UnaryOp}{r:V->Hp->VK->Prop}(ho:UnR X (unaryOp op) r)(ha:PE X a ta):PE X (.UnaryOp op a pos) (tUn r ta):=by
 intro U s Z H Q I h;exact UnaryOp_ (thn (ha U s Z H _ I h) λv s1⟨x,H1,I1,r1,q1⟩=>ho U s1 Z H1 x v Q I1 r1 q1)
theorem opI{f:WV->WV->Sem WV}{C:Int->Int->Prop}{g:Int->Int->Int}
 (rule:∀(i j:Int)(t u:Tok)(s:WZ)(Q:WV->WZ->Prop)(E:WV->WZ->Prop),C i j->Q (.int (g i j) s.toks) {s with toks:=s.toks+1}->Xa (Xu X.prog X.w) X.A (f (.int i t) (.int j u)) Q E s) :
 OpR X f (rI C λi j=>.int (g i j)):=by
 intro U s Z H x y v u Q I rx ry h;obtain⟨i,j,rfl,rfl,hc,q⟩:=h;obtain⟨t,rfl⟩:=rx;obtain⟨t',rfl⟩:=ry;exact rule i j t t' s _ _ hc ⟨.int (g i j),H,I.tok _,⟨_,rfl⟩,q⟩
theorem ab6{f:WV->WV->Sem WV}{g:Int->Int->Int}
 (rule:∀(i j:Int)(t u:Tok)(s:WZ)(Q:WV->WZ->Prop)(E:WV->WZ->Prop),Q (.int (g i j) s.toks) {s with toks:=s.toks+1}->Xa (Xu X.prog X.w) X.A (f (.int i t) (.int j u)) Q E s) :
 OpR X f (rI0 λi j=>.int (g i j)):=by
 intro U s Z H x y v u Q I rx ry h;obtain⟨i,j,rfl,rfl,q⟩:=h;obtain⟨t,rfl⟩:=rx;obtain⟨t',rfl⟩:=ry;exact rule i j t t' s _ _ ⟨.int (g i j),H,I.tok _,⟨_,rfl⟩,q⟩
theorem abj{f:WV->WV->Sem WV}{g:Int->Int->Bool}
 (rule:∀(i j:Int)(t u:Tok)(s:WZ)(Q:WV->WZ->Prop)(E:WV->WZ->Prop),Q (.bool (g i j)) s->Xa (Xu X.prog X.w) X.A (f (.int i t) (.int j u)) Q E s) :
 OpR X f (rI0 λi j=>.bl (g i j)):=by
 intro U s Z H x y v u Q I rx ry h;obtain⟨i,j,rfl,rfl,q⟩:=h;obtain⟨t,rfl⟩:=rx;obtain⟨t',rfl⟩:=ry;exact rule i j t t' s _ _ ⟨.bl (g i j),H,I,rfl,q⟩
def acO(i j:Int):Prop:=0<j/\j<1073741824
def CMul(i j:Int):Prop:=(-(2 ^ 64)<i/\i<2 ^ 64)\/(-(2 ^ 64)<j/\j<2 ^ 64)
theorem CMul.ok{i j:Int}(h:CMul i j):IntMulOk i j:=by
 rcases h with⟨h1,h2⟩|⟨h1,h2⟩
 .exact .of_left (intBits_le_64 h1 h2)
 .exact .of_right (intBits_le_64 h1 h2)
theorem df:OpR X (binaryOp .Add) (rI0 λi j=>.int (i+j)):=ab6 λ_ _ _ _ _ _ _ q=>add_int q
theorem qi:OpR X (binaryOp .Sub) (rI0 λi j=>.int (i - j)):=ab6 λ_ _ _ _ _ _ _ q=>sub_int q
theorem eI:OpR X (binaryOp .Mult) (rI CMul λi j=>.int (i * j)):=opI λ_ _ _ _ _ _ _ hc q=>mul_int q hc.ok
theorem cG:OpR X (binaryOp .FloorDiv) (rI acO λi j=>.int (i / j)):=opI λi j _ _ _ _ _ hc q=>by
 have h1:(0:Int)<j:=hc.1;have h2:j<1073741824:=hc.2;exact floordiv_int (by omega) (by rw[Int.fdiv_eq_ediv_of_nonneg i (by omega)];exact q) (.inl (PyProof.noPylong_small (by omega)))
theorem bK:OpR X (binaryOp .Mod) (rI (λ_ j=>0<j) λi j=>.int (i%j)):=opI λi j _ _ _ _ _ hc q=>by
 have h1:(0:Int)<j:=hc;exact mod_int' (by omega) (by rw[Int.fmod_eq_emod_of_nonneg i (by omega)];exact q)
theorem unI{f:WV->Sem WV}{g:Int->Int}
 (rule:∀(i:Int)(t:Tok)(s:WZ)(Q:WV->WZ->Prop)(E:WV->WZ->Prop),Q (.int (g i) s.toks) {s with toks:=s.toks+1}->Xa (Xu X.prog X.w) X.A (f (.int i t)) Q E s) :
 UnR X f (rU λi=>.int (g i)):=by
 intro U s Z H x v Q I rx h;obtain⟨i,rfl,q⟩:=h;obtain⟨t,rfl⟩:=rx;exact rule i t s _ _ ⟨.int (g i),H,I.tok _,⟨_,rfl⟩,q⟩
theorem abp:UnR X (unaryOp .USub) (rU λi=>.int (-i)):=unI λ_ _ _ _ _ q=>neg_int q
end
def acZ:V->V->Bool
 |.non,.non=>true|.non,.int _=>true|.int _,.non=>true|.non,.bl _=>true|.bl _,.non=>true|.non,.str _=>true|.str _,.non=>true
 |.int _,.int _=>true|.bl _,.bl _=>true|.str _,.str _=>true|.byt _,.byt _=>true
 |.int _,.str _=>true|.str _,.int _=>true|.bl _,.str _=>true|.str _,.bl _=>true
 |_,_=>false
inductive aco(x:V)(y:V)(H:Hp)(Q:VK):Prop
 |mk  (An:acZ x y=true) (Ao:Q (.bl (decide (x=y))) H):aco  x y H Q
def rEq:R2:=aco
theorem aah{i j:Int}:decide (q! i=q! j)=(i == j):=by
 rw[Bool.eq_iff_iff];simp
theorem aa7{i j:Bool}:decide (V.bl i=V.bl j)=(i == j):=by
 rw[Bool.eq_iff_iff];simp
theorem zE{i j:Xk}:decide (K! i=K! j)=(i == j):=by
 rw[Bool.eq_iff_iff];simp
theorem aae{i j:Array UInt8}:decide (V.byt i=V.byt j)=(i.toList == j.toList):=by
 rw[Bool.eq_iff_iff];cases i;cases j;simp
section
variable{a b c:X8}{ta tb tc:TE}
theorem cM{Q:VK}{k k':Bool}(I:Inv X U Z H s)(q:Q (.bl k) H)(e:k=k'):EP X U Z Q (.bool k') s:=by
 subst e;exact⟨.bl k,H,I,rfl,q⟩
theorem fA:OpR X (compareOp .Eq) rEq:=by
 intro U s Z H x y v u Q I rx ry h;obtain⟨hs,q⟩:=h;cases x with
 | non =>
   cases rx;cases y with
   |non=>cases ry;exact PySem.EqNone.eq_none_none (cM I q (by simp))
   |bl j=>cases ry;exact PySem.EqNone.eq_none_bool (cM I q (by simp))
   |int j=>obtain⟨t',rfl⟩:=ry;exact PySem.EqNone.eq_none_int (cM I q (by simp))
   |str j=>obtain⟨t',rfl⟩:=ry;exact PySem.EqNone.eq_none_str (cM I q (by simp))
   |_=>exact g! (show false=true from hs) W8
 | bl i =>
   cases rx;cases y with
   |non=>cases ry;exact PySem.EqNone.eq_bool_none (cM I q (by simp))
   |bl j=>cases ry;exact eq_bool (cM I q aa7)
   |str j=>obtain⟨t',rfl⟩:=ry;exact PySem.EqMixed.eq_bool_str (cM I q (by simp))
   |_=>exact g! (show false=true from hs) W8
 | int i =>
   obtain⟨t,rfl⟩:=rx;cases y with
   |non=>cases ry;exact PySem.EqNone.eq_int_none (cM I q (by simp))
   |int j=>obtain⟨t',rfl⟩:=ry;exact eq_int (cM I q aah)
   |str j=>obtain⟨t',rfl⟩:=ry;exact PySem.EqMixed.eq_int_str (cM I q (by simp))
   |_=>exact g! (show false=true from hs) W8
 | str i =>
   obtain⟨t,rfl⟩:=rx;cases y with
   |non=>cases ry;exact PySem.EqNone.eq_str_none (cM I q (by simp))
   |bl j=>cases ry;exact PySem.EqMixed.eq_str_bool (cM I q (by simp))
   |int j=>obtain⟨t',rfl⟩:=ry;exact PySem.EqMixed.eq_str_int (cM I q (by simp))
   |str j=>obtain⟨t',rfl⟩:=ry;exact eq_str (cM I q zE)
   |_=>exact g! (show false=true from hs) W8
 | byt i =>
   obtain⟨t,rfl⟩:=rx;cases y with
   |byt j=>obtain⟨t',rfl⟩:=ry;exact PySem.W.eq_bytes (cM I q aae)
   |_=>exact g! (show false=true from hs) W8
 |_=>cases y <;> exact g! (show false=true from hs) W8
theorem mI:OpR X (compareOp .Lt) (rI0 λi j=>.bl (decide (i<j))):=abj λ_ _ _ _ _ _ _ q=>lt_int q
theorem vL:OpR X (compareOp .LtE) (rI0 λi j=>.bl (decide (i<=j))):=abj λ_ _ _ _ _ _ _ q=>le_int q
theorem pc:OpR X (compareOp .Gt) (rI0 λi j=>.bl (decide (j<i))):=abj λ_ _ _ _ _ _ _ q=>gt_int q
theorem bc(b:X8)(h:op≠.In:=by decide)(h2:op≠.NotIn:=by decide):behindInMarks op b=false:=by
 have e1:(op == CmpOp.In)=false:=by cases op <;> first|rfl|exact g! rfl h
 have e2:(op == CmpOp.NotIn)=false:=by cases op <;> first|rfl|exact g! rfl h2
 cases b <;> simp[behindInMarks,e1,e2]
theorem dH{r:R2}(ho:OpR X (compareOp op) r)(ha:PE X a ta)(hb:PE X b tb)(hm:behindInMarks op b=false):PE X (.Compare a [op] [b] pos) (tOp r ta tb):=by
 intro U s Z H Q I h;exact wpAny_Compare1 (abP ha hb I h λv u s2 x y H2 I2 rx ry q=>ho U s2 Z H2 x y v u Q I2 rx ry q) hm
inductive aaS(x:V)(Q:Bool->Hp->Prop)(H':Hp):Prop
 |mk (k:Bool) (An:x=.bl k) (Ao:Q k H'):aaS x Q H'
def kW(t:TE):TT:=λZ H Q=>t Z H λx H'=>aaS x Q H'
theorem bn{r:R2}(ho:OpR X (compareOp op) r)(ha:PE X a ta)(hb:PE X b tb)(hm:behindInMarks op b=false):PT X (.Compare a [op] [b] pos) (kW (tOp r ta tb)):=by
 intro U s Z H Q I h
 refine wpAny_isTrue_Compare1 (thn (ha U s Z H _ I h) λv s1⟨x,H1,I1,r1,q1⟩=>thn (hb U s1 Z H1 _ I1 q1) λu s2⟨y,H2,I2,r2,q2⟩ =>
  thn (ho U s2 Z H2 x y v u _ I2 r1 r2 q2) λc s3⟨z,H3,I3,r3,k,e,q3⟩=>?_) hm
 subst e;cases r3;exact wpAny_truthy_bool ⟨H3,I3,q3⟩
def abq(r r':R2)(ta tb tc:TE):TE:=λZ H Q=>ta Z H λx H1=>tb Z H1 λy H2=>r x y H2 λz H3=>∃k,z=.bl k /\
 (if k=true then tc Z H3 λw' H4=>r' y w' H4 Q else Q (.bl false) H3)
theorem xv{M9:CmpOp}{r r':R2}(ho:OpR X (compareOp op) r)(BC:OpR X (compareOp M9) r')(ha:PE X a ta)(hb:PE X b tb)(hc:PE X c tc)
 (hm:lastMarks [op,M9] [b,c]=false:=by with_unfolding_all rfl):PE X (.Compare a [op,M9] [b,c] pos) (abq r r' ta tb tc):=by
 intro U s Z H Q I h
 refine Compare_chain (thn (ha U s Z H _ I h) λv s1⟨x,H1,I1,r1,q1⟩=>chain_link (thn (hb U s1 Z H1 _ I1 q1) λu s2⟨y,H2,I2,r2,q2⟩ =>
  thn (ho U s2 Z H2 x y v u _ I2 r1 r2 q2) λd s3⟨z,H3,I3,r3,k,e,q3⟩=>?_)) hm
 subst e;cases r3;refine wpAny_truthy_bool ?_;cases k with
 |false=>exact ite_ff ⟨.bl false,H3,I3,rfl,q3⟩
 |true=>exact ite_tt (chain_last (thn (hc U s3 Z H3 _ I3 q3) λw' s4⟨z',H4,I4,r4,q4⟩=>BC U s4 Z H4 y z' u w' Q I4 r2 r4 q4))
def yL(K:WQ)(x:V)(H:Hp)(k:Bool):Prop :=
 match x with
 |.non=>k=false
 |.bl b=>k=b
 |.int i=>k=(i != 0)
 |.str y=>y.length<=Xe/\k=((y.length:Int) != 0)
 |.byt y=>y.size<=Xe/\k=((y.size:Int) != 0)
 |.ref p=>(∃xs,SqL K H p xs/\k=!xs.isEmpty)\/(∃xs,SqT K H p xs/\k=!xs.isEmpty)\/∃f',H p=some (.dK f')/\k=!f'.isEmpty
 |_=>False
theorem uM{κ:Type}{f':List (κ×V)}{vs:List (κ×WV)}(r:KV f' vs):(!vs.isEmpty)=!f'.isEmpty:=by
 cases r <;> rfl
theorem my(r:Vals xs its):(!its.toArray.isEmpty)=!xs.isEmpty:=by
 cases r <;> simp
theorem fJ:(Xe:Nat)<2 ^ 63:=by rw[sizeLine_eq];decide
theorem abd:acW X (λx H Q=>∃k,yL X.K x H k/\Q k H):=by
 intro U s Z H x v Q I rx h;obtain⟨k,e,q⟩:=h;have hl:=fJ;have hs:Xe=16777216:=sizeLine_eq;cases x with
 | non =>
   cases rx;have e':k=false:=e;subst e';exact truthy_none ⟨H,I,q⟩
 | bl b =>
   cases rx;have e':k=b:=e;subst e';exact wpAny_truthy_bool ⟨H,I,q⟩
 | int i =>
   obtain⟨t,rfl⟩:=rx;have e':k=(i != 0):=e;subst e';exact PySem.P.truthy_int ⟨H,I,q⟩
 | str y =>
   obtain⟨t,rfl⟩:=rx;obtain⟨hy,e'⟩:y.length<=Xe/\k=((y.length:Int) != 0):=e;subst e';exact PySem.P.truthy_str (by omega) ⟨H,I.tok _,q⟩
 | byt y =>
   obtain⟨t,rfl⟩:=rx;obtain⟨hy,e'⟩:y.size<=Xe/\k=((y.size:Int) != 0):=e;subst e';exact PySem.W.truthy_bytes (by omega) ⟨H,I.tok _,q⟩
 | ref p =>
   cases rx;have e':(∃xs,SqL X.K H p xs/\k=!xs.isEmpty)\/(∃xs,SqT X.K H p xs/\k=!xs.isEmpty)\/∃f',H p=some (.dK f')/\k=!f'.isEmpty:=e;rcases e' with⟨xs,hx,e'⟩|⟨xs,hx,e'⟩|⟨f',hx,e'⟩
   .subst e';obtain⟨its,r,pl,hz⟩:=I.list hx;have hlen:=r.length;exact wpAny_truthy_list pl.isList (by simp only[W2];omega) ⟨H,I.tok _,by rw[my r];exact q⟩
   .subst e';obtain⟨its,r,pl,hz⟩:=I.tuple hx;have hlen:=r.length;exact truthy_tuple pl (by simp only[W2];omega) ⟨H,I.tok _,by rw[my r];exact q⟩
   .subst e';obtain⟨hz,hS,vs,r,m⟩:f'.length<=Xe/\(p == YO)=false/\∃vs,KV f' vs/\s.heap.DictOf (av X.prog X.w) p vs:=I.hok p _ hx;have hlen:f'.length=vs.length:=W5 r;exact wpAny_truthy_dict hS m (by omega) ⟨H,I.tok _,by rw[uM r];exact q⟩
 |_=>exact(show False from e).elim
theorem bq(ha:PE X a ta)(he:∀whole,isTrue a X.env whole=(do let v <-whole;standAt a.pos;holding [v] (truthy v))) :
 PT X a (λZ H Q=>ta Z H λx H'=>∃k,yL X.K x H' k/\Q k H'):=by
 intro U s Z H Q I h;exact isTrue_plain (thn (ha U s Z H _ I h) λv s1⟨x,H1,I1,r1,q1⟩=>abd U s1 Z H1 x v Q I1 r1 q1) (he _)
theorem uc:OpR X (binaryOp .Add) (λx y H Q=>∃i j,x=.str i/\y=.str j/\i.length+j.length<=Xe/\Q (.str (i++j)) H):=by
 intro U s Z H x y v u Q I rx ry h;obtain⟨i,j,rfl,rfl,hz,q⟩:=h;obtain⟨t,rfl⟩:=rx;obtain⟨t',rfl⟩:=ry;exact add_str (λt' tk=>⟨.str (i++j),H,I.tok _,⟨_,rfl⟩,q⟩) hz
theorem vals1{x:V}(r:Vals [x] us):∃u,us=[u]/\RelV x u:=by
 cases r with
 |cons r1 r2=>cases r2;exact⟨_,rfl,r1⟩
theorem vals2{x:V}(r:Vals [x,y] us):∃u w',us=[u,w']/\RelV x u/\RelV y w':=by
 cases r with
 | cons r1 r2 =>
   cases r2 with
   |cons r3 r4=>cases r4;exact⟨_,_,rfl,r1,r3⟩
theorem wS(hc:X.calm=true):eQ X (.builtin "min") (λxs H Q=>∃i j,xs=[.int i,.int j]/\Q (.int (if j<i then j else i)) H):=by
 intro U s Z H xs us Q I r h;obtain⟨i,j,rfl,q⟩:=h;obtain⟨u,w',rfl,⟨t,rfl⟩,⟨t',rfl⟩⟩:=vals2 r;refine min_two_ints (I.ok.hd hc) λh' tk k=>⟨_,H,I.kept k,?_,q⟩;by_cases hj:j<i
 .rw[b! hj,b! hj];exact⟨_,rfl⟩
 .rw[a! hj,a! hj];exact⟨_,rfl⟩
theorem wI:eQ X (.type "int") (λxs H Q=>(∃i,xs=[.int i]/\Q (.int i) H)\/∃k,xs=[.bl k]/\Q (.int (if k then 1 else 0)) H):=by
 intro U s Z H xs us Q I r h;rcases h with⟨i,rfl,q⟩|⟨k,rfl,q⟩
 .obtain⟨u,rfl,t,rfl⟩:=vals1 r;exact call_int_int ⟨.int i,H,I,⟨_,rfl⟩,q⟩
 .obtain⟨u,rfl,r1⟩:=vals1 r;cases r1;exact call_int_bool ⟨.int (if k then 1 else 0),H,I.tok _,⟨_,rfl⟩,q⟩
end
structure ObjM(h:X7)(x dx C:WS)(mA:Xk->Option WV):Prop where
 obj:h.get? x=some (ZM C dx)
 ns:h.Ns1 dx mA
 ne:dx≠x
theorem xf{dx:WS}{mA:Xk->Option WV}(n:h.Ns1 dx mA):∃od,h.get? dx=some od/\∀name,PySem.W.lookIn name od=some (mA name):=by
 obtain⟨o,es,ep,ho,hd,hk,_,hm⟩:=n;refine⟨o,ho,λname=>?_⟩;have e:=hm name;unfold nsFind findBy at e;rw[<-Array.find?_toList]at e;unfold PySem.W.lookIn;rw[hd];dsimp only;split
 .rename_i y q
  rw[q]at e;exact h! some e
 .rename_i q
  rw[q]at e
  have a:es.toList.any (·.refKey)=false:=by
   rw[List.any_eq_false];intro y hy;obtain⟨z,t,C9⟩:=hk y (Array.mem_toList_iff.mp hy);simp[DictEntry.refKey,C9]
  have a':¬es.toList.any (·.refKey)=true:=by rw[a];exact W8
  rw[a! a'];exact h! some e
theorem ObjM.look{x dx C:WS}{mA:Xk->Option WV}(I:ObjM h x dx C mA):∃od,PySem.W.InstAt h x (ZM C dx) C (some od)/\∀name,PySem.W.lookIn name od=some (mA name) :=
 let⟨od,ho,hl⟩:=xf I.ns
 ⟨od,⟨I.obj,rfl,rfl,ho⟩,hl⟩
section
variable{x dx C:WS}{mA:Xk->Option WV}{name:Xk}{v:WV}
theorem get_map{expr:Bool}(X:K.In s.heap)(I:ObjM s.heap x dx C mA)(hg:PySem.W.plainGet K C name=true)(hh:PySem.W.hasDictIn K C=true)
 (ha:YD K (.ref C) name=some none) (hv:mA name=some v) (BE:PySem.W.handedIn v=true) (h:Q v {s with toks:=s.toks+1}) :
 Xa (Xu prog w) A (getAttr (.ref x) name expr) Q E s:=by
 obtain⟨od,J,hl⟩:=I.look;exact PySem.W.get_value X J (PySem.W.plainGet_of hg).1 (PySem.W.findObj_own hh ha rfl (by rw[hl,hv])) BE h
theorem yn{pl:Sem Bool}{Q:WV×List WV->WZ->Prop}(X:K.In s.heap)(I:ObjM s.heap x dx C mA)(hg:PySem.W.plainGet K C name=true)
 (hf:YD K (.ref C) name=some (some (.ref f))) (ht:PySem.W.isFn K (.ref f)=true) (hv:mA name=none) (h:Q (.ref f,[.ref x]) s) :
 Xa (Xu prog w) A (getMethod (.ref x) name pl) Q E s:=by
 obtain⟨od,J,hl⟩:=I.look;exact PySem.W.method_fn X J (PySem.W.plainGet_of hg).1 (PySem.W.plainGet_of hg).2 hf (beq_iff_eq.mp ht) (by show(PySem.W.lookIn name od).map (·.isSome)=some false;rw[hl,hv];rfl) h
theorem aag{ns:List Xk}{Q:Unit->WZ->Prop}(X:K.In s.heap)(I:ObjM s.heap x dx C mA)
 (hs:YD K (.ref C) "__setattr__"=some (some (.builtin "object.__setattr__"))) (hp:PySem.W.plainOver K C=true) (ht:PySem.W.takerIn K C name=some none) (hh:PySem.W.hasDictIn K C=true)
 (hw:PySem.Within mA ns) (hsz:ns.length<=Xe)
 (h:∀h',ObjM h' x dx C (λy=>if y=name then some v else mA y)->YF dx s.heap h'->Q () {s with heap:=h',toks:=s.toks+2}) :
 Xa (Xu prog w) A (setAttr (.ref x) name v) Q E s:=by
 obtain⟨od,J,hl⟩:=I.look;refine PySem.W.set_plain X J hs (PySem.W.osa_open (s:={s with toks:=s.toks+1}) (r:=none) X J hp ht λb=>?_);obtain⟨cd,hc,BD⟩:=PySem.W.any_some hh;have hx:s.heap.get? x=some ⟨.ref C,some dx,.plain,#[]⟩:=I.obj;refine WN (WX (WN (WN (wpAny_loadPart hx (WN (PySem.W.Looks.here (s:={s with toks:=s.toks+1}) (PySem.W.looks_clsIn X hc) ?_))))));rw[BD];refine WX (a:=some dx) (WN (WX (WN ?_)));refine wpAny_nsSet1 (s:={s with toks:=s.toks+1}) I.ns λh' IZ IY=>?_;obtain⟨oD,esD,epD,TV,TY,TZ⟩:=IZ.count (PySem.Within.cons name v hw);refine WN (wpAny_lookBehind TV (by rw[TY];exact pastItsLine_dict (Xv TZ (by rw[W3];omega))) ?_);exact WX (h _ ⟨(IY.2 _ (YQ I.ne)).trans I.obj,IZ,I.ne⟩ IY)
theorem xX{vs:List WV}(X:K.In s.heap)(hm:PySem.W.makesIn K C=true)
 (hi:YD K (.ref C) "__init__"=some (some (.ref f))) (hf:PySem.W.typeIn K (.ref f)=some (.type "function"))
 (h:codeAny (Xu prog w) (A.under (.builtin "type.__call__" ⟨.ref C::vs,kw⟩)) (.call (.ref f) ⟨.ref (s.heap.objs.size+1)::vs,kw⟩) (PySem.W.InitBack (s.heap.objs.size+1) R)
  {s with heap:=(s.heap.push Za).push (ZM C s.heap.objs.size)}) :
 codeAny (Xu prog w) A (.call (.ref C) ⟨vs,kw⟩) R s:=by
 obtain⟨hh,g,d,t,os⟩:=s;exact PySem.W.make_core (PySem.W.makes_of X hm) (PySem.W.looks_findIn X hi) (λself=>PySem.W.bind_fn X self hf) (.inl rfl) h
end
def dr(f:Xk)(v:V):List (Xk×V)->List (Xk×V)
 | []=>[(f,v)]
 |(g,x)::r=>if g=f then(g,v)::r else(g,x)::dr f v r
theorem lJ(f g:Xk)(v:V):∀fs:List (Xk×V),(dr f v fs).lookup g=if g=f then some v else fs.lookup g
 | []=>by
   show ZW g [(f,v)]=_;by_cases h:g=f
   .have hb:(g == f)=true:=beq_iff_eq.mpr h;simp only[ZW,hb,b! h]
   .have hb:(g == f)=false:=beq_eq_false_iff_ne.mpr h;simp only[ZW,hb,a! h]
 | (k,x)::r=>by
   have ih:=lJ f g v r;rw[show dr f v ((k,x)::r)=(if k=f then(k,v)::r else(k,x)::dr f v r)from rfl];by_cases hk:k=f
   .rw[b! hk];by_cases h:g=k
    .have hb:(g == k)=true:=beq_iff_eq.mpr h;simp only[ZW,hb,b! (h.trans hk)]
    .have hb:(g == k)=false:=beq_eq_false_iff_ne.mpr h;simp only[ZW,hb,a! (λe:g=f=>h (e.trans hk.symm))]
   .rw[a! hk];by_cases h:g=k
    .have hb:(g == k)=true:=beq_iff_eq.mpr h;simp only[ZW,hb,a! (λe:g=f=>hk (h.symm.trans e))]
    .have hb:(g == k)=false:=beq_eq_false_iff_ne.mpr h;simp only[ZW,hb];exact ih
theorem kT(f:Xk)(v:V):∀fs:List (Xk×V),f∈(dr f v fs).map (·.1)/\∀g,g∈fs.map (·.1)->g∈(dr f v fs).map (·.1)
 | []=>⟨by simp[dr],λg h=>by simp at h⟩
 | (k,x)::r=>by
   obtain⟨i1,i2⟩:=kT f v r;rw[show dr f v ((k,x)::r)=(if k=f then(k,v)::r else(k,x)::dr f v r)from rfl];by_cases hk:k=f
   .rw[b! hk];subst hk;exact⟨by simp,λg h=>by simpa using h⟩
   .rw[a! hk];refine⟨?_,λg h=>?_⟩
    .rw[XB];exact Xf _ i1
    .rw[XB]at h |-;rcases W9.mp h with e|e
     .exact W9.mpr (.inl e)
     .exact Xf _ (i2 g e)
theorem lz(f:Xk)(v:V):∀fs:List (Xk×V),(dr f v fs).length<=fs.length+1
 | []=>by simp[dr]
 | (k,x)::r=>by
   have ih:=lz f v r;rw[show dr f v ((k,x)::r)=(if k=f then(k,v)::r else(k,x)::dr f v r)from rfl];by_cases hk:k=f
   .rw[b! hk,W3,W3];omega
   .rw[a! hk,W3,W3];omega
theorem RelO.some_of{o:Option WV}(r:RelO (some v) o):∃u,o=some u/\RelV v u:=by
 cases o with
 |none=>exact(show False from r).elim
 |some u=>exact⟨u,rfl,r⟩
theorem RelO.none_of{o:Option WV}(r:RelO none o):o=none:=by
 cases o with
 |none=>rfl
 |some u=>exact(show False from r).elim
theorem wV(r:RelV v u):PySem.W.handedIn u=true:=by
 cases v with
 |non=>cases(show u=Yp from r);rfl
 |bl b=>cases(show u=Value.bool b from r);rfl
 |int i=>obtain⟨t,e⟩:=(show∃t,u=Value.int i t from r);cases e;rfl
 |str x=>obtain⟨t,e⟩:=(show∃t,u=Value.str x t from r);cases e;rfl
 |byt b=>obtain⟨t,e⟩:=(show∃t,u=Value.bytes b t from r);cases e;rfl
 |flt b=>obtain⟨t,e⟩:=(show∃t,u=Value.float b t from r);cases e;rfl
 |ref a=>cases(show u=Xl a from r);rfl
 |ty n=>cases(show u=Zm n from r);rfl
section
variable{C dx:WS}{fs Ii:List (Xk×V)}
theorem l7(hok:HOk P w H h)(e:H a=some (.ins C dx fs)):∃mA,ObjM h a dx C mA/\(∀f,RelO (fs.lookup f) (mA f))/\PySem.Within mA (fs.map (·.1))/\fs.length<=1000/\H dx=some (.own a):=by
 obtain⟨d,z,ne,ob,mA,n,r,q⟩:=(show ObjOk P w H h a (.ins C dx fs)from hok a _ e);exact⟨mA,⟨ob,n,ne⟩,r,q,z,d⟩
end
structure Cls(K:WQ)(C:WS):Prop where
 pg:PySem.W.plainGet K C Str.empty=true
 hd:PySem.W.hasDictIn K C=true
 po:PySem.W.plainOver K C=true
 sa:YD K (.ref C) "__setattr__"=some (some (.builtin "object.__setattr__"))
theorem Cls.get{C:WS}(c:Cls K C)(f:Xk):PySem.W.plainGet K C f=true:=c.pg
def NoAttr(K:WQ)(C:WS)(f:Xk):Prop:=YD K (.ref C) f=some none
theorem NoAttr.taker{C:WS}{f:Xk}(n:NoAttr K C f):PySem.W.takerIn K C f=some none:=by
 unfold PySem.W.takerIn;rw[show YD K (.ref C) f=some none from n];rfl
structure Meth(K:WQ)(C:WS)(m:Xk)(f:WS):Prop where
 at_:YD K (.ref C) m=some (some (.ref f))
 fn:PySem.W.isFn K (.ref f)=true
 kp:YX K (.ref f)=true
section
variable{C dx:WS}{fs:List (Xk×V)}{f:Xk}
theorem nE{b:Bool}(I:Inv X U Z H s)(e:H a=some (.ins C dx fs))(c:Cls X.K C)(n:NoAttr X.K C f)(l:fs.lookup f=some v)
 (h:∀u s',Inv X U Z H s'->RelV v u->Q u s'):Xa (Xu X.prog X.w) A (getAttr (.ref a) f b) Q E s:=by
 obtain⟨mA,O,r,_,_,_⟩:=l7 I.hok e;obtain⟨u,hu,ru⟩:=RelO.some_of (v:=v) (o:=mA f) (by rw[<-l];exact r f);exact get_map I.kIn O (c.get f) c.hd n hu (wV ru) (h u _ (I.tok _) ru)
theorem uR{m:Xk}{g:WS}{pl:Sem Bool}{Q:WV×List WV->WZ->Prop}(I:Inv X U Z H s)(e:H a=some (.ins C dx fs))(c:Cls X.K C)(k:Meth X.K C m g)(l:fs.lookup m=none)
 (h:Q (.ref g,[.ref a]) s):Xa (Xu X.prog X.w) A (getMethod (.ref a) m pl) Q E s:=by
 obtain⟨mA,O,r,_,_,_⟩:=l7 I.hok e;have hn:mA m=none:=RelO.none_of (by rw[<-l];exact r m);exact yn I.kIn O (c.get m) k.at_ k.fn hn h
theorem mJ{Q:Unit->WZ->Prop}(I:Inv X U Z H s)(e:H a=some (.ins C dx fs))(c:Cls X.K C)(n:NoAttr X.K C f)(hl:fs.length<1000)(ry:RelV y u)
 (h:∀s',Inv X U Z (upd H a (.ins C dx (dr f y fs))) s'->Q () s'):Xa (Xu X.prog X.w) A (setAttr (.ref a) f u) Q E s:=by
 obtain⟨mA,O,r,wi,_,ho⟩:=l7 I.hok e;have hz:(fs.map (·.1)).length<=Xe:=by rw[WO,sizeLine_eq];omega
 refine aag I.kIn O c.sa c.po n.taker c.hd wi hz λh' O' sb=>h _ ?_;have hd:∃o,h'.get? dx=some o:=let⟨o,_,_,e',_⟩:=O'.ns;⟨o,e'⟩
 refine I.write (x:=a) (e:=dx) (by rw[e];exact YU) (.inr ho) (λb q hb z=>(sb.2 b hb).trans z) hd ?_;refine⟨by rw[aj O.ne];exact ho,?_,O.ne,O'.obj,_,O'.ns,λg=>?_,λg hg=>?_⟩
 .have:=lz f y fs;omega
 .show RelO ((dr f y fs).lookup g) (if g=f then some u else mA g);rw[lJ];by_cases q:g=f
  .rw[b! q,b! q];exact ry
  .rw[a! q,a! q];exact r g
 .by_cases q:g=f
  .rw[q];exact(kT f y fs).1
  .refine(kT f y fs).2 g (wi g λz=>hg ?_);show(if g=f then some u else mA g)=none;rw[a! q];exact z
theorem Inv.made(I:Inv X U Z H s):Inv X U Z (upd (upd H s.heap.objs.size (.own (s.heap.objs.size+1))) (s.heap.objs.size+1) (.ins C s.heap.objs.size []))
 {s with heap:=(s.heap.push Za).push (ZM C s.heap.objs.size)}:=by
 have e1:(s.heap.push Za).get? s.heap.objs.size=some Za:=W4 s.heap rfl
 have e2:((s.heap.push Za).push (ZM C s.heap.objs.size)).get? (s.heap.objs.size+1)=some (ZM C s.heap.objs.size):=by
  have:=W4 (s.heap.push Za) (o:=ZM C s.heap.objs.size) rfl
  rwa [X3]at this
 have e3:(s.heap.push Za).Ns s.heap.objs.size (λ_=>none):=⟨Za,#[],_,e1,rfl,(λe he=>g! he (by simp)),λ_=>rfl⟩;have I1:=I.laid (a:=s.heap.objs.size) (o:=.own (s.heap.objs.size+1)) (h':=s.heap.push Za) (t':=s.toks) (λb u q=>WW _ q) (WY _) ⟨_,e1⟩;refine I1.laid (a:=s.heap.objs.size+1) (o:=.ins C s.heap.objs.size []) (t':=s.toks) (λb u q=>WW _ q) (Nat.le_of_eq (X3 _ _)) ?_;have ne:s.heap.objs.size≠s.heap.objs.size+1:=Xy (Nat.lt_succ_self _);refine⟨by rw[aj ne,ac],Xi _,ne,e2,λ_=>none,(Heap.Ns1.of_empty e3).at λo q=>WW _ q,λ_=>YU,λy hy=>g! rfl hy⟩
theorem zZ{f:Xk}(hb:attributeBase e f env (Y3 e env)=Y3 e env)
 (h:Xa (Xu prog w) A (Y3 e env) (λo Ac=>Xa (Xu prog w) A (getAttr o f true) Q E Ac) E s):Xa (Xu prog w) A (Y3 (.Attribute e f pos) env) Q E s :=
 Attribute_any_ h (by rw[arm_eval_Attribute,hb])
end
def ac4(K:WQ)(ta:TE)(f:Xk):TE:=λZ H Q=>ta Z H λx H1=>∃a C dx fs v,x=.ref a/\H1 a=some (.ins C dx fs)/\Cls K C/\NoAttr K C f/\fs.lookup f=some v/\Q v H1
def adn(K:WQ)(ta tv:TE)(f:Xk):TS:=λD Z H=>tv Z H λy H1=>ta Z H1 λx H2=>∃a C dx fs,x=.ref a/\H2 a=some (.ins C dx fs)/\Cls K C/\NoAttr K C f/\fs.length<1000 /\
 D.nx Z (upd H2 a (.ins C dx (dr f y fs)))
def acq(X:Cx)(op:Operator)(rd:V->V->Hp->VK->Prop):Prop :=
 ∀(U:List (WS×Ze))(s:WZ)(Z:St)(H:Hp)(x y:V)(u v:WV)(Q:VK),Inv X U Z H s->RelV x u->RelV y v->rd x y H Q->Xa (Xu X.prog X.w) X.A (inplaceOp op u v) (EP X U Z Q) X.xe s
def zq(K:WQ)(ta tv:TE)(rd:V->V->Hp->VK->Prop)(f:Xk):TS:=λD Z H=>ta Z H λx H1=>∃a C dx fs v,x=.ref a/\H1 a=some (.ins C dx fs)/\Cls K C/\NoAttr K C f/\fs.lookup f=some v /\
 tv Z H1 λy H2=>rd v y H2 λz H3=>∃M' Ii,H3 a=some (.ins C M' Ii)/\Ii.length<1000/\D.nx Z (upd H3 a (.ins C M' (dr f z Ii)))
section
variable{o value:X8}{f:Xk}{I0:Z9}{ta tv:TE}
theorem yw(he:PE X e ta)(hb:attributeBase e f X.env (Y3 e X.env)=Y3 e X.env):PE X (.Attribute e f pos) (ac4 X.K ta f):=by
 intro U s Z H Q I h;refine zZ hb (thn (he U s Z H _ I h) λu s1⟨x,H1,I1,rx,a,C,dx,fs,v,ex,ea,c,n,l,q⟩=>?_);subst ex;obtain rfl:u=Xl a:=rx;exact nE I1 ea c n l λu' s2 I2 ru=>⟨v,H1,I2,ru,q⟩
theorem yT(ha:PE X o ta)(hv:PE X value tv)(hs:swapsWith value (some (.Attribute o f pos')) pos.line X.env=pure false):PS X (.Assign [.Attribute o f pos'] value pos) (adn X.K ta tv f):=by
 intro U s Z H D I h;refine plainObj_wpAny_Assign_Attribute (thn (hv U s Z H _ I h) λu s1⟨y,H1,I1,ry,q⟩=>thn (ha U s1 Z H1 _ I1 q) λov s2⟨x,H2,I2,rx,a,C,dx,fs,ex,ea,c,n,l,q2⟩=>?_) hs;subst ex;obtain rfl:ov=Xl a:=rx;exact mJ I2 ea c n l ry λs3 I3=>⟨Z,_,I3,q2⟩
theorem oZ{op:Operator}{rd:V->V->Hp->VK->Prop}(ha:PE X o ta)(hv:PE X value tv)(T1:acq X op rd):PS X (.AugAssign (.Attribute o f I0) op value pos) (zq X.K ta tv rd f):=by
 intro U s Z H D I h;refine wpAny_AugAssign_AttributeAny (thn (ha U s Z H _ I h) λov s1⟨x,H1,I1,rx,a,C,dx,fs,v,ex,ea,c,n,l,q⟩=>?_);subst ex;obtain rfl:ov=Xl a:=rx;refine nE I1 ea c n l λu s2 I2 ru=>thn (hv U s2 Z H1 _ I2 q) λw3 s3⟨y,H2,I3,ry,q3⟩=>thn (T1 U s3 Z H2 v y u w3 _ I3 ru ry q3) λw4 s4⟨z,H3,I4,rz,M',Ii,Na,l',q4⟩=>?_;exact mJ I4 Na c n l' rz λs5 I5=>⟨Z,_,I5,q4⟩
def ac6:V->V->Hp->VK->Prop:=λx y H Q=>∃i j,x=.int i/\y=.int j/\Q (.int (i+j)) H
theorem yq:acq X .Add ac6:=by
 rintro U s Z H x y u v Q I rx ry ⟨i,j,rfl,rfl,q⟩;obtain⟨t,rfl⟩:=(show∃t,u=Value.int i t from rx);obtain⟨t',rfl⟩:=(show∃t',v=Value.int j t' from ry);exact PyProof.Rows.iadd_int ⟨.int (i+j),H,I.tok _,⟨_,rfl⟩,q⟩
end
section
variable{c:WV}{b:Bool}
inductive jF(K:WQ)(H:Hp):V->WV->Prop where
 |non:jF K H .non (.type "NoneType")
 |bl (x:Bool):jF K H (.bl x) (.type "bool")
 |int (i:Int):jF K H (.int i) (.type "int")
 |str (x:Xk):jF K H (.str x) (.type "str")
 |flt (x:UInt64):jF K H (.flt x) (.type "float")
 |lst {a:WS} {xs:List V} (e:H a=some (.lst xs)):jF K H (.ref a) (.type "list")
 |frz {a:WS} {o:Ze} {xs:List V} (e:H a=some (.frz o (.lst xs))):jF K H (.ref a) (.type "list")
 |tup {a:WS} {xs:List V} (e:H a=some (.tup xs)):jF K H (.ref a) (.type "tuple")
 |dK {a:WS} {f':List (Key×V)} (e:H a=some (.dK f')):jF K H (.ref a) (.type "dict")
 |dT {a:WS} {f':List (List Key×V)} (e:H a=some (.dT f')):jF K H (.ref a) (.type "dict")
 |ins {a C dx:WS} {fs:List (Xk×V)} (e:H a=some (.ins C dx fs)) (cl:Cls K C) (ha:YD K (.ref C) "__class__"=some (some (.builtin "object.__class__")))
  (hn:PySem.W.specialIn K (.builtin "object.__class__") "__get__"=some (some (.builtin "getset_descriptor.__get__"))) (AU:PySem.W.takesIn K (.builtin "object.__class__")=some true)
  (hm:PySem.W.mroIn K C (.type "object")=some true):jF K H (.ref a) (.ref C)
theorem wv{x:V}{t:WV}(I:Inv X U Z H s)(rx:RelV x u)(ty:jF X.K H x t)(e:PySem.W.kitOne X.K t c=some b)(h:∀tk,Q (.bool b) {s with toks:=tk}) :
 Xa (Xu X.prog X.w) A (call (.builtin "isinstance") [u,c]) Q E s:=by
 cases ty with
 |non=>cases(show u=Yp from rx);exact YZ PySem.W.kitx_none I.kIn YU e (λz=>nomatch z) h
 |bl y=>cases(show u=Value.bool y from rx);exact YZ PySem.W.kitx_bool I.kIn YU e (λz=>nomatch z) h
 |int i=>obtain⟨t,q⟩:=(show∃t,u=Value.int i t from rx);cases q;exact YZ PySem.W.kitx_int I.kIn YU e (λz=>nomatch z) h
 |str y=>obtain⟨t,q⟩:=(show∃t,u=Value.str y t from rx);cases q;exact YZ PySem.W.kitx_str I.kIn YU e (λz=>nomatch z) h
 |flt y=>obtain⟨t,q⟩:=(show∃t,u=Value.float y t from rx);cases q;exact YZ PySem.W.kitx_float I.kIn YU e (λz=>nomatch z) h
 | @lst a xs ea =>
   cases(show u=Xl a from rx);obtain⟨_,_,n,_,h1⟩:=(show ObjOk X.prog X.w H s.heap a (.lst xs)from I.hok a _ ea);exact YZ PySem.W.kitx_list I.kIn ⟨_,h1,rfl⟩ e (λz=>nomatch z) h
 | @frz a ob xs ea =>
   cases(show u=Xl a from rx);obtain⟨_,_,_,n,_,h1⟩:=(show ObjOk X.prog X.w H s.heap a (.frz ob (.lst xs))from I.hok a _ ea);exact YZ PySem.W.kitx_list I.kIn ⟨_,h1,rfl⟩ e (λz=>nomatch z) h
 | @tup a xs ea =>
   cases(show u=Xl a from rx);obtain⟨_,_,_,_,h1⟩:=(show ObjOk X.prog X.w H s.heap a (.tup xs)from I.hok a _ ea);exact YZ PySem.W.kitx_tuple I.kIn ⟨_,h1,rfl⟩ e (λz=>nomatch z) h
 | @dK a f' ea =>
   cases(show u=Xl a from rx);obtain⟨_,_,vs,_,p⟩:=(show ObjOk X.prog X.w H s.heap a (.dK f')from I.hok a _ ea);obtain⟨o,es,ep,h1,h2,_⟩:=p;exact YZ PySem.W.kitx_dict I.kIn ⟨o,h1,h2.1⟩ e (λz=>nomatch z) h
 | @dT a f' ea =>
   cases(show u=Xl a from rx);obtain⟨_,_,xs,_,o,es,ep,h1,h2,_⟩:=(show ObjOk X.prog X.w H s.heap a (.dT f')from I.hok a _ ea);exact YZ PySem.W.kitx_dict I.kIn ⟨o,h1,h2.1⟩ e (λz=>nomatch z) h
 | @ins a C dx fs ea cl ha hn AU hm =>
   cases(show u=Xl a from rx);obtain⟨mA,O,_⟩:=l7 I.hok ea;obtain⟨od,J,_⟩:=O.look;exact YZ (PySem.W.kitx_own (cl.get _) cl.hd ha hn AU hm) I.kIn J e (λz=>nomatch z) h
end
structure Room(k:Nat)(A:XF):Prop where
 hd:A.handled=none
 dp:A.depth+3 * k+5<recursionLimit
 un:A.units+16 * k+200<YM
theorem Room.mono{k:Nat}(r:Room k A)(h:j<=k):Room j A:=⟨r.hd,by have:=r.dp;omega,by have:=r.un;omega⟩
theorem Room.deeper{k:Nat}(r:Room (k+1) A)(env:Env):Room k (A.deeper env) :=
 ⟨r.hd,by have:=r.dp;show A.depth+1+3 * k+5<_;omega,by have:=r.un;show A.units+3+16 * k+200<_;omega⟩
theorem uS{C:WS}:(A.under (.builtin "type.__call__" ⟨.ref C::us,kw⟩)).depth=A.depth+1:=by
 first|rfl|simp[Around.under,Code.weight,Code.isCreation,Code.isGuard,Code.isCaller,Code.frames,Code.isFrame,guardIds]
theorem uQ{C:WS}:(A.under (.builtin "type.__call__" ⟨.ref C::us,kw⟩)).units=A.units+1:=by
 first|rfl|simp[Around.under,Code.cUnits,Code.frames,Code.isFrame]
theorem Room.make{k:Nat}(r:Room (k+1) A)(C:WS)(us:List WV)(kw:List (Xk×WV)):Room k (A.under (.builtin "type.__call__" ⟨.ref C::us,kw⟩)) :=
 ⟨r.hd,by have:=r.dp;rw[uS];omega,by have:=r.un;rw[uQ];omega⟩
theorem Room.depth{k:Nat}(r:Room k A):A.depth<recursionLimit:=by have:=r.dp;omega
theorem Room.units{k:Nat}(r:Room k A):A.units+64<YM:=by have:=r.un;omega
def cC:TA:=λ_ H Q=>Q [] H
def aG(ta:TE)(tr:TA):TA:=λZ H Q=>ta Z H λx H1=>tr Z H1 λxs H2=>Q (x::xs) H2
section
variable{t:TA}
theorem ab:PA X [] cC:=λ_ _ _ _ H Q I h=>Zh ⟨[],H,I,.nil,h⟩
theorem aa(ha:PE X e te)(hr:PA X es t)(hs:XE (e::es) X.env=(false,Y3 e X.env)::XE es X.env:=by rfl):PA X (e::es) (aG te t):=by
 intro pos U s Z H Q I h;rw[hs];show Xa _ _ (spliced ((false,Y3 e X.env)::Z4 pos (XE es X.env))) _ _ s;refine YL (thn (ha U s Z H _ I h) λu s1⟨x,H1,I1,r1,q1⟩=>?_);exact thn (hr pos U s1 Z H1 _ I1 q1) λus s2⟨xs,H2,I2,r2,q2⟩=>⟨x::xs,H2,I2,.cons r1 r2,q2⟩
def lM(t:TA):TE:=λZ H Q=>t Z H λxs H1=>xs.length<=Xe/\∀p,H1 p=none->Q (.ref p) (upd H1 p (.tup xs))
def yd(t:TA):TE:=λZ H Q=>t Z H λxs H1=>xs.length<=Xe/\∀p,H1 p=none->Q (.ref p) (upd H1 p (.lst xs))
theorem aD{x1}(h:PA X es t):PE X (.Tuple es x1 pos) (lM t):=by
 intro U s Z H Q I hq;refine wpAny_Tuple_spliced (thn (h pos U s Z H _ I hq) λus s1⟨xs,H1,I1,r,z,q⟩=>⟨by rw[<-r.length];exact z,?_⟩);have hf:H1 s1.heap.objs.size=none:=I1.hok.fresh (WY _);refine⟨.ref s1.heap.objs.size,upd H1 s1.heap.objs.size (.tup xs),I1.laid (t':=s1.toks) (λb u e=>WW _ e) (WY _) ?_,rfl,q _ hf⟩;exact⟨z,us,0,r,W4 _ rfl⟩
theorem bx(h:PA X es t):PE X (.List es pos) (yd t):=by
 intro U s Z H Q I hq;refine wpAny_List_spliced (thn (h pos U s Z H _ I hq) λus s1⟨xs,H1,I1,r,z,q⟩=>⟨by rw[<-r.length];exact z,?_⟩);have hf:H1 s1.heap.objs.size=none:=I1.hok.fresh (WY _);refine⟨.ref s1.heap.objs.size,upd H1 s1.heap.objs.size (.lst xs),I1.laid (t':=s1.toks) (λb u e=>WW _ e) (WY _) ?_,rfl,q _ hf⟩;exact⟨z,us,0,r,W4 _ rfl⟩
end
abbrev Sp:=List V->Hp->VK->XK->Prop
abbrev CXT:=List Env->Hp->WZ->XK->WV->WZ->Prop
structure Env0(P:W6)(w:Xj)(K:WQ)(mg:Xk->Option WV)(base:X7)(A:XF)(outer:List Env)(s:WZ)(H:Hp):Prop where
 frames:A.frames=some outer
 mod:Mod K mg base
 bs:∀b o,base.get? b=some o->s.heap.get? b=some o/\H b=none
 bsz:base.objs.size<=s.heap.objs.size
 funs:s.heap.FunFrames base outer
 frf:∀b∈frs outer,H b=none
 hok:HOk P w H s.heap
 bare:AllBare s.gens
def CE(outer:List Env)(P:W6)(w:Xj)(H:Hp)(s:WZ)(Q:VK)(u:WV)(s':WZ):Prop :=
 ∃v H',s'.os=s.os/\AllBare s'.gens/\Un (frs outer) [] H H' s.heap s'.heap/\HOk P w H' s'.heap/\RelV v u/\Q v H'
def CR(CX:CXT)(outer:List Env)(P:W6)(w:Xj)(H:Hp)(s:WZ)(Q:VK)(E:XK)(r:Result)(s':WZ):Prop :=
 match r with
 |.ok (.ret u)=>CE outer P w H s Q u s'
 |.ok _=>False
 |.error e=>CX outer H s E e s'
structure aO(P:W6)(w:Xj)(K:WQ)(mg:Xk->Option WV)(base:X7)(CX:CXT)(k:Nat)(f:WS)(fd:Zl)(ps:List Xk)(sp:Sp):Prop where
 len:∀vs H Q E,sp vs H Q E->vs.length=ps.length
 run:∀(A:XF)(outer:List Env)(s:WZ)(H:Hp)(args:Args)(us:List WV)(vs:List V)(Q:VK)(E:XK),Room k A->Env0 P w K mg base A outer s H->BindsTo s fd args (ps.zip us)->Vals vs us->sp vs H Q E ->
  codeAny (Xu P w) A (.call (.ref f) args) (CR CX outer P w H s Q E) s
theorem Env0.make{outer:List Env}(e:Env0 P w K mg base A outer s H)(C:WS)(us:List WV)(kw:List (Xk×WV)) :
 Env0 P w K mg base (A.under (.builtin "type.__call__" ⟨.ref C::us,kw⟩)) outer s H:=⟨by first|exact e.frames|(simpa[Around.under,Code.envs,Code.isFrame,pushEnvs]using e.frames),e.mod,e.bs,e.bsz,e.funs,e.frf,e.hok,e.bare⟩
section
variable{s':WZ}
theorem Inv.env0(I:Inv X U Z H s):Env0 X.prog X.w X.K X.mg X.base X.A X.stack s H :=
 ⟨I.ok.frames,I.ok.mod,I.bs,Xv I.ok.bsz I.sz,I.stack,I.stkFree,I.hok,I.bare⟩
theorem Inv.after{Q:VK}(I:Inv X U Z H s)(h:CE X.stack X.prog X.w H s Q u s'):EP X U Z Q u s':=by
 obtain⟨v,H',os,bare,un,hok,r,q⟩:=h;obtain⟨hh,g,d,t,T2⟩:=s';obtain rfl:T2=s.os:=os;exact⟨v,H',I.call (h':=hh) (g':=g) (d':=d) (t':=t) (ch:=[]) un hok bare (λb z=>g! z (by simp)),r,q⟩
end
def cO(sp:Sp)(dvs:List V)(E:XK)(t:TA):TE:=λZ H Q=>t Z H λvs H1=>sp (vs++dvs) H1 Q E
def acl(C:WS)(m:Xk)(sp:Sp)(dvs:List V)(E:XK)(ta:TE)(t:TA):TE:=λZ H Q=>ta Z H λx H1=>∃a dx fs,x=.ref a/\H1 a=some (.ins C dx fs)/\fs.lookup m=none /\
 t Z H1 λvs H2=>sp (x::(vs++dvs)) H2 Q E
def ab9(C:WS)(sp:Sp)(dvs:List V)(E:XK)(t:TA):TE:=λZ H Q=>t Z H λvs H1=>∀x dx,H1 x=none->H1 dx=none->dx≠x ->
 sp (.ref x::(vs++dvs)) (upd (upd H1 dx (.own x)) x (.ins C dx [])) (λv H2=>v=.non/\Q (.ref x) H2) E
def Binds(K:WQ)(fd:Zl)(ps:List Xk)(ds:List WV):Prop :=
 ∀(s:WZ)(us:List WV),K.In s.heap->(us++ds).length=ps.length->BindsTo s fd ⟨us,[]⟩ (ps.zip (us++ds))
theorem Binds.all(h:∀us:List WV,us.length=ps.length->bindArgs fd ⟨us,[]⟩=pure (ps.zip us)):Binds K fd ps []:=λs us _ hl=>by
 rw[XA]at hl |-;exact .of_eq (h us hl)
def Passes(CX:CXT)(X:Cx)(E:XK):Prop:=∀(U:List (WS×Ze))(Z:St)(H:Hp)(s:WZ)(e:WV)(s':WZ),Inv X U Z H s->CX X.stack H s E e s'->X.xe e s'
section
variable{CX:CXT}{k:Nat}{C:WS}{sp:Sp}{dvs:List V}{ds:List WV}{E:XK}{m:Xk}{p apos:Z9}{o:X8}{ta:TE}{t:TA}
theorem xw{Q:VK}(F:aO X.prog X.w X.K X.mg X.base CX k f fd ps sp)(hr:Room k X.A)(hb:Binds X.K fd ps ds)(hd:Vals dvs ds)(hx:Passes CX X E)
 (I:Inv X U Z H s) (r:Vals vs us) (h:sp (vs++dvs) H Q E):Xa (Xu X.prog X.w) X.A (call (.ref f) us) (EP X U Z Q) X.xe s:=by
 have r2:Vals (vs++dvs) (us++ds):=r.append hd;have hl:(us++ds).length=ps.length:=by rw[<-r2.length];exact F.len _ _ _ _ h
 refine wpAny_call (codeAny_mono (F.run X.A X.stack s H ⟨us,[]⟩ (us++ds) (vs++dvs) Q E hr I.env0 (hb s us I.kIn hl) r2 h) λr s' hq=>?_);cases r with
 |error e=>exact hx U Z H s e s' I hq
 | ok fl =>
   cases fl with
   |ret u=>exact I.after hq
   |next=>exact YE hq
   |brk=>exact YE hq
   |cont=>exact YE hq
theorem eO(F:aO X.prog X.w X.K X.mg X.base CX k f fd ps sp)(hr:Room k X.A)(hg:Gl X x)(hm:X.mg x=some (.ref f))(hk:YX X.K (.ref f)=true)(hb:Binds X.K fd ps ds)(hd:Vals dvs ds)(hx:Passes CX X E)
 (ha:PA X (e::es) t) (DK:(x == ("__debug__":Xk))=false:=by decide) (he:XE (e::es) X.env=(false,Y3 e X.env)::XE es X.env:=by rfl) (AS:(Z4 pos (XE es X.env)).any (·.1)=false:=by rfl) :
 PE X (.Call (.Name x p) (e::es) [] pos) (cO sp dvs E t):=by
 intro U s Z H Q I h;refine Yl (l9 I hg hm ?_ DK);refine PySem.W.callWith_K (h₀:=X.base) I.ok.mod.kin hk (thn (ha pos U s Z H _ I h) λus s1⟨vs,H1,I1,r,q⟩=>⟨I1.kIn,?_⟩) he AS;exact xw F hr hb hd hx I1 r q
theorem zu{pl:Sem Bool}(he:PE X o ta)(c:Cls X.K C)(hm:Meth X.K C m f)(F:aO X.prog X.w X.K X.mg X.base CX k f fd ps sp)(hr:Room k X.A)(hb:Binds X.K fd ps ds)(hd:Vals dvs ds)(hx:Passes CX X E)(ha:PA X (e::es) t)
 (A7:XE (e::es) X.env=(false,Y3 e X.env)::XE es X.env:=by rfl) (AS:(Z4 pos (XE es X.env)).any (·.1)=false:=by rfl)
 (ht:Y3 (.Call (.Attribute o m apos) (e::es) [] pos) X.env=(do
  let ov <-Y3 o X.env
  standAt apos.atName
  let(f,first) <-holding [ov] (getMethod ov m pl)
  callWith pos f first (Z4 pos (XE (e::es) X.env)) (backToKw pos (keywordEach [] X.env))):=by rfl) :
 PE X (.Call (.Attribute o m apos) (e::es) [] pos) (acl C m sp dvs E ta t):=by
 intro U s Z H Q I h;refine PySem.W.methodCall_KW (pl:=pl) (thn (he U s Z H _ I h) λu s1⟨x,H1,I1,rx,a,dx,fs,ex,ea,l,q⟩=>?_) ht;subst ex;obtain rfl:u=Xl a:=rx;refine uR I1 ea c hm l ?_;refine PySem.W.callWith_K (first:=[.ref a]) (h₀:=X.base) I.ok.mod.kin hm.kp (thn (ha pos U s1 Z H1 _ I1 q) λus s2⟨vs,H2,I2,r,q2⟩=>⟨I2.kIn,?_⟩) A7 AS;exact xw (us:=.ref a::us) (vs:=.ref a::vs) F hr hb hd hx I2 (.cons rfl r) q2
structure Mk(K:WQ)(C f:WS):Prop where
 makes:PySem.W.makesIn K C=true
 init:YD K (.ref C) "__init__"=some (some (.ref f))
 fn:PySem.W.isFn K (.ref f)=true
 kp:YX K (.ref C)=true
theorem yp{Q:VK}(M:Mk X.K C f)(F:aO X.prog X.w X.K X.mg X.base CX k f fd ps sp)(hr:Room (k+1) X.A)(hb:Binds X.K fd ps ds)(hd:Vals dvs ds)
 (hx:Passes CX X E) (I:Inv X U Z H s) (r:Vals vs us)
 (h:∀x dx,H x=none->H dx=none->dx≠x->sp (.ref x::(vs++dvs)) (upd (upd H dx (.own x)) x (.ins C dx [])) (λv H2=>v=.non/\Q (.ref x) H2) E) :
 Xa (Xu X.prog X.w) X.A (call (.ref C) us) (EP X U Z Q) X.xe s:=by
 have hq:=h (s.heap.objs.size+1) s.heap.objs.size (I.hok.fresh (Nat.le_succ _)) (I.hok.fresh (WY _)) (Xy (Nat.lt_succ_self _));have I2:=Inv.made (C:=C) I;have r2:Vals (i! (s.heap.objs.size+1)::(vs++dvs)) (Xl (s.heap.objs.size+1)::(us++ds)):=.cons rfl (r.append hd)
 have hl:(Xl (s.heap.objs.size+1)::us++ds).length=ps.length:=by
  have e:=r2.length;rw[F.len _ _ _ _ hq]at e;exact e.symm
 refine wpAny_call (xX (f:=f) I.kIn M.makes M.init (beq_iff_eq.mp M.fn) (codeAny_mono (F.run _ X.stack _ _ ⟨Xl (s.heap.objs.size+1)::us,[]⟩ (Xl (s.heap.objs.size+1)::(us++ds)) _ _ E (hr.make C us [])
  (I2.env0.make C us []) (hb _ (Xl (s.heap.objs.size+1)::us) I2.kIn hl) r2 hq) λr s' E9=>?_))
 cases r with
 |error e=>exact hx U Z _ _ e s' I2 E9
 | ok fl =>
   cases fl with
   | ret u =>
     obtain⟨v,H',I3,rv,ev,q3⟩:=I2.after E9;subst ev;exact⟨rv,⟨i! (s.heap.objs.size+1),H',I3,rfl,q3⟩⟩
   |next=>exact YE E9
   |brk=>exact YE E9
   |cont=>exact YE E9
theorem yN(M:Mk X.K C f)(F:aO X.prog X.w X.K X.mg X.base CX k f fd ps sp)(hr:Room (k+1) X.A)(hg:Gl X x)(hm:X.mg x=some (.ref C))(hb:Binds X.K fd ps ds)(hd:Vals dvs ds)(hx:Passes CX X E)
 (DK:(x == ("__debug__":Xk))=false:=by decide):PE X (.Call (.Name x p) [] [] pos) (ab9 C sp dvs E cC):=by
 intro U s Z H Q I h;refine Yl (l9 I hg hm ?_ DK);exact PySem.W.callWith_K0 I.kIn M.kp (yp (us:=[]) M F hr hb hd hx I .nil h)
end
section
variable{CX:CXT}{k:Nat}{C:WS}{ks:List Xk}{sp:Sp}{E:XK}{m:Xk}{p apos T3:Z9}{o:X8}{kws:List Keyword}{ta:TE}{t tk:TA}{nm:Option Xk}
variable{g:List WV->List WV->List WV}{gV:List V->List V->List V}
end
structure ao(N P:List Xk)(sc:Z7):Prop where
 kind:sc.kind=.function
 co:sc.isCoroutine=false
 gen:sc.isGenerator=false
 nd:N.Nodup
 pre:N.take P.length=P
 par:∀x∈P,sc.names.lookup x=some .local\/sc.names.lookup x=some .cell
 nofree:∀y∈sc.names,y.2≠.free
theorem pq:∀{binds:List (Xk×WV)}{m:Xk->Option WV},(∀v,(x,v)∉binds)->bindL kindOf binds m x=m x
 | [],_,_=>rfl
 | (n,v)::r,m,h=>by
   unfold bindL;rw[pq λw hw=>h w (Xf _ hw)];split
   .have:x≠n:=by rintro rfl;exact h v Xh
    simp[this]
   .rfl
theorem o5:∀{binds:List (Xk×WV)}{m:Xk->Option WV},(∀v,(x,v)∉binds)->bindC kindOf binds m x=m x
 | [],_,_=>rfl
 | (n,v)::r,m,h=>by
   unfold bindC;rw[o5 λw hw=>h w (Xf _ hw)];split
   .rfl
   .have:x≠n:=by rintro rfl;exact h v Xh
    simp[this]
theorem pE{v:WV}:∀{P:List Xk}{vs:List WV}{i:Nat}{m:Xk->Option WV},P.Nodup->P[i]?=some x->vs[i]?=some v->kindOf x=some .local ->
 bindL kindOf (P.zip vs) m x=some v
 | [],_,_,_,_,h,_,_=>by simp at h
 |_::_,[],_,_,_,_,h,_=>by simp at h
 | p::P,w::vs,0,m,nd,h1,h2,hk=>by
   simp at h1 h2;subst h1;subst h2;show bindL kindOf ((p,w)::P.zip vs) m p=_;unfold bindL;rw[pq λv hv=>(ZO.mp nd).1 (List.of_mem_zip hv).1,b! hk];simp
 | p::P,w::vs,i+1,m,nd,h1,h2,hk=>by
   show bindL kindOf ((p,w)::P.zip vs) m x=_;unfold bindL;exact pE (i:=i) (ZO.mp nd).2 (by simpa using h1) (by simpa using h2) hk
theorem pF{v:WV}:∀{P:List Xk}{vs:List WV}{i:Nat}{m:Xk->Option WV},P.Nodup->P[i]?=some x->vs[i]?=some v->kindOf x≠some .local ->
 bindC kindOf (P.zip vs) m x=some v
 | [],_,_,_,_,h,_,_=>by simp at h
 |_::_,[],_,_,_,_,h,_=>by simp at h
 | p::P,w::vs,0,m,nd,h1,h2,hk=>by
   simp at h1 h2;subst h1;subst h2;show bindC kindOf ((p,w)::P.zip vs) m p=_;unfold bindC;rw[o5 λv hv=>(ZO.mp nd).1 (List.of_mem_zip hv).1,a! hk];simp
 | p::P,w::vs,i+1,m,nd,h1,h2,hk=>by
   show bindC kindOf ((p,w)::P.zip vs) m x=_;unfold bindC;exact pF (i:=i) (ZO.mp nd).2 (by simpa using h1) (by simpa using h2) hk
def start(N:List Xk)(vs:List V):St:=vs.map some++List.replicate (N.length - vs.length) none
def tq(CX:CXT)(P:W6)(w:Xj)(K:WQ)(mg:Xk->Option WV)(base:X7)(N:List Xk)(qual:Xk)(scope:Z7)(f:WS)(cd:WV)(A:XF)(outer:List Env)(s:WZ)(H:Hp)(E:XK):Cx where
 prog:=P
 w:=w
 K:=K
 mg:=mg
 base:=base
 A:=A.deeper (envOfC qual scope s.heap.objs.size f cd)
 N:=N
 s₀:=s
 H₀:=H
 env:=envOfC qual scope s.heap.objs.size f cd
 outer:=outer
 stack:=envOfC qual scope s.heap.objs.size f cd::outer
 ex:=[]
 calm:=true
 fn:=λ_=>true
 pn:=[]
 xe:=λe s'=>Xa (Xu P w) (A.deeper (envOfC qual scope s.heap.objs.size f cd)) (leaving (envOfC qual scope s.heap.objs.size f cd) e) (λ_ Nb=>CX outer H s E e Nb) (λe' Nb=>CX outer H s E e' Nb) s'
theorem rM(h:sc.names.lookup x=some .cell):∃c,(cellsFrom n sc.names []).lookup x=some c:=by
 have q:=PySem.W.cellsFrom_some sc.names n [] (.inl h);exact Z2.mp q
theorem wF{CX:CXT}{cd:WV}{outer:List Env}{s1:WZ}{E:XK}
 (S:ao N ps scope) (hd:A.handled=none) (e0:Env0 P w K mg base A outer s H) (hl:vs.length=ps.length) (r:Vals vs us)
 (x:InCallC s s.heap.objs.size (bindL (envOfC qual scope s.heap.objs.size f cd).kindOf (ps.zip us) λ_=>none) (cellsFrom (s.heap.objs.size+1) scope.names []) (bindC (envOfC qual scope s.heap.objs.size f cd).kindOf (ps.zip us) λ_=>none) s1) :
 Inv (tq CX P w K mg base N qual scope f cd A outer s H E) [] (start N vs) H s1:=by
 have AS:ps.length<=N.length:=by have:=h! ZX S.pre;rw[XO]at this;omega
 obtain⟨h1,tk,rfl,hk⟩:=x.done;have Nc:∀b:WS,b∉(tq CX P w K mg base N qual scope f cd A outer s H E).ex:=λb z=>g! (show b∈([]:List WS)from z) (by simp)
 refine⟨⟨e0.mod,S.kind,rfl,rfl,WY _,λy z c h1 h2=>?_,λy hy=>?_,λy c _ h=>?_,λ_=>hd,Around.frames_deeper e0.frames,.inr ⟨rfl,rfl⟩,λb z=>g! z (Nc b),e0.bs,e0.bsz,λb _ _=>Nc b,λb z=>g! z (Nc b),e0.funs,e0.frf⟩,
  rfl,e0.bare,Un.kept hk,⟨_,x.toInCall.ns,λi y v h1 h2 h3=>?_⟩,λy c h=>⟨_,x.cell y c h⟩,e0.hok.fresh (WY _),λy c h=>?_,λp hp=>g! (show p∈([]:List (WS×Ze))from hp) (by simp),e0.hok.kept hk,?_⟩
 .exact name_of_addr x.apart (Yk h1) (Yk h2)
 .have hy:scope.names.lookup y=some .cell\/scope.names.lookup y=some .free:=hy;rcases hy with hy|hy
  .exact rM hy
  .exact g! rfl (S.nofree _ (Yk hy))
 .exact ZV (x.above y c (Yk h))
 .have hi:i<vs.length:=by
   unfold start at h2;by_cases hi:i<vs.length
   .exact hi
   .rw[Zc (by simpa using hi)]at h2;rw[List.getElem?_replicate]at h2;split at h2 <;> cases h2
  have ha:vs[i]?=some v:=by
   unfold start at h2;rw[Yw (by simpa using hi),W0]at h2;cases e:vs[i]? with
   |none=>rw[e]at h2;cases h2
   |some a=>rw[e]at h2;cases h2;rfl
  obtain⟨u,hu,rv⟩:=r.get ha
  have hp:ps[i]?=some y:=by
   rw[<-S.pre,List.getElem?_take_of_lt (by omega)];exact h1
  have ndP:ps.Nodup:=by rw[<-S.pre];exact S.nd.sublist (List.take_sublist _ _)
  refine⟨u,rv,?_⟩;rcases S.par y (WU hp)with k|k
  .exact .inl ⟨k,pE ndP hp hu k⟩
  .obtain⟨c,e⟩:=rM (n:=s.heap.objs.size+1) k;refine .inr ⟨.inl k,c,e,?_⟩;have q:=x.cell y c e;rw[pF ndP hp hu (by show scope.names.lookup y≠_;rw[k];decide)]at q;exact q
 .exact e0.hok.fresh (ZV (x.above y c (Yk h)))
 .unfold start;show _=N.length;rw[Xg,WO,List.length_replicate];omega
theorem aaU{CX:CXT}{k:Nat}{name:Xk}{dV kV doc pm Ai ct:WV}{an:Option WS}
 {ET:Array (Option WV)} {sp:Sp} (lk:K.lookup f=some ⟨oc,od,.func (Y0 name qual params body scope dV kV doc pm an Ai ct),ET⟩) (Cg:Z8 K Ai qual=true) (S:ao N ps scope)
 (len:∀vs H Q E,sp vs H Q E->vs.length=ps.length)
 (Bc:∀(A:XF)(outer:List Env)(s:WZ)(H:Hp)(vs:List V)(Q:VK)(E:XK),Room k (A.deeper (envOfC qual scope s.heap.objs.size f Ai))->sp vs H Q E ->
  ∃t,PSs (tq CX P w K mg base N qual scope f Ai A outer s H E) body t/\t {nx:=λ_ H'=>Q .non H',rt:=Q} (start N vs) H) :
 aO P w K mg base CX (k+1) f (Y0 name qual params body scope dV kV doc pm an Ai ct) ps sp:=by
 refine⟨len,λA outer s H args us vs Q E hr e0 hb r CW=>?_⟩;have hl:=len _ _ _ _ CW;have KX:K.In s.heap:=e0.mod.kin.keeps λb o e=>(e0.bs b o e).1;have lim:s.heap.NoLimit:=e0.mod.nolimit.keeps λb o e=>(e0.bs b o e).1
 have Ja:∀y∈ps.zip us,scope.names.lookup y.1=some .local\/(scope.names.lookup y.1=some .cell/\((cellsFrom (s.heap.objs.size+1) scope.names []).lookup y.1).isSome=true):=λ⟨n,v⟩hy=>by
  rcases S.par n (List.of_mem_zip hy).1 with q|q
  .exact .inl q
  .exact .inr ⟨q,PySem.W.cellsFrom_some _ _ _ (.inl q)⟩
 refine codeAny_call_function hr.depth (KX _ _ lk) rfl S.co S.gen rfl (PySem.W.codeRec_of KX Cg) (hb _ _ _ _ ?_);refine wpAny_newFunctionEnv_cells S.kind Ja λenv he s1 x=>?_;subst he;refine⟨lim.keeps x.toInCall.keep,codeAny_func ?_⟩;obtain⟨t,ht,hq⟩:=Bc A outer s H vs Q E (hr.deeper _) CW;have I:Inv (tq CX P w K mg base N qual scope f Ai A outer s H E) [] (start N vs) H s1:=wF S hr.hd e0 hl r x;refine Y7 (ht [] s1 (start N vs) H _ I hq) (λfl s' hs=>?_) λe s' hs=>hs
 have fin:∀{Ab:St}{H':Hp}{v:V}{u:WV},Inv (tq CX P w K mg base N qual scope f Ai A outer s H E) [] Ab H' s'->RelV v u->Q v H'->CE outer P w H s Q u s' :=
  λ{Ab H' v u}J rv q=>⟨v,H',J.os,J.bare,J.base,J.hok,rv,q⟩
 cases fl with
 | ret u =>
   obtain⟨v,Ab,H',J,rv,q⟩:=hs;exact fin J rv q
 | next =>
   obtain⟨Ab,H',J,q⟩:=hs;exact fin (v:=V.non) (u:=Yp) J rfl q
 | brk =>
   obtain⟨_,_,_,q⟩:=hs;exact YE q
 | cont =>
   obtain⟨_,_,_,q⟩:=hs;exact YE q
end L2
variable{CX:L2.CXT}{sp:L2.Sp}
namespace L2
open PySem PySem.Spec PyProof.Rows
section
variable{p:Z9}{t:TA}{id T:String}{r:List V->Hp->VK->Prop}
def tCB(r:List V->Hp->VK->Prop)(t:TA):TE:=λZ H Q=>t Z H λvs H1=>r vs H1 Q
theorem aH(hc:eQ X (.builtin id) r)(hg:Gl X x)(hm:X.mg x=none)(hv:bootBuiltins x=some (.builtin id))(ha:PA X (e::es) t)(hn:x≠"__name__":=by decide)(DK:(x == ("__debug__":Xk))=false:=by decide)
 (he:XE (e::es) X.env=(false,Y3 e X.env)::XE es X.env:=by rfl) (AS:(Z4 pos (XE es X.env)).any (·.1)=false:=by rfl):PE X (.Call (.Name x p) (e::es) [] pos) (tCB r t):=by
 intro U s Z H Q I h;refine Yl (de I hg hm hv ?_ hn DK);exact PyProof.Rows.callWith_builtin1 (thn (ha pos U s Z H _ I h) λus s1⟨vs,H1,I1,r1,q1⟩=>hc U s1 Z H1 vs us Q I1 r1 q1) he AS
theorem bh(hc:eQ X (.type T) r)(hg:Gl X x)(hm:X.mg x=none)(hv:bootBuiltins x=some (.type T))(ha:PA X (e::es) t)(hn:x≠"__name__":=by decide)(DK:(x == ("__debug__":Xk))=false:=by decide)
 (he:XE (e::es) X.env=(false,Y3 e X.env)::XE es X.env:=by rfl) (AS:(Z4 pos (XE es X.env)).any (·.1)=false:=by rfl):PE X (.Call (.Name x p) (e::es) [] pos) (tCB r t):=by
 intro U s Z H Q I h;refine Yl (de I hg hm hv ?_ hn DK);exact X0 (thn (ha pos U s Z H _ I h) λus s1⟨vs,H1,I1,r1,q1⟩=>hc U s1 Z H1 vs us Q I1 r1 q1) he AS
end
end L2
namespace HT
open PySem PyProof.Rows
section
open PySem.SeqAt
open PySem.AutoSeq1 (wpAny_loadPart')
open PySem.MeetsSeq PySem.MeetsSeq2 PySem.MeetsSeq3
end
theorem cat_tup{t:WS}{vs ws:List WV}(ht:IsTup s.heap t vs.toArray)(hb:IsTup s.heap b ws.toArray)(hv:vs≠[])
 (h1:ws=[]->Q (.ref t) s) (h2:ws≠[]->Q (.ref s.heap.objs.size) {s with heap:=s.heap.push {cls:=.type "tuple",data:=.seq (vs++ws).toArray}})
 (hsz:vs.length+ws.length<=Xe):Xa (Xu prog w) A (binaryOp .Add (.ref t) (.ref b)) Q E s:=by
 obtain⟨⟨cls,dd,data,sl⟩,ho,hc,n,hd⟩:=id ht;obtain⟨⟨Jb,Ik,data2,Il⟩,E',B8,n2,hd2⟩:=id hb;simp only at hc hd B8 hd2;subst hc hd B8 hd2;have e:vs.toArray++ws.toArray=(vs++ws).toArray:=by simp
 by_cases hw:ws=[]
 .exact concat_meets ⟨_,ho,rfl⟩ ⟨_,E',rfl⟩ noFill_tuple_add seq_tuple_add PySem.F.slot_tuple_add PySem.F.entry_tuple_add (PySem.F.args_tuple_add_2 _ _)
   (tuple_addW1 t b vs.toArray ws.toArray n n2 dd Ik sl Il (by simpa using hv) (by simp[hw])) ⟨ho,E',h1 hw⟩
 .refine concat_meets ⟨_,ho,rfl⟩ ⟨_,E',rfl⟩ noFill_tuple_add seq_tuple_add PySem.F.slot_tuple_add PySem.F.entry_tuple_add (PySem.F.args_tuple_add_2 _ _)
   (tuple_addW2 t b vs.toArray ws.toArray n n2 dd Ik sl Il (by simpa using hv) (by simpa using hw) (by rw[W2,W2];exact hsz)) ⟨ho,E',?_⟩
  rw[e];exact h2 hw
def sIx(n d:Nat):Option Int->Nat
 |none=>d
 |some v=>if v<0 then(v+(n:Int)).toNat else min v.toNat n
theorem sIx_none(n d:Nat):sIx n d none=d:=rfl
theorem sIx_nat(n d k:Nat):sIx n d (some (k:Int))=min k n:=by
 show(if(k:Int)<0 then((k:Int)+(n:Int)).toNat else min (k:Int).toNat n)=min k n;rw[a! (by omega),XM]
theorem sIx_le(n d:Nat)(hd:d<=n)(o:Option Int):sIx n d o<=n:=by
 cases o with
 |none=>exact hd
 | some v =>
   show(if v<0 then(v+(n:Int)).toNat else min v.toNat n)<=n;by_cases hv:v<0
   .rw[b! hv];omega
   .rw[a! hv];exact Nat.min_le_right _ _
theorem clip_eq(v:Int)(n d:Nat):(if v<0 then max (v+(n:Int)) 0 else min v (n:Int))=((sIx n d (some v):Nat):Int):=by
 show(if v<0 then max (v+(n:Int)) 0 else min v (n:Int))=(((if v<0 then(v+(n:Int)).toNat else min v.toNat n):Nat):Int);by_cases hv:v<0
 .simp only[b! hv];omega
 .simp only[a! hv];omega
theorem adjust_gen(lo hi:Option Int)(n:Nat):Z5 lo hi 1 (n:Int)=(((sIx n 0 lo:Nat):Int),((sIx n n hi:Nat):Int)):=by
 have h1:¬((1:Int)<0):=by omega
 unfold Z5;simp only[h1,if_false];refine Prod.ext ?_ ?_
 .cases lo with
  |none=>rfl
  |some v=>exact clip_eq v n 0
 .cases hi with
  |none=>rfl
  |some v=>exact clip_eq v n n
theorem places_gen(i j:Nat):YJ (i:Int) (j:Int) 1=j - i:=by
 unfold YJ;have h1:(1:Int) > 0:=by omega
 simp only[h1,if_true,Int.ediv_one];split <;> omega
theorem slicePart_{v:WV}{o:Option Int}{Q:Option Int->WZ->Prop}(p:IsPart v o)(h:Q o s):Xa (Xu prog w) A (Builtin.Slice.slicePartIndex v) Q E s:=by
 cases p with
 |none=>exact slicePart_none h
 |int i t=>exact slicePart_int h
theorem sliceApplied_gen{Q:Int×Int×Nat->WZ->Prop}(hs:s.heap.IsSliceOf sl vl vu .none)(pl:IsPart vl lo)(pu:IsPart vu hi)
 (h:Q (((sIx n 0 lo:Nat):Int),1,sIx n n hi - sIx n 0 lo) s):Xa (Xu prog w) A (Builtin.Slice.sliceApplied (.ref sl) (pure (n:Int))) Q E s:=by
 obtain⟨os,DL,Cz,Bq⟩:=id hs;unfold Builtin.Slice.sliceApplied Builtin.Slice.sliceFields;refine WN (WN (XW DL Bq (x:=vl) rfl (WN (XW DL Bq (x:=vu) rfl (WN (XW DL Bq (x:=.none) rfl (WX ?_)))))));refine WN (slicePart_none ?_);show Xa _ _ (if((1:Int) == 0)=true then _ else _) _ _ s;rw[a! (by decide)];refine WN (slicePart_ pl (WN (slicePart_ pu (WN (WX ?_)))));show Xa _ _ (match Z5 lo hi 1 (n:Int)with|(lo,hi)=>pure (lo,(1:Int),YJ lo hi 1)) _ _ s;rw[adjust_gen lo hi n];show Xa _ _ (pure (((sIx n 0 lo:Nat):Int),(1:Int),YJ ((sIx n 0 lo:Nat):Int) ((sIx n n hi:Nat):Int) 1)) _ _ s;rw[places_gen];exact WX h
theorem pick_gen(xs:Array WV)(i k:Nat):((XG k).filterMap λ(m:Nat)=>xs[((i:Int)+(m:Int) * 1).toNat]?).toArray=((xs.toList.drop i).take k).toArray:=by
 have e:(λ(m:Nat)=>xs[((i:Int)+(m:Int) * 1).toNat]?)=λm=>xs[i+m]?:=by
  funext m;have:((i:Int)+(m:Int) * 1).toNat=i+m:=by omega
  rw[this]
 rw[e];have:=pick_run xs i k;rw[List.filterMap_map]at this;have e2:((λx=>xs[x]?) ∘ λx=>i+x)=λm=>xs[i+m]?:=rfl;rw[e2]at this;rw[this]
theorem getItem_tuple_cut{t:WS}(ht:IsTup s.heap t items)(hs:s.heap.IsSliceOf sl vl vu .none)(pl:IsPart vl lo)(pu:IsPart vu hi)
 (hw:¬(sIx items.size 0 lo=0/\sIx items.size items.size hi=items.size))
 (h:Q (.ref s.heap.objs.size) {s with heap:=s.heap.push {cls:=.type "tuple",data:=.seq ((items.toList.drop (sIx items.size 0 lo)).take (sIx items.size items.size hi - sIx items.size 0 lo)).toArray}})
 (hsz:items.size<=Xe):Xa (Xu prog w) A (getItem (.ref t) (.ref sl)) Q E s:=by
 have Bd:sizeOk (.seq ((items.toList.drop (sIx items.size 0 lo)).take (sIx items.size items.size hi - sIx items.size 0 lo)).toArray):=by
  show((items.toList.drop (sIx items.size 0 lo)).take (sIx items.size items.size hi - sIx items.size 0 lo)).toArray.size<=Xe;rw[W2,XO,List.length_drop,XR];omega
 have hj:sIx items.size items.size hi<=items.size:=sIx_le _ _ (WY _) hi;obtain⟨os,DL,Cz,Bq⟩:=id hs;have Jc:s.TypeIs (.ref sl) "slice":=⟨os,DL,Cz⟩;unfold getItem
 try with_reducible refine Yx ?_
 first|refine WN (WX ?_)|skip
 refine WN (wpAny_sequenceKey ht.typeIs (by decide) ?_)
 refine WN (X2 (name:=WT "__getitem__") ht.typeIs XQ
  (X5 XQ ht.typeIs entry_tuple_getitem ?_ (args_tuple_getitem _ _)))
 show Xa _ _ (ZY (.ref t) >>= _) _ _ s;refine WN (tupleItemsOf_ ht ?_);refine WN (ZI Jc ?_);rw[b! (by decide)];refine WN (sliceApplied_gen hs pl pu ?_)
 have Dc:¬((((sIx items.size 0 lo:Nat):Int) == 0 && (1:Int) == 1 && (sIx items.size items.size hi - sIx items.size 0 lo) == items.size)=true):=by
  intro q;rw[XY,XY]at q;have q1:((sIx items.size 0 lo:Nat):Int)=0:=eq_of_beq q.1.1;have q2:sIx items.size items.size hi - sIx items.size 0 lo=items.size:=eq_of_beq q.2;exact hw ⟨by omega,by omega⟩
 show Xa _ _ (if(((sIx items.size 0 lo:Nat):Int) == 0 && (1:Int) == 1 && (sIx items.size items.size hi - sIx items.size 0 lo) == items.size)=true then _ else _) _ _ s;rw[a! Dc,pick_gen]
 first
  |exact WN (m:=YN _) (Ye (WX ⟨_,rfl,WX h⟩) Bd)
  |exact WN (m:=YN _) (Ye (WN (WX (WX ⟨_,rfl,WX h⟩))) Bd)
  |exact WN (WN (m:=YN _) (Ye (WX (WX ⟨_,rfl,WX h⟩)) Bd))
  |exact WN (WN (m:=YN _) (Ye (WX ⟨_,rfl,WX h⟩) Bd))
end HT
open HT renaming sIx->z!
namespace L2
open PySem PySem.Spec PyProof.Rows
abbrev TO:=St->Hp->(Option Int->Hp->Prop)->Prop
def PO(X:Cx)(e:Option X8)(t:TO):Prop :=
 ∀(U:List (WS×Ze))(s:WZ)(Z:St)(H:Hp)(Q:Option Int->Hp->Prop),Inv X U Z H s->t Z H Q ->
   Xa (Xu X.prog X.w) X.A (evalPart e X.env) (λu s'=>∃o H',Inv X U Z H' s'/\IsPart u o/\Q o H') X.xe s
def aay:TO:=λ_ H Q=>Q none H
inductive aaD(x:V)(Q:Option Int->Hp->Prop)(H1:Hp):Prop
 |mk (i:Int) (An:x=.int i) (Ao:Q (some i) H1):aaD x Q H1
def aaL(t:TE):TO:=λZ H Q=>t Z H λx H1=>aaD x Q H1
theorem intsAre_of:∀{us:List WV},Vals (ns.map q!) us->IntsAre us ns:=by
 induction ns with
 |nil=>intro us r;rw[Zb]at r;cases r;exact .nil
 | cons n ns ih =>
   intro us r;rw[XB]at r;cases r with
   | cons r1 r2 =>
     obtain⟨t,e⟩:=r1;subst e;exact .cons n t (ih r2)
section
variable{lo hi:Option X8}{tl th:TO}{p2:Z9}
theorem dM:PO X none aay:=by
 intro U s Z H Q I h;rw[evalPart_none];exact WX ⟨none,H,I,.none,h⟩
theorem dk(h:PE X e te):PO X (some e) (aaL te):=by
 intro U s Z H Q I hw;rw[evalPart_some];refine thn (h U s Z H _ I hw) λu s1⟨x,H1,I1,r1,q1⟩=>?_;obtain⟨i,rfl,q⟩:=q1;obtain⟨t,rfl⟩:=r1;exact⟨some i,H1,I1,.int i t,q⟩
def SlR(X:Cx)(r:V->Option Int->Option Int->Hp->VK->Prop):Prop :=
 ∀(U:List (WS×Ze))(s:WZ)(Z:St)(H:Hp)(x:V)(v vl vu:WV)(lo hi:Option Int)(sl:WS)(Q:VK),Inv X U Z H s->RelV x v->s.heap.IsSliceOf sl vl vu .none->IsPart vl lo->IsPart vu hi->r x lo hi H Q ->
   ∃T id,typeLookup (.type T) "__getitem__"=pure (some (.builtin id))/\s.TypeIs v T/\Xa (Xu X.prog X.w) X.A (getItem v (.ref sl)) (EP X U Z Q) X.xe s
def tSl(r:V->Option Int->Option Int->Hp->VK->Prop)(te:TE)(tl th:TO):TE:=λZ H Q=>te Z H λx H1=>tl Z H1 λl H2=>th Z H2 λu H3=>r x l u H3 Q
theorem cR{r:V->Option Int->Option Int->Hp->VK->Prop}(hr:SlR X r)(he:PE X e te)(hl:PO X lo tl)(hu:PO X hi th):PE X (.Subscript e (.Slice lo hi none p2) pos) (tSl r te tl th):=by
 intro U s Z H Q I h;refine Subscript_ (thn (he U s Z H _ I h) λv s1⟨x,H1,I1,r1,q1⟩=>?_);refine wpAny_Slice (thn (hl U s1 Z H1 _ I1 q1) λvl s2⟨l,H2,I2,pl,q2⟩=>thn (hu U s2 Z H2 _ I2 q2) λvu s3⟨u,H3,I3,pu,q3⟩=>?_);rw[evalPart_none];refine WX ?_;have I4:Inv X U Z H3 {s3 with heap:=s3.heap.push {cls:=.type "slice",data:=.fields #[vl,vu,.none]}}:=I3.kept (t':=s3.toks) λb ob q=>WW _ q;obtain⟨T,id,hT,ht,hg⟩:=hr U {s3 with heap:=s3.heap.push {cls:=.type "slice",data:=.fields #[vl,vu,.none]}} Z H3 x v vl vu l u s3.heap.objs.size Q I4 r1 (Heap.IsSliceOf.new ..) pl pu q3;show Xa (Xu X.prog X.w) X.A (subscriptTail e (.Slice lo hi none p2) v (.ref s3.heap.objs.size)) (EP X U Z Q) X.xe {s3 with heap:=s3.heap.push {cls:=.type "slice",data:=.fields #[vl,vu,.none]}};exact tail_any (ops:=[.ref s3.heap.objs.size,v]) ht hT hg (by with_unfolding_all rfl)
def gB(xs:List V)(lo hi:Option Int):List V:=(xs.drop (z! xs.length 0 lo)).take (z! xs.length xs.length hi - z! xs.length 0 lo)
theorem ld(xs:List V)(lo hi:Option Int):(gB xs lo hi).length<=xs.length:=by
 unfold gB;rw[XO,List.length_drop];omega
inductive aaX(K:WQ)(x:V)(lo:Option Int)(hi:Option Int)(H:Hp)(Q:VK):Prop
 |mk (a:_) (xs:_) (An:x=.ref a) (Ao:SqT K H a xs) (Au:¬(z! xs.length 0 lo=0/\z! xs.length xs.length hi=xs.length)) (AD:∀p,H p=none->Q (.ref p) (upd H p (.tup (gB xs lo hi)))):aaX K x lo hi H Q
def ac0(K:WQ):V->Option Int->Option Int->Hp->VK->Prop:=aaX K
theorem iU:SlR X (ac0 X.K):=by
 intro U s Z H x v vl vu lo hi sl Q I rx hs pl pu h;obtain⟨a,xs,rfl,hx,hw,q⟩:=h;cases rx;obtain⟨its,r,ht,hz⟩:=I.tuple hx;have hlen:its.toArray.size=xs.length:=by rw[W2];exact r.length.symm
 refine⟨"tuple",_,XQ.lookup,ht.typeIs,?_⟩;refine HT.getItem_tuple_cut ht hs pl pu (by rw[hlen];exact hw) ?_ (by rw[hlen];exact hz);rw[hlen];refine⟨.ref s.heap.objs.size,_,I.laid (t':=s.toks) (o:=.tup (gB xs lo hi)) (λb ob q=>WW _ q) (WY _) ?_,rfl,q _ (I.hok.fresh (WY _))⟩;exact⟨Xv (ld xs lo hi) hz,_,0,(r.drop (z! xs.length 0 lo)).take (z! xs.length xs.length hi - z! xs.length 0 lo),W4 _ rfl⟩
def acr(K:WQ):R2:=λx y H Q=>∃a b xs ys,x=.ref a/\y=.ref b/\SqT K H a xs/\SqT K H b ys/\xs≠[]/\xs.length+ys.length<=Xe /\
 (ys=[]->Q (.ref a) H)/\(ys≠[]->∀p,H p=none->Q (.ref p) (upd H p (.tup (xs++ys))))
theorem Vals.nil_iff(r:Vals xs us):us=[]↔xs=[]:=by
 cases r with
 |nil=>simp
 |cons _ _=>simp
theorem zH:OpR X (binaryOp .Add) (acr X.K):=by
 intro U s Z H x y v u Q I rx ry h;obtain⟨a,b,xs,ys,rfl,rfl,ha,hb,hx,hz,q1,q2⟩:=h;cases rx;cases ry;obtain⟨its,r1,p1,_⟩:=I.tuple ha;obtain⟨Ah,r2,p2,_⟩:=I.tuple hb;refine HT.cat_tup p1 p2 (λz=>hx (r1.nil_iff.mp z)) (λz=>⟨.ref a,H,I,rfl,q1 (r2.nil_iff.mp z)⟩) (λz=>?_) (by rw[<-r1.length,<-r2.length];exact hz);refine⟨.ref s.heap.objs.size,_,I.laid (t':=s.toks) (o:=.tup (xs++ys)) (λb ob q=>WW _ q) (WY _) ?_,rfl,q2 (λw=>z (r2.nil_iff.mpr w)) _ (I.hok.fresh (WY _))⟩;exact⟨by rw[Xg];exact hz,_,0,r1.append r2,W4 _ rfl⟩
end
def ixN(n:Nat)(i:Int):Option Nat:=if 0<=i then(if i<n then some i.toNat else none)else if -(n:Int)<=i then some (i+n).toNat else none
def atI{α:Type}(xs:List α)(i:Int):Option α:=(ixN xs.length i).bind λj=>xs[j]?
theorem qp{i:Int}(h:ixN n i=some j):seqIndex? i n=some j/\j<n/\-(n:Int)<=i/\i<n:=by
 unfold ixN at h;by_cases h0:0<=i
 .rw[b! h0]at h;by_cases h1:i<n
  .rw[b! h1]at h;have e:i.toNat=j:=Xm h;exact⟨by rw[seqIndex_of h0 h1,e],by omega,by omega,h1⟩
  .rw[a! h1]at h;cases h
 .rw[a! h0]at h;by_cases h1:-(n:Int)<=i
  .rw[b! h1]at h;have e:(i+n).toNat=j:=Xm h;exact⟨by rw[seqIndex_neg (by omega) h1,e],by omega,h1,by omega⟩
  .rw[a! h1]at h;cases h
theorem qh{xs:List α}{i:Int}{v:α}(h:atI xs i=some v):∃j,seqIndex? i xs.length=some j/\xs[j]?=some v/\j<xs.length/\-(xs.length:Int)<=i/\i<xs.length:=by
 unfold atI at h;cases e:ixN xs.length i with
 |none=>rw[e]at h;cases h
 | some j =>
   rw[e]at h;obtain⟨h1,h2,h3,h4⟩:=qp e;exact⟨j,h1,h,h2,h3,h4⟩
theorem cy{xs:List α}{v:α}(h:xs[j]?=some v):atI xs (j:Int)=some v:=by
 have hj:j<xs.length:=(glE h)
 have e:ixN xs.length (j:Int)=some j:=by
  unfold ixN;rw[b! (by omega),b! (by omega)];simp
 unfold atI;rw[e];exact h
def vM(b:X8):Prop:=∀o i,subscripted b false o i=operate [o,i] (getItem o i)
def IxR(X:Cx)(r:R2):Prop :=
 ∀(value slice:X8)(U:List (WS×Ze))(s:WZ)(Z:St)(H:Hp)(x y:V)(v u:WV)(Q:VK),Inv X U Z H s->RelV x v->RelV y u->r x y H Q ->
   subscripted slice false v u=operate [v,u] (getItem v u)->Xa (Xu X.prog X.w) X.A (subscriptTail value slice v u) (EP X U Z Q) X.xe s
def MtR(X:Cx)(id:String)(r:V->List V->Hp->VK->Prop):Prop :=
 ∀(U:List (WS×Ze))(s:WZ)(Z:St)(H:Hp)(x:V)(xs:List V)(v:WV)(us:List WV)(Q:VK),Inv X U Z H s->RelV x v->Vals xs us->r x xs H Q ->
   Xa (Xu X.prog X.w) X.A (call (.builtin id) (v::us)) (EP X U Z Q) X.xe s
section
variable{a b:X8}{ta tb:TE}
theorem aF{r:R2}(hr:IxR X r)(ha:PE X a ta)(hb:PE X b tb)(hs:vM b):PE X (.Subscript a b pos) (tOp r ta tb):=by
 intro U s Z H Q I h;exact Subscript_ (abP ha hb I h λv u s2 x y H2 I2 rx ry q=>hr a b U s2 Z H2 x y v u Q I2 rx ry q (hs _ _))
inductive aaI(K:WQ)(x:V)(y:V)(H:Hp)(Q:VK):Prop
 |mk (p:_) (xs:_) (i:_) (v:_) (An:x=.ref p) (Ao:y=.int i) (Au:SqL K H p xs) (AD:atI xs i=some v) (AR:Q v H):aaI K x y H Q
def xo(K:WQ):R2:=aaI K
inductive aaN(K:WQ)(x:V)(y:V)(H:Hp)(Q:VK):Prop
 |mk (p:_) (xs:_) (i:_) (v:_) (An:x=.ref p) (Ao:y=.int i) (Au:SqT K H p xs) (AD:atI xs i=some v) (AR:Q v H):aaN K x y H Q
def yl(K:WQ):R2:=aaN K
inductive aaV(x:V)(y:V)(H:Hp)(Q:VK):Prop
 |mk (z:_) (i:_) (c:_) (An:x=.str z) (Ao:y=.int i) (Au:z.length<=Xe) (AD:atI z.cps.toList i=some c) (AR:Q (.str ⟨#[c]⟩) H):aaV  x y H Q
def adf:R2:=aaV
theorem bu:IxR X (xo X.K):=by
 intro value slice U s Z H x y v u Q I rx ry h hs;obtain⟨p,xs,i,z,rfl,rfl,hq,he,q⟩:=h;cases rx;obtain⟨t,rfl⟩:=ry;obtain⟨its,r,pl,hz⟩:=I.list hq;obtain⟨j,h1,h2,h3,h4,h5⟩:=qh he;obtain⟨w,ew,CA⟩:=r.get h2;have hl:=r.length;have hn:=fJ;have fin:EP X U Z Q w s:=⟨z,H,I,CA,q⟩;by_cases h0:0<=i
 .have hj:i.toNat=j:=by
   rw[seqIndex_of h0 h5]at h1;exact Xm h1
  exact item_listR pl.isList h0 (by omega) (by rw[hj];simpa using ew) fin hs
 .have hj:(i+(its.toArray.size:Int)).toNat=j:=by
   rw[seqIndex_neg (by omega) h4]at h1;rw[W2,<-hl];exact Xm h1
  exact subscriptTail_builtinR (x:=w) pl.isList.typeIs slot_list_getitem.lookup
   (wpAny_getItem_list_neg (Q:=λr s'=>r=w/\EP X U Z Q r s') pl.isList (by omega) (by rw[W2] <;> omega) (by omega) (by rw[hj];simpa using ew) ⟨rfl,fin⟩) hs
theorem aL:IxR X (yl X.K):=by
 intro value slice U s Z H x y v u Q I rx ry h hs;obtain⟨p,xs,i,z,rfl,rfl,hq,he,q⟩:=h;cases rx;obtain⟨t,rfl⟩:=ry;obtain⟨its,r,pl,hz⟩:=I.tuple hq;obtain⟨j,h1,h2,h3,h4,h5⟩:=qh he;obtain⟨w,ew,CA⟩:=r.get h2;have hl:=r.length;have hn:=fJ;have fin:EP X U Z Q w s:=⟨z,H,I,CA,q⟩
 exact subscriptTail_builtinR (x:=w) pl.typeIs slot_tuple_getitem.lookup
  (getItem_tuple (j:=j) (Q:=λr s'=>r=w/\EP X U Z Q r s') pl (by omega) (by omega) (by rw[W2,<-hl];exact h1) (by simpa using ew) ⟨rfl,fin⟩) hs
theorem abb:IxR X adf:=by
 intro value slice U s Z H x y v u Q I rx ry h hs;obtain⟨z,i,c,rfl,rfl,hz,he,q⟩:=h;obtain⟨t,rfl⟩:=rx;obtain⟨t',rfl⟩:=ry;obtain⟨j,h1,h2,h3,h4,h5⟩:=qh he;have hl:z.cps.toList.length=z.length:=by simp[Str.length]
 rw[hl]at h1 h4 h5;have hn:=fJ
 exact tail_any (typeIs_str s z t) slot_str_getitem.lookup (getItem_str (c:=c) (by
  have e1:decide (i < -(2 ^ 63:Int))=false:=c! (by omega);have e2:decide (i >= 2 ^ 63)=false:=c! (by omega);rw[e1,e2,Bool.or_false]) (by rw[h1];simpa using h2) ⟨.str ⟨#[c]⟩,H,I.tok _,⟨_,rfl⟩,q⟩) hs
theorem uz(its:List WV)(n j:Nat)(u:WV):Yh (·.setIfInBounds j u) {cls:=.type "list",data:=.seq its.toArray n}={cls:=.type "list",data:=.seq (its.set j u).toArray n}:=by
 simp[Yh]
theorem Inv.lst{p:WS}(I:Inv X U Z H s)(h:H p=some (.lst xs)) :
 ∃(its:List WV)(n:Nat),Vals xs its/\s.heap.get? p=some {cls:=.type "list",data:=.seq its.toArray n}/\xs.length<=Xe:=by
 obtain⟨z,its,n,r,e⟩:=I.hok p _ h;exact⟨its,n,r,e,z⟩
theorem Inv.lstUpd{p:WS}{ys:List V}{its':List WV}{n':Nat}{f:Ze->Ze}(I:Inv X U Z H s)(h:H p=some (.lst xs))
 (ho:s.heap.get? p=some {cls:=.type "list",data:=.seq its.toArray n}) (hf:f {cls:=.type "list",data:=.seq its.toArray n}={cls:=.type "list",data:=.seq its'.toArray n'}) (r:Vals ys its') (hz:ys.length<=Xe) (t:Nat) :
 Inv X U Z (upd H p (.lst ys)) {s with heap:=s.heap.update p f,toks:=t}:=by
 have e:(s.heap.update p f).get? p=some {cls:=.type "list",data:=.seq its'.toArray n'}:=by
  rw[XN f ho (by rw[hf] <;> rfl),hf]
 refine I.write (x:=p) (e:=p) (by rw[h];trivial) (.inl rfl) (λb u hb q=>(XU _ _ (YQ hb)).trans q) ⟨_,e⟩ ?_;exact⟨hz,its',n',r,e⟩
def ab0:V->V->V->Hp->(Hp->Prop)->Prop:=λo i v H Q=>∃p xs k j,o=.ref p/\i=.int k/\H p=some (.lst xs)/\ixN xs.length k=some j/\Q (upd H p (.lst (xs.set j v)))
theorem set_list:acg X ab0:=by
 intro U s Z H o i v ov iv u Q I ro ri rv h;obtain⟨p,xs,k,j,rfl,rfl,hp,hj,q⟩:=h;cases ro;obtain⟨t,rfl⟩:=ri;obtain⟨its,n,r,ho,hz⟩:=I.lst hp;obtain⟨h1,h2,h3,h4⟩:=qp hj;have hl:=r.length;have hn:=fJ
 have I':Inv X U Z (upd H p (.lst (xs.set j v))) {s with heap:=s.heap.update p (Yh (·.setIfInBounds j u))} :=
  I.lstUpd hp ho (uz its n j u) (r.set rv j) (by rw[List.length_set];exact hz) s.toks
 by_cases h0:0<=k
 .have hk:k.toNat=j:=by
   rw[seqIndex_of h0 h4]at h1;exact Xm h1
  exact PySem.W.ki_setAt ho h0 (by omega) (by rw[W2,<-hl];exact h4) (by rw[hk];exact⟨_,I',q⟩)
 .have hk:(k+(its.toArray.size:Int)).toNat=j:=by
   rw[seqIndex_neg (by omega) h3]at h1;rw[W2,<-hl];exact Xm h1
  exact PySem.W.ki_setBack ho (by omega) (by rw[W2,<-hl];exact h3) (by omega) (by rw[hk];exact⟨_,I',q⟩)
theorem qG(lo hi:Option Int)(n:Nat):(sliceBounds lo hi none n).1=((z! n 0 lo:Nat):Int)/\(sliceBounds lo hi none n).2.1=((z! n n hi:Nat):Int)/\(sliceBounds lo hi none n).2.2=1:=by
 refine⟨?_,?_,rfl⟩
 .cases lo with
  |none=>simp[sliceBounds,z!]
  | some i =>
    simp only[sliceBounds,z!,Option.getD_none,show(1:Int) > 0 by decide,if_true];by_cases h:i<0
    .simp only[h,if_true] <;> omega
    .simp only[h,if_false] <;> omega
 .cases hi with
  |none=>simp[sliceBounds,z!]
  | some i =>
    simp only[sliceBounds,z!,Option.getD_none,show(1:Int) > 0 by decide,if_true];by_cases h:i<0
    .simp only[h,if_true] <;> omega
    .simp only[h,if_false] <;> omega
theorem oC(its:List WV)(lo hi:Option Int):slicePick its.toArray lo hi none=((its.drop (z! its.length 0 lo)).take (z! its.length its.length hi - z! its.length 0 lo)).toArray:=by
 obtain⟨h1,h2,h3⟩:=qG lo hi its.toArray.size;unfold slicePick;rw[h1,h2,h3];simp only[sliceRange_one,pick_run,W2] <;> rfl
inductive aaW(K:WQ)(x:V)(lo:Option Int)(hi:Option Int)(H:Hp)(Q:VK):Prop
 |mk (a:_) (xs:_) (An:x=.ref a) (Ao:SqL K H a xs) (Au:∀p,H p=none->Q (.ref p) (upd H p (.lst (gB xs lo hi)))):aaW K x lo hi H Q
def ade(K:WQ):V->Option Int->Option Int->Hp->VK->Prop:=aaW K
theorem zp:SlR X (ade X.K):=by
 intro U s Z H x v vl vu lo hi sl Q I rx hs pl pu h;obtain⟨a,xs,rfl,hx,q⟩:=h;cases rx;obtain⟨its,r,ht,hz⟩:=I.list hx;have hlen:=r.length;refine⟨"list",_,slot_list_getitem.lookup,ht.isList.typeIs,?_⟩;refine wpAny_getItem_list_slice ht.isList hs pl pu .none (by simp) ?_ (by rw[W2] <;> omega);rw[oC,<-hlen];refine⟨.ref s.heap.objs.size,_,I.laid (t':=s.toks) (o:=.lst (gB xs lo hi)) (λb ob q=>WW _ q) (WY _) ?_,rfl,q _ (I.hok.fresh (WY _))⟩;exact⟨Xv (ld xs lo hi) hz,_,0,(r.drop (z! xs.length 0 lo)).take (z! xs.length xs.length hi - z! xs.length 0 lo),W4 _ rfl⟩
inductive aaK(K:WQ)(xs:List V)(H:Hp)(Q:VK):Prop
 |mk (p:WS) (ys:List V) (An:xs=[.ref p]) (Ao:SqL K H p ys\/SqT K H p ys) (Au:Q (.int ys.length) H):aaK K xs H Q
theorem aA:eQ X (.builtin "len") (aaK X.K):=by
 intro U s Z H xs us Q I r h;obtain⟨p,ys,rfl,hq,q⟩:=h;obtain⟨u,rfl,rx⟩:=vals1 r;cases rx;have hn:=fJ;rcases hq with hq|hq
 .obtain⟨its,r',pl,hz⟩:=I.list hq;have hlen:=r'.length;exact Calls.call_len_list pl.isList (by simp only[W2] <;> omega) ⟨.int ys.length,H,I.tok _,⟨s.toks+1,by rw[W2,hlen]⟩,q⟩
 .obtain⟨its,r',pl,hz⟩:=I.tuple hq;have hlen:=r'.length;exact len_tuple pl (by simp only[W2] <;> omega) ⟨.int ys.length,H,I.tok _,⟨s.toks+1,by rw[W2,hlen]⟩,q⟩
theorem p5:eQ X (.type "list") (λxs H Q=>∃p ys,xs=[.ref p]/\(SqL X.K H p ys\/SqT X.K H p ys)/\∀l,H l=none->Q (.ref l) (upd H l (.lst ys))):=by
 intro U s Z H xs us Q I r h;obtain⟨p,ys,rfl,hq,q⟩:=h;obtain⟨u,rfl,rx⟩:=vals1 r;cases rx
 have fin:∀(its:List WV),Vals ys its->ys.length<=Xe->∀(h':X7)(c':Nat),(∀b o',s.heap.get? b=some o'->h'.get? b=some o') ->
  h'.get? s.heap.objs.size=some {cls:=.type "list",dict:=none,data:=.seq its.toArray c',slots:=#[]}->EP X U Z Q (.ref s.heap.objs.size) {s with heap:=h'}:=λits r' hz h' c' kp e =>
  ⟨.ref s.heap.objs.size,_,I.laid (t':=s.toks) kp (WY _) (show ObjOk X.prog X.w _ h' _ (.lst ys)from⟨hz,its,c',r',e⟩),rfl,q _ (I.hok.fresh (WY _))⟩
 rcases hq with hq|hq
 .obtain⟨its,r',pl,hz⟩:=I.list hq;have hlen:=r'.length;obtain⟨o,ho,hc,n,hd⟩:=pl.isList;exact call_list_seq p (.inl rfl) ho hc hd (λh' c' kp e=>fin its r' hz h' c' kp e) (by simp only[W2] <;> omega)
 .obtain⟨its,r',pl,hz⟩:=I.tuple hq;have hlen:=r'.length;obtain⟨o,ho,hc,n,hd⟩:=pl;exact call_list_seq p (.inr rfl) ho hc hd (λh' c' kp e=>fin its r' hz h' c' kp e) (by simp only[W2] <;> omega)
theorem ba:eQ X (.type "tuple") (λxs H Q=>∃p ys,xs=[.ref p]/\((SqL X.K H p ys/\∀l,H l=none->Q (.ref l) (upd H l (.tup ys)))\/(SqT X.K H p ys/\Q (.ref p) H))):=by
 intro U s Z H xs us Q I r h;obtain⟨p,ys,rfl,h⟩:=h;obtain⟨u,rfl,rx⟩:=vals1 r;cases rx;rcases h with⟨hq,q⟩|⟨hq,q⟩
 .obtain⟨its,r',pl,hz⟩:=I.list hq;have hlen:=r'.length;refine call_tuple_list pl.isList (λh' kp=>?_) (by simp only[W2] <;> omega);have I1:Inv X U Z H {s with heap:=h'}:=I.kept (t':=s.toks) kp
  have I2:Inv X U Z (upd H h'.objs.size (.tup ys)) {s with heap:=h'.push {cls:=.type "tuple",data:=.seq its.toArray}} :=
   I1.laid (t':=s.toks) (λb o e=>WW _ e) (WY _) (show ObjOk X.prog X.w _ _ _ (.tup ys)from⟨hz,its,0,r',W4 _ rfl⟩)
  exact⟨.ref h'.objs.size,_,I2,rfl,q _ (I1.hok.fresh (WY _))⟩
 .obtain⟨its,r',pl,hz⟩:=I.tuple hq;exact call_tuple_same pl ⟨.ref p,H,I,rfl,q⟩
def tyV(K:WQ)(T:String)(x:V)(H:Hp):Prop:=match x with
 |.str _=>T="str"
 |.int _=>T="int"
 |.ref p=>(T="list"/\∃xs,SqL K H p xs)\/(T="tuple"/\∃o,K.lookup p=some o/\o.cls=.type "tuple"/\o.dict=none) \/
  (T="dict"/\((∃f',H p=some (.dK f'))\/∃f',H p=some (.dT f')))\/(T="set"/\∃S n,H p=some (.set S n))
 |_=>False
theorem xk{T:String}{x:V}{v:WV}(I:Inv X U Z H s)(r:RelV x v)(ty:tyV X.K T x H) :
 s.TypeIs v T/\∀a,v=.ref a->∃ob,s.heap.get? a=some ob/\ob.dict=none:=by
 cases x with
 | str z =>
   obtain⟨t,rfl⟩:=r;cases(show T="str" from ty);exact⟨typeIs_str s z t,λ_ e=>nomatch e⟩
 | int i =>
   obtain⟨t,rfl⟩:=r;cases(show T="int" from ty);exact⟨typeIs_int s i t,λ_ e=>nomatch e⟩
 | ref p =>
   cases r;rcases ty with⟨rfl,xs,hq⟩|⟨rfl,o,hk,hc,hd⟩|⟨rfl,hk⟩|⟨rfl,S,n,hk⟩
   .obtain⟨its,_,pl,_⟩:=I.list hq;refine⟨pl.isList.typeIs,λa e=>?_⟩;cases e;obtain⟨o,n,e,c,hd,_⟩:=pl;exact⟨o,e,hd⟩
   .refine⟨⟨o,I.kIn p o hk,hc⟩,λa e=>?_⟩;cases e;exact⟨o,I.kIn _ o hk,hd⟩
   .have z:∃o,s.heap.get? p=some o/\o.ExactDict:=by
     rcases hk with⟨f',hk⟩|⟨f',hk⟩
     .obtain⟨_,_,_,_,o,_,_,e,ex,_⟩:=I.hok p _ hk;exact⟨o,e,ex⟩
     .obtain⟨_,_,_,_,o,_,_,e,ex,_⟩:=I.hok p _ hk;exact⟨o,e,ex⟩
    obtain⟨o,e,ex⟩:=z;refine⟨⟨o,e,ex.1⟩,λa e2=>?_⟩;cases e2;exact⟨o,e,ex.2.1⟩
   .obtain⟨o,_,_,_,e,ex,_⟩:=I.hok p _ hk;refine⟨⟨o,e,ex.1⟩,λa e2=>?_⟩;cases e2;exact⟨o,e,ex.2.1⟩
 |_=>exact YE ty
def acx(K:WQ)(T:String)(r:V->List V->Hp->VK->Prop)(to:TE):TE:=λZ H Q=>to Z H λx H1=>tyV K T x H1/\r x [] H1 Q
def tBM(K:WQ)(T:String)(r:V->List V->Hp->VK->Prop)(to:TE)(t:TA):TE:=λZ H Q=>to Z H λx H1=>tyV K T x H1/\t Z H1 λxs H2=>r x xs H2 Q
variable{o:X8}{to:TE}{t:TA}{name:Xk}{apos Aw:Z9}{T id:String}{r:V->List V->Hp->VK->Prop}
theorem kJ(pa:PlainAttrs T)(slot:Slot T name id)(Jd:typeOf (.builtin id)=pure (.type "method_descriptor"))(hm:MtR X id r)(ho:PE X o to)
 (BH:attributeBase o name X.env (Y3 o X.env)=Y3 o X.env:=by rfl) (CB:(apos.endLine == Aw.line)=true:=by rfl):PE X (.Call (.Attribute o name apos) [] [] Aw) (acx X.K T r to):=by
 intro U s Z H Q I h;refine wpAny_Call_method0_late BH CB (thn (ho U s Z H _ I h) λv s1⟨x,H1,I1,r1,ty,q1⟩=>?_);obtain⟨h1,h2⟩:=xk I1 r1 ty;exact⟨T,id,pa,slot,Jd,h1,h2,Calls.callWith_builtin rfl (PySem.evalArgs_none (hm U s1 Z H1 x [] v [] Q I1 r1 .nil q1))⟩
theorem bS(pa:PlainAttrs T)(slot:Slot T name id)(Jd:typeOf (.builtin id)=pure (.type "method_descriptor"))(hm:MtR X id r)(ho:PE X o to)(ha:PA X (e::es) t)
 (BH:attributeBase o name X.env (Y3 o X.env)=Y3 o X.env:=by rfl)
 (GL:((Z4 Aw (XE (e::es) X.env)).all (λx=>!x.1) && (backToKw Aw (keywordEach [] X.env)).all (λx=>x.1.isSome)
  && decide ((e::es).length+([]:List Keyword).length+(if([]:List Keyword).isEmpty then 0 else 1)<30))=true:=by rfl)
 (CB:(apos.endLine == Aw.line)=true:=by rfl) (hs:XE (e::es) X.env=(false,Y3 e X.env)::XE es X.env:=by rfl) (BI:(Z4 Aw (XE es X.env)).any (·.1)=false:=by rfl) :
 PE X (.Call (.Attribute o name apos) (e::es) [] Aw) (tBM X.K T r to t):=by
 intro U s Z H Q I h;refine wpAny_Call_method_late BH GL CB rfl (thn (ho U s Z H _ I h) λv s1⟨x,H1,I1,r1,ty,q1⟩=>?_);obtain⟨h1,h2⟩:=xk I1 r1 ty;refine⟨T,id,pa,slot,Jd,h1,h2,?_⟩;have hA:=ha Aw U s1 Z H1 _ I1 q1;rw[hs]at hA |-;refine Calls.callWith_builtin (by show(false ||(Z4 Aw (XE es X.env)).any (·.1))=false;rw[BI] <;> rfl) (Calls.evalArgs_plain ?_);exact thn hA λus s2⟨vs,H2,I2,r2,q2⟩=>hm U s2 Z H2 x vs v us Q I2 r1 r2 q2
end
def MtM(X:Cx)(id:String)(r:V->List V->Hp->VK->Prop):Prop :=
 ∀(U:List (WS×Ze))(s:WZ)(Z:St)(H:Hp)(x:V)(xs:List V)(v:WV)(us:List WV)(Q:VK),Inv X U Z H s->RelV x v->Vals xs us->r x xs H Q ->
   Xa (Xu X.prog X.w) X.A (call (.builtin id) (v::us)) (EP X U Z Q) X.xe s
theorem Vals.one:∀{x:V}{us:List WV},Vals [x] us->∃u,us=[u]/\RelV x u
 |_,_,.cons r .nil=>⟨_,rfl,r⟩
theorem Vals.zero:∀{us:List WV},Vals [] us->us=[]
 |_,.nil=>rfl
theorem Vals.dropLast(h:Vals xs us):Vals xs.dropLast us.dropLast:=by
 induction h with
 |nil=>exact .nil
 | cons r t ih =>
   cases t with
   |nil=>exact .nil
   |cons q t'=>exact .cons r ih
theorem Vals.reverse(h:Vals xs us):Vals xs.reverse us.reverse:=by
 induction h with
 |nil=>exact .nil
 |cons r t ih=>rw[X9,X9];exact Vals.append ih (.cons r .nil)
theorem uo(l:List α):l.eraseIdx (l.length - 1)=l.dropLast:=by
 induction l with
 |nil=>rfl
 | cons a r ih =>
   cases r with
   |nil=>rfl
   | cons b r =>
     have e:(a::b::r).length - 1=((b::r).length - 1)+1:=by
      have h1:(a::b::r).length=r.length+2:=rfl;have h2:(b::r).length=r.length+1:=rfl;omega
     rw[e,List.eraseIdx_cons_succ,ih]
     all_goals rfl
section
variable{l:WS}{ys zs:List V}
theorem Inv.lset{its':List WV}{f:Array WV->Array WV}(I:Inv X U Z H s)(hH:H l=some (.lst xs))
 (e:s.heap.get? l=some {cls:=.type "list",data:=.seq its.toArray n}) (hf:f its.toArray=its'.toArray) (hv:Vals ys its') (hz:ys.length<=Xe) :
 Inv X U Z (upd H l (.lst ys)) {s with heap:=s.heap.update l (Yh f),toks:=t'}:=by
 have q:=PySem.IsL.update e f;rw[hf]at q;refine I.write (x:=l) (e:=l) (by rw[hH];exact trivial) (.inl rfl) (λb' u hb hu=>(XU s.heap (Yh f) (YQ hb)).trans hu) ⟨_,q⟩ ?_;exact⟨hz,its',_,hv,q⟩
theorem Inv.lnew(I:Inv X U Z H s)(hv:Vals ys its)(hz:ys.length<=Xe) :
 Inv X U Z (upd H s.heap.objs.size (.lst ys)) {s with heap:=s.heap.push {cls:=.type "list",data:=.seq its.toArray},toks:=t'} :=
 I.laid (λ_ _ q=>WW _ q) (WY _) ⟨hz,its,0,hv,W4 _ rfl⟩
theorem Inv.fresh(I:Inv X U Z H s):H s.heap.objs.size=none:=I.hok.fresh (WY _)
theorem Inv.lstM(I:Inv X U Z H s)(hH:H l=some (.lst xs)):xs.length<=Xe/\∃(its:List WV)(n:Nat),Vals xs its/\xs.length=its.length/\s.heap.get? l=some {cls:=.type "list",data:=.seq its.toArray n}:=by
 obtain⟨z,its,n,r,e⟩:=I.hok l _ hH;exact⟨z,its,n,r,r.length,e⟩
theorem m4(h:n<=Xe):Zr n=false:=by
 unfold Zr;exact c! (by omega)
end
inductive rS(x:V)(vs:List V)(H:Hp)(Q:VK):Prop
 |mk (l:_) (xs:_) (y:_) (An:x=.ref l) (Ao:vs=[y]) (Au:H l=some (.lst xs)) (AD:xs.length<Xe) (AR:Q .non (upd H l (.lst (xs++[y])))):rS  x vs H Q
def wa:V->List V->Hp->VK->Prop:=rS
theorem aS:MtM X "list.append" wa:=by
 intro U s Z H x vs v us Q I rx rv h;obtain⟨l,xs,y,rfl,rfl,hH,hz,q⟩:=h;cases rx;obtain⟨u,rfl,ru⟩:=rv.one;obtain⟨z,its,n,r,hl,e⟩:=I.lstM hH;refine call_meets F.slot_list_append ⟨_,e,rfl⟩ F.entry_list_append (F.args_list_append_2 _ _) (PySem.list_append l its.toArray n u (by rw[W2];omega)) ⟨e,?_⟩;refine⟨.non,_,I.lset (its':=its++[u]) hH e (by simp) (r.append (.cons ru .nil)) ?_,rfl,q⟩;rw[Xg,List.length_singleton];omega
inductive tm(x:V)(vs:List V)(H:Hp)(Q:VK):Prop
 |mk (l:_) (b:_) (xs:_) (zs:_) (An:x=.ref l) (Ao:vs=[.ref b]) (Au:H l=some (.lst xs)) (AD:H b=some (.lst zs)) (AR:xs.length+zs.length<=Xe) (BX:Q .non (upd H l (.lst (xs++zs)))):tm  x vs H Q
def zD:V->List V->Hp->VK->Prop:=tm
theorem ig:MtM X "list.extend" zD:=by
 intro U s Z H x vs v us Q I rx rv h;obtain⟨l,b,xs,zs,rfl,rfl,hH,hB,hz,q⟩:=h;cases rx;obtain⟨u,rfl,ru⟩:=rv.one;cases ru;obtain⟨z,its,n,r,hl,e⟩:=I.lstM hH;obtain⟨z2,Ah,n2,r2,Bl,e2⟩:=I.lstM hB;have hsz:its.toArray.size+Ah.toArray.size<=Xe:=by rw[W2,W2];omega
 have Ed:¬(!its.toArray.isEmpty && Zr (its.toArray.size+Ah.toArray.size))=true:=by
  rw[m4 hsz,Bool.and_false];exact W8
 refine call_meets F.slot_list_extend ⟨_,e,rfl⟩ F.entry_list_extend (F.args_list_extend_2 _ _)
  (AutoSeq1.list_extend_list_list_0 l its.toArray n b Ah.toArray n2 Ed (by rw[W2];omega) (by omega)) ⟨e,e2,?_⟩
 refine⟨.non,_,I.lset (its':=its++Ah) hH e (by simp) (r.append r2) ?_,rfl,q⟩;rw[Xg];omega
inductive aaH(x:V)(vs:List V)(H:Hp)(Q:VK):Prop
 |mk (l:_) (xs:_) (y:_) (An:x=.ref l) (Ao:vs=[]) (Au:H l=some (.lst xs)) (AD:xs[xs.length - 1]?=some y) (AR:Q y (upd H l (.lst xs.dropLast))):aaH  x vs H Q
def acs:V->List V->Hp->VK->Prop:=aaH
theorem jZ:MtM X "list.pop" acs:=by
 intro U s Z H x vs v us Q I rx rv h;obtain⟨l,xs,y,rfl,rfl,hH,hy,q⟩:=h;cases rx;have Fb:=rv.zero;subst Fb;obtain⟨z,its,n,r,hl,e⟩:=I.lstM hH;obtain⟨u,hu,ru⟩:=r.get hy
 have Ee:its.toArray[its.toArray.size - 1]?=some u:=by
  show its.toArray[its.length - 1]?=some u;rw[<-Array.getElem?_toList,<-hl];exact hu
 refine call_meets F.slot_list_pop ⟨_,e,rfl⟩ F.entry_list_pop (F.args_list_pop_1 _) (MeetsSeq.list_pop_last l its.toArray n u Ee (by rw[W2];omega)) ⟨e,?_⟩;refine⟨y,_,I.lset (its':=its.dropLast) hH e ?_ r.dropLast ?_,ru,q⟩
 .show its.toArray.eraseIdxIfInBounds (its.toArray.size - 1)=its.dropLast.toArray;rw[W2,List.eraseIdxIfInBounds_toArray,uo]
 .rw[List.length_dropLast];omega
inductive aa2(x:V)(y:V)(H:Hp)(Q:VK):Prop
 |mk (l:_) (b:_) (xs:_) (zs:_) (An:x=.ref l) (Ao:y=.ref b) (Au:H l=some (.lst xs)) (AD:H b=some (.lst zs)) (AR:xs.length+zs.length<=Xe) (BX:∀p,H p=none->Q (.ref p) (upd H p (.lst (xs++zs)))):aa2  x y H Q
def acX:R2:=aa2
theorem abM:OpR X (binaryOp .Add) acX:=by
 intro U s Z H x y v u Q I rx ry h;obtain⟨l,b,xs,zs,rfl,rfl,hH,hB,hz,q⟩:=h;cases rx;cases ry;obtain⟨z,its,n,r,hl,e⟩:=I.lstM hH;obtain⟨z2,Ah,n2,r2,Bl,e2⟩:=I.lstM hB;refine PySem.P.add_list e e2 ?_ (by rw[W2,W2];omega);have ea:its.toArray++Ah.toArray=(its++Ah).toArray:=by simp
 rw[ea];exact⟨.ref _,_,I.lnew (t':=s.toks) (r.append r2) (by rw[Xg];omega),rfl,q _ I.fresh⟩
end L2
namespace Att
open PySem PySem.W PySem.Calls PyProof.Rows
theorem ints_of_wellAll{P:Params}:∀(ns:List Int)(vs:List WV),WellAll P h vs (ns.map WData.int)->IntsAre vs ns:=by
 intro ns;induction ns with
 | nil =>
   intro vs w;rw[Zb]at w;cases w;exact .nil
 | cons n ns ih =>
   intro vs w;rw[XB]at w;cases w with
   | cons a b =>
     cases a;exact .cons _ _ (ih _ b)
theorem script_of{l:OpenLaw}(hn:l.most=some n){P:Params}{args:List WData}{vals:List WV}
 (Dd:l.row.toRowW.claim.pre args=true) (Ef:WellAll P h vals args) :
 ∃a vs ns,vals=[Xl a]/\args=[WData.list (ns.map WData.int)]/\h.get? a=some {cls:=.type "list",data:=.seq vs.toArray}/\IntsAre vs ns/\ns.length<=n:=by
 have T4:WShape.hasAll [] args [.list .int]=true:=(pre_splitW Dd).1;have hc:l.pre.holds [] {args:=args}=true:=(pre_splitW Dd).2;obtain⟨d,r,rfl,h1,h2⟩:=hasAllW_cons T4;obtain rfl:=hasAllW_nil h2;obtain⟨xs,rfl,h3⟩:=hasW_list h1;obtain⟨ns,rfl⟩:=items_int h3
 have hlen:ns.length<=n:=by
  unfold OpenLaw.pre at hc
  have h4:(WTm.not (.lt (.lit (.int (n:Int))) (.len (.arg 0)))).holds [] {args:=[.list (ns.map .int)]}=true:=by
   have h4:=(holds_andW hc).1;rw[hn]at h4;exact h4
  have h5:=condW_of h4 (w_not (w_lt w_lit (w_len_list (w_arg rfl))));rw[WO]at h5;refine Nat.le_of_not_lt λq=>?_;have q':(n:Int)<((ns.length:Nat):Int):=by omega
  first
   |(rw[d! q']at h5;exact g! h5 (by decide))
   |(simp at h5;omega)
 cases Ef with
 | cons w1 w2 =>
   cases w2;cases w1 with
   |list ho Aa=>exact⟨_,_,ns,rfl,rfl,ho,ints_of_wellAll ns _ Aa,hlen⟩
theorem post_true(l:OpenLaw)(args:List WData):l.row.toRowW.claim.post args (.bool true) args=true :=
 postW_of (r:=l.row.toRowW) (X:=(true == true))
  (show WShape.has [] (.bool true) .bool=true by first|rfl|decide|simp[WShape.has,WShape.arms,WShape.armsAll])
  (show(WTm.eq .res (.lit (.bool true))).value [] {args:=args,res:=some (.bool true),after:=args}=some (.bool (true == true))from w_eq_bool (w_res rfl) w_lit) rfl
theorem attach_call{l:OpenLaw}{q:W6}{d:DefRec}
 (hn:l.most=some n) (Je:d.params.defaults=[])
 (call:∀(w:Xj)(s₀ Ac:WZ)(mg mb:Xk->Option WV)(fa:WS)(o:Ze)(pm cd doc:WV)(a:WS)(vs:List WV)(ns:List Int),
  Ground q loose [] XP w s₀ mg mb Ac.heap->YP w Ac.heap ->
  Ac.heap.get? fa=some o->o.data=.func (docDef d.name d.params d.body d.scope pm cd doc)->Ac.heap.CodeRec cd d.name->mg d.name=some (.ref fa) ->
  Ac.heap.get? a=some {cls:=.type "list",data:=.seq vs.toArray}->IntsAre vs ns->ns.length<=n->Ac.gens=#[] ->
  codeAny (Xu l.prog w) callerA (.call (.ref fa) ⟨[.ref a],[]⟩) (λr s'=>r=.ok (.ret (.bool true))/\OldK Ac.heap s'.heap/\s'.os=Ac.os/\AllBare s'.gens) Ac) :
 WalkO q loose XP YP l.row.toRowW d [] (λf vs=>PySem.call f vs):=by
 intro w s₀ Ac mg mb G Y fa o pm cd doc dV kV ho hd Cg hD Jf hg args vals as Dd T5 hrd Ef hlo;obtain rfl:dV=.none:=Dflts.none hD Je;obtain rfl:kV=.none:=Dflts.noKw hD;obtain⟨a,vs,ns,rfl,rfl,GN,hints,hlen⟩:=script_of hn Dd Ef;refine enter_call (codeAny_mono (call w s₀ Ac mg mb fa o pm cd doc a vs ns G Y ho (fd_plain hd) Cg Jf GN hints hlen hg) λr s' hq=>?_);obtain⟨rfl,h2,h3,h4⟩:=hq;exact⟨.inl ⟨.bool true,.bool true,[],rfl,λ_=>rfl,.bool true,post_true l _,λ_=>⟨List.Pairwise.nil,λ_ hm=>(nomatch hm)⟩⟩,h2,h3,h4⟩
section
variable{K:Frag}
end
end Att
namespace L2
open PySem PySem.Spec PyProof.Rows
theorem pK:∀{vs:List WV}{ns:List Int},IntsAre vs ns->Vals (ns.map q!) vs
 |_,_,.nil=>.nil
 |_,_,.cons n t h=>.cons ⟨t,rfl⟩ (pK h)
def inClass(s:Yz)(j:Nat):Yz:=match s with
 |.ClassDef _ _ _ body _ _ _ _ _ _ _=>body.getD j (.Pass ⟨0,0,0,0⟩)
 |_=>.Pass ⟨0,0,0,0⟩
def bp(s:Yz):Arguments:=match s with
 |.FunctionDef _ a _ _ _ _ _ _ _ _=>a
 |_=>{posonlyargs:=[],args:=[],vararg:=none,kwonlyargs:=[],kw_defaults:=[],kwarg:=none,defaults:=[]}
def be(s:Yz):List Yz:=match s with
 |.FunctionDef _ _ b _ _ _ _ _ _ _=>b
 |_=>[]
def ag(s:Yz):Z7:=match s with
 |.FunctionDef _ _ _ _ _ _ sc _ _ _=>sc
 |_=>{kind:=.function,names:=[],isGenerator:=false,isCoroutine:=false}
abbrev CX0:CXT:=λ_ _ _ _ _ _=>False
abbrev E0:XK:=λ_ _ _=>False
theorem gx:Passes CX0 X E0:=λ_ _ _ _ _ _ _ h=>h.elim
structure Fun(K:WQ)(x qual:Xk)(st:Yz)(f:WS)(fd:Zl):Prop where
 ex:∃(oc:WV)(od:Option WS)(kV doc pm:WV)(an:Option WS)(Ai ct:WV)(ET:Array (Option WV)),
  fd=Y0 x qual (bp st) (be st) (ag st) .none kV doc pm an Ai ct/\K.lookup f=some ⟨oc,od,.func fd,ET⟩/\Z8 K Ai qual=true
 kp:YX K (.ref f)=true
theorem Fun.ok{st:Yz}{k:Nat}(F:Fun K x qual st f fd)(S:ao N ps (ag st))(len:∀vs H Q E,sp vs H Q E->vs.length=ps.length)
 (Bc:∀(Ai:WV)(A:XF)(outer:List Env)(s:WZ)(H:Hp)(vs:List V)(Q:VK)(E:XK),Room k (A.deeper (envOfC qual (ag st) s.heap.objs.size f Ai))->sp vs H Q E ->
  ∃t,PSs (tq CX0 P w K mg base N qual (ag st) f Ai A outer s H E).nox (be st) t/\t {nx:=λ_ H'=>Q .non H',rt:=Q} (start N vs) H):aO P w K mg base CX0 (k+1) f fd ps sp:=by
 obtain⟨oc,od,kV,doc,pm,an,Ai,ct,ET,rfl,lk,Cg⟩:=F.ex;refine aaU lk Cg S len λA outer s H vs Q E hr CW=>?_;obtain⟨t,h,q⟩:=Bc Ai A outer s H vs Q E hr CW;exact⟨t,h.nox,q⟩
theorem Fun.okA{st:Yz}{k:Nat}(F:Fun K x qual st f fd)(S:ao N ps (ag st))
 (Bc:∀(Ai:WV)(A:XF)(outer:List Env)(s:WZ)(H:Hp)(vs:List V)(Q:VK)(E:XK),Room k (A.deeper (envOfC qual (ag st) s.heap.objs.size f Ai))->sp vs H Q E ->
  ∃t,PSs (tq CX0 P w K mg base N qual (ag st) f Ai A outer s H E).nox (be st) t/\t {nx:=λ_ H'=>Q .non H',rt:=Q} (start N vs) H) (len:∀vs H Q E,sp vs H Q E->vs.length=ps.length:=by intro _ _ _ _ h;cases h;subst_vars;rfl):aO P w K mg base CX0 (k+1) f fd ps sp:=F.ok S len Bc
theorem pgN(i:Nat)(hN:X.N.Nodup)(hi:X.N[i]?=some x:=by rfl)(hx:Loc X.env.scope x:=by first|exact .inl rfl|exact .inr rfl)(hf:X.fn x=true\/X.env.scope.names.lookup x=some .local:=by first|exact .inl rfl|exact .inr rfl|assumption):PG X (.Name x pos) (aq i):=aaq hN hi hx hf
theorem au(i:Nat)(hN:X.N.Nodup)(he:PE X e te)(hi:X.N[i]?=some x:=by rfl)(hx:Loc X.env.scope x:=by first|exact .inl rfl|exact .inr rfl)(hs:swapsWith e (some (.Name x pos')) pos.line X.env=pure false:=by rfl)(hf:X.fn x=true\/X.env.scope.names.lookup x=some .local:=by first|exact .inl rfl|exact .inr rfl|assumption):PS X (.Assign [.Name x pos'] e pos) (xU te (aq i)):=xy hN hi hx he hs hf
theorem Fun.binds{st:Yz}(F:Fun K x qual st f fd)
 (h:∀(kV doc pm:WV)(an:Option WS)(Ai ct:WV)(us:List WV),us.length=ps.length->bindArgs (Y0 x qual (bp st) (be st) (ag st) .none kV doc pm an Ai ct) ⟨us,[]⟩=pure (ps.zip us)):Binds K fd ps []:=by
 obtain⟨oc,od,kV,doc,pm,an,Ai,ct,ET,rfl,lk,Cg⟩:=F.ex;exact .all (h kV doc pm an Ai ct)
theorem cJ{st:Yz}{an:Option WS}{ET:Array (Option WV)}{kV doc pm Ai ct:WV}(l:K.lookup f=some ⟨oc,od,.func (Y0 x qual (bp st) (be st) (ag st) .none kV doc pm an Ai ct),ET⟩)
 (c:Z8 K Ai qual=true) (k:YX K (.ref f)=true):Fun K x qual st f (Y0 x qual (bp st) (be st) (ag st) .none kV doc pm an Ai ct):=⟨⟨oc,od,kV,doc,pm,an,Ai,ct,ET,rfl,l,c⟩,k⟩
theorem lA{k:Nat}(hr:Room k A):A.units+1<YM:=Nat.lt_of_le_of_lt (Nat.add_le_add_left (by decide:1<=64) _) hr.units
theorem pv(i:Nat)(hN:X.N[i]?=some x:=by rfl)(hv:Vis X.env.scope x:=by first|exact Or.inl rfl|exact Or.inr (Or.inl rfl)|exact Or.inr (Or.inr rfl))(hd:(x == ("__debug__":Xk))=false:=by decide)
 (Cg:(x == ("__classdict__":Xk))=false:=by decide):PE X (.Name x pos) (aX i):=xj hN hv hd Cg
theorem zS{A B:Prop}(h:B):if false=true then A else B:=by
 rw[a! W8];exact h
theorem wC{A B:Prop}(h:A):if true=true then A else B:=by
 rw[b! rfl];exact h
theorem cT{c A B:Prop}[Decidable c](h1:c->A)(h2:¬c->B):if c then A else B:=by
 by_cases h:c
 .rw[b! h];exact h1 h
 .rw[a! h];exact h2 h
def Same(H H':Hp):Prop:=∀b o,H b=some o->H' b=some o
theorem Same.refl(H:Hp):Same H H:=λ_ _ h=>h
theorem Same.trans(a:Same H H1)(b:Same H1 H2):Same H H2:=λc o h=>b c o (a c o h)
theorem Same.free(e:Same H H'){l:WS}(h:H' l=Option.none):H l=Option.none:=by
 cases q:H l with
 |none=>rfl
 | some o =>
   rw[e l o q]at h;cases h
theorem Same.seq(e:Same H H')(h:SqL K H a xs):SqL K H' a xs:=by
 rcases h with(h|⟨o,h⟩)|h
 .exact .inl (.inl (e _ _ h))
 .exact .inl (.inr ⟨o,e _ _ h⟩)
 .exact .inr h
theorem i3(env:Env):∀(ns:List (Xk×ZA))(acc:List (Xk×WS)),(∀n,(n,Yy)∈ns->∃c,env.cells.lookup n=some c) ->
 (∀x c,acc.lookup x=some c->env.cells.lookup x=some c) ->
 ∃cl,(forIn ns acc λ(x:Xk×ZA)(cs:List (Xk×WS))=>(if(x.2 == Yy)=true then(do let a <-cellOf env x.1;pure (ZR ((x.1,a)::cs)))else pure (ZR cs):Sem _))=pure cl /\
   (∀x c,cl.lookup x=some c->env.cells.lookup x=some c)/\(∀n,(n,Yy)∈ns->∃c,cl.lookup n=some c)/\∀n c,acc.lookup n=some c->cl.lookup n=some c
 | [],acc,_,ha=>⟨acc,rfl,ha,λ_ h=>by simp at h,λ_ _ h=>h⟩
 | (n,k)::r,acc,hf,ha=>by
   by_cases hk:k=Yy
   .subst hk;obtain⟨c,hc⟩:=hf n Xh
    have DN:∀x c',((n,c)::acc).lookup x=some c'->env.cells.lookup x=some c':=λx c' e=>by
     rw[YK]at e;cases hx:x == n with
     | true =>
       rw[hx]at e;have e1:x=n:=by simpa using hx
       cases e;rw[e1];exact hc
     |false=>rw[hx]at e;exact ha x c' e
    obtain⟨cl,h1,h2,h3,h4⟩:=i3 env r ((n,c)::acc) (λm hm=>hf m (Xf _ hm)) DN;have up:∀m c',((n,c)::acc).lookup m=some c'->cl.lookup m=some c':=h4;refine⟨cl,?_,h2,?_,?_⟩
    .rw[List.forIn_cons];have e0:cellOf env n=pure c:=by unfold cellOf;rw[hc]
     simp only[beq_self_eq_true,if_true,e0,pure_bind];exact h1
    .intro m hm;rcases W9.mp hm with e|e
     .have:m=n:=by simpa using(Prod.mk.inj e).1
      subst this;exact⟨c,up m c (by rw[YK];simp)⟩
     .exact h3 m e
    .intro m c' e;by_cases hm:m=n
     .subst hm;have:=ha m c' e;rw[hc]at this;cases this;exact up m c (by rw[YK];simp)
     .have T6:(m == n)=false:=by simpa using hm
      exact up m c' (by rw[YK,T6];exact e)
   .have hb:(k == Yy)=false:=by simpa using hk
    obtain⟨cl,h1,h2,h3,h4⟩:=i3 env r acc (λm hm=>hf m (Xf _ hm)) ha;refine⟨cl,?_,h2,?_,h4⟩
    .rw[List.forIn_cons];simp only[hb,Yd,if_false,pure_bind];exact h1
    .intro m hm;rcases W9.mp hm with e|e
     .exact g! (Prod.mk.inj e).2.symm hk
     .exact h3 m e
theorem nb(hf:∀n,(n,Yy)∈sc.names->∃c,env.cells.lookup n=some c) :
 ∃cl,closureFor sc env=pure cl/\(∀x c,cl.lookup x=some c->env.cells.lookup x=some c)/\∀n,(n,Yy)∈sc.names->∃c,cl.lookup n=some c:=by
 obtain⟨cl,h1,h2,h3,_⟩:=i3 env sc.names [] hf (λx c e=>by simp at e);refine⟨cl,?_,h2,h3⟩;unfold closureFor;have e:(forIn sc.names ([]:List (Xk×WS)) λ(x:Xk×ZA)(cs:List (Xk×WS))=>(do if(x.2 == Yy)=true then(do let a <-cellOf env x.1;pure (ZR ((x.1,a)::cs)))else pure (ZR cs):Sem _))=pure cl:=h1
 first
  |(rw[show(forIn sc.names ([]:List (Xk×WS)) _:Sem _)=pure cl from h1];rfl)
  |(simp only[h1,pure_bind])
theorem nW{f:Xk×ZA->Xk×ZA}(hf:∀p,(f p).1=p.1):∀{l:List (Xk×ZA)}{x:Xk}{k:ZA},l.lookup x=some k->(l.map f).lookup x=some (f (x,k)).2
 | [],_,_,h=>by simp at h
 | (n,k0)::r,x,k,h=>by
   have ih:=@nW f hf r x k;rw[XB];obtain⟨a,b,e⟩:∃a b,f (n,k0)=(a,b):=⟨_,_,rfl⟩;have ea:a=n:=by have:=hf (n,k0);rw[e]at this;exact this
   subst ea;rw[e,YK];cases hx:x == a with
   | true =>
     rw[YK,hx]at h;cases h;have:x=a:=by simpa using hx
     subst this;rw[e]
   |false=>rw[YK,hx]at h;exact ih h
theorem fc{f:Xk×ZA->Xk×ZA}(hf:∀p,(f p).1=p.1):∀{l:List (Xk×ZA)}{x:Xk}{k:ZA},(l.map f).lookup x=some k->∃k0,(x,k0)∈l/\(f (x,k0)).2=k
 | [],_,_,h=>by simp at h
 | (n,k0)::r,x,k,h=>by
   have ih:=@fc f hf r x k;rw[XB]at h;obtain⟨a,b,e⟩:∃a b,f (n,k0)=(a,b):=⟨_,_,rfl⟩;have ea:a=n:=by have:=hf (n,k0);rw[e]at this;exact this
   subst ea;rw[e,YK]at h;cases hx:x == a with
   | true =>
     rw[hx]at h;cases h;have:x=a:=by simpa using hx
     subst this;exact⟨k0,Xh,by rw[e]⟩
   | false =>
     rw[hx]at h;obtain⟨k1,h1,h2⟩:=ih h;exact⟨k1,Xf _ h1,h2⟩
def rlb(env:Env)(p:Xk×ZA):Xk×ZA:=if(p.2 == Yy && env.scope.kind == .function && env.kindOf p.1 == some .cell)then(p.1,NameKind.cell)else(p.1,p.2)
theorem qD(env:Env)(p:Xk×ZA):(rlb env p).1=p.1:=by unfold rlb;split <;> rfl
theorem iB(sc:Z7)(env:Env):(relabel sc env).names=sc.names.map (rlb env):=rfl
theorem jm(h:sc.names.lookup x=some .free):(relabel sc env).names.lookup x=some .cell\/(relabel sc env).names.lookup x=some .free:=by
 rw[iB,nW (qD env) h];unfold rlb;split
 .exact .inl rfl
 .exact .inr rfl
theorem mw(hn:∀y∈sc.names,y.2≠NameKind.cell)(h:(relabel sc env).names.lookup x=some .cell\/(relabel sc env).names.lookup x=some .free):(x,Yy)∈sc.names:=by
 rw[iB]at h
 have:∃k0,(x,k0)∈sc.names/\((rlb env (x,k0)).2=.cell\/(rlb env (x,k0)).2=.free):=by
  rcases h with h|h
  .obtain⟨k0,a,b⟩:=fc (qD env) h;exact⟨k0,a,.inl b⟩
  .obtain⟨k0,a,b⟩:=fc (qD env) h;exact⟨k0,a,.inr b⟩
 obtain⟨k0,hm,hk⟩:=this;have nc:=hn _ hm;cases k0 with
 |free=>exact hm
 |cell=>exact g! rfl nc
 |_=>simp[rlb]at hk
def bV(X:Cx)(N:List Xk)(sc:Z7)(cl:List (Xk×WS))(C:WS)(s:WZ)(H:Hp)(fp:List WS)(U:List (WS×Ze)):Cx :=
 {X with N:=N,s₀:=s,H₀:=H,env:=compEnvC sc cl C X.env,outer:=X.stack,ex:=fp,fn:=λ_=>false,pn:=X.pn++U,xe:=λ_ _=>False}
def cσ(js:List (Option Nat))(Z:St):St:=js.map λo=>o.bind λj=>(Z[j]?).join
structure fC(X:Cx)(sc:Z7)(N:List Xk)(js:List (Option Nat)):Prop where
 kind:sc.kind=.function
 nocell:∀y∈sc.names,y.2≠NameKind.cell
 names:∀y∈sc.names,y.2=NameKind.local->sc.names.lookup y.1=some .local
 frees:∀y∈sc.names,y.2=Yy->X.env.kindOf y.1=some .cell\/X.env.kindOf y.1=some .free
 len:js.length=N.length
 slots:∀(i j:Nat)(x:Xk),js[i]?=some (some j)->N[i]?=some x->X.N[j]?=some x/\sc.names.lookup x=some .free/\(X.env.kindOf x=some .cell\/X.env.kindOf x=some .free)
theorem bY(k:sc.kind=.function)(nc:∀y∈sc.names,y.2≠NameKind.cell)(nm:∀y∈sc.names,y.2=NameKind.local->sc.names.lookup y.1=some .local)
 (fr:(sc.names.all λy=>y.2 != Yy ||X.env.kindOf y.1 == some NameKind.cell ||X.env.kindOf y.1 == some Yy)=true) (ln:js.length=N.length)
 (sl:((js.zip N).all λp=>match p.1 with|none=>true|some j=>X.N[j]? == some p.2 && sc.names.lookup p.2 == some Yy && (X.env.kindOf p.2 == some NameKind.cell ||X.env.kindOf p.2 == some Yy))=true):fC X sc N js:=by
 refine⟨k,nc,nm,λy hy hf=>?_,ln,λi j x e1 e2=>?_⟩
 .have h:=List.all_eq_true.mp fr y hy;rw[hf]at h;simpa using h
 .have hm:(some j,x)∈js.zip N:=by
   have:(js.zip N)[i]?=some (some j,x):=by rw[Zf];exact⟨e1,e2⟩
   exact WU this
  have h:=List.all_eq_true.mp sl _ hm;simp at h;exact⟨h.1.1,h.1.2,h.2⟩
def PTs(X:Cx)(ifs:List X8)(t:TT):Prop :=
 ∀(U:List (WS×Ze))(s:WZ)(Z:St)(H:Hp)(Q:Bool->Hp->Prop),Inv X U Z H s->t Z H Q ->
   Xa (Xu X.prog X.w) X.A (forIn ifs true λc r=>if r=true then do let ok <-isTrue c X.env (Y3 c X.env);pure (ZR ok)else pure (ZR r)) (TP X U Z Q) X.xe s
def bw:TT:=λ_ H Q=>Q true H
theorem bF:PTs X [] bw:=λ_ _ _ H _ I h=>wpAny_tests_nil ⟨H,I,h⟩
theorem fP{c:X8}{t:TT}(h:PT X c t):PTs X [c] t:=λU s Z H Q I q=>wpAny_tests_one (h U s Z H Q I q)
def Keep(Z Ab:St):Prop:=Z.length=Ab.length/\∀(i:Nat)(v:V),Z[i]?=some (some v)->Ab[i]?=some (some v)
def pH(js:List (Option Nat))(g:TG):Prop:=∀(Z B7:St)(x:V)(H:Hp)(Q:St->Hp->Prop),Keep (cσ js Z) B7->g x B7 H Q->g x B7 H λAz H2=>Keep (cσ js Z) Az/\Q Az H2
def qN(js:List (Option Nat))(g:TGs):Prop:=∀(Z B7:St)(x:List V)(H:Hp)(Q:St->Hp->Prop),Keep (cσ js Z) B7->g x B7 H Q->g x B7 H λAz H2=>Keep (cσ js Z) Az/\Q Az H2
theorem Keep.refl(Z:St):Keep Z Z:=⟨rfl,λ_ _ h=>h⟩
theorem aar(h:js[i]?=some none):(cσ js Z)[i]?=some none:=by
 unfold cσ;rw[W0,h];rfl
theorem aI(h:js[i]?=some none):pH js (aq i):=λZ B7 x H Q k q=>by
 refine⟨⟨by rw[List.length_set];exact k.1,λj v e=>?_⟩,q⟩;by_cases hj:i=j
 .subst hj;rw[aar h]at e;cases e
 .rw[List.getElem?_set_ne hj];exact k.2 j v e
theorem gN:qN js oM:=λZ B7 x H Q k⟨e,q⟩=>⟨e,k,q⟩
theorem bP{t:TG}{u:TGs}(mono:∀x Z H(Q Q':St->Hp->Prop),(∀a b,Q a b->Q' a b)->t x Z H Q->t x Z H Q')(h1:pH js t)(h2:qN js u):qN js (cW t u):=λZ B7 x H Q k⟨v,r,e,q⟩ =>
 ⟨v,r,e,mono _ _ _ _ _ (λa b⟨k',q'⟩=>h2 Z a r b Q k' q') (h1 Z B7 v H _ k q)⟩
theorem aY:∀x Z H(Q Q':St->Hp->Prop),(∀a b,Q a b->Q' a b)->aq i x Z H Q->aq i x Z H Q':=λ_ _ _ _ _ h q=>h _ _ q
theorem gG{t:TGs}(h:qN js t):pH js (oJ K n t):=λZ B7 x H Q k⟨a,xs,e,hs,hl,q⟩=>⟨a,xs,e,hs,hl,h Z B7 xs H Q k q⟩
def gX(js:List (Option Nat))(g:TG)(tt:TT)(te:TE)(Z:St)(J:It)(D:WS)(n:Nat)(W:Nat->Hp->Prop)(fin:Hp->Prop):Prop :=
 ∀i H,W i H->(J.stop i H/\fin H)\/(i<n/\J.go i H/\∀x H1,J.yld i H x H1->g x (cσ js Z) H1 λAz H2=>tt Az H2 λb H3 =>
   if b=true then te Az H3 λv H4=>∃ys,H4 D=some (.lst ys)/\ys.length<Xe/\W (i+1) (upd H4 D (.lst (ys++[v])))else W (i+1) H3)
def aa4(js:List (Option Nat))(wi:TI)(g:TG)(tt:TT)(te:TE):TE:=λZ H Q=>wi Z H λJ H1=>∀D,H1 D=none ->
 ∃(n:Nat)(W:Nat->Hp->Prop),W 0 (upd H1 D (.lst []))/\gX js g tt te Z J D n W λH'=>Q (.ref D) H'
theorem yE{h1:X7}(S:fC X sc N js)(I:Inv X U Z H s)
 (Bx:∀x c,cl.lookup x=some c->X.env.cells.lookup x=some c) (De:∀n,(n,Yy)∈sc.names->∃c,cl.lookup n=some c)
 (hf:∀b∈fp,km X U H b) (Am:∀b∈fp,b<s.heap.objs.size) (CC:h1.Ns s.heap.objs.size λx=>ZW x ([]:List (Xk×WV)))
 (CY:∀b o,s.heap.get? b=some o->h1.get? b=some o) :
 Inv (bV X N sc cl s.heap.objs.size s H fp U) [] (cσ js Z) H {s with heap:=h1,toks:=t'}:=by
 have hok:(bV X N sc cl s.heap.objs.size s H fp U).Ok :=
  { mod:=I.ok.mod
    kind:=S.kind
    glob:=I.ok.glob
    blt:=I.ok.blt
    above:=WY _
    inj:=λx y c a b=>I.ok.inj x y c (Bx x c a) (Bx y c b)
    has:=λx h=>De x (mw S.nocell h)
    cab:=λx c h=>by cases h
    hd:=I.ok.hd
    frames:=I.ok.frames
    stk:=.inl rfl
    exf:=λb hb=>⟨λe=>g! (Am b hb) (by rw[e];exact Ym _),λx c e z=>(hf b hb).2.2.2.2.1 x c (Bx x c e) z⟩
    bs:=I.bs
    bsz:=Xv I.ok.bsz I.sz
    noex:=λb o e hb=>by
     rcases(hf b hb).2.2.2.1 with h|h
     .exact I.ok.noex b o e h
     .exact g! (XI (XI (Xb e) I.ok.bsz) h) (Ym _)
    exfs:=λb hb hm=>by
     rcases W9.mp (I.stkSub b hm)with e|e
     .exact(hf b hb).2.1 e
     .exact(hf b hb).2.2.1 e
    funs:=I.stack
    frf:=I.stkFree }
 have hC:H s.heap.objs.size=none:=I.hok.fresh (WY _);obtain⟨m0,hn0,EU⟩:=I.loc
 exact
  { ok:=hok
    os:=rfl
    bare:=I.bare
    base:=Un.kept CY
    loc:=⟨_,CC,λi x v e1 e2 Rl=>by
     have Cq:∃j,js[i]?=some (some j)/\Z[j]?=some (some v):=by
      unfold cσ at e2;rw[W0]at e2;cases q:js[i]? with
      |none=>rw[q]at e2;cases e2
      | some o =>
        rw[q]at e2;cases o with
        |none=>cases e2
        | some j =>
          refine⟨j,rfl,?_⟩;have e3:(Z[j]?).join=some v:=Xm e2;cases r:Z[j]? with
          |none=>rw[r]at e3;cases e3
          |some z=>rw[r]at e3;exact h! some e3
     obtain⟨j,q1,q2⟩:=Cq;obtain⟨n1,n2,n3⟩:=S.slots i j x q1 e1;obtain⟨u,ru,look⟩:=EU j x v n1 q2 (by rcases n3 with z|z;exact .inr (.inl z);exact .inr (.inr z));refine⟨u,ru,.inr ⟨jm n2,?_⟩⟩;have hm:(x,Yy)∈sc.names:=mw (env:=X.env) S.nocell (jm n2);obtain⟨c,hc⟩:=De x hm;refine⟨c,hc,?_⟩;rcases look with⟨k1,_⟩|⟨_,c',AX,ic⟩
     .rcases n3 with z|z <;> (rw[k1]at z;cases z)
     .have:=Bx x c hc;rw[AX]at this;cases this;exact ic.keeps CY⟩
    cell:=λx c e=>by
     obtain⟨v,q⟩:=I.cell x c (Bx x c e);exact⟨v,q.keeps CY⟩
    free:=hC
    freeC:=λx c e=>I.freeC x c (Bx x c e)
    pin:=λp hp=>by
     have BJ:p∈X.pn++U:=by simpa[bV]using hp
     obtain⟨a1,a2,a3,a4,a5⟩:=I.pin p BJ;refine⟨CY _ _ a1,a2,λe=>?_,λhm=>?_,a5⟩
     .have e':p.1=s.heap.objs.size:=e;exact g! (Xb a1) (by rw[e'];exact Ym _)
     .rcases W9.mp (I.stkSub p.1 hm)with e|e
      .exact a3 e
      .exact a4 e
    hok:=I.hok.kept CY
    len:=by
     show(cσ js Z).length=N.length;unfold cσ;rw[WO];exact S.len }
theorem wD{target:X8}{it acc:WV}(J:Nat->WZ->Prop)
 (turn:∀n s,J n s->Xa (Xu prog w) A (pyNext it) (λr Ac=>(r=none/\R (.ok .next) Ac)\/∃v,r=some v /\
  Xa (Xu prog w) A (letOwnedTupleGo target it v) (λ_ AN=>Xa (Xu prog w) A (assign target env v) (λ_ Ci =>
   Xa (Xu prog w) A (forIn ifs true λc r=>if r=true then do let ok <-isTrue c env (Y3 c env);pure (ZR ok)else pure (ZR r)) (λok Eg =>
    (ok=false/\∃m,m<n/\J m Eg)\/(ok=true/\Xa (Xu prog w) A (Y3 elt env) (λx Jg=>Xa (Xu prog w) A (call (.builtin "list.append") [acc,x]) (λ_ Jh=>∃m,m<n/\J m Jh) (λ_ _=>False) Jg) (λ_ _=>False) Eg))
    (λ_ _=>False) Ci) (λ_ _=>False) AN) (λ_ _=>False) Ac) (λ_ _=>False) s)
 (n:Nat) (h:J n s):codeAny (Xu prog w) A (.compLoop (.ListComp elt [⟨target,iter,ifs,0⟩] scope pos) 0 it acc env) R s:=by
 refine codeAny_loop rfl J (λn s hJ=>?_) n h;show Xa _ A ((compTurn (.ListComp elt [⟨target,iter,ifs,0⟩] scope pos) 0 it acc env).onRaise _) _ _ s;refine wpAny_noted ?_;rw[compTurn_list];have up:∀{α:Type}{m:Sem α}{Q:α->WZ->Prop}{E:WV->WZ->Prop}{s:WZ},Xa (Xu prog w) A m Q (λ_ _=>False) s->Xa (Xu prog w) A m Q E s:=λq=>Y7 q (λ_ _ z=>z) λ_ _ z=>z.elim;refine WN (wpAny_standAt (WN (Y7 (up (turn n s hJ)) (λr Ac Ap=>?_) λ_ _ z=>z)));rcases Ap with⟨rfl,Ap⟩|⟨v,rfl,Ap⟩
 .exact WX Ap
 .refine WN (Y7 (up Ap) (λ_ AN A9=>?_) λ_ _ z=>z);refine WN (Y7 (up A9) (λ_ Ci CD=>?_) λ_ _ z=>z);refine WN (Y7 (up CD) (λok Eg AO=>?_) λ_ _ z=>z);rcases AO with⟨rfl,AO⟩|⟨rfl,AO⟩
  .exact WX ⟨rfl,AO⟩
  .exact WN (WN (Y7 (up AO) (λx Jg AQ=>WN (Y7 (up AQ) (λ_ Jh Nf=>WX (WX ⟨rfl,Nf⟩)) λ_ _ z=>z)) λ_ _ z=>z))
theorem m5{tn:Nat->X7->Prop}{J:It}{W:Nat->Hp->Prop}{fin:Hp->Prop}
 {R:WV->WS->Result->WZ->Prop} (hc:X.calm=true) (S:fC X sc N js) (I:Inv X U Z H s) (T:Turn X.prog X.w X.K tg J fp it tn) (st:tn 0 s.heap) (hf:∀b∈fp,km X U H b)
 (Bx:∀x c,cl.lookup x=some c->X.env.cells.lookup x=some c) (De:∀n,(n,Yy)∈sc.names->∃c,cl.lookup n=some c)
 (hg:∀cl C s H fp U,PG (bV X N sc cl C s H fp U) tg g) (gk:pH js g) (ht:∀cl C s H fp U,PTs (bV X N sc cl C s H fp U) ifs tt) (he:∀cl C s H fp U,PE (bV X N sc cl C s H fp U) elt te)
 (w0:W 0 (upd H s.heap.objs.size (.lst []))) (turn:gX js g tt te Z J s.heap.objs.size n W fin)
 (hR:∀C H' s',C≠X.env.locals->s.heap.objs.size<C->(∃m,s'.heap.Ns C m)->H' C=none->(∀h' t',YF C s'.heap h'->Inv X U Z H' {s' with heap:=h',toks:=t'})->fin H'->R (.ref s.heap.objs.size) C (.ok .next) s') :
 Xa (Xu X.prog X.w) X.A (newList []) (λacc Ci=>Xa (Xu X.prog X.w) X.A (newFunctionEnv sc X.env.globals cl [] X.env.qual none .none (some X.env)) (λJi Eg =>
  codeAny (Xu X.prog X.w) X.A (.compStart (.ListComp elt [⟨tg,iter,ifs,0⟩] sc pos) 0 (.ref it) acc {Ji with scope:=relabel sc X.env}) (R acc Ji.locals) Eg) E Ci) E s:=by
 refine Ye (wpAny_newFunctionEnv S.nocell (by intro y hy;simp at hy) (λAp Df Dg=>?_) S.kind);dsimp only at Df Dg |-;have I3:Inv X U Z (upd H s.heap.objs.size (.lst [])) {s with heap:=s.heap.push {cls:=.type "list",dict:=none,data:=.seq ([]:List WV).toArray}}:=I.lnew (t':=s.toks) (its:=[]) .nil (by decide)
 have Am:∀b∈fp,b<s.heap.objs.size:=λb hb=>by
  obtain⟨o,ho,_⟩:=T.obj _ _ st b hb;exact Xb ho
 have F0:∀b o,s.heap.get? b=some o->(s.heap.push {cls:=.type "list",dict:=none,data:=.seq ([]:List WV).toArray}).get? b=some o:=λb o e=>WW _ e;have hsz:(s.heap.push {cls:=.type "list",dict:=none,data:=.seq ([]:List WV).toArray}).objs.size=s.heap.objs.size+1:=X3 ..;generalize Ro:({s with heap:=s.heap.push {cls:=.type "list",dict:=none,data:=.seq ([]:List WV).toArray}}:WZ)=s3 at I3;have Jj:s.heap.push {cls:=.type "list",dict:=none,data:=.seq ([]:List WV).toArray}=s3.heap:=by rw[<-Ro]
 rw[Jj]at Df Dg F0 hsz;rw[Jj];have Ng:∀t',({s with heap:=Ap,toks:=t'}:WZ)={s3 with heap:=Ap,toks:=t'}:=λt'=>by rw[<-Ro]
 rw[Ng];have CY:∀b o,s3.heap.get? b=some o->Ap.get? b=some o:=λb o e=>Dg.extBut b o (Xy (Xb e)) (WW _ e);have Nh:∀b∈fp,km X U (upd H s.heap.objs.size (.lst [])) b:=λb hb=>⟨by rw[aj (Xy (Am b hb))];exact(hf b hb).1,(hf b hb).2⟩;have I4:=yE (t':=s.toks+([]:List (Xk×WV)).length) S I3 Bx De Nh (λb hb=>by rw[hsz];exact Nat.lt_succ_of_lt (Am b hb)) Df CY;generalize hH3:upd H s.heap.objs.size (.lst [])=H3 at I3 I4 Nh w0;have A7:tn 0 Ap:=T.keep _ _ _ st λb hb o e=>CY _ _ (F0 _ _ e)
 have C8:∀{H':Hp},(∀b∈fp,H' b=none)->∀b∈fp,km (bV X N sc cl s3.heap.objs.size s3 H3 fp U) [] H' b:=λ{H'}hn b hb=>by
  obtain⟨f0,f1,f2,f3,f4,f5⟩:=hf b hb;refine⟨hn b hb,λe=>?_,λhm=>?_,.inl hb,λx c e=>f4 x c (Bx x c e),λp hp=>f5 p (by simpa[bV]using hp)⟩
  .have e':b=s3.heap.objs.size:=e;have h9:b<s.heap.objs.size:=Am b hb;rw[e',hsz]at h9;exact g! h9 (Nat.not_lt.mpr (Nat.le_succ _))
  .rcases W9.mp (I.stkSub b hm)with e|e
   .exact f1 e
   .exact f2 e
 have loop:codeAny (Xu X.prog X.w) X.A (.compLoop (.ListComp elt [⟨tg,iter,ifs,0⟩] sc pos) 0 (.ref it) (.ref s.heap.objs.size) (compEnvC sc cl s3.heap.objs.size X.env)) (R (.ref s.heap.objs.size) s3.heap.objs.size)
  {s3 with heap:=Ap,toks:=s.toks+([]:List (Xk×WV)).length}:=by
  refine wD (λk s'=>∃i H',Inv (bV X N sc cl s3.heap.objs.size s3 H3 fp U) [] (cσ js Z) H' s'/\tn i s'.heap/\(∀b∈fp,H' b=none)/\W i H'/\k=n - i) ?_ n ⟨0,H3,I4,A7,λb hb=>(Nh b hb).1,w0,rfl⟩;rintro k s5 ⟨i,H5,I5,Ij,LW,w5,rfl⟩;rcases turn i H5 w5 with⟨stop,qn⟩|⟨CF,go,step⟩
  .refine thn (T.done (bV X N sc cl s3.heap.objs.size s3 H3 fp U) rfl rfl rfl hc i [] s5 (cσ js Z) H5 _ I5 (C8 LW) Ij stop) λr s6⟨hr,I6⟩=>.inl ⟨hr,?_⟩;have I7:Inv X U Z H5 s6:=I3.call' (ch:=fp) (I6.os.trans rfl) I6.base I6.hok I6.bare λb hb=>⟨(hf b hb).2.2.2.1,(hf b hb).2.1,(hf b hb).2.2.2.2.1,(hf b hb).2.2.2.2.2⟩;have Rp:H5 s3.heap.objs.size=none:=I6.free;have Rq:s3.heap.objs.size≠X.env.locals:=Nat.ne_of_gt I3.lt;obtain⟨m6,T7,_⟩:=I6.loc;refine hR s3.heap.objs.size H5 s6 Rq (by omega) ⟨m6,T7⟩ Rp (λh' t' sb=>?_) qn;refine I7.turned (it:=s3.heap.objs.size) (λb o hb e=>sb.extBut b o hb e) Rp Rq (.inr I3.sz) (λx c e z=>?_) λp hp z=>?_
   .obtain⟨v,q⟩:=I3.cell x c e;exact g! q.lt (by rw[z];exact Ym _)
   .exact g! (Xb (I3.pin p hp).1) (by rw[z];exact Ym _)
  .refine thn (T.item (bV X N sc cl s3.heap.objs.size s3 H3 fp U) rfl rfl rfl hc i [] s5 (cσ js Z) H5 _ I5 (C8 LW) Ij go) λr s6⟨u,hr,h6⟩=>.inr ⟨u,hr,?_⟩;refine thn h6 λ_ s7⟨x,H7,I7,r7,y7,Ni,T8⟩=>?_;have T9:=I7.pinned (C8 T8) (T.obj _ _ Ni);refine thn (hg cl s3.heap.objs.size s3 H3 fp U _ s7 (cσ js Z) H7 x u _ T9 r7 (gk Z (cσ js Z) x H7 _ (.refl _) (step x H7 y7))) λ_ s8⟨Nj,H8,I8,k8,q8⟩=>?_;refine thn (ht cl s3.heap.objs.size s3 H3 fp U _ s8 Nj H8 _ I8 q8) λok s9⟨H9,I9,q9⟩=>?_
   have again:∀{s':WZ}{Ab:St}{H':Hp},Keep (cσ js Z) Ab->Inv (bV X N sc cl s3.heap.objs.size s3 H3 fp U) ([]++nV fp s7.heap) Ab H' s'->W (i+1) H'->∃m,m<n - i/\∃i H',Inv (bV X N sc cl s3.heap.objs.size s3 H3 fp U) [] (cσ js Z) H' s'/\tn i s'.heap/\(∀b∈fp,H' b=none)/\W i H'/\m=n - i:=λ{s' Ab H'}kp I' w'=>by
    refine⟨n - (i+1),by omega,i+1,H',(I'.unpinned).weak kp.1 kp.2,T.keep _ _ _ Ni λb hb o e=>(I'.pin (b,o) (XC _ (XC _ (fY hb e)))).1,λb hb=>?_,w',rfl⟩;obtain⟨o,e,d⟩:=T.obj _ _ Ni b hb;exact(I'.pin (b,o) (XC _ (XC _ (fY hb e)))).2.1
   cases ok with
   | false =>
     refine .inl ⟨rfl,again k8 I9 ?_⟩;have Rr:if false=true then _ else W (i+1) H9:=q9
     rw[a! W8]at Rr;exact Rr
   | true =>
     refine .inr ⟨rfl,?_⟩;rw[b! rfl]at q9;refine thn (he cl s3.heap.objs.size s3 H3 fp U _ s9 Nj H9 _ I9 q9) λvv A8⟨v,BK,Ua,rv,ys,hD,Jk,Ub⟩=>?_;refine thn (aS _ A8 Nj BK (.ref s.heap.objs.size) [v] (.ref s.heap.objs.size) [vv] (λ_ H'=>W (i+1) H') Ua rfl (.cons rv .nil) ⟨_,ys,v,rfl,rfl,hD,Jk,Ub⟩) λ_ B9⟨_,GO,Uc,_,Ud⟩=>?_;exact again k8 Uc Ud
 exact codeAny_compStart_list loop (T.self X.A 0 _ _ _ A7 loop)
theorem bW(hc:X.calm=true)(S:fC X sc N js)(hi:PI X tg iter wi)
 (hg:∀cl C s H fp U,PG (bV X N sc cl C s H fp U) tg g) (gk:pH js g) (ht:∀cl C s H fp U,PTs (bV X N sc cl C s H fp U) ifs tt) (he:∀cl C s H fp U,PE (bV X N sc cl C s H fp U) elt te)
 (hs:∀x,foldedSetIterable iter X.env x=pure x:=by intro _;rfl):PE X (.ListComp elt [⟨tg,iter,ifs,0⟩] sc pos) (aa4 js wi g tt te):=by
 intro U s Z H Q I h;obtain⟨cl,e1,e2,e3⟩:=nb (env:=X.env) (sc:=sc) λn hn=>I.ok.has n (S.frees _ hn rfl);rw[eval_ListComp];refine wpAny_comprehension_free (use:=none) rfl hs e1 S.kind S.names (thn (hi U s Z H _ I h) λv s1 h1=>thn h1 λLV s2 h2=>?_);obtain⟨it,fp,tn,J,H2,rfl,I2,T,C7,f2,R2⟩:=h2;obtain⟨n,W,w0,turn⟩:=R2 s2.heap.objs.size I2.fresh;refine m5 (R:=λacc C=>compPost (Xu X.prog X.w) X.A X.xe none (EP X U Z Q) acc C) hc S I2 T C7 f2 e2 e3 hg gk ht he w0 turn λC H' s' _ _ hn _ inv fi=>?_;obtain⟨m,hm⟩:=hn;exact⟨m,hm,λh' sb=>⟨.ref s2.heap.objs.size,H',inv h' s'.toks sb,rfl,fi⟩⟩
theorem dq{y:Xk}{Jl py:Z9}(hN:X.N.Nodup)(hy:X.N[i]?=some y)(Ue:Loc X.env.scope y)(hc:X.calm=true)(S:fC X sc N js)(hi:PI X tg iter wi)
 (hg:∀cl C s H fp U,PG (bV X N sc cl C s H fp U) tg g) (gk:pH js g) (ht:∀cl C s H fp U,PTs (bV X N sc cl C s H fp U) ifs tt) (he:∀cl C s H fp U,PE (bV X N sc cl C s H fp U) elt te)
 (Ug:swapsWith (.ListComp elt [⟨tg,iter,ifs,0⟩] sc pos) (some (.Name y py)) Jl.line X.env=pure true:=by rfl)
 (hs:∀x,foldedSetIterable iter X.env x=pure x:=by intro _;rfl) (hf:X.fn y=true\/X.env.scope.names.lookup y=some .local:=by first|exact .inl rfl|exact .inr rfl|assumption) :
 PS X (.Assign [.Name y py] (.ListComp elt [⟨tg,iter,ifs,0⟩] sc pos) Jl) (xU (aa4 js wi g tt te) (aq i)):=by
 intro U s Z H D I h;obtain⟨cl,e1,e2,e3⟩:=nb (env:=X.env) (sc:=sc) λn hn=>I.ok.has n (S.frees _ hn rfl);rw[exec_Assign_Name_used _ _ _ _ Ug];refine WN (wpAny_standAt (WN ?_));show Xa _ X.A (do let _ <-comprehension (.ListComp elt [⟨tg,iter,ifs,0⟩] sc pos) sc X.env _ (newList []) false (Y3 iter X.env) (some (assign (.Name y py) X.env))) _ _ s;refine WN (Y7 (wpAny_comprehension_free (use:=some (assign (.Name y py) X.env)) (Q:=λ_ s'=>SP X U D .next s') rfl hs e1 S.kind S.names (thn (hi U s Z H _ I h) λv s1 h1=>thn h1 λLV s2 h2=>?_)) (λ_ s' hq=>WX (WX hq)) λ_ _ z=>z);obtain⟨it,fp,tn,J,H2,rfl,I2,T,C7,f2,R2⟩:=h2;obtain⟨n,W,w0,turn⟩:=R2 s2.heap.objs.size I2.fresh;refine m5 (R:=λacc C=>compPost (Xu X.prog X.w) X.A X.xe (some (assign (.Name y py) X.env)) (λ_ s'=>SP X U D .next s') acc C) hc S I2 T C7 f2 e2 e3 hg gk ht he w0 turn λC H' s' Rt hC hn Uh inv fi=>?_;obtain⟨m,hm⟩:=hn
 have I5:Inv X U Z H' s':=by
  have q:=inv s'.heap s'.toks (.refl ..);exact q
 refine wpAny_assign_Name (pT (v:=.ref s2.heap.objs.size) I5 hN hy Ue rfl (λs6 I6⟨a,sb,ha⟩=>?_) hf)
 have Ui:C≠a:=by
  rcases ha with ha|ha
  .rw[ha];exact Rt
  .intro z;obtain⟨v,q⟩:=I2.cell y a ha;exact g! (Nat.lt_trans q.lt hC) (by rw[z];exact Ym _)
 refine⟨m,hm.sameBut sb Ui,λh' Uj=>⟨_,H',I6.turned (it:=C) (t':=s6.toks) (λb o hb e=>Uj.extBut b o hb e) Uh Rt (.inr (Xv I2.sz (ZV hC))) (λx c e z=>?_) λp hp z=>?_,fi⟩⟩
 .obtain⟨v,q⟩:=I2.cell x c e;exact g! (Nat.lt_trans q.lt hC) (by rw[z];exact Ym _)
 .exact g! (Nat.lt_trans (Xb (I2.pin p hp).1) hC) (by rw[z];exact Ym _)
theorem oV(hc:X.calm=true):eQ X (.builtin "max") (λxs H Q=>∃(p:WS)(ns:List Int),xs=[.ref p]/\SqL X.K H p (ns.map q!)/\ns≠[]/\∀M,M∈ns->(∀a,a∈ns->a<=M)->Q (.int M) H):=by
 intro U s Z H xs us Q I r h;obtain⟨p,ns,rfl,hl,Av,q⟩:=h;obtain⟨u,rfl,rx⟩:=vals1 r;cases rx;obtain⟨its,rv,pl,_⟩:=I.list hl;have hi:=intsAre_of rv;have hlen:=hi.length;obtain⟨ys,e⟩:=(hi.allInts).items;have GJ:s.heap.IsList p (intItems ys):=by rw[<-e];exact pl.isList
 have hn:ys.toList.map (·.1)=ns:=by rw[<-nums_intItems,<-e];exact hi.numsOf
 have hsz:0<ys.size:=by
  have:ns.length=ys.size:=by rw[<-hn];simp
  have:=List.length_pos_iff.mpr Av;omega
 refine max_intList (I.ok.hd hc) GJ hsz λv h' tk hv hk=>?_;obtain⟨t,rfl⟩:=intItems_at hv;obtain⟨h1,h2⟩:=argBest_gt (numAt ys) (ys.size - 1);refine⟨.int _,H,I.kept hk,⟨_,rfl⟩,q _ ?_ λa ha=>?_⟩
 .rw[numAt_eq,<-hn];exact getD_mem (by rw[WO,XR];omega)
 .rw[<-hn]at ha;obtain⟨j,hj,rfl⟩:=mem_getD ha;rw[WO,XR]at hj;rw[<-numAt_eq];exact h2 j (by omega)
theorem xQ{T:String}{b:Bool}{t:WV}:eQ X (.builtin "isinstance") (λxs H Q=>∃x,xs=[x,.ty T]/\jF X.K H x t/\PySem.W.kitOne X.K t (.type T)=some b/\Q (.bl b) H):=by
 intro U s Z H xs us Q I r h;obtain⟨x,rfl,ty,k,q⟩:=h;obtain⟨u,w',rfl,r1,r2⟩:=vals2 r;cases r2;exact wv I r1 ty k λtk=>⟨.bl b,H,I.tok tk,rfl,q⟩
end L2
open L2 renaming Same->k!
namespace PySem
namespace F
theorem bb_owner_rev:Manifest.owners.lookup (String.ofList ['d','e','s','r','e','v','e','r'].reverse)=some Manifest.sig_reversed:=by kernel_rfl
theorem bb_slot_rev_next:Slot "reversed" "__next__" "reversed.__next__" :=
 .of (owner:="reversed") (n:="__next__") (by rw[Y6,Yv];kernel_rfl) (by decide +kernel) (by decide +kernel) (by decide +kernel)
  (by first|exact .inl (by decide +kernel)|exact .inr (by decide +kernel)) (by rw[isSubtype_type];kernel_rfl)
theorem bb_entry_rev_next:entryFor table "reversed.__next__"=some Zt.«reversed.__next__»:=entryFor_of_tree (by kernel_rfl)
theorem bb_args_rev_next(a:WV):argsOk "reversed.__next__" ⟨[a],[]⟩:=by
 unfold argsOk;rw[signature?_of (id:="reversed.__next__") (n:=['_','_','t','x','e','n','_','_']) (o:=['d','e','s','r','e','v','e','r']) (by kernel_rfl) bb_owner_rev];kernel_rfl
theorem bb_slot_rev_iter:Slot "reversed" "__iter__" "reversed.__iter__" :=
 .of (owner:="reversed") (n:="__iter__") (by rw[Y6,Yv];kernel_rfl) (by decide +kernel) (by decide +kernel) (by decide +kernel)
  (by first|exact .inl (by decide +kernel)|exact .inr (by decide +kernel)) (by rw[isSubtype_type];kernel_rfl)
theorem bb_args_rev_iter(a:WV):argsOk "reversed.__iter__" ⟨[a],[]⟩:=by
 unfold argsOk;rw[signature?_of (id:="reversed.__iter__") (n:=['_','_','r','e','t','i','_','_']) (o:=['d','e','s','r','e','v','e','r']) (by kernel_rfl) bb_owner_rev];kernel_rfl
theorem bb_entry_rev_iter:entryFor table "reversed.__iter__"=some Zt.«dict_keyiterator.__iter__» :=
 entryFor_alias (id':="dict_keyiterator.__iter__") (by kernel_rfl) (by first|rfl|decide +kernel|(unfold String.splitOn;simp +decide [String.splitOnAux])) (by decide +kernel) (by kernel_rfl)
theorem bb_slot_rev_hint:Slot "reversed" "__length_hint__" "reversed.__length_hint__" :=
 .of (owner:="reversed") (n:="__length_hint__") (by rw[Y6,Yv];kernel_rfl) (by decide +kernel) (by decide +kernel) (by decide +kernel)
  (by first|exact .inl (by decide +kernel)|exact .inr (by decide +kernel)) (by rw[isSubtype_type];kernel_rfl)
theorem bb_entry_rev_hint:entryFor table "reversed.__length_hint__"=some Zt.«reversed.__length_hint__»:=entryFor_of_tree (by kernel_rfl)
theorem bb_args_rev_hint(a:WV):argsOk "reversed.__length_hint__" ⟨[a],[]⟩:=by
 unfold argsOk;rw[signature?_of (id:="reversed.__length_hint__") (n:=['_','_','t','n','i','h','_','h','t','g','n','e','l','_','_']) (o:=['d','e','s','r','e','v','e','r']) (by kernel_rfl) bb_owner_rev];kernel_rfl
theorem bb_nolen_rev:typeLookup (.type "reversed") "__len__"=pure none:=by rw[Y6,Yv];kernel_rfl
theorem bb_nolen_lri:typeLookup (.type "list_reverseiterator") "__len__"=pure none:=by rw[Y6,Yv];kernel_rfl
theorem bb_hint_lri:typeLookup (.type "list_reverseiterator") "__length_hint__"=pure (some (.builtin "list_reverseiterator.__length_hint__")):=by rw[Y6,Yv];kernel_rfl
theorem bb_tuple_norev:typeLookup (.type "tuple") "__reversed__"=pure none:=by rw[Y6,Yv];kernel_rfl
theorem bb_sub_rev_rev:isSubtype (.type "reversed") (.type "reversed")=pure true:=by rw[isSubtype_type];kernel_rfl
theorem bb_sub_tuple_dict:isSubtype (.type "tuple") (.type "dict")=pure false:=by rw[isSubtype_type];kernel_rfl
end F
open Sem (wp)
theorem bb_slot_rev_init:Slot "reversed" "__init__" "object.__init__" :=
 .of (owner:="object") (n:="__init__") (by rw[Y6,Yv];kernel_rfl) (by decide +kernel) (by decide +kernel) (by decide +kernel)
  (by first|exact .inl (by decide +kernel)|exact .inr (by decide +kernel)) (by rw[isSubtype_type];kernel_rfl)
theorem bb_called_rev:TypeCalled "reversed" "reversed.__new__" "object.__init__" :=
 ⟨by decide +kernel,by decide +kernel,⟨_,_,F.mro_reversed⟩,F.made_reversed,by decide +kernel,F.bb_sub_rev_rev,bb_slot_rev_init⟩
def revTup(t:WS)(i:Int):Ze:={cls:=.type "reversed",data:=.fields #[.ref t,Y8 i]}
theorem bb_meets_rev_tuple(t:WS)(items:Array WV)(hz:(items.size:Int)<2 ^ 63) :
 Meets (Zt.«reversed.__new__» ⟨[.type "reversed",.ref t],[]⟩) (λ_ R s=>PyProof.Rows.IsTup s.heap t items/\∀tk,R (.ok (.ret (.ref s.heap.objs.size))) {s with heap:=s.heap.push (revTup t ((items.size:Int) - 1)),toks:=tk}):=by
 refine .of_wp λprog w A R s h=>?_;obtain⟨ht,h⟩:=h;unfold Zt.«reversed.__new__»;refine WN (wpAny_of_eq (newClass_reversed _) ?_)
 try dsimp only
 refine WN (wpAny_of_eq (a:=()) (by first|rfl|kernel_rfl) ?_);refine WN (wpAny_of_eq (a:=()) (by first|rfl|kernel_rfl) ?_)
 try dsimp only
 refine WN (Ys ht.typeIs F.bb_tuple_norev ?_)
 try dsimp only
 have hsd:=F.bb_sub_tuple_dict;have hgi:=XQ.lookup;have hT:s.TypeIs (.ref t) "tuple":=ht.typeIs
 wp_walk using PyProof.Rows.len_tuple ht hz,ZI hT
 exact⟨_,rfl,h _⟩
theorem bb_call_rev_tuple{t:WS}(ht:PyProof.Rows.IsTup s.heap t items)(hz:(items.size:Int)<2 ^ 63)
 (h:∀tk,Q (.ref s.heap.objs.size) {s with heap:=s.heap.push (revTup t ((items.size:Int) - 1)),toks:=tk}):Xa (Xu prog w) A (call (.type "reversed") [.ref t]) Q E s :=
 callType_new bb_called_rev (by decide) (F.typeCall_reversed_1 _) (F.newCall_reversed_1 _) (λobj=>F.args_object_init_2 obj _) F.entry_reversed_new (bb_meets_rev_tuple t items hz)
  ⟨ht,λtk=>⟨⟨_,W4 _ rfl,rfl⟩,h tk⟩⟩
def IsRevT(h:X7)(a t:WS)(i:Int):Prop:=∃o,h.get? a=some o/\o.cls=.type "reversed"/\o.data=.fields #[.ref t,Y8 i]
theorem IsRevT.typeIs{t:WS}{i:Int}(x:IsRevT s.heap a t i):s.TypeIs (.ref a) "reversed":=let⟨o,ho,hc,_⟩:=x;⟨o,ho,hc⟩
theorem IsRevT.at{t:WS}{i:Int}(x:IsRevT h a t i)(e:∀o,h.get? a=some o->h'.get? a=some o):IsRevT h' a t i:=let⟨o,ho,r⟩:=x;⟨o,e _ ho,r⟩
theorem bb_rev_iter{t:WS}{i:Int}(hit:IsRevT s.heap it t i)(h:Q (.ref it) s):Xa (Xu prog w) A (pyIter (.ref it)) Q E s:=by
 refine wpAny_pyIter_slot hit.typeIs F.bb_slot_rev_iter (X5 F.bb_slot_rev_iter hit.typeIs F.bb_entry_rev_iter ?_ (F.bb_args_rev_iter _));show Xa _ _ (ret (.ref it)) _ _ s;exact WX ⟨_,rfl,"reversed",_,hit.typeIs,F.bb_slot_rev_next.lookup,h⟩
theorem bb_rev_next{t:WS}{x:WV}{Q:Option WV->WZ->Prop}(hit:IsRevT s.heap it t (i:Int))(ht:PyProof.Rows.IsTup s.heap t items)(hx:items[i]?=some x)(hz:(items.size:Int)<2 ^ 63)
 (hQ:∀h' tk,IsRevT h' it t ((i:Int) - 1)->YF it s.heap h'->Q (some x) {s with heap:=h',toks:=tk}):Xa (Xu prog w) A (pyNext (.ref it)) Q E s:=by
 obtain⟨o,ho,hc,hd⟩:=id hit;have hi:i<items.size:=(Array.getElem?_eq_some_iff.mp hx).1;unfold pyNext
 refine WN (wpAny_attempt (X2 (name:=WT "__next__") hit.typeIs F.bb_slot_rev_next
  (X5 F.bb_slot_rev_next hit.typeIs F.bb_entry_rev_next ?_ (F.bb_args_rev_next _))))
 unfold Zt.«reversed.__next__»;refine WN (wpAny_of_eq (a:=(Xl it,[])) rfl ?_)
 try dsimp only
 refine WN (XW ho hd (x:=.ref t) rfl ?_);refine WN (XW ho hd (x:=Y8 (i:Int)) rfl ?_);show Xa _ _ (if(i:Int)<0 then _ else _) _ _ s;rw[a! (by omega)];refine WN (Ys ht.typeIs XQ.lookup ?_)
 try dsimp only
 rw[a! (by decide)];refine WN (m:=mkInt (i:Int)) (wpAny_mkInt ?_);refine WN (wpAny_attempt (PyProof.Rows.getItem_tuple (j:=i) (x:=x) ht (by omega) (by omega) ?_ hx ?_))
 .refine(L2.qp (n:=items.size) (i:=(i:Int)) (j:=i) ?_).1;unfold L2.ixN;rw[b! (by omega),b! (by omega)];simp
 .try dsimp only
  refine WN (XW ho hd (x:=Y8 (i:Int)) rfl ?_)
  try dsimp only
  refine WN (wpAny_setField ho hd (by simp) ?_);refine WX ⟨x,rfl,WX (hQ _ _ ?_ (Zi ..))⟩;exact⟨_,XN _ ho (Obj.isFreed_of_fields (Zn hd _)),(Obj.cls_mapFields ..).trans hc,by rw[Zn hd];simp⟩
theorem bb_rev_end{t:WS}{Q:Option WV->WZ->Prop}(hh:A.handled=none)(hit:IsRevT s.heap it t (-1))
 (hQ:∀h' tk,Heap.ExtBut it s.heap h'->Q none {s with heap:=h',toks:=tk}):Xa (Xu prog w) A (pyNext (.ref it)) Q E s:=by
 obtain⟨o,ho,hc,hd⟩:=id hit;unfold pyNext
 refine WN (wpAny_attempt (X2 (name:=WT "__next__") hit.typeIs F.bb_slot_rev_next
  (X5 F.bb_slot_rev_next hit.typeIs F.bb_entry_rev_next ?_ (F.bb_args_rev_next _))))
 unfold Zt.«reversed.__next__»;refine WN (wpAny_of_eq (a:=(Xl it,[])) rfl ?_)
 try dsimp only
 refine WN (XW ho hd (x:=.ref t) rfl ?_);refine WN (XW ho hd (x:=Y8 (-1)) rfl ?_);show Xa _ _ (if(-1:Int)<0 then _ else _) _ _ s;rw[b! (by decide)];refine WN (Zy ?_);refine WN ?_
 wp_delta
 refine WN (wpAny_setField ho hd (by simp) ?_);have E':=XN (Obj.mapFields (·.setIfInBounds 1 (Y8 (-1)))) ho (Obj.isFreed_of_fields (Zn hd _));refine wpAny_setField E' (Zn hd _) (by simp) ?_;refine WN ?_
 wp_delta
 refine WN ?_;simp only[newExc,newTuple];refine WN (Ye ?_ (by size_fits));refine WN (m:=firstArgMember _ _) (wpAny_of_eq (a:=Yp) (by first|rfl|(simp only[firstArgMember];rfl)) ?_);refine Ye ?_ (by size_fits);simp only[raiseNew];refine WN (wpAny_handled ?_)
 first|rw[show A.in1.handled=none from hh]|rw[hh]
 refine WN (WX (wpAny_throw ?_));refine WN (ZL (T:="StopIteration") (b:=true) ⟨_,W4 _ rfl,rfl⟩ isSubtype_stop ?_);refine WX (hQ _ _ ?_);refine Heap.ExtBut.push (Heap.ExtBut.push ?_ _) _;intro b o' hb e;rw[XU _ _ (YQ hb),XU _ _ (YQ hb)];exact e
theorem bb_walk_revT(hh:A.handled=none)(I t:WS)(Av:t≠I)(items:Array WV)(hz:(items.size:Int)<2 ^ 63) :
 Walks prog w A I [I,t] [I] items.size (λi v=>items[items.size - 1 - i]?=some v) (λi h=>i<=items.size/\IsRevT h I t ((items.size:Int) - 1 - (i:Int))/\PyProof.Rows.IsTup h t items) where
 sub:=λb hb=>by simp at hb;simp[hb]
 frame:=λ_ _ _ x hk=>⟨x.1,x.2.1.at λo e=>hk I (by simp) o e,by obtain⟨o,e,r⟩:=x.2.2;exact⟨o,hk t (by simp) o e,r⟩⟩
 item:=λi s Q E hi x hQ=>by
  have e:(items.size:Int) - 1 - (i:Int)=((items.size - 1 - i:Nat):Int):=by omega
  have hit:=x.2.1;rw[e]at hit;have hx:items[items.size - 1 - i]?=some (items[items.size - 1 - i]'(by omega)):=Zg (by omega);refine bb_rev_next hit x.2.2 hx hz λh' tk Fc Dz=>?_;have e2:((items.size - 1 - i:Nat):Int) - 1=(items.size:Int) - 1 - ((i+1:Nat):Int):=by omega
  rw[e2]at Fc;exact hQ _ h' tk hx ⟨hi,Fc,by obtain⟨o,e,r⟩:=x.2.2;exact⟨o,(Dz.2 t Av).trans e,r⟩⟩ λb o hb eo=>Dz.extBut b o (λh=>hb (by simp[h])) eo
 done:=λs Q E x hQ=>by
  have e:(items.size:Int) - 1 - (items.size:Int)=-1:=by omega
  have hit:=x.2.1;rw[e]at hit;exact bb_rev_end hh hit λh' tk Uk=>hQ h' tk λb o hb eo=>Uk b o (λh=>hb (by simp[h])) eo
 self:=λ_ _ _ _ x hQ=>bb_rev_iter x.2.1 hQ
def HintOk(prog:W6)(w:Xj)(A:XF)(I:WS)(St:Nat->X7->Prop):Prop :=
 ∀(s:WZ)(Q:Bool->WZ->Prop)(E:WV->WZ->Prop),St 0 s.heap->(∀b tk,s.toks<=tk->Q b {s with toks:=tk})->Xa (Xu prog w) A (ZJ (.ref I)) Q E s
theorem bb_hint_lri{l:WS}:HintOk prog w A I (λi h=>i<=items.size/\h.IsRevIter I l ((items.size:Int) - 1 - (i:Int))/\h.IsList l items):=by
 intro s Q E st h;unfold ZJ;refine WN (Ys st.2.1.typeIs F.bb_nolen_lri ?_);show Xa _ A (specialOf (Xl I) (WT "__length_hint__") >>= _) _ _ _;refine WN (Ys st.2.1.typeIs F.bb_hint_lri ?_)
 (generalize hid:("list_reverseiterator.__length_hint__":String)=GP;(fail_if_success (clear hid GP));wp_delta;rw[show splitId GP=some ("list_reverseiterator","__length_hint__")from by subst hid;decide +kernel];subst hid)
 refine WN (ZL (b:=true) st.2.1.typeIs (by rw[isSubtype_type];kernel_rfl) ?_);exact WX (h _ _ (WY _))
theorem bb_len_hint{t:WS}(hit:IsRevT s.heap I t ((items.size:Int) - 1))(ht:PyProof.Rows.IsTup s.heap t items)(hz:(items.size:Int)<2 ^ 63)
 (h:∀u tk,s.toks<=tk->Q (.int (items.size:Int) u) {s with toks:=tk}):Xa (Xu prog w) A (call (.builtin "reversed.__length_hint__") [.ref I]) Q E s:=by
 obtain⟨o,ho,hc,hd⟩:=id hit;refine X5 F.bb_slot_rev_hint hit.typeIs F.bb_entry_rev_hint ?_ (F.bb_args_rev_hint _);unfold Zt.«reversed.__length_hint__»;refine WN (wpAny_of_eq (a:=Xl I) rfl ?_)
 try dsimp only
 refine WN (XW ho hd (x:=.ref t) rfl ?_);rw[a! (show¬((Xl t == Yp)=true)from W8)];refine WN (PyProof.Rows.len_tuple ht hz ?_);refine WN (m:=asInt? _) (WX ?_)
 try dsimp only
 refine WN (XW ho hd (x:=Y8 ((items.size:Int) - 1)) rfl ?_);show Xa _ _ (if(items.size:Int)<((items.size:Int) - 1)+1 then _ else _) _ _ _;rw[a! (by omega)];have e:((items.size:Int) - 1)+1=(items.size:Int):=by omega
 rw[e];refine WN (wpAny_mkInt (WX ⟨_,rfl,h _ _ ?_⟩));show s.toks<=s.toks+1+1+1;omega
theorem bb_hint_rev{t:WS}(hz:items.size<=Xe):HintOk prog w A I (λi h=>i<=items.size/\IsRevT h I t ((items.size:Int) - 1 - (i:Int))/\PyProof.Rows.IsTup h t items):=by
 intro s Q E st h;unfold ZJ;refine WN (Ys st.2.1.typeIs F.bb_nolen_rev ?_);show Xa _ A (specialOf (Xl I) (WT "__length_hint__") >>= _) _ _ _;refine WN (Ys st.2.1.typeIs F.bb_slot_rev_hint.lookup ?_)
 (generalize hid:("reversed.__length_hint__":String)=GP;(fail_if_success (clear hid GP));wp_delta;rw[show splitId GP=some ("reversed","__length_hint__")from by subst hid;decide +kernel];subst hid)
 refine WN (ZL (b:=true) st.2.1.typeIs F.bb_sub_rev_rev ?_)
 have Ru:(items.size:Int)<2 ^ 63:=by
  have:=L2.fJ;omega
 rw[a! (by decide)]
 try dsimp only
 rw[a! (by decide +kernel)];refine WN (Zy ?_);refine WN (wpAny_of_eq (F.bb_slot_rev_hint.bind _) ?_)
 try dsimp only
 have hit:=st.2.1;rw[show(items.size:Int) - 1 - ((0:Nat):Int)=(items.size:Int) - 1 by omega]at hit;refine WN (wpAny_attempt (bb_len_hint hit st.2.2 Ru λu tk AU=>?_));have f1:Builtin.List.listFitsIndex (items.size:Int)=true:=fitsIndex_of (Int.natCast_nonneg _) Ru;have f2:Zr (items.size:Int).toNat=false:=L2.m4 (Xv (Nat.le_of_eq (XM _)) hz);have f3:¬(items.size:Int)<0:=Int.not_lt.mpr (Int.natCast_nonneg _);generalize(items.size:Int)=k at f1 f2 f3 |-;have fin:Xa (Xu prog w) A (pure (k != 0):Sem Bool) Q E {s with toks:=tk}:=WX (h _ _ AU);simp only[asInt?,pure_bind,f1,f2,f3,Bool.not_true,Yd,if_false];exact fin
theorem bb_list_walk{T:String}{wr:List WS}{P:Nat->WV->Prop}{St:Nat->X7->Prop}(W:Walks prog w A.in1.in1 I fp wr n P St)
 (hT:∀i(s:WZ),St i s.heap->s.TypeIs (.ref I) T) (h2:(Zm T == Zm "list")=false) (h3:(Zm T == Zm "tuple")=false) (hint:HintOk prog w A.in1.in1 I St)
 (A7:St 0 s.heap) (Ul:∀b∈fp,b<s.heap.objs.size) (hI:I∈fp) (hn:n<=Xe)
 (hQ:∀h' tk acc c,(∀b o,b∉wr->s.heap.get? b=some o->h'.get? b=some o)->h'.get? s.heap.objs.size=some {cls:=.type "list",dict:=none,data:=.seq acc c,slots:=#[]}->ItemsOf P acc n->Q (.ref s.heap.objs.size) {s with heap:=h',toks:=tk}) :
 Xa (Xu prog w) A (call (.type "list") [.ref I]) Q E s:=by
 have Im:s.heap.objs.size∉fp:=λhm=>Ym _ (Ul _ hm)
 refine callType_codes (Q₁:=λobj Ac=>obj=.ref s.heap.objs.size/\Ac={s with heap:=s.heap.push {cls:=.type "list",data:=.seq #[]}}) F.called_list (F.typeCall_list_1 _) F.entry_list_init
  (code_list_new _ ⟨rfl,rfl⟩) λobj Ac Ap=>?_
 obtain⟨rfl,rfl⟩:=Ap;have hS:(s.heap.push {cls:=.type "list",data:=.seq #[]}).get? s.heap.objs.size=some {cls:=.type "list",data:=.seq #[]}:=W4 _ rfl;have Nk:s.heap.objs.size≠I:=λe=>Im (e ▸ hI);refine⟨⟨_,hS,rfl⟩,F.args_list_init_2 _ _,?_⟩;show Xa _ A.in1.in1 (do let old <-ZK (.ref s.heap.objs.size);Builtin.List.listUpdate (.ref s.heap.objs.size) (λ_=>#[]);letGo old.toList.reverse;Zd (.ref s.heap.objs.size) (.ref I) .none) _ _ _;refine WN ?_;unfold ZK;refine WN (YB hS rfl (WX ?_));refine WN (YT hS rfl ?_);have Br:=XN (Yh (λ_=>(#[]:Array WV))) hS rfl;refine WN (wpAny_letGo ?_);generalize hH:(s.heap.push {cls:=.type "list",data:=.seq #[]}).update s.heap.objs.size (Yh (λ_=>(#[]:Array WV)))=H2 at Br |-
 have old:∀b o,s.heap.get? b=some o->H2.get? b=some o:=λb o e=>by
  rw[<-hH,XU _ _ (YQ (Xy (Xb e)))];exact WW _ e
 obtain⟨c2,DO⟩:∃c,H2.get? s.heap.objs.size=some {cls:=.type "list",data:=.seq #[] c}:=⟨_,Br⟩;have C7:St 0 H2:=W.frame 0 _ _ A7 λb _ o e=>old b o e;unfold Zd;refine WN (ZI (hT 0 _ C7) ?_);have h1:Zs (.ref s.heap.objs.size) (.ref I)=false:=by simp[Zs,Nk]
 simp only[h1,h2,h3,Bool.or_false,Yd,if_false];refine WN (W.self 0 _ _ _ C7 ?_);refine WN (Yx (hint _ _ _ C7 λb tk _=>?_))
 have key:∀(h:X7)(c₁ tk:Nat),St 0 h->(∀b o,b≠s.heap.objs.size->H2.get? b=some o->h.get? b=some o)->h.get? s.heap.objs.size=some {cls:=.type "list",data:=.seq #[] c₁} ->
  codeAny (Xu prog w) A.in1 (.builtin "list.extend.loop" ⟨[.ref s.heap.objs.size,.ref I,.none],[]⟩) (wants (λr AN=>r=.none/\Q (.ref s.heap.objs.size) AN) E) {s with heap:=h,toks:=tk}:=by
  intro h c₁ tk hs hk CG;refine codeAny_extend_loopS W.toS hn _ Im .none n 0 _ #[] c₁ rfl (Xi _) hs CG (ItemsOf.nil _) λs' A' c' hm D4 Aq=>?_;rw[Moved.eq_with hm];refine⟨rfl,hQ s'.heap s'.toks A' c' (λb o hb e=>hm.heap b o (λAE=>?_) (hk b o (Xy (Xb e)) (old b o e))) D4 Aq⟩;rcases W9.mp AE with e'|AE
  .exact g! (Xb e) (by rw[e'];exact Ym _)
  .exact hb AE
 refine wpAny_ite_split (λ_=>?_) (λ_=>WX ⟨plainId_quiet YG _,key _ c2 _ C7 (λb o _ e=>e) DO⟩);refine WN (Zy ?_);refine WN ?_;show Xa _ _ (updateSeq s.heap.objs.size (·.push .none) >>= λ_=>updateSeq s.heap.objs.size (·.pop)) _ _ _;refine WN (YT DO rfl ?_);have Bs:=XN (Yh (·.push Yp)) DO rfl;refine YT (hz:=by seq_fits) Bs rfl ?_;have CH:=XN (Yh (·.pop)) Bs rfl
 have CI:∀b o,b≠s.heap.objs.size->H2.get? b=some o->((H2.update s.heap.objs.size (Yh (·.push Yp))).update s.heap.objs.size (Yh (·.pop))).get? b=some o :=
  λb o hb e=>(XU _ _ (YQ hb)).trans ((XU _ _ (YQ hb)).trans e)
 exact WX ⟨plainId_quiet YG _,key _ _ _ (W.frame 0 _ _ C7 λb hb o e=>CI b o (λz=>Im (z ▸ hb)) e) CI CH⟩
end PySem
namespace L2
open PySem PySem.Spec PyProof.Rows
def SqB(b:Bool)(K:WQ)(H:Hp)(a:WS)(xs:List V):Prop:=if b=true then SqL K H a xs else SqT K H a xs
theorem SqB.l(h:SqL K H a xs):SqB true K H a xs:=h
theorem yK{ys:List V}{acc:Array WV}(rv:Vals ys its)(Aq:ItemsOf (λi v=>its.toArray[its.toArray.size - 1 - i]?=some v) acc its.toArray.size):Vals ys.reverse acc.toList:=by
 have e:acc.toList=its.reverse:=by
  apply List.ext_getElem?;intro i;have hs:acc.size=its.length:=by rw[Aq.1,W2]
  by_cases hi:i<acc.size
  .have h1:acc[i]?=some acc[i]:=Zg hi;have h2:=Aq.2 i _ h1;rw[W2]at h2;rw[Array.getElem?_toList,h1,List.getElem?_reverse (by omega),<-h2];simp
  .rw[Array.getElem?_toList,Array.getElem?_eq_none (by omega),ZH (by rw[Yt];omega)]
 rw[e];exact rv.reverse
section
variable{p p2 AH:Z9}
def xM(K:WQ)(te:TE):TE:=λZ H Q=>te Z H λx H1=>∃b a ys,x=.ref a/\SqB b K H1 a ys/\∀l,H1 l=none->Q (.ref l) (upd H1 l (.lst ys.reverse))
theorem qq{Q:VK}{b:Bool}{ys:List V}(hc:X.calm=true)(I:Inv X U Z H s)(hq:SqB b X.K H a ys)(q:∀l,H l=none->Q (.ref l) (upd H l (.lst ys.reverse))) :
 Xa (Xu X.prog X.w) X.A (call (.type "reversed") [.ref a]) (λu s1=>Xa (Xu X.prog X.w) X.A (call (.type "list") [u]) (EP X U Z Q) X.xe s1) X.xe s:=by
 have hn:=fJ;have hh:X.A.in1.in1.handled=none:=I.ok.hd hc
 have fin:∀{its:List WV}{s1:WZ}{h':X7}{tk:Nat}{acc:Array WV}{c:Nat},Vals ys its->ys.length<=Xe->s1.heap.objs.size=s.heap.objs.size+1->s1.os=s.os->s1.gens=s.gens->s1.drawn=s.drawn->(∀b o,s.heap.get? b=some o->s1.heap.get? b=some o) ->
  (∀b o,b∉[s.heap.objs.size]->s1.heap.get? b=some o->h'.get? b=some o)->h'.get? s1.heap.objs.size=some {cls:=.type "list",dict:=none,data:=.seq acc c,slots:=#[]}->ItemsOf (λi v=>its.toArray[its.toArray.size - 1 - i]?=some v) acc its.toArray.size ->
  EP X U Z Q (.ref s1.heap.objs.size) {s1 with heap:=h',toks:=tk}:=λ{its s1 h' tk acc c}rv hz es eo eg ed k1 kp hS Aq=>by
  have Ng:({s1 with heap:=h',toks:=tk}:WZ)={s with heap:=h',toks:=tk}:=by
   obtain⟨a1,a2,a3,a4,a5⟩:=s1;have e1:a5=s.os:=eo;have e2:a2=s.gens:=eg;have e3:a3=s.drawn:=ed;subst e1;subst e2;subst e3;rfl
  have hp:s.heap.objs.size<=s1.heap.objs.size:=by rw[es];exact Nat.le_succ _
  refine⟨.ref s1.heap.objs.size,upd H s1.heap.objs.size (.lst ys.reverse),?_,rfl,q _ (I.hok.fresh hp)⟩;rw[Ng];refine I.laid (t':=tk) (λb o e=>kp b o (λz=>?_) (k1 b o e)) hp ⟨by rw[Yt];exact hz,acc.toList,c,yK rv Aq,hS⟩;exact g! (Xb e) (by rw[W7.mp z];exact Ym _)
 cases b
 .have E9:SqT X.K H a ys:=hq;obtain⟨its,rv,p,hz⟩:=I.tuple E9;have hl:=rv.length;refine bb_call_rev_tuple p (by rw[W2];omega) λtk=>?_;obtain⟨oa,Fd,ca,da⟩:=id p;have Av:a≠s.heap.objs.size:=Xy (Xb Fd)
  refine bb_list_walk (T:="reversed") (bb_walk_revT hh s.heap.objs.size a Av its.toArray (by rw[W2];omega)) (λi s st=>st.2.1.typeIs) (by decide) (by decide) (bb_hint_rev (by rw[W2];omega))
   ⟨Xi _,?_,⟨oa,WW _ Fd,ca,da⟩⟩ (λb hb=>?_) (by simp) (by rw[W2];omega) λh' tk acc c kp hS Aq=>fin rv hz (X3 ..) rfl rfl rfl (λb o e=>WW _ e) kp hS Aq
  .rw[show(its.toArray.size:Int) - 1 - ((0:Nat):Int)=(its.toArray.size:Int) - 1 by omega];exact⟨_,W4 _ rfl,rfl,rfl⟩
  .show b<(s.heap.push _).objs.size;rw[X3];rcases W9.mp hb with e|e
   .rw[e];exact Nat.lt_succ_self _
   .rw[W7.mp e];exact Nat.lt_succ_of_lt (Xb Fd)
 .have E9:SqL X.K H a ys:=hq;obtain⟨its,rv,p,hz⟩:=I.list E9;have hl:=rv.length;refine call_reversed_list p.isList ?_;obtain⟨oa,Fd,ca,na,da⟩:=id p.isList;have Av:a≠s.heap.objs.size:=Xy (Xb Fd)
  refine bb_list_walk (T:="list_reverseiterator") (Walks.listRev hh s.heap.objs.size a Av its.toArray) (λi s st=>st.2.1.typeIs) (by decide) (by decide) bb_hint_lri
   ⟨Xi _,?_,⟨oa,WW _ Fd,ca,na,da⟩⟩ (λb hb=>?_) (by simp) (by rw[W2];omega) λh' tk acc c kp hS Aq=>fin rv hz (X3 ..) rfl rfl rfl (λb o e=>WW _ e) kp hS Aq
  .rw[show(its.toArray.size:Int) - 1 - ((0:Nat):Int)=(its.toArray.size:Int) - 1 by omega];exact⟨_,W4 _ rfl,rfl,rfl⟩
  .show b<(s.heap.push _).objs.size;rw[X3];rcases W9.mp hb with e|e
   .rw[e];exact Nat.lt_succ_self _
   .rw[W7.mp e];exact Nat.lt_succ_of_lt (Xb Fd)
theorem mG(hc:X.calm=true)(g1:Gl X "list")(m1:X.mg "list"=none)(g2:Gl X "reversed")(m2:X.mg "reversed"=none)(he:PE X e te)
 (h1:XE [.Call (.Name "reversed" p2) [e] [] AH] X.env=[(false,Y3 (.Call (.Name "reversed" p2) [e] [] AH) X.env)]:=by rfl) (h2:XE [e] X.env=[(false,Y3 e X.env)]:=by rfl) :
 PE X (.Call (.Name "list" p) [.Call (.Name "reversed" p2) [e] [] AH] [] pos) (xM X.K te):=by
 intro U s Z H Q I h;refine Yl (de I g1 m1 boot_list (X0 ?_ h1 rfl));rw[h1];show Xa _ _ (spliced ((false,Y3 (.Call (.Name "reversed" p2) [e] [] AH) X.env)::[])) _ _ s;refine YL ?_;refine Yl (de I g2 m2 boot_reversed (X0 ?_ h2 rfl));rw[h2];show Xa _ _ (spliced ((false,Y3 e X.env)::[])) _ _ s;refine YL (thn (he U s Z H _ I h) λu s1⟨x,H1,I1,r1,b,a,ys,ex,hq,q⟩=>?_);subst ex;cases r1;refine Zh ?_;refine thn (qq hc I1 hq q) λv s2 h2=>Zh ?_;exact h2
def Itv(K:WQ)(a:WS)(n:Nat):It:=⟨λi H=>i<n/\∃xs,SqL K H a xs/\xs.length=n,λi H x H'=>H'=H/\∀xs,SqL K H a xs->xs[n - 1 - i]?=some x,λi _=>i=n⟩
theorem xu(a it:WS)(n:Nat):Turn P w K tg (Itv K a n) [it] it (λi h=>h.IsRevIter it a ((n:Int) - 1 - (i:Nat))) where
 mem:=by simp
 obj:=λi h st b hb=>by
  have e:b=it:=by simpa using hb
  subst e;obtain⟨o,e,c,d⟩:=st;exact⟨o,e,λv z=>by rw[d]at z;cases z⟩
 keep:=λi h h' st k=>st.at λo e=>k it (by simp) o e
 item:=by
  intro X hP hw hK hc i U s Z H E I hf st hg;subst hP hw hK;obtain⟨hi,xs,hq,hx⟩:=hg;obtain⟨its,rv,p,hz⟩:=I.list hq;have hl:=rv.length;obtain⟨x,Ba⟩:∃x,xs[n - 1 - i]?=some x:=⟨_,WR (by omega)⟩;obtain⟨u,hu,ru⟩:=rv.get Ba;obtain⟨f0,f1,f2,f3,f4,f5⟩:=hf it (by simp);have e1:(n:Int) - 1 - (i:Nat)=((n - 1 - i:Nat):Int):=by omega
  rw[e1]at st;refine wpAny_pyNext_rev_item st p.isList (x:=u) (by simpa using hu) λh' D3 sb=>?_;have I1:Inv X U Z H {s with heap:=h'}:=I.turned (t':=s.toks) (λb o hb e=>(sb.2 b hb).trans e) f0 f1 f3 f4 f5;have e2:((n - 1 - i:Nat):Int) - 1=(n:Int) - 1 - ((i+1:Nat):Int):=by omega
  rw[e2]at D3;obtain⟨o,e,c,d⟩:=id D3;exact⟨u,rfl,uY (s:={s with heap:=h'}) e c d (by decide) ⟨x,H,I1,ru,⟨rfl,λys hy=>by rw[I.list_inj hy hq];exact Ba⟩,D3,λb hb=>(hf b hb).1⟩⟩
 done:=by
  intro X hP hw hK hc i U s Z H E I hf st hg;subst hP hw hK;have Nl:i=n:=hg;subst Nl;obtain⟨f0,f1,f2,f3,f4,f5⟩:=hf it (by simp);rw[show(i:Int) - 1 - (i:Nat)=-1 by omega]at st;exact wpAny_pyNext_rev_end (I.ok.hd hc) st λh' eb=>⟨rfl,I.turned (t':=s.toks) (λb o hb e=>eb b o hb e) f0 f1 f3 f4 f5⟩
 self:=λ_ _ _ _ _ st h=>wpAny_pyIter_revIter st h
def acR(K:WQ)(tl:TE):TI:=λZ H R=>tl Z H λx H1=>∃a xs,x=.ref a/\SqL K H1 a xs/\R (Itv K a xs.length) H1
theorem abD(g2:Gl X "reversed")(m2:X.mg "reversed"=none)(he:PE X e te)(h2:XE [e] X.env=[(false,Y3 e X.env)]:=by rfl):PI X tg (.Call (.Name "reversed" p2) [e] [] AH) (acR X.K te):=by
 intro U s Z H R I h;refine Yl (de I g2 m2 boot_reversed (X0 ?_ h2 rfl));rw[h2];show Xa _ _ (spliced ((false,Y3 e X.env)::[])) _ _ s;refine YL (thn (he U s Z H _ I h) λu s1⟨x,H1,I1,r1,a,ys,ex,hq,q⟩=>Zh ?_);subst ex;cases r1;obtain⟨its,rv,p,hz⟩:=I1.list hq;have hl:=rv.length;refine call_reversed_list p.isList ?_
 have hit:(s1.heap.push (revObj a ((its.toArray.size:Int) - 1))).IsRevIter s1.heap.objs.size a ((ys.length:Int) - 1 - ((0:Nat):Int)):=by
  rw[hl,show(its.length:Int) - 1 - ((0:Nat):Int)=(its.toArray.size:Int) - 1 by rw[W2];omega];exact⟨_,W4 _ rfl,rfl,rfl⟩
 refine wpAny_pyIter_revIter (s:={s1 with heap:=s1.heap.push (revObj a ((its.toArray.size:Int) - 1))}) hit ?_;refine⟨s1.heap.objs.size,[s1.heap.objs.size],_,_,H1,rfl,I1.kept (t':=s1.toks) λb o e=>WW _ e,xu a _ ys.length,hit,λb hb=>?_,q⟩;have e:b=s1.heap.objs.size:=by simpa using hb
 subst e;exact I1.fpOk (WY _) (I1.hok.fresh (WY _))
theorem aam(Pv:Nat->St->Hp->Prop)(h0:Pv 0 Z H)(hl:∀i Z H,i<=xs.length->Pv i Z H->SqL K H a xs)
 (hs:∀i x Z H,i<xs.length->xs[xs.length - 1 - i]?=some x->Pv i Z H->g x Z H λAz H2=>tb {D with nx:=Pv (i+1),ct:=Pv (i+1),bk:=D.nx} Az H2) (hd:∀Z H,Pv xs.length Z H->D.nx Z H) :
 ∃W:Nat->Nat->St->Hp->Prop,(∃m,W 0 m Z H)/\∀i m Z H,W i m Z H ->
   ((Itv K a xs.length).stop i H/\D.nx Z H)\/((Itv K a xs.length).go i H/\∃N:St->Hp->Prop,(∀Ab H',N Ab H'->∃m',m'<m/\W (i+1) m' Ab H')/\∀x H',(Itv K a xs.length).yld i H x H'->g x Z H' λAz H2=>tb {D with nx:=N,ct:=N,bk:=D.nx} Az H2):=by
 refine⟨λi m Z H=>i<=xs.length/\m=xs.length - i/\Pv i Z H,⟨xs.length,Xi _,rfl,h0⟩,?_⟩;rintro i m Z H ⟨hi,rfl,p⟩;by_cases h:i=xs.length
 .left;exact⟨h,hd Z H (by rw[<-h];exact p)⟩
 .right;have Be:i<xs.length:=by omega
  refine⟨⟨Be,xs,hl i Z H hi p,rfl⟩,Pv (i+1),λAb H' q=>⟨xs.length - (i+1),by omega,by omega,rfl,q⟩,?_⟩;rintro x H' ⟨rfl,hx⟩;exact hs i x Z H' Be (hx xs (hl i Z H' hi p)) p
end
end L2
namespace BB
open PySem L2
inductive Th where
 |knot (n:Xk) (ks:List Th)
 |call (s k:Int)
def q:Xk:=WT "?"
def Th.kids:Th->List Th
 |.knot _ ks=>ks
 |.call _ _=>[]
mutual
def Th.size:Th->Nat
 |.knot _ ks=>aw ks+1
 |.call _ _=>1
def aw:List Th->Nat
 | []=>0
 |t::ts=>t.size+aw ts
end
mutual
def Th.tall:Th->Nat
 |.knot _ ks=>aC ks+1
 |.call _ _=>1
def aC:List Th->Nat
 | []=>0
 |t::ts=>max t.tall (aC ts)
end
mutual
def Th.walk:Th->List Th
 |.knot n ks=>.knot n ks::walks ks
 |.call s k=>[.call s k]
def walks:List Th->List Th
 | []=>[]
 |t::ts=>t.walk++walks ts
end
theorem Th.walk_eq(t:Th):t.walk=t::walks t.kids:=by
 cases t with
 |knot n ks=>rw[Th.walk];rfl
 |call s k=>rw[Th.walk];simp[Th.kids,walks]
theorem Th.size_eq(t:Th):t.size=aw t.kids+1:=by
 cases t with
 |knot n ks=>rw[Th.size];rfl
 |call s k=>rw[Th.size];simp[Th.kids,aw]
theorem Th.tall_eq(t:Th):t.tall=aC t.kids+1:=by
 cases t with
 |knot n ks=>rw[Th.tall];rfl
 |call s k=>rw[Th.tall];simp[Th.kids,aC]
theorem jI:∀a b:List Th,walks (a++b)=walks a++walks b
 | [],b=>by simp[walks]
 |t::a,b=>by rw[Yn,walks,walks,jI a b,XS]
theorem bJ:∀a b:List Th,aw (a++b)=aw a+aw b
 | [],b=>by simp[aw]
 |t::a,b=>by rw[Yn,aw,aw,bJ a b,Z3]
mutual
theorem Th.walk_len:∀t:Th,t.walk.length=t.size
 |.knot n ks=>by rw[Th.walk,Th.size,W3,jT ks]
 |.call s k=>by rw[Th.walk,Th.size];rfl
theorem jT:∀ts:List Th,(walks ts).length=aw ts
 | []=>rfl
 |t::ts=>by rw[walks,aw,Xg,t.walk_len,jT ts]
end
theorem Th.size_pos(t:Th):1<=t.size:=by rw[t.size_eq];omega
mutual
def At(H:Hp):Th->WS->Prop
 |.knot n ks,a=>n≠q/\∃as:List WS,H a=some (.tup (.str n::as.map i!))/\Ats H ks as
 |.call s k,a=>H a=some (.tup [.str q,.int s,.int k])
def Ats(H:Hp):List Th->List WS->Prop
 | [],as=>as=[]
 |t::ts,as=>∃a r,as=a::r/\At H t a/\Ats H ts r
end
def KT(H H':Hp):Prop:=∀b xs,H b=some (.tup xs)->H' b=some (.tup xs)
theorem KT.trans(a:KT H H1)(b:KT H1 H2):KT H H2:=λc o h=>b c o (a c o h)
theorem Same.kt(h:k! H H'):KT H H':=λb xs e=>h b _ e
theorem dD{l:WS}(h:H l=none):KT H (upd H l o):=λb xs e=>by rw[aj (ax e h)];exact e
theorem aK{l:WS}(h:H l=some (.lst xs)):KT H (upd H l o):=λb ys e=>by rw[aj (ej e h (by intro z;cases z))];exact e
mutual
theorem At.mono(k:KT H H'):∀{t:Th}{a:WS},At H t a->At H' t a
 | .knot n ks,a,h=>by
   rw[At]at h |-;obtain⟨h0,as,h1,h2⟩:=h;exact⟨h0,as,k _ _ h1,Ats.mono k h2⟩
 | .call s c,a,h=>by
   rw[At]at h |-;exact k _ _ h
theorem Ats.mono(k:KT H H'):∀{ts:List Th}{as:List WS},Ats H ts as->Ats H' ts as
 | [],as,h=>by rw[Ats]at h |-;exact h
 | t::ts,as,h=>by
   rw[Ats]at h |-;obtain⟨a,r,e,h1,h2⟩:=h;exact⟨a,r,e,At.mono k h1,Ats.mono k h2⟩
end
theorem Ats.nil:Ats H [] []:=by rw[Ats]
theorem Ats.cons{t:Th}{ts:List Th}(h1:At H t a)(h2:Ats H ts as):Ats H (t::ts) (a::as):=by rw[Ats];exact⟨a,as,rfl,h1,h2⟩
theorem Ats.append:∀{ts us:List Th}{as bs:List WS},Ats H ts as->Ats H us bs->Ats H (ts++us) (as++bs)
 | [],us,as,bs,h,g=>by rw[Ats]at h;subst h;exact g
 | t::ts,us,as,bs,h,g=>by
   rw[Ats]at h;obtain⟨a,r,rfl,h1,h2⟩:=h;exact .cons h1 (h2.append g)
theorem Ats.length:∀{ts:List Th}{as:List WS},Ats H ts as->as.length=ts.length
 | [],as,h=>by rw[Ats]at h;subst h;rfl
 | t::ts,as,h=>by
   rw[Ats]at h;obtain⟨a,r,rfl,h1,h2⟩:=h;rw[W3,W3,h2.length]
theorem Ats.get:∀{ts:List Th}{as:List WS}{i:Nat}{a:WS},Ats H ts as->as[i]?=some a->∃t,ts[i]?=some t/\At H t a
 | [],as,i,a,h,e=>by rw[Ats]at h;subst h;simp at e
 | t::ts,as,i,a,h,e=>by
   rw[Ats]at h;obtain⟨b,r,rfl,h1,h2⟩:=h;cases i with
   |zero=>simp at e;subst e;exact⟨t,rfl,h1⟩
   |succ i=>exact h2.get (i:=i) (by simpa using e)
theorem Ats.at:∀{ts:List Th}{as:List WS}{i:Nat}{t:Th},Ats H ts as->ts[i]?=some t->∃a,as[i]?=some a/\At H t a
 | [],as,i,a,h,e=>by simp at e
 | t::ts,as,i,a,h,e=>by
   rw[Ats]at h;obtain⟨b,r,rfl,h1,h2⟩:=h;cases i with
   |zero=>simp at e;subst e;exact⟨b,rfl,h1⟩
   |succ i=>exact h2.at (i:=i) (by simpa using e)
end BB
open BB.Same renaming kt->j!
open BB.Th renaming knot->o!,size->p!,tall->r!,call->B!,walk_len->L!,kids->M!
variable{p head:BB.Th}{ts:List BB.Th}{rows:List (List BB.Th)}
namespace BB
open PySem L2
def lX:Xk:=WT "abcdefghijklmnopqrstuvwxyz"
theorem uq:lX.cps.toList=(XG 26).map (97+·):=by decide +kernel
theorem r8:lX.length=26:=by decide +kernel
theorem at_nonneg{xs:List α}{i:Int}{v:α}(h0:0<=i)(h:xs[i.toNat]?=some v):atI xs i=some v:=by
 have e:i=((i.toNat:Nat):Int):=by omega
 rw[e];exact cy h
theorem wZ{i:Int}(h0:0<=i)(h1:i<26):atI lX.cps.toList i=some (97+i.toNat):=by
 refine at_nonneg h0 ?_;rw[uq,W0,X4 (by omega)];rfl
def Low(x:Xk):Prop:=∀c∈x.cps.toList,97<=c/\c<=122
theorem aav{y:Xk}(hx:Low x)(hy:Low y):Low (x++y):=by
 intro c hc;have AX:c∈(x.cps++y.cps).toList:=hc;rw[Array.toList_append,Xq]at AX;rcases AX with h|h
 .exact hx c h
 .exact hy c h
theorem zX{c:Nat}(h1:97<=c)(h2:c<=122):Low ⟨#[c]⟩:=by
 intro d hd;have:d=c:=by simpa using hd
 omega
theorem pe(h:Low x):x≠q:=by
 intro e;subst e;have:=h 63 (by decide +kernel);omega
end BB
namespace L2
open PySem PySem.Spec PyProof.Rows
theorem Same.seqT(e:Same H H')(h:SqT K H a xs):SqT K H' a xs:=by
 rcases h with(h|⟨o,h⟩)|h
 .exact .inl (.inl (e _ _ h))
 .exact .inl (.inr ⟨o,e _ _ h⟩)
 .exact .inr h
theorem ae{p:WS}(h:H p=none)(o:HO):Same H (upd H p o):=λb u q=>by rw[aj (ax q h)];exact q
@[elab_as_elim] theorem gU{G:Hp->Prop}(h:H a=none)(k:∀H',k! H H'->H' a=some o->G H'):G (upd H a o):=k _ (ae h _) ac
theorem am{l:WS}(h:Same H H1)(n:H l=none):Same H (upd H1 l o):=λb u e=>by rw[aj (ax e n)];exact h b u e
theorem zQ{J:It}(zs:List α)(p:α->Bool)(f:α->V)(hz:zs.length=xs.length)(hn:xs.length<=1000000)
 (Fe:∀i H2,Same H H2->i<xs.length->J.go i H2) (Bf:∀H2,Same H H2->J.stop xs.length H2) (Cj:∀(i:Nat)H2 x H3,Same H H2->i<xs.length->J.yld i H2 x H3->H3=H2/\xs[i]?=some x)
 (EV:∀(i:Nat)x z H2(R:Bool->Hp->Prop),xs[i]?=some x->zs[i]?=some z->Same H H2->R (p z) H2->tt ((cσ js Z).set 0 (some x)) H2 R)
 (Jm:∀(i:Nat)x z H2(R:VK),xs[i]?=some x->zs[i]?=some z->p z=true->Same H H2->R (f z) H2->te ((cσ js Z).set 0 (some x)) H2 R)
 (q:∀D,H D=none->fin D (upd H D (.lst ((zs.filter p).map f)))) :
 ∀D,H D=none->∃(n:Nat)(W:Nat->Hp->Prop),W 0 (upd H D (.lst []))/\gX js (aq 0) tt te Z J D n W λH'=>fin D H':=by
 intro D hD;refine⟨xs.length,λi H2=>i<=xs.length/\H2=upd H D (.lst (((zs.take i).filter p).map f)),⟨Xi _,by simp⟩,?_⟩;rintro i H2 ⟨hi,rfl⟩;have sm:∀o,Same H (upd H D o):=λo=>ae hD o;by_cases h:i=xs.length
 .left;subst h;refine⟨Bf _ (sm _),?_⟩;rw[<-hz,YR];exact q D hD
 .right;have Be:i<xs.length:=by omega
  refine⟨Be,Fe i _ (sm _) Be,λx H1 hy=>?_⟩;obtain⟨rfl,hx⟩:=Cj i _ x H1 (sm _) Be hy;have Nm:i<zs.length:=by omega
  have e1:zs[i]?=some zs[i]:=WR Nm
  have e2:(zs.take (i+1)).filter p=(zs.take i).filter p++(if p zs[i]=true then[zs[i]]else[]):=by
   rw[Yi,e1,ZD];show _++List.filter p [zs[i]]=_;rw[XX,List.filter_nil]
  refine EV i x zs[i] _ _ hx e1 (sm _) ?_
  have hlen:(((zs.take i).filter p).map f).length<=1000000:=by
   rw[WO];have:=ZG p (zs.take i);rw[XO]at this;omega
  by_cases hp:p zs[i]=true
  .rw[b! hp];refine Jm i x zs[i] _ _ hx e1 hp (sm _) ⟨_,ac,Nat.lt_of_le_of_lt hlen (by decide),Be,?_⟩;rw[l6,e2,b! hp,Xc];rfl
  .rw[a! hp];refine⟨Be,?_⟩;rw[e2,a! hp,XA]
theorem r9(zs:List α)(p:α->Bool)(f:α->V)(hS:SqT K H a xs)(hz:zs.length=xs.length)(hn:xs.length<=1000000)
 (EV:∀(i:Nat)x z H2(R:Bool->Hp->Prop),xs[i]?=some x->zs[i]?=some z->Same H H2->R (p z) H2->tt ((cσ js Z).set 0 (some x)) H2 R)
 (Jm:∀(i:Nat)x z H2(R:VK),xs[i]?=some x->zs[i]?=some z->p z=true->Same H H2->R (f z) H2->te ((cσ js Z).set 0 (some x)) H2 R)
 (q:∀D,H D=none->fin D (upd H D (.lst ((zs.filter p).map f)))) :
 ∀D,H D=none->∃(n:Nat)(W:Nat->Hp->Prop),W 0 (upd H D (.lst []))/\gX js (aq 0) tt te Z (Itt K a) D n W λH'=>fin D H' :=
 zQ zs p f hz hn (λi H2 s hi=>⟨xs,xs[i],s.seqT hS,WR hi⟩) (λH2 s=>⟨xs,s.seqT hS,WY _⟩) (λi H2 x H3 s hi hy=>⟨hy.1,hy.2 xs (s.seqT hS)⟩) EV Jm q
end L2
namespace BB
open PySem L2
theorem at0{x:α}{xs:List α}:atI (x::xs) 0=some x:=cy (j:=0) rfl
theorem at1{x y:α}{xs:List α}:atI (x::y::xs) 1=some y:=cy (j:=1) rfl
theorem at2{x y z:α}{xs:List α}:atI (x::y::z::xs) 2=some z:=cy (j:=2) rfl
theorem fF(x:V)(xs:List V):gB (x::xs) (some 1) none=xs:=by
 unfold gB;simp[z!]
theorem cw:∀ts:List Th,ts.length<=aw ts
 | []=>Xi _
 | t::ts=>by
   have:=t.size_pos;have:=cw ts;rw[W3,aw];omega
theorem pf(ts:List Th):aw ts.reverse=aw ts:=by
 induction ts with
 |nil=>rfl
 |cons x xs ih=>rw[X9,bJ,ih,aw,aw,aw];omega
theorem bQ(h:n<=1000000):n<Xe:=Nat.lt_of_le_of_lt h (by decide)
theorem di(h:n<=1000000):n<=Xe:=ZV (bQ h)
theorem lnE(h:Nat.ble n 1000000=true):n<=Xe:=di (Nat.le_of_ble_eq_true h)
theorem uAE:(upd H a (.lst (as.map i!++[.ref b]))) a=some (.lst ((as++[b]).map i!)):=by rw[ac,Xc];rfl
theorem lbE{f:α->β}{l:List α}(h:l.length<=1000000):(l.map f).length<Xe:=bQ (by rw[WO];exact h)
theorem int_at{k:Int}(h0:0<=k)(h:k<(ns.length:Int)):atI (ns.map q!) k=some (.int (ns.getD k.toNat 0)):=by
 refine at_nonneg h0 ?_;have hk:k.toNat<ns.length:=by omega
 rw[W0,WR hk,List.getD_eq_getElem?_getD,WR hk];rfl
section
variable{G:α->β->Prop}
theorem P2.append:∀{a c:List α}{b d:List β},Xs F a b->Xs F c d->Xs F (a++c) (b++d)
 |_,_,_,_,.nil,h=>h
 |_,_,_,_,.cons r t,h=>.cons r (P2.append t h)
theorem P2.get:∀{a:List α}{b:List β}{i:Nat}{x:α},Xs F a b->a[i]?=some x->∃y,b[i]?=some y/\F x y
 |_,_,_,_,.nil,e=>by simp at e
 |_,_,0,_,.cons r _,e=>by simp at e;subst e;exact⟨_,rfl,r⟩
 | _,_,i+1,x,.cons _ t,e=>by
   obtain⟨u,h1,h2⟩:=P2.get (i:=i) (x:=x) t (by simpa using e);exact⟨u,by simpa using h1,h2⟩
theorem P2.get':∀{a:List α}{b:List β}{i:Nat}{y:β},Xs F a b->b[i]?=some y->∃x,a[i]?=some x/\F x y
 |_,_,_,_,.nil,e=>by simp at e
 |_,_,0,_,.cons r _,e=>by simp at e;subst e;exact⟨_,rfl,r⟩
 | _,_,i+1,y,.cons _ t,e=>by
   obtain⟨u,h1,h2⟩:=P2.get' (i:=i) (y:=y) t (by simpa using e);exact⟨u,by simpa using h1,h2⟩
theorem P2.mp(f:∀x y,F x y->G x y):∀{a:List α}{b:List β},Xs F a b->Xs G a b
 |_,_,.nil=>.nil
 |_,_,.cons r t=>.cons (f _ _ r) (P2.mp f t)
end
def KAt(H:Hp)(k:Xk×Int)(a:WS):Prop:=H a=some (.tup [.str k.1,.int k.2])
def KsAt(H:Hp)(ks:List (Xk×Int))(as:List WS):Prop:=Xs (KAt H) ks as
theorem KsAt.mono(k:KT H H'){ks:List (Xk×Int)}(h:KsAt H ks as):KsAt H' ks as:=P2.mp (λx y e=>k _ _ e) h
end BB
open BB.P2 renaming append->t!,mp->y!,get'->C!,get->H!
namespace L2
open PySem
theorem ci{t u:TS}(R:St->Hp->Prop)(h1:∀k:St->Hp->Prop,(∀Ab H',R Ab H'->k Ab H')->t {D with nx:=k} Z H)(h2:∀Ab H',R Ab H'->u D Ab H'):abY t u D Z H:=h1 _ h2
theorem ce{c:TT}{t u:TS}(R:Bool->Hp->Prop)(h1:∀k:Bool->Hp->Prop,(∀b H',R b H'->k b H')->c Z H k)(h2:∀H',R true H'->t D Z H')(h3:∀H',R false H'->u D Z H'):acw c t u D Z H :=
 h1 _ λb H' r=>by
  cases b with
  |true=>rw[b! rfl];exact h2 H' r
  |false=>rw[a! W8];exact h3 H' r
end L2
namespace BB
open PySem L2
mutual
def Th.Fit(ks:List (Xk×Int)):Th->Prop
 |.knot n ts=>(n,(ts.length:Int))∈ks/\Fits ks ts
 |.call _ _=>False
def Fits(ks:List (Xk×Int)):List Th->Prop
 | []=>True
 |t::ts=>t.Fit ks/\Fits ks ts
end
section
variable{ext:Th->List V}{t:Th}{es:List WS}
end
theorem filter_tt(xs:List α):xs.filter (λ_=>true)=xs:=by
 induction xs with
 |nil=>rfl
 |cons x xs ih=>rw[XX,b! rfl,ih]
theorem bX:∀{ts:List Th}{t:Th},t∈ts->t.tall<=aC ts
 | u::ts,t,h=>by
   rw[aC];rcases W9.mp h with rfl|h
   .omega
   .have:=bX h;omega
theorem take_snoc{xs:List α}{x:α}(h:xs[n]?=some x):xs.take (n+1)=xs.take n++[x]:=by rw[Yi,h];rfl
theorem aR{xs:List WS}{x:V}(h:(xs.map i!)[i]?=some x):∃a,x=.ref a/\xs[i]?=some a:=by
 rw[W0]at h;obtain⟨a,h1,h2⟩:=XJ.mp h;exact⟨a,h2.symm,h1⟩
end BB
namespace PySem
open Sem (wp)
theorem bb_tupNext{cur:WS}{x:WV}(g:s.heap.IsTupleIter cur tp i)(gt:s.heap.IsTuple tp items)(hx:items[i]?=some x)
 (fin:∀h',h'.IsTupleIter cur tp (i+1)->YF cur s.heap h'->Q x {s with heap:=h'}):Xa (Xu prog w) A (X1 (.ref cur)) Q E s:=by
 obtain⟨ob,e1,e2,e3⟩:=id g;obtain⟨ot,e4,_,nt,e5⟩:=gt;unfold X1;refine WN (X2 (name:=WT "__next__") g.typeIs F.slot_tuple_iterator_next (X5 F.slot_tuple_iterator_next g.typeIs F.entry_tuple_iterator_next ?_ (F.args_tuple_iterator_next_1 _)));show Xa _ _ (field (.ref cur) 0 >>= _) _ _ s;refine WN (XW e1 e3 (x:=.ref tp) rfl ?_);show Xa _ _ (if(Xl tp == Yp)=true then _ else _) _ _ s;rw[a! (show¬((Xl tp == Yp)=true)from W8)];show Xa _ _ (field (.ref cur) 1 >>= _) _ _ s;refine WN (XW e1 e3 (x:=.int i 0) rfl ?_);show Xa _ _ (seqItems? (.ref tp) >>= _) _ _ s;refine WN (YB e4 e5 ?_);simp only[XM,hx];refine WN (wpAny_setField e1 e3 (by simp) (WX ⟨x,rfl,WX (fin _ ?_ (Zi ..))⟩));exact⟨_,XN _ e1 (Obj.isFreed_of_fields (Zn e3 _)),(Obj.cls_mapFields ..).trans e2,by rw[Zn e3];simp[Y8]⟩
theorem bb_tupEnd{cur:WS}(calm:A.handled=none)(g:s.heap.IsTupleIter cur tp i)(gt:s.heap.IsTuple tp items)(hx:items[i]?=none)
 (fin:∀h' e,Heap.ExtBut cur s.heap h'->(∃o,h'.get? e=some o/\o.cls=.type "StopIteration")->E (.ref e) {s with heap:=h'}):Xa (Xu prog w) A (X1 (.ref cur)) Q E s:=by
 obtain⟨ob,e1,e2,e3⟩:=id g;obtain⟨ot,e4,_,nt,e5⟩:=gt;unfold X1;refine WN (X2 (name:=WT "__next__") g.typeIs F.slot_tuple_iterator_next (X5 F.slot_tuple_iterator_next g.typeIs F.entry_tuple_iterator_next ?_ (F.args_tuple_iterator_next_1 _)));show Xa _ _ (field (.ref cur) 0 >>= _) _ _ s;refine WN (XW e1 e3 (x:=.ref tp) rfl ?_);show Xa _ _ (if(Xl tp == Yp)=true then _ else _) _ _ s;rw[a! (show¬((Xl tp == Yp)=true)from W8)];show Xa _ _ (field (.ref cur) 1 >>= _) _ _ s;refine WN (XW e1 e3 (x:=.int i 0) rfl ?_);show Xa _ _ (seqItems? (.ref tp) >>= _) _ _ s;refine WN (YB e4 e5 ?_);simp only[XM,hx];refine WN (Zy (WN (wpAny_setField e1 e3 (by simp) ?_)));show Xa _ _ (newExc (.type "StopIteration") [] >>= _) _ _ _;refine WN ?_;simp only[newExc,newTuple];refine WN (Ye ?_ (by size_fits));refine WN (m:=firstArgMember _ _) (wpAny_of_eq (a:=Yp) (by first|rfl|(simp only[firstArgMember];rfl)) ?_);refine Ye ?_ (by size_fits);simp only[raiseNew];refine WN (wpAny_handled ?_)
 first|rw[show A.in1.handled=none from calm]|rw[calm]
 refine WN (WX (wpAny_throw ?_));exact fin _ _ (((Zi ..).extBut.push _).push _) ⟨_,W4 _ rfl,rfl⟩
theorem bb_drawsT(calm:A.handled=none)(cur tp:WS)(ne:tp≠cur)(items:Array WV) :
 Draws prog w A cur [cur,tp] items.size (λi v=>items[i]?=some v) (λi h=>h.IsTupleIter cur tp i/\h.IsTuple tp items) where
 live:=λ_ _ st=>let⟨o,e,_⟩:=st.1;⟨o,e⟩
 frame:=λ_ _ _ st k=>⟨let⟨o,e,r⟩:=st.1;⟨o,k cur (by simp) o e,r⟩,let⟨o,e,r⟩:=st.2;⟨o,k tp (by simp) o e,r⟩⟩
 item:=λi s Q E hi st q=>by
  refine bb_tupNext st.1 st.2 (x:=items[i]) (by simp[hi]) λh' g' sb=>?_;exact q _ h' s.toks (by simp[hi]) ⟨g',st.2.extBut sb.extBut ne⟩ sb
 done:=λs Q E st e=>bb_tupEnd calm st.1 st.2 (by simp) e
theorem bb_meetsEnumT(tp:WS)(items:Array WV)(n:Nat)(Nn:Option WS)(sl:Array (Option WV)) :
 Meets (Zt.«enumerate.__new__» ⟨[.type "enumerate",.ref tp],[]⟩) (λ_ R s=>s.heap.get? tp=some {cls:=.type "tuple",dict:=Nn,data:=.seq items n,slots:=sl} /\
  R (.ok (.ret (.ref (s.heap.push {cls:=.type "tuple_iterator",data:=.fields #[.ref tp,.int 0 0]}).objs.size)))
    {s with heap:=(s.heap.push {cls:=.type "tuple_iterator",data:=.fields #[.ref tp,.int 0 0]}).push {cls:=.type "enumerate",data:=.fields #[.none,.bool false,.ref s.heap.objs.size,Y8 0,.none,.none]}}) :=
 .of_wp λprog w A R s h=>by
  obtain⟨hp,g,d,tk,os⟩:=s;obtain⟨gt,fin⟩:=h;have su:=sub_enumerate;have gT:Heap.IsTuple (Shared.heap ⟨hp,g,d,tk,os⟩) tp items:=⟨_,gt,rfl,n,rfl⟩
  wp_walk using Zu gt
  refine wpAny_stack_any λst=>WX ?_;split
  .rename_i c _ _ _ _ _
   cases(c == Zm "enumerate")
   .wp_walk using Zu gt,ZT gT
    exact⟨_,rfl,fin⟩
   .wp_walk using Zu gt,ZT gT
    exact⟨_,rfl,fin⟩
  .wp_walk using Zu gt,ZT gT
   exact⟨_,rfl,fin⟩
theorem bb_callEnumT(gT:s.heap.IsTuple tp items)
 (fin:∀h',IsEnum h' (s.heap.objs.size+1) s.heap.objs.size 0 .none->h'.IsTupleIter s.heap.objs.size tp 0->h'.objs.size=s.heap.objs.size+2 ->
  (∀b o,s.heap.get? b=some o->h'.get? b=some o)->Q (.ref (s.heap.objs.size+1)) {s with heap:=h'}):Xa (Xu prog w) A (call (.type "enumerate") [.ref tp]) Q E s:=by
 obtain⟨⟨c,Nn,dt,sl⟩,e1,e2,n,e3⟩:=gT;replace e2:c=.type "tuple":=e2;replace e3:dt=.seq items n:=e3;subst e2 e3;refine callType_new F.called_enumerate (by decide) (F.typeCall_enumerate_1 _) (F.newCall_enumerate_1 _) (λobj=>F.args_object_init_2 obj _) F.entry_enumerate_new (bb_meetsEnumT tp items n Nn sl) ⟨e1,?_⟩;have z:(s.heap.push {cls:=.type "tuple_iterator",data:=.fields #[.ref tp,.int 0 0]}).objs.size=s.heap.objs.size+1:=X3 ..;show _/\_;rw[z]
 have ge:IsEnum ((s.heap.push {cls:=.type "tuple_iterator",data:=.fields #[.ref tp,.int 0 0]}).push {cls:=.type "enumerate",data:=.fields #[.none,.bool false,.ref s.heap.objs.size,Y8 0,.none,.none]}) (s.heap.objs.size+1) s.heap.objs.size 0 .none:=by
  have t:=W4 (s.heap.push {cls:=.type "tuple_iterator",data:=.fields #[.ref tp,.int 0 0]}) (o:={cls:=.type "enumerate",data:=.fields #[.none,.bool false,.ref s.heap.objs.size,Y8 0,.none,.none]}) rfl;rw[z]at t;exact t
 exact⟨⟨_,ge,rfl⟩,fin _ ge ⟨_,WW _ (W4 _ rfl),rfl,rfl⟩ (by rw[X3,z]) λb o x=>WW _ (WW _ x)⟩
end PySem
namespace L2
open PySem PySem.Spec PyProof.Rows
theorem Inv.turnedL(I:Inv X U Z H s)(k:∀b o,b∉fp->s.heap.get? b=some o->h'.get? b=some o)(hf:∀b∈fp,km X U H b) :
 Inv X U Z H {s with heap:=h',toks:=t'}:=by
 have IV:∀b u,H b=some u->b∉fp:=λb u e z=>by rw[(hf b z).1]at e;cases e
 refine I.step (g':=s.gens) (d':=s.drawn) (ch:=fp) (λb hb=>?_) (λb o _ _ hc e _=>k b o hc e) (λb o _ _ hc e _=>⟨o.slots,k b o hc e⟩) (λ_ _ _ _ n=>n)
  (λb o hc e=>⟨o,k b o hc e⟩) (λ_ _ e=>e) (λ_ _ _ e=>e) (λb ps e=>⟨#[],by rw[e];simp⟩) (λm hm=>?_) (λb u e=>?_) I.bare
 .obtain⟨f0,f1,f2,f3,f4,f5⟩:=hf b hb;exact⟨f3,f1,f4,f5⟩
 .obtain⟨o,es,ep,ho,r⟩:=hm;exact⟨o,es,ep,k _ o (λz=>(hf _ z).2.1 rfl) ho,r⟩
 .refine(I.hok b u e).stay (λc v hc q=>k c v ?_ q) (λ_ q=>q) λ_ _ q=>q;rcases hc with z|z
  .rw[z];exact IV b u e
  .exact IV c _ z
def Ite(K:WQ)(a:WS):It:=⟨λi H=>∃xs x,SqT K H a xs/\xs[i]?=some x,λi H x H'=>∃p y,H p=none/\x=.ref p/\H'=upd H p (.tup [.int (i:Nat),y])/\∀xs,SqT K H a xs->xs[i]?=some y,λi H=>∃xs,SqT K H a xs/\xs.length=i⟩
theorem wX{k1}(a e it:WS):Turn P w K (.Tuple elts k1 pos) (Ite K a) [e,it] e (λi h=>(∃old,IsEnum h e it ((i:Nat):Int) old)/\h.IsTupleIter it a i) where
 mem:=by simp
 obj:=λi h st b hb=>by
  obtain⟨⟨old,he⟩,o,e1,e2,e3⟩:=st;rcases W9.mp hb with rfl|hb
  .exact⟨_,he,λv z=>by cases z⟩
  .have:b=it:=by simpa using hb
   subst this;exact⟨o,e1,λv z=>by rw[e3]at z;cases z⟩
 keep:=λi h h' st k=>by
  obtain⟨⟨old,he⟩,o,e1,e2⟩:=st;exact⟨⟨old,k e (by simp) _ he⟩,o,k it (by simp) _ e1,e2⟩
 item:=by
  intro X hP hw hK hc i U s Z H E I hf st hg;subst hP hw hK;obtain⟨xs,x,hq,hx⟩:=hg;obtain⟨its,rv,p,hz⟩:=I.tuple hq;obtain⟨u,hu,ru⟩:=rv.get hx;obtain⟨⟨old,he⟩,hi⟩:=st
  have GQ:e≠it:=by
   rintro rfl;obtain⟨o,e1,e2,_⟩:=hi;rw[he]at e1;cases e1;exact g! (YS e2) (by decide)
  have GR:a≠it:=by
   rintro rfl;obtain⟨o,e1,e2,_⟩:=hi;obtain⟨o',Dh,Cq,_⟩:=p;rw[Dh]at e1;cases e1;rw[Cq]at e2;exact g! (YS e2) (by decide)
  have Np:a≠e:=by
   rintro rfl;obtain⟨o',Dh,Cq,_⟩:=p;rw[he]at Dh;cases Dh;exact g! (YS Cq) (by decide)
  have Am:i<its.toArray.size:=by
   have:=(glE hu);simpa using this
  have Nq:e<s.heap.objs.size:=Xb he;have Cr:it<s.heap.objs.size:=by obtain⟨o,e1,_⟩:=hi;exact Xb e1
  refine wpAny_pyNext_enum_itemD (bb_drawsT (A:=X.A.in1) (show X.A.in1.handled=none from I.ok.hd hc) it a GR its.toArray) he ⟨hi,p⟩ Am GQ (by simp[GQ,Np.symm]) λy h1 tk hy ho Nr hT hsz hk=>?_
  have Nt:y=u:=by
   have:its[i]?=some y:=by simpa using hy
   rw[hu]at this;exact(Xm this).symm
  subst Nt;refine⟨_,rfl,wpAny_letOwnedTupleGo_enum ho λh2 Nu DQ=>?_⟩;replace DQ:YF e h1 h2:=DQ
  have Av:∀b∈[e,it],b<s.heap.objs.size:=λb hb=>by
   rcases W9.mp hb with rfl|hb
   .exact Nq
   .have:b=it:=by simpa using hb
    subst this;exact Cr
  have Jn:H s.heap.objs.size=none:=I.hok.fresh (WY _)
  have IA:Inv X U Z (upd H s.heap.objs.size (.tup [.int (i:Nat),x])) {s with heap:=s.heap.push {cls:=.type "tuple",data:=.seq #[.int (i:Nat) tk,y]},toks:=tk} :=
   I.laid (o:=.tup [.int (i:Nat),x]) (λb ob q=>WW _ q) (WY _) ⟨by show 2<=Xe;decide,[.int (i:Nat) tk,y],0,.cons ⟨tk,rfl⟩ (.cons ru .nil),W4 _ rfl⟩
  refine⟨.ref s.heap.objs.size,upd H s.heap.objs.size (.tup [.int (i:Nat),x]),?_,rfl,⟨_,x,Jn,rfl,rfl,λys Jk=>by rw[I.tuple_inj Jk hq];exact hx⟩,⟨⟨y,by simpa using Nu⟩,?_⟩,λb hb=>?_⟩
  .have IB:Inv X U Z (upd H s.heap.objs.size (.tup [.int (i:Nat),x])) {s with heap:=h2,toks:=tk+1}:=by
    refine Inv.turnedL (s:={s with heap:=s.heap.push {cls:=.type "tuple",data:=.seq #[.int (i:Nat) tk,y]},toks:=tk}) (h':=h2) (fp:=[e,it]) (t':=tk+1) IA (λb o hb q=>?_) λb hb=>?_
    .have DJ:b≠e:=λz=>hb (by simp[z]);have Nv:b≠it:=λz=>hb (by simp[z]);rw[DQ.2 b DJ];by_cases AF:b=s.heap.objs.size
     .subst AF;rw[hT];have q':(s.heap.push {cls:=.type "tuple",data:=.seq #[.int (i:Nat) tk,y]}).get? s.heap.objs.size=some o:=q;rw[W4 _ rfl]at q';exact q'
     .have Bi:b<(s.heap.push {cls:=.type "tuple",data:=.seq #[.int (i:Nat) tk,y]}).objs.size:=Xb q;rw[X3]at Bi;refine hk b o DJ Nv ?_;have q':(s.heap.push {cls:=.type "tuple",data:=.seq #[.int (i:Nat) tk,y]}).get? b=some o:=q;rw[Heap.get?_push_ne _ _ _ AF]at q';exact q'
    .obtain⟨f0,f1⟩:=hf b hb;exact⟨by rw[aj (Xy (Av b hb))];exact f0,f1⟩
   exact IB
  .obtain⟨o,e1,r⟩:=Nr.1;exact⟨o,(DQ.2 it (YQ GQ)).trans e1,r⟩
  .rw[aj (Xy (Av b hb))];exact(hf b hb).1
 done:=by
  intro X hP hw hK hc i U s Z H E I hf st hg;subst hP hw hK;obtain⟨xs,hq,hx⟩:=hg;obtain⟨its,rv,p,hz⟩:=I.tuple hq;obtain⟨⟨old,he⟩,hi⟩:=st
  have GR:a≠it:=by
   rintro rfl;obtain⟨o,e1,e2,_⟩:=hi;obtain⟨o',Dh,Cq,_⟩:=p;rw[Dh]at e1;cases e1;rw[Cq]at e2;exact g! (YS e2) (by decide)
  have hn:its.toArray.size=i:=by
   have:=rv.length;rw[W2];omega
  refine wpAny_pyNext_enum_endD (bb_drawsT (A:=X.A.in1) (show X.A.in1.handled=none from I.ok.hd hc) it a GR its.toArray) he (by rw[hn];exact⟨hi,p⟩) λh' eb=>⟨rfl,?_⟩;exact I.turnedL (fp:=[e,it]) (t':=s.toks) (λb o hb q=>eb b o (λz=>hb (by simp[z])) q) hf
 self:=λ_ _ _ _ _ st h=>by
  obtain⟨⟨old,he⟩,_⟩:=st;exact wpAny_pyIter_enum he h
section
variable{p2 AH:Z9}
def acv(K:WQ)(tl:TE):TI:=λZ H R=>tl Z H λx H1=>∃a,x=.ref a/\(∃xs,SqT K H1 a xs)/\R (Ite K a) H1
theorem pV{k1}(g2:Gl X "enumerate")(m2:X.mg "enumerate"=none)(he:PE X e te)(h2:XE [e] X.env=[(false,Y3 e X.env)]:=by rfl):PI X (.Tuple elts k1 pos) (.Call (.Name "enumerate" p2) [e] [] AH) (acv X.K te):=by
 intro U s Z H R I h;refine Yl (de I g2 m2 boot_enumerate (X0 ?_ h2 rfl));rw[h2];show Xa _ _ (spliced ((false,Y3 e X.env)::[])) _ _ s;refine YL (thn (he U s Z H _ I h) λu s1⟨x,H1,I1,r1,a,ex,⟨xs,hq⟩,q⟩=>Zh ?_);subst ex;cases r1;obtain⟨its,rv,p,hz⟩:=I1.tuple hq;refine bb_callEnumT (show s1.heap.IsTuple a its.toArray from p) λh' g1 g2 g3 g4=>?_;refine wpAny_pyIter_enum (s:={s1 with heap:=h'}) g1 ?_;refine⟨s1.heap.objs.size+1,[s1.heap.objs.size+1,s1.heap.objs.size],_,_,H1,rfl,I1.kept (t':=s1.toks) g4,wX a _ _,⟨⟨_,g1⟩,g2⟩,λb hb=>?_,q⟩
 have AJ:s1.heap.objs.size<=b:=by
  rcases W9.mp hb with rfl|hb
  .omega
  .have:b=s1.heap.objs.size:=by simpa using hb
   exact Nat.le_of_eq this.symm
 exact I1.fpOk AJ (I1.hok.fresh AJ)
inductive yj(K:WQ)(x:V)(y:V)(H:Hp)(Q:VK):Prop
 |mk (a:_) (b:_) (xs:_) (ys:_) (An:x=.ref a) (Ao:y=.ref b) (Au:SqT K H a xs) (AD:SqT K H b ys) (AR:xs.length+ys.length<=Xe) (BX:(xs=[]->Q (.ref b) H)) (D5:(xs≠[]->ys=[]->Q (.ref a) H)) (Eh:(xs≠[]->ys≠[]->∀p,H p=none->Q (.ref p) (upd H p (.tup (xs++ys))))):yj K x y H Q
def rG(K:WQ):R2:=yj K
theorem dN:OpR X (binaryOp .Add) (rG X.K):=by
 intro U s Z H x y v u Q I rx ry h;obtain⟨a,b,xs,ys,e1,e2,ha,hb,hz,q0,q1,q2⟩:=h;by_cases hx:xs=[]
 .subst e1 e2;cases rx;cases ry;obtain⟨its,r1,p1,_⟩:=I.tuple ha;obtain⟨Ah,r2,p2,_⟩:=I.tuple hb;have hi:its=[]:=r1.nil_iff.mpr hx;obtain⟨⟨cls,dd,data,sl⟩,ho,hc,n,hd⟩:=p1;obtain⟨⟨Jb,Ik,data2,Il⟩,E',B8,n2,hd2⟩:=p2;simp only at hc hd B8 hd2;subst hc hd B8 hd2;exact concat_meets ⟨_,ho,rfl⟩ ⟨_,E',rfl⟩ noFill_tuple_add seq_tuple_add PySem.F.slot_tuple_add PySem.F.entry_tuple_add (PySem.F.args_tuple_add_2 _ _) (tuple_addW0 a b its.toArray Ah.toArray n n2 dd Ik sl Il (by simp[hi])) ⟨ho,E',⟨.ref b,H,I,rfl,q0 hx⟩⟩
 .exact zH U s Z H x y v u Q I rx ry ⟨a,b,xs,ys,e1,e2,ha,hb,hx,hz,q1 hx,q2 hx⟩
end
end L2
namespace PySem
open Sem (wp)
abbrev tzH1(h:X7)(l1:WS):X7:=h.push {cls:=.type "tuple_iterator",data:=.fields #[.ref l1,.int 0 0]}
abbrev tzH2(h:X7)(l1 l2:WS):X7:=(tzH1 h l1).push {cls:=.type "tuple_iterator",data:=.fields #[.ref l2,.int 0 0]}
abbrev tzH3(h:X7)(l1 l2:WS):X7:=(tzH2 h l1 l2).push {cls:=.type "tuple",data:=.seq #[.ref h.objs.size,.ref (tzH1 h l1).objs.size]}
abbrev tzH4(h:X7)(l1 l2:WS):X7:=(tzH3 h l1 l2).push {cls:=.type "tuple",data:=.seq #[.none,.none]}
abbrev tzH5(h:X7)(l1 l2:WS):X7:=(tzH4 h l1 l2).push {cls:=.type "zip",data:=.fields #[.none,.bool false,.bool false,.ref (tzH2 h l1 l2).objs.size,.ref (tzH3 h l1 l2).objs.size]}
theorem IsTuple.push'{l:WS}{xs:Array WV}(x:h.IsTuple l xs)(o:Ze):(h.push o).IsTuple l xs:=let⟨ob,e,r⟩:=x;⟨ob,WW _ e,r⟩
theorem bb_meets_zip(l1 l2:WS)(xs ys:Array WV) :
 Meets (Zt.«zip.__new__» ⟨[.type "zip",.ref l1,.ref l2],[]⟩) (λ_ R s=>s.heap.IsTuple l1 xs/\s.heap.IsTuple l2 ys /\
  R (.ok (.ret (.ref (tzH4 s.heap l1 l2).objs.size))) {s with heap:=tzH5 s.heap l1 l2}) :=
 .of_wp λprog w A R s h=>by
  obtain⟨hp,g,d,tk,os⟩:=s;obtain⟨B0,Bl,h⟩:=h;have CJ:=sub_zip;have Um:Heap.IsTuple (Shared.heap ⟨hp,g,d,tk,os⟩) l1 xs:=B0;have Uo:Heap.IsTuple (Shared.heap ⟨hp.push {cls:=.type "tuple_iterator",data:=.fields #[.ref l1,.int 0 0]},g,d,tk,os⟩) l2 ys:=IsTuple.push' Bl _
  wp_walk using ZT Um,ZT Uo
  exact⟨_,rfl,h⟩
theorem bb_call_zip{xs:Array WV}(B0:s.heap.IsTuple l1 xs)(Bl:s.heap.IsTuple l2 ys)
 (h:∀h',IsZip h' (s.heap.objs.size+4) (s.heap.objs.size+2) (s.heap.objs.size+3) .none->Zk h' (s.heap.objs.size+2) (.ref s.heap.objs.size) (.ref (s.heap.objs.size+1)) ->
  Zk h' (s.heap.objs.size+3) .none .none->h'.IsTupleIter s.heap.objs.size l1 0->h'.IsTupleIter (s.heap.objs.size+1) l2 0->h'.objs.size=s.heap.objs.size+5 ->
  (∀c o,s.heap.get? c=some o->h'.get? c=some o)->Q (.ref (s.heap.objs.size+4)) {s with heap:=h'}) :
 Xa (Xu prog w) A (call (.type "zip") [.ref l1,.ref l2]) Q E s:=by
 refine callType_new F.called_zip (by decide) (F.typeCall_zip_2 _ _) (F.newCall_zip_2 _ _) (λobj=>F.args_object_init_3 obj _ _) F.entry_zip_new
  (bb_meets_zip l1 l2 xs ys) ⟨B0,Bl,?_⟩
 have z1:(tzH1 s.heap l1).objs.size=s.heap.objs.size+1:=X3 ..;have z2:(tzH2 s.heap l1 l2).objs.size=s.heap.objs.size+2:=by rw[X3,z1]
 have z3:(tzH3 s.heap l1 l2).objs.size=s.heap.objs.size+3:=by rw[X3,z2]
 have z4:(tzH4 s.heap l1 l2).objs.size=s.heap.objs.size+4:=by rw[X3,z3]
 have z5:(tzH5 s.heap l1 l2).objs.size=s.heap.objs.size+5:=by rw[X3,z4]
 have g5:(tzH5 s.heap l1 l2).get? (tzH4 s.heap l1 l2).objs.size=some _:=W4 _ rfl;have g4:(tzH5 s.heap l1 l2).get? (tzH3 s.heap l1 l2).objs.size=some _:=WW _ (W4 _ rfl);have g3:(tzH5 s.heap l1 l2).get? (tzH2 s.heap l1 l2).objs.size=some _:=WW _ (WW _ (W4 _ rfl));have g2:(tzH5 s.heap l1 l2).get? (tzH1 s.heap l1).objs.size=some _:=WW _ (WW _ (WW _ (W4 _ rfl)));have g1:(tzH5 s.heap l1 l2).get? s.heap.objs.size=some _:=WW _ (WW _ (WW _ (WW _ (W4 _ rfl))));show _/\_;rw[z2,z3,z4]at g5;rw[z1,z2]at g3;rw[z3]at g4;rw[z1]at g2;rw[z4]
 exact⟨⟨_,g5,rfl⟩,h _ g5 g3 g4 ⟨_,g1,rfl,rfl⟩ ⟨_,g2,rfl,rfl⟩ z5 λc o x =>
  WW _ (WW _ (WW _ (WW _ (WW _ x))))⟩
structure ZSt(xs ys:Array WV)(z TI TO i1 i2 l1 l2:WS)(k:Nat)(h:X7):Prop where
 ap:ZipApart z TI TO i1 i2 l1 l2
 zip:IsZip h z TI TO .none\/∃(T:WS)(b:Bool)(x y:WV),h.get? z=some {cls:=.type "zip",data:=.fields #[Y8 T,.bool b,.bool false,.ref TI,.ref TO]}/\Zk h T x y/\T≠TO
 hTI:Zk h TI (.ref i1) (.ref i2)
 hTO:∃a b,Zk h TO a b
 h1:h.IsTupleIter i1 l1 k
 h2:h.IsTupleIter i2 l2 k
 t1:h.IsTuple l1 xs
 t2:h.IsTuple l2 ys
theorem ZSt.typeIs{xs:Array WV}{TI TO:WS}{k:Nat}(x:ZSt xs ys z TI TO i1 i2 l1 l2 k s.heap):s.TypeIs (.ref z) "zip":=by
 rcases x.zip with e|⟨T,b,u,v,e,_⟩
 .exact⟨_,e,rfl⟩
 .exact⟨_,e,rfl⟩
theorem IsTuple.but{l:WS}{xs:Array WV}(x:h.IsTuple l xs)(e:Heap.ExtBut c h h')(n:l≠c):h'.IsTuple l xs:=let⟨ob,q,r⟩:=x;⟨ob,e _ _ n q,r⟩
theorem IsTupleIter.but{i l:WS}{k:Nat}(x:h.IsTupleIter i l k)(e:Heap.ExtBut c h h')(n:i≠c):h'.IsTupleIter i l k:=let⟨ob,q,r⟩:=x;⟨ob,e _ _ n q,r⟩
theorem ZSt.frame{xs:Array WV}{TI TO:WS}{k:Nat}(x:ZSt xs ys z TI TO i1 i2 l1 l2 k h)
 (e:∀b o,o.cls≠.type "list"->h.get? b=some o->h'.get? b=some o):ZSt xs ys z TI TO i1 i2 l1 l2 k h':=by
 obtain⟨D,hz,hTI,⟨a,b,hTO⟩,⟨o1,a1,a2,a3⟩,⟨o2,b1,b2,b3⟩,⟨o3,c1,c2,c3⟩,⟨o4,d1,d2,d3⟩⟩:=x;refine⟨D,?_,e _ _ (by simp) hTI,⟨a,b,e _ _ (by simp) hTO⟩,⟨o1,e _ _ (by rw[a2];simp) a1,a2,a3⟩,⟨o2,e _ _ (by rw[b2];simp) b1,b2,b3⟩,⟨o3,e _ _ (by rw[c2];simp) c1,c2,c3⟩,⟨o4,e _ _ (by rw[d2];simp) d1,d2,d3⟩⟩;rcases hz with g|⟨T,b,u,v,g,g2,g3⟩
 .exact .inl (e _ _ (by simp) g)
 .exact .inr ⟨T,b,u,v,e _ _ (by simp) g,e _ _ (by simp) g2,g3⟩
open Sem (wp)
theorem bb_zip_itemA{TI TO:WS}{k:Nat}{xs:Array WV}{x y a b:WV}(D:ZipApart z TI TO i1 i2 l1 l2)
 (hz:IsZip s.heap z TI TO .none) (hTI:Zk s.heap TI (.ref i1) (.ref i2)) (hTO:Zk s.heap TO a b)
 (h1:s.heap.IsTupleIter i1 l1 k) (h2:s.heap.IsTupleIter i2 l2 k) (B0:s.heap.IsTuple l1 xs) (Bl:s.heap.IsTuple l2 ys) (hx:xs[k]?=some x) (hy:ys[k]?=some y)
 (hQ:∀h',IsZip h' z TI TO (Y8 s.heap.objs.size)->Zk h' TO x y->h'.IsTupleIter i1 l1 (k+1)->h'.IsTupleIter i2 l2 (k+1)->Zk h' s.heap.objs.size x y->h'.objs.size=s.heap.objs.size+1 ->
  (∀c o,c≠z->c≠TO->c≠i1->c≠i2->s.heap.get? c=some o->h'.get? c=some o)->Q (.ref s.heap.objs.size) {s with heap:=h'}) :
 Xa (Xu prog w) A (Zt.«zip.__next__» ⟨[.ref z],[]⟩) (λfin s'=>∃v,fin=.done (.ret v)/\Q v s') E s:=by
 show Xa _ _ (field (.ref z) 2 >>= _) _ _ _;refine WN (XW hz rfl (x:=.bool false) rfl ?_);show Xa _ _ (field (.ref z) 3 >>= _) _ _ _;refine WN (XW hz rfl (x:=.ref TI) rfl ?_);refine WN (YB hTI rfl ?_);show Xa _ _ (Yb (.ref z) >>= _) _ _ _;refine WN ?_;unfold Yb;refine WN (XW hz rfl (x:=.none) rfl (WX ?_));simp only[if_true];refine WN (Zy ?_);refine WN (XW hz rfl (x:=.ref TO) rfl ?_);refine WN (ZS hz (by simp) λAp AL Af=>?_);replace AL:IsZip Ap z TI TO .ellipsis:=AL;refine WN ?_;simp only[List.zipIdx_cons,List.zipIdx_nil,List.forIn_cons,List.forIn_nil];refine WN (WN (wpAny_onRaise ?_));show Xa _ _ (X1 (.ref i1) >>= _) _ _ _;refine WN (bb_tupNext (IsTupleIter.but h1 Af.extBut D.i1z) (IsTuple.but B0 Af.extBut D.l1z) hx λA9 CK Ak=>WX ?_);have BL:Zk A9 TO a b:=Ak.extBut _ _ D.TOi1 (Af.extBut _ _ D.TOz hTO);refine WN (YB BL rfl ?_);refine WN (wpAny_updateSeq_pair BL λCD Ck AK=>?_);replace Ck:Zk CD TO x b:=Ck;refine WN (wpAny_letGo (WX ?_));refine WN (WN (wpAny_onRaise ?_));show Xa _ _ (X1 (.ref i2) >>= _) _ _ _
 refine WN (bb_tupNext (IsTupleIter.but (IsTupleIter.but (IsTupleIter.but h2 Af.extBut D.i2z) Ak.extBut D.i12.symm) AK.extBut D.TOi2.symm)
  (IsTuple.but (IsTuple.but (IsTuple.but Bl Af.extBut D.l2z) Ak.extBut D.l2i1) AK.extBut D.l2TO) hy λAO Ei AI=>WX ?_)
 have Ej:Zk AO TO x b:=AI.extBut _ _ D.TOi2 Ck;refine WN (YB Ej rfl ?_);refine WN (wpAny_updateSeq_pair Ej λAQ Cm Bt=>?_);replace Cm:Zk AQ TO x y:=Cm;refine WN (wpAny_letGo (WX (WX ?_)));refine WN (YB Cm rfl ?_);refine WN (wpAny_newTuple ?_);have hsz:AQ.objs.size=s.heap.objs.size:=by rw[Bt.1,AI.1,AK.1,Ak.1,Af.1]
 have F1:IsZip AQ z TI TO .ellipsis:=Bt.extBut _ _ D.TOz.symm (AI.extBut _ _ D.i2z.symm (AK.extBut _ _ D.TOz.symm (Ak.extBut _ _ D.i1z.symm AL)))
 have Jo:∀c o,c≠z->c≠TO->c≠i1->c≠i2->s.heap.get? c=some o->AQ.get? c=some o:=λc o c1 c2 c3 c4 e =>
  Bt.extBut _ _ c2 (AI.extBut _ _ c4 (AK.extBut _ _ c2 (Ak.extBut _ _ c3 (Af.extBut _ _ c1 e))))
 have Jp:AQ.IsTupleIter i1 l1 (k+1):=IsTupleIter.but (IsTupleIter.but (IsTupleIter.but CK AK.extBut D.TOi1.symm) AI.extBut D.i12) Bt.extBut D.TOi1.symm;have Jq:AQ.IsTupleIter i2 l2 (k+1):=IsTupleIter.but Ei Bt.extBut D.TOi2.symm;have Jr:z<AQ.objs.size:=Xb F1;show Xa _ _ (Builtin.SmallTypes.ownedTupleHandOut (.ref z) (.ref AQ.objs.size) >>= _) _ _ _;refine WN ?_;unfold Builtin.SmallTypes.ownedTupleHandOut;have Js:IsZip (AQ.push {cls:=.type "tuple",data:=.seq #[x,y]}) z TI TO .ellipsis:=WW _ F1;refine WN (ZS Js (by simp) λNw Ek El=>?_);replace Ek:IsZip Nw z TI TO (Y8 AQ.objs.size):=Ek;refine ZS Ek (by simp) λEm DA En=>?_;replace DA:IsZip Em z TI TO (Y8 AQ.objs.size):=DA;have up:∀c o,c≠z->AQ.get? c=some o->Em.get? c=some o:=λc o c1 e=>En.extBut _ _ c1 (El.extBut _ _ c1 (WW _ e));have F2:Zk Em AQ.objs.size x y:=En.extBut _ _ (Nat.ne_of_gt Jr) (El.extBut _ _ (Nat.ne_of_gt Jr) (W4 _ rfl));have Rv:Em.objs.size=AQ.objs.size+1:=by rw[En.1,El.1,X3]
 rw[hsz]at DA F2 Rv;refine WX ⟨_,rfl,?_⟩;show Q (.ref AQ.objs.size) _;rw[hsz];refine hQ Em DA (up _ _ D.TOz Cm) ?_ ?_ F2 Rv λc o c1 c2 c3 c4 e=>up c o c1 (Jo c o c1 c2 c3 c4 e)
 .obtain⟨o,e,r⟩:=Jp;exact⟨o,up _ o D.i1z e,r⟩
 .obtain⟨o,e,r⟩:=Jq;exact⟨o,up _ o D.i2z e,r⟩
theorem bb_loadIfAlive{o:Ze}{Q:Option Ze->WZ->Prop}(hQ:∀u,some o=some u->Q (some u) s)(h:s.heap.get? a=some o):Xa (Xu prog w) A (loadIfAlive a) Q E s:=by
 intro Γ p hΓ;show Sem.wp _ _ (.loadIfAlive a .pure) _ _ _ _;rw[Sem.wp_loadIfAlive,h];exact hQ o rfl
theorem bb_notfree{T:WS}{b:Bool}{f2 TI TO v:WV}(hz:s.heap.get? z=some {cls:=.type "zip",data:=.fields #[Y8 T,.bool b,f2,TI,TO]})(hT:Zk s.heap T u v) :
 Xa (Xu prog w) A (Yb (.ref z)) (λa s1=>a=false/\∃Ap,s1={s with heap:=Ap}/\Ap.get? z=some {cls:=.type "zip",data:=.fields #[Y8 T,.bool true,f2,TI,TO]}/\YF z s.heap Ap) E s:=by
 unfold Yb;refine WN (XW hz rfl (x:=Y8 T) rfl ?_);show Xa _ _ (loadIfAlive (T:Int).toNat >>= _) _ _ _;rw[XM];refine WN (bb_loadIfAlive (λo(e:some _=some o)=>?_) hT);cases e;show Xa _ _ (if(some _:Option Ze).isNone=true then _ else _) _ _ _;rw[a! (show¬((some _:Option Ze).isNone=true)from W8)];refine WN (XW hz rfl (x:=.bool b) rfl ?_);cases b with
 |true=>exact WX ⟨rfl,s.heap,rfl,hz,rfl,λ_ _=>rfl⟩
 |false=>exact WN (ZS hz (by simp) λAp AL Af=>WX ⟨rfl,Ap,rfl,AL,Af⟩)
theorem bb_zip_itemB{TI TO T:WS}{k:Nat}{xs:Array WV}{x y v:WV}{b:Bool}(D:ZipApart z TI TO i1 i2 l1 l2)
 (hz:s.heap.get? z=some {cls:=.type "zip",data:=.fields #[Y8 T,.bool b,.bool false,.ref TI,.ref TO]}) (hT:Zk s.heap T u v) (hTI:Zk s.heap TI (.ref i1) (.ref i2))
 (h1:s.heap.IsTupleIter i1 l1 k) (h2:s.heap.IsTupleIter i2 l2 k) (B0:s.heap.IsTuple l1 xs) (Bl:s.heap.IsTuple l2 ys) (hx:xs[k]?=some x) (hy:ys[k]?=some y)
 (hQ:∀h',h'.get? z=some {cls:=.type "zip",data:=.fields #[Y8 T,.bool true,.bool false,.ref TI,.ref TO]}->h'.IsTupleIter i1 l1 (k+1)->h'.IsTupleIter i2 l2 (k+1)->Zk h' s.heap.objs.size x y->h'.objs.size=s.heap.objs.size+1 ->
  (∀c o,c≠z->c≠i1->c≠i2->s.heap.get? c=some o->h'.get? c=some o)->Q (.ref s.heap.objs.size) {s with heap:=h'}) :
 Xa (Xu prog w) A (Zt.«zip.__next__» ⟨[.ref z],[]⟩) (λfin s'=>∃v,fin=.done (.ret v)/\Q v s') E s:=by
 show Xa _ _ (field (.ref z) 2 >>= _) _ _ _;refine WN (XW hz rfl (x:=.bool false) rfl ?_);show Xa _ _ (field (.ref z) 3 >>= _) _ _ _;refine WN (XW hz rfl (x:=.ref TI) rfl ?_);refine WN (YB hTI rfl ?_);show Xa _ _ (Yb (.ref z) >>= _) _ _ _;refine WN (Y7 (bb_notfree hz hT) (λa s1⟨e1,Ap,e2,AL,Af⟩=>?_) λ_ _ x=>x);subst e1 e2;simp only[Yd,if_false];rw[<-Array.forIn_toList];refine WN ?_;simp only[List.forIn_cons,List.forIn_nil];refine WN (WN (Yx ?_));show Xa _ _ (X1 (.ref i1) >>= _) _ _ _;refine WN (bb_tupNext (IsTupleIter.but h1 Af.extBut D.i1z) (IsTuple.but B0 Af.extBut D.l1z) hx λA9 CK Ak=>WX (WX ?_));refine WN (WN (Yx ?_));show Xa _ _ (X1 (.ref i2) >>= _) _ _ _;refine WN (bb_tupNext (IsTupleIter.but (IsTupleIter.but h2 Af.extBut D.i2z) Ak.extBut D.i12.symm) (IsTuple.but (IsTuple.but Bl Af.extBut D.l2z) Ak.extBut D.l2i1) hy λAO Ei AI=>WX (WX (WX ?_)));refine WN (wpAny_newTuple (hsz:=by show 2<=Xe;decide) (WX ⟨_,rfl,?_⟩));have hsz:AO.objs.size=s.heap.objs.size:=by rw[AI.1,Ak.1,Af.1]
 show Q (.ref AO.objs.size) {s with heap:=AO.push {cls:=.type "tuple",data:=.seq #[x,y]}};have F3:Zk (AO.push {cls:=.type "tuple",data:=.seq #[x,y]}) AO.objs.size x y:=W4 _ rfl;have B1:(AO.push {cls:=.type "tuple",data:=.seq #[x,y]}).objs.size=AO.objs.size+1:=X3 ..;have Jt:=IsTupleIter.but CK AI.extBut D.i12;rw[hsz]at F3 B1;rw[hsz];refine hQ _ (WW _ (AI.extBut _ _ D.i2z.symm (Ak.extBut _ _ D.i1z.symm AL))) ?_ ?_ F3 B1 λc o c1 c3 c4 e=>WW _ (AI.extBut _ _ c4 (Ak.extBut _ _ c3 (Af.extBut _ _ c1 e)))
 .obtain⟨o,e,r⟩:=Jt;exact⟨o,WW _ e,r⟩
 .obtain⟨o,e,r⟩:=Ei;exact⟨o,WW _ e,r⟩
theorem bb_zip_end{TI TO:WS}{k:Nat}{xs:Array WV}{Q:Fin->WZ->Prop}(hh:A.handled=none)
 (S:ZSt xs ys z TI TO i1 i2 l1 l2 k s.heap) (CL:xs[k]?=none\/ys[k]?=none)
 (hE:∀h' e,(∀c o,c≠z->c≠TO->c≠i1->c≠i2->s.heap.get? c=some o->h'.get? c=some o)->(∃o,h'.get? e=some o/\o.cls=.type "StopIteration")->E (.ref e) {s with heap:=h'}) :
 Xa (Xu prog w) A (Zt.«zip.__next__» ⟨[.ref z],[]⟩) Q E s:=by
 obtain⟨D,hz,hTI,⟨a,b,hTO⟩,h1,h2,B0,Bl⟩:=S;rcases hz with hz|⟨T,bb,u,v,hz,hT,Rw⟩
 .show Xa _ _ (field (.ref z) 2 >>= _) _ _ _;refine WN (XW hz rfl (x:=.bool false) rfl ?_);show Xa _ _ (field (.ref z) 3 >>= _) _ _ _;refine WN (XW hz rfl (x:=.ref TI) rfl ?_);refine WN (YB hTI rfl ?_);show Xa _ _ (Yb (.ref z) >>= _) _ _ _;refine WN ?_;unfold Yb;refine WN (XW hz rfl (x:=.none) rfl (WX ?_));simp only[if_true];refine WN (Zy ?_);refine WN (XW hz rfl (x:=.ref TO) rfl ?_);refine WN (ZS hz (by simp) λAp AL Af=>?_);replace AL:IsZip Ap z TI TO .ellipsis:=AL;refine WN ?_;simp only[List.zipIdx_cons,List.zipIdx_nil,List.forIn_cons,List.forIn_nil];refine WN (WN (wpAny_onRaise ?_));show Xa _ _ (X1 (.ref i1) >>= _) _ _ _;cases hx:xs[k]? with
  | none =>
    refine WN (bb_tupEnd hh (IsTupleIter.but h1 Af.extBut D.i1z) (IsTuple.but B0 Af.extBut D.l1z) hx λA9 e Ak he=>?_);obtain⟨oe,GS,Ju⟩:=he;have F4:IsZip A9 z TI TO .ellipsis:=Ak _ _ D.i1z.symm AL;have Nx:e≠z:=λx=>by subst x;rw[F4]at GS;cases GS;simp at Ju
    refine ZS F4 (by simp) λCD _ AK=>hE CD e (λc o c1 _ c3 _ x=>AK.extBut _ _ c1 (Ak _ _ c3 (Af.extBut _ _ c1 x))) ⟨oe,AK.extBut _ _ Nx GS,Ju⟩
  | some x =>
    have hy:ys[k]?=none:=by rcases CL with h|h;rw[hx]at h;cases h;exact h
    refine WN (bb_tupNext (IsTupleIter.but h1 Af.extBut D.i1z) (IsTuple.but B0 Af.extBut D.l1z) hx λA9 CK Ak=>WX ?_);have BL:Zk A9 TO a b:=Ak.extBut _ _ D.TOi1 (Af.extBut _ _ D.TOz hTO);refine WN (YB BL rfl ?_);refine WN (wpAny_updateSeq_pair BL λCD Ck AK=>?_);refine WN (wpAny_letGo (WX ?_));refine WN (WN (wpAny_onRaise ?_));show Xa _ _ (X1 (.ref i2) >>= _) _ _ _
    refine WN (bb_tupEnd hh (IsTupleIter.but (IsTupleIter.but (IsTupleIter.but h2 Af.extBut D.i2z) Ak.extBut D.i12.symm) AK.extBut D.TOi2.symm)
     (IsTuple.but (IsTuple.but (IsTuple.but Bl Af.extBut D.l2z) Ak.extBut D.l2i1) AK.extBut D.l2TO) hy λAO e AI he=>?_)
    obtain⟨oe,GS,Ju⟩:=he;have F5:IsZip AO z TI TO .ellipsis:=AI _ _ D.i2z.symm (AK.extBut _ _ D.TOz.symm (Ak.extBut _ _ D.i1z.symm AL));have Nx:e≠z:=λx=>by subst x;rw[F5]at GS;cases GS;simp at Ju
    refine ZS F5 (by simp) λAQ _ Bt=>hE AQ e (λc o c1 c2 c3 c4 x=>Bt.extBut _ _ c1 (AI _ _ c4 (AK.extBut _ _ c2 (Ak.extBut _ _ c3 (Af.extBut _ _ c1 x))))) ⟨oe,Bt.extBut _ _ Nx GS,Ju⟩
 .show Xa _ _ (field (.ref z) 2 >>= _) _ _ _;refine WN (XW hz rfl (x:=.bool false) rfl ?_);show Xa _ _ (field (.ref z) 3 >>= _) _ _ _;refine WN (XW hz rfl (x:=.ref TI) rfl ?_);refine WN (YB hTI rfl ?_);show Xa _ _ (Yb (.ref z) >>= _) _ _ _;refine WN (Y7 (bb_notfree hz hT) (λa s1⟨e1,Ap,e2,AL,Af⟩=>?_) λ_ _ x=>x);subst e1 e2;simp only[Yd,if_false];rw[<-Array.forIn_toList];refine WN ?_;simp only[List.forIn_cons,List.forIn_nil];refine WN (WN (Yx ?_));show Xa _ _ (X1 (.ref i1) >>= _) _ _ _;cases hx:xs[k]? with
  | none =>
    refine WN (bb_tupEnd hh (IsTupleIter.but h1 Af.extBut D.i1z) (IsTuple.but B0 Af.extBut D.l1z) hx λA9 e Ak he=>?_);exact hE A9 e (λc o c1 _ c3 _ x=>Ak _ _ c3 (Af.extBut _ _ c1 x)) he
  | some x =>
    have hy:ys[k]?=none:=by rcases CL with h|h;rw[hx]at h;cases h;exact h
    refine WN (bb_tupNext (IsTupleIter.but h1 Af.extBut D.i1z) (IsTuple.but B0 Af.extBut D.l1z) hx λA9 CK Ak=>WX (WX ?_));refine WN (WN (Yx ?_));show Xa _ _ (X1 (.ref i2) >>= _) _ _ _;refine WN (bb_tupEnd hh (IsTupleIter.but (IsTupleIter.but h2 Af.extBut D.i2z) Ak.extBut D.i12.symm) (IsTuple.but (IsTuple.but Bl Af.extBut D.l2z) Ak.extBut D.l2i1) hy λAO e AI he=>?_);exact hE AO e (λc o c1 _ c3 c4 x=>AI _ _ c4 (Ak.extBut _ _ c3 (Af.extBut _ _ c1 x))) he
theorem bb_zip_next{TI TO:WS}{k:Nat}{xs:Array WV}{x y:WV}{Q:Option WV->WZ->Prop}(S:ZSt xs ys z TI TO i1 i2 l1 l2 k s.heap)(hx:xs[k]?=some x)(hy:ys[k]?=some y)
 (hQ:∀h',ZSt xs ys z TI TO i1 i2 l1 l2 (k+1) h'->Zk h' s.heap.objs.size x y->h'.objs.size=s.heap.objs.size+1 ->
  (∀c o,c∉[z,TO,i1,i2]->s.heap.get? c=some o->h'.get? c=some o)->Q (some (.ref s.heap.objs.size)) {s with heap:=h'}) :
 Xa (Xu prog w) A (pyNext (.ref z)) Q E s:=by
 have hT:=S.typeIs;obtain⟨D,hz,hTI,⟨a,b,hTO⟩,h1,h2,B0,Bl⟩:=S;have n1:s.heap.objs.size≠TO:=Nat.ne_of_gt (Xb hTO);unfold pyNext;refine WN (wpAny_attempt (X2 (name:=WT "__next__") hT F.slot_zip_next (X5 F.slot_zip_next hT F.entry_zip_next ?_ (F.args_zip_next_1 _))));rcases hz with hz|⟨T,bb,u,v,hz,F3,Rw⟩
 .refine bb_zip_itemA D hz hTI hTO h1 h2 B0 Bl hx hy λh' a1 a2 a3 a4 a5 a6 a7=>WX ?_;refine hQ h' ⟨D,.inr ⟨_,_,_,_,a1,a5,n1⟩,a7 _ _ D.TIz D.TITO D.TIi1 D.TIi2 hTI,⟨_,_,a2⟩,a3,a4,?_,?_⟩ a5 a6 λc o hc e=>a7 c o (λq=>hc (by simp[q])) (λq=>hc (by simp[q])) (λq=>hc (by simp[q])) (λq=>hc (by simp[q])) e
  .obtain⟨o,e,r⟩:=B0;exact⟨o,a7 _ _ D.l1z D.l1TO D.l1i1 D.l1i2 e,r⟩
  .obtain⟨o,e,r⟩:=Bl;exact⟨o,a7 _ _ D.l2z D.l2TO D.l2i1 D.l2i2 e,r⟩
 .refine bb_zip_itemB D hz F3 hTI h1 h2 B0 Bl hx hy λh' a1 a3 a4 a5 a6 a7=>WX ?_;have Up:T≠z:=by rintro rfl;exact g! (YS (h! Obj.cls (Xm (hz.symm.trans F3)))) (by decide)
  have Ny:T≠i1:=by rintro rfl;obtain⟨o,e,c,_⟩:=h1;have e2:=Xm (F3.symm.trans e);rw[<-e2]at c;exact g! (YS c) (by decide)
  have Nz:T≠i2:=by rintro rfl;obtain⟨o,e,c,_⟩:=h2;have e2:=Xm (F3.symm.trans e);rw[<-e2]at c;exact g! (YS c) (by decide)
  refine hQ h' ⟨D,.inr ⟨T,true,u,v,a1,a7 _ _ Up Ny Nz F3,Rw⟩,a7 _ _ D.TIz D.TIi1 D.TIi2 hTI,⟨a,b,a7 _ _ D.TOz D.TOi1 D.TOi2 hTO⟩,a3,a4,?_,?_⟩ a5 a6 λc o hc e=>a7 c o (λq=>hc (by simp[q])) (λq=>hc (by simp[q])) (λq=>hc (by simp[q])) e
  .obtain⟨o,e,r⟩:=B0;exact⟨o,a7 _ _ D.l1z D.l1i1 D.l1i2 e,r⟩
  .obtain⟨o,e,r⟩:=Bl;exact⟨o,a7 _ _ D.l2z D.l2i1 D.l2i2 e,r⟩
theorem bb_zip_done{TI TO:WS}{k:Nat}{xs:Array WV}{Q:Option WV->WZ->Prop}(hh:A.handled=none)(S:ZSt xs ys z TI TO i1 i2 l1 l2 k s.heap)(CL:xs[k]?=none\/ys[k]?=none)
 (hQ:∀h',(∀c o,c∉[z,TO,i1,i2]->s.heap.get? c=some o->h'.get? c=some o)->Q none {s with heap:=h'}):Xa (Xu prog w) A (pyNext (.ref z)) Q E s:=by
 have hT:=S.typeIs;unfold pyNext
 refine WN (wpAny_attempt (X2 (name:=WT "__next__") hT F.slot_zip_next
  (X5 F.slot_zip_next hT F.entry_zip_next (bb_zip_end hh S CL λh' e hk he=>?_) (F.args_zip_next_1 _))))
 obtain⟨o,ho,hc⟩:=he;refine WN (ZL (T:="StopIteration") (b:=true) ⟨o,ho,hc⟩ isSubtype_stop ?_);exact WX (hQ _ λc o hc=>hk c o (λq=>hc (by simp[q])) (λq=>hc (by simp[q])) (λq=>hc (by simp[q])) (λq=>hc (by simp[q])))
theorem bb_zip_iter{TI TO:WS}{k:Nat}{xs:Array WV}(S:ZSt xs ys z TI TO i1 i2 l1 l2 k s.heap)(h:Q (.ref z) s):Xa (Xu prog w) A (pyIter (.ref z)) Q E s:=by
 have hT:=S.typeIs;refine wpAny_pyIter_slot hT F.slot_zip_iter (X5 F.slot_zip_iter hT F.entry_zip_iter ?_ (F.args_zip_iter_1 _));show Xa _ _ (ret (.ref z)) _ _ s;exact WX ⟨_,rfl,"zip",_,hT,F.slot_zip_next.lookup,h⟩
open Sem (wp)
namespace F
theorem bb_nolen_zip:typeLookup (.type "zip") "__len__"=pure none:=by rw[Y6,Yv];kernel_rfl
theorem bb_nohint_zip:typeLookup (.type "zip") "__length_hint__"=pure none:=by rw[Y6,Yv];kernel_rfl
end F
def ZIt(xs ys:Array WV)(n0:Nat)(h:X7)(acc:Array WV)(k:Nat):Prop:=acc.size=k/\∀(j:Nat)(v:WV),acc[j]?=some v->∃(T:WS)(x y:WV),v=Xl T/\n0<=T/\Zk h T x y/\xs[j]?=some x/\ys[j]?=some y
theorem bb_zip_loop{TI TO S:WS}{xs:Array WV}{n0:Nat}(hh:A.in1.handled=none)(hn:n=min xs.size ys.size)(hz:n<=Xe)(Rx:S∉[z,TO,i1,i2])(hf:∀c∈[z,TO,i1,i2],c<n0)(res:WV) :
 ∀(k i:Nat)(s:WZ)(acc:Array WV)(c:Nat),n - i=k->i<=n->ZSt xs ys z TI TO i1 i2 l1 l2 i s.heap->n0<=s.heap.objs.size->s.heap.get? S=some {cls:=.type "list",dict:=none,data:=.seq acc c,slots:=#[]}->ZIt xs ys n0 s.heap acc i ->
 (∀h' A' c',(∀b o,b≠S->b∉[z,TO,i1,i2]->s.heap.get? b=some o->h'.get? b=some o)->h'.get? S=some {cls:=.type "list",dict:=none,data:=.seq A' c',slots:=#[]}->ZIt xs ys n0 h' A' n->R (.ok (.ret res)) {s with heap:=h'}) ->
 codeAny (Xu prog w) A (.builtin "list.extend.loop" ⟨[.ref S,.ref z,res],[]⟩) R s:=by
 intro k;have F6:∀{T:WS},n0<=T->T∉[z,TO,i1,i2]:=λh m=>g! (hf _ m) (Nat.not_lt.mpr h);induction k with
 | zero =>
   intro i s acc c hk hi A7 h0 hS Aq hR;have CF:i=n:=by omega
   subst CF;refine codeAny_builtin F.entry_extend_loop ?_;rw[Around.under_plainId YG _];show Xa _ A.in1 (pyNext (.ref z) >>= _) _ _ s
   have CL:xs[i]?=none\/ys[i]?=none:=by
    rcases Nat.le_total xs.size ys.size with h|h
    .exact .inl (Array.getElem?_eq_none (by omega))
    .exact .inr (Array.getElem?_eq_none (by omega))
   refine WN (bb_zip_done hh A7 CL λh' AV=>WX ?_);refine hR h' acc c (λb o _ hb e=>AV b o hb e) (AV _ _ Rx hS) ⟨Aq.1,λj v hv=>?_⟩;obtain⟨T,x,y,e1,e2,e3,e4⟩:=Aq.2 j v hv;exact⟨T,x,y,e1,e2,AV _ _ (F6 e2) e3,e4⟩
 | succ k ih =>
   intro i s acc c hk hi A7 h0 hS Aq hR;have Am:i<n:=by omega
   refine codeAny_builtin F.entry_extend_loop ?_;rw[Around.under_plainId YG _];show Xa _ A.in1 (pyNext (.ref z) >>= _) _ _ s;have hx:xs[i]?=some xs[i]:=Zg (by omega);have hy:ys[i]?=some ys[i]:=Zg (by omega);refine WN (bb_zip_next A7 hx hy λh' NA hT hsz AV=>?_);have D4:=AV S _ Rx hS;have NB:S<s.heap.objs.size:=Xb hS;show Xa _ A.in1 (updateSeq S (·.push (.ref s.heap.objs.size)) >>= _) _ _ _;refine WN ?_;have CI:∀b o,b≠S->h'.get? b=some o->(h'.update S (Yh (·.push (Xl s.heap.objs.size)))).get? b=some o:=λb o hb e=>(XU _ _ (YQ hb)).trans e
   refine YT D4 rfl (WX ⟨plainId_quiet YG _,ih (i+1) _ (acc.push (.ref s.heap.objs.size)) _ (by omega) Am (NA.frame λb o ho e=>CI b o (λz=>?_) e) ?_ (XN _ D4 rfl) ?_ λJv A' c' GU GV Eo=>?_⟩)
    (by rw[Aq.1];omega) (by show(acc.push _).size<=Xe+1;rw[Array.size_push,Aq.1];omega)
   .rw[z,D4]at e;cases e;exact ho rfl
   .show n0<=(h'.update S _).objs.size;rw[Heap.size_update];omega
   .refine⟨by rw[Array.size_push,Aq.1],λj v hv=>?_⟩;rw[Array.getElem?_push]at hv;split at hv
    .rename_i e
     rw[Aq.1]at e;cases hv;subst e;exact⟨_,_,_,rfl,h0,CI _ _ (Nat.ne_of_gt NB) hT,hx,hy⟩
    .obtain⟨T,x,y,e1,e2,e3,e4⟩:=Aq.2 j v hv
     have Uq:T≠S:=by
      rintro rfl;exact g! (YS (h! Obj.cls (Xm (e3.symm.trans hS)))) (by decide)
     exact⟨T,x,y,e1,e2,CI _ _ Uq (AV _ _ (F6 e2) e3),e4⟩
   .exact hR Jv A' c' (λb o hb AF e=>GU b o hb AF (CI b o hb (AV b o AF e))) GV Eo
theorem bb_list_zip{TI TO:WS}{xs:Array WV}{n0:Nat}(hh:A.in1.in1.handled=none)(A7:ZSt xs ys z TI TO i1 i2 l1 l2 0 s.heap)(hn:n=min xs.size ys.size)(hz:n<=Xe)(h0:n0<=s.heap.objs.size)(hf:∀c∈[z,TO,i1,i2],c<n0)
 (hQ:∀h' acc c,(∀b o,b∉[z,TO,i1,i2]->s.heap.get? b=some o->h'.get? b=some o)->h'.get? s.heap.objs.size=some {cls:=.type "list",dict:=none,data:=.seq acc c,slots:=#[]}->ZIt xs ys n0 h' acc n->Q (.ref s.heap.objs.size) {s with heap:=h'}) :
 Xa (Xu prog w) A (call (.type "list") [.ref z]) Q E s:=by
 have Im:s.heap.objs.size∉[z,TO,i1,i2]:=λhm=>g! (hf _ hm) (Nat.not_lt.mpr h0);have Nk:s.heap.objs.size≠z:=λe=>Im (by simp[e])
 refine callType_codes (Q₁:=λobj Ac=>obj=.ref s.heap.objs.size/\Ac={s with heap:=s.heap.push {cls:=.type "list",data:=.seq #[]}}) F.called_list (F.typeCall_list_1 _) F.entry_list_init
  (code_list_new _ ⟨rfl,rfl⟩) λobj Ac Ap=>?_
 obtain⟨rfl,rfl⟩:=Ap;have hS:(s.heap.push {cls:=.type "list",data:=.seq #[]}).get? s.heap.objs.size=some {cls:=.type "list",data:=.seq #[]}:=W4 _ rfl;refine⟨⟨_,hS,rfl⟩,F.args_list_init_2 _ _,?_⟩;show Xa _ A.in1.in1 (do let old <-ZK (.ref s.heap.objs.size);Builtin.List.listUpdate (.ref s.heap.objs.size) (λ_=>#[]);letGo old.toList.reverse;Zd (.ref s.heap.objs.size) (.ref z) .none) _ _ _;refine WN ?_;unfold ZK;refine WN (YB hS rfl (WX ?_));refine WN (YT hS rfl ?_);have Br:=XN (Yh (λ_=>(#[]:Array WV))) hS rfl;refine WN (wpAny_letGo ?_);have CM:((s.heap.push {cls:=.type "list",data:=.seq #[]}).update s.heap.objs.size (Yh (λ_=>(#[]:Array WV)))).objs.size=s.heap.objs.size+1:=by rw[Heap.size_update,X3]
 generalize hH:(s.heap.push {cls:=.type "list",data:=.seq #[]}).update s.heap.objs.size (Yh (λ_=>(#[]:Array WV)))=H2 at Br CM |-
 have old:∀b o,s.heap.get? b=some o->H2.get? b=some o:=λb o e=>by
  rw[<-hH,XU _ _ (YQ (Xy (Xb e)))];exact WW _ e
 obtain⟨c2,DO⟩:∃c,H2.get? s.heap.objs.size=some {cls:=.type "list",data:=.seq #[] c}:=⟨_,Br⟩;have C7:ZSt xs ys z TI TO i1 i2 l1 l2 0 H2:=A7.frame λb o _ e=>old b o e;have Jw:({s with heap:=H2}:WZ).TypeIs (.ref z) "zip":=C7.typeIs;unfold Zd;refine WN (ZI Jw ?_);have h1:Zs (.ref s.heap.objs.size) (.ref z)=false:=by simp[Zs,Nk]
 have h2:(Zm "zip" == Zm "list")=false:=by decide
 have h3:(Zm "zip" == Zm "tuple")=false:=by decide
 simp only[h1,h2,h3,Bool.or_false,Yd,if_false];refine WN (bb_zip_iter C7 ?_);refine WN (Yx ?_);unfold ZJ;refine WN (Ys Jw F.bb_nolen_zip ?_);show Xa _ _ (specialOf (Xl z) (WT "__length_hint__") >>= _) _ _ _;refine WN (Ys Jw F.bb_nohint_zip ?_);refine WX ?_
 have key:∀(h:X7)(c₁:Nat),ZSt xs ys z TI TO i1 i2 l1 l2 0 h->n0<=h.objs.size->(∀b o,b≠s.heap.objs.size->H2.get? b=some o->h.get? b=some o)->h.get? s.heap.objs.size=some {cls:=.type "list",data:=.seq #[] c₁} ->
  codeAny (Xu prog w) A.in1 (.builtin "list.extend.loop" ⟨[.ref s.heap.objs.size,.ref z,.none],[]⟩) (wants (λr AN=>r=.none/\Q (.ref s.heap.objs.size) AN) E) {s with heap:=h}:=by
  intro h c₁ hs Jx hk CG;refine bb_zip_loop hh hn hz Im hf .none n 0 _ #[] c₁ rfl (Xi _) hs Jx CG ⟨rfl,λj v e=>by simp at e⟩ λh' A' c' hm D4 Aq=>?_;exact⟨rfl,hQ h' A' c' (λb o hb e=>hm b o (Xy (Xb e)) hb (hk b o (Xy (Xb e)) (old b o e))) D4 Aq⟩
 show Xa _ _ (rule "list.extend.makes-room" >>= λ_=>Builtin.List.listTouch (.ref s.heap.objs.size) >>= λ_=>again (.builtin "list.extend.loop" ⟨[.ref s.heap.objs.size,.ref z,.none],[]⟩)) _ _ _;refine WN (Zy ?_);refine WN ?_;show Xa _ _ (updateSeq s.heap.objs.size (·.push .none) >>= λ_=>updateSeq s.heap.objs.size (·.pop)) _ _ _;refine WN (YT DO rfl ?_);have Bs:=XN (Yh (·.push Yp)) DO rfl;refine YT (hz:=by seq_fits) Bs rfl ?_;have CH:=XN (Yh (·.pop)) Bs rfl
 have CI:∀b o,b≠s.heap.objs.size->H2.get? b=some o->((H2.update s.heap.objs.size (Yh (·.push Yp))).update s.heap.objs.size (Yh (·.pop))).get? b=some o :=
  λb o hb e=>(XU _ _ (YQ hb)).trans ((XU _ _ (YQ hb)).trans e)
 refine WX ⟨plainId_quiet YG _,key _ _ (C7.frame λb o ho e=>CI b o (λq=>?_) e) ?_ CI CH⟩
 .rw[q,DO]at e;cases e;exact ho rfl
 .rw[Heap.size_update,Heap.size_update];show n0<=H2.objs.size;omega
end PySem
namespace L2
open PySem PySem.Spec PyProof.Rows
theorem Inv.laidAll(I:Inv X U Z H s)(k:∀b u,s.heap.get? b=some u->h'.get? b=some u)
 (old:∀b,b<s.heap.objs.size->H' b=H b) (new:∀b u,s.heap.objs.size<=b->H' b=some u->ObjOk X.prog X.w H' h' b u):Inv X U Z H' {s with heap:=h',toks:=t'}:=by
 have sm:∀b u,H b=some u->H' b=some u:=λb u e=>by rw[old b (I.hok.lt e)];exact e
 refine I.un ⟨λb u q _ _ _=>k b u q,λb u q _ _ _=>⟨u.slots,k b u q⟩,λb u q n _=>by rw[old b (Xb q)];exact n,λb u q _=>⟨u,k b u q⟩,λb xs q=>sm _ _ q,λb u xs q=>sm _ _ q,λb ps q=>⟨#[],by rw[sm _ _ q];simp⟩⟩ λb u q=>?_;by_cases hb:b<s.heap.objs.size
 .rw[old b hb]at q;exact(I.hok b u q).stay (λc v _ e=>k c v e) (λc e=>sm _ _ e) λc xs e=>sm _ _ e
 .exact new b u (Nat.not_lt.mp hb) q
def oK(H:Hp):List WS->List (V×V)->Hp
 |t::ts,p::ps=>upd (oK H ts ps) t (.tup [p.1,p.2])
 |_,_=>H
theorem nZ:∀{ts:List WS}{ps:List (V×V)},b∉ts->oK H ts ps b=H b
 | [],_,_=>rfl
 |_::_,[],_=>rfl
 | t::ts,p::ps,h=>by
   rw[oK,aj (λe=>h (by simp[e]))];exact nZ λm=>h (Xf _ m)
theorem tU:∀{ts:List WS}{ps:List (V×V)}{b:WS}{u:HO},oK H ts ps b=some u->H b=some u\/∃(j:Nat)(p:V×V),ts[j]?=some b/\ps[j]?=some p/\u=.tup [p.1,p.2]
 | [],_,_,_,h=>.inl h
 |_::_,[],_,_,h=>.inl h
 | t::ts,p::ps,b,u,h=>by
   rw[oK]at h;by_cases e:b=t
   .subst e;rw[ac]at h;exact .inr ⟨0,p,rfl,rfl,(Xm h).symm⟩
   .rw[aj e]at h;rcases tU h with q|⟨j,p',q1,q2,q3⟩
    .exact .inl q
    .exact .inr ⟨j+1,p',by simpa using q1,by simpa using q2,q3⟩
theorem rA{H:Hp}:∀{ts:List WS}{ps:List (V×V)}{t:WS},ts.length=ps.length->t∈ts->∃(i:Nat)(p:V×V),ts[i]?=some t/\ps[i]?=some p/\oK H ts ps t=some (.tup [p.1,p.2])
 | [],_,_,_,h=>nomatch h
 |_::_,[],_,hl,_=>by simp at hl
 | u::ts,p::ps,t,hl,h=>by
   by_cases e:t=u
   .subst e;exact⟨0,p,rfl,rfl,by rw[oK,ac]⟩
   .obtain⟨i,p',q1,q2,q3⟩:=rA (H:=H) (ts:=ts) (ps:=ps) (t:=t) (by simpa using hl) (by
     rcases W9.mp h with h|h
     .exact g! h e
     .exact h)
    exact⟨i+1,p',by simpa using q1,by simpa using q2,by rw[oK,aj e];exact q3⟩
theorem ki:∀{ps:List α}{ts:List β},ps.length=ts.length->(∀(j:Nat)p t,ps[j]?=some p->ts[j]?=some t->F p t)->Xs F ps ts
 | [],[],_,_=>.nil
 | [],_::_,h,_=>by simp at h
 |_::_,[],h,_=>by simp at h
 |p::ps,t::ts,h,f=>.cons (f 0 p t rfl rfl) (ki (by simpa using h) λj p' t' e1 e2=>f (j+1) p' t' (by simpa using e1) (by simpa using e2))
theorem vt{P:Nat->WS->Prop}:∀{vs:List WV}(n:Nat),(∀(j:Nat)v,vs[j]?=some v->∃T,v=Xl T/\P (n+j) T)->∃ts:List WS,vs=ts.map Xl/\∀(j:Nat)T,ts[j]?=some T->P (n+j) T
 | [],n,_=>⟨[],rfl,λj T h=>by simp at h⟩
 | v::vs,n,h=>by
   obtain⟨T,e1,e2⟩:=h 0 v rfl
   obtain⟨ts,q1,q2⟩:=vt (P:=P) (vs:=vs) (n+1) λj v' hv=>by
    have:=h (j+1) v' (by simpa using hv);rw[show n+1+j=n+(j+1)by omega];exact this
   refine⟨T::ts,by rw[e1,q1];rfl,λj T' hT=>?_⟩;cases j with
   |zero=>simp at hT;subst hT;exact e2
   | succ j =>
     have:=q2 j T' (by simpa using hT);rw[show n+1+j=n+(j+1)by omega]at this;exact this
theorem abA{xs:List α}{ys:List β}{p:α×β}(h:(xs.zip ys)[j]?=some p):xs[j]?=some p.1/\ys[j]?=some p.2:=by
 rw[Zf]at h;exact h
def yC(K:WQ)(t:TA):TE:=λZ H Q=>t Z H λvs H2=>∃a b xs ys,vs=[.ref a,.ref b]/\SqT K H2 a xs/\SqT K H2 b ys /\
 ∀(l:WS)(ts:List WS)(H':Hp),Same H2 H'->H2 l=none->H' l=some (.lst (ts.map i!))->Xs (λ(p:V×V)t=>H' t=some (.tup [p.1,p.2])) (xs.zip ys) ts->Q (.ref l) H'
section
variable{e1 e2:X8}{t:TA}{p p2 AH:Z9}
theorem uE(hc:X.calm=true)(g1:Gl X "list")(m1:X.mg "list"=none)(g2:Gl X "zip")(m2:X.mg "zip"=none)(ha:PA X [e1,e2] t)
 (h1:XE [.Call (.Name "zip" p2) [e1,e2] [] AH] X.env=[(false,Y3 (.Call (.Name "zip" p2) [e1,e2] [] AH) X.env)]:=by rfl) (h2:XE [e1,e2] X.env=(false,Y3 e1 X.env)::XE [e2] X.env:=by rfl) (h3:(Z4 AH (XE [e2] X.env)).any (·.1)=false:=by rfl) :
 PE X (.Call (.Name "list" p) [.Call (.Name "zip" p2) [e1,e2] [] AH] [] pos) (yC X.K t):=by
 intro U s Z H Q I h;refine Yl (de I g1 m1 boot_list (X0 ?_ h1 rfl));rw[h1];show Xa _ _ (spliced ((false,Y3 (.Call (.Name "zip" p2) [e1,e2] [] AH) X.env)::[])) _ _ s;refine YL ?_;refine Yl (de I g2 m2 boot_zip ?_);refine X0 (thn (ha AH U s Z H _ I h) λus s2⟨vs,H2,I2,r,a,b,xs,ys,ev,F7,F8,q⟩=>?_) h2 h3;subst ev;obtain⟨u1,u2,rfl,r1,r2⟩:=vals2 r;cases r1;cases r2;obtain⟨ia,GW,pa,Ip⟩:=I2.tuple F7;obtain⟨ib,GX,pb,NC⟩:=I2.tuple F8;have Ff:=GW.length;have Ur:=GX.length;have Bb:a<s2.heap.objs.size:=by obtain⟨o,e,_⟩:=pa;exact Xb e
 have Bi:b<s2.heap.objs.size:=by obtain⟨o,e,_⟩:=pb;exact Xb e
 have hh:X.A.in1.in1.handled=none:=I2.ok.hd hc;refine bb_call_zip (show s2.heap.IsTuple a ia.toArray from pa) (show s2.heap.IsTuple b ib.toArray from pb) λh' z1 z2 z3 z4 z5 z6 z7=>Zh ?_;have D:ZipApart (s2.heap.objs.size+4) (s2.heap.objs.size+2) (s2.heap.objs.size+3) s2.heap.objs.size (s2.heap.objs.size+1) a b:=zipApart_new Bb Bi
 have st:ZSt ia.toArray ib.toArray (s2.heap.objs.size+4) (s2.heap.objs.size+2) (s2.heap.objs.size+3) s2.heap.objs.size (s2.heap.objs.size+1) a b 0 h':=by
  refine⟨D,.inl z1,z2,⟨_,_,z3⟩,z4,z5,?_,?_⟩
  .obtain⟨o,e,r⟩:=pa;exact⟨o,z7 _ _ e,r⟩
  .obtain⟨o,e,r⟩:=pb;exact⟨o,z7 _ _ e,r⟩
 have hf:∀c∈[s2.heap.objs.size+4,s2.heap.objs.size+3,s2.heap.objs.size,s2.heap.objs.size+1],s2.heap.objs.size<=c/\c<h'.objs.size:=λc hc=>by
  simp at hc;rw[z6];have AX:(c:Nat)=s2.heap.objs.size+4\/(c:Nat)=s2.heap.objs.size+3\/(c:Nat)=s2.heap.objs.size\/(c:Nat)=s2.heap.objs.size+1:=hc;constructor
  .show(s2.heap.objs.size:Nat)<=(c:Nat);omega
  .show(c:Nat)<s2.heap.objs.size+5;omega
 refine bb_list_zip (s:={s2 with heap:=h'}) hh st rfl (by rw[W2,W2];omega) (WY _) (λc hc=>(hf c hc).2) λh2 acc c kp hS Aq=>?_;replace hS:h2.get? h'.objs.size=some {cls:=.type "list",dict:=none,data:=.seq acc c,slots:=#[]}:=hS;have ND:∀b o,s2.heap.get? b=some o->h2.get? b=some o:=λb o e=>kp b o (λm=>g! (Xb e) (Nat.not_lt.mpr (hf b m).1)) (z7 b o e);obtain⟨hsz,hit⟩:=Aq
 obtain⟨ts,et,ht⟩:=vt (P:=λj T=>h'.objs.size<=T/\∃x y,Zk h2 T x y/\ia.toArray[j]?=some x/\ib.toArray[j]?=some y) (vs:=acc.toList) 0 (λj v hv=>by
  obtain⟨T,x,y,g1,g2,g3,g4,g5⟩:=hit j v (by simpa using hv);rw[Nat.zero_add];exact⟨T,g1,g2,x,y,g3,g4,g5⟩)
 simp only[Nat.zero_add]at ht
 have AB:ts.length=(xs.zip ys).length:=by
  have e:=h! ZX et;rw[WO,XR,hsz,W2,W2]at e;rw[List.length_zip];omega
 have rel:∀(j:Nat)(p:V×V)(T:WS),(xs.zip ys)[j]?=some p->ts[j]?=some T->∃x y,Zk h2 T x y/\RelV p.1 x/\RelV p.2 y:=λj p T hp hT=>by
  obtain⟨_,x,y,g3,g4,g5⟩:=ht j T hT;obtain⟨DB,Bm⟩:=abA hp;obtain⟨x',k1,k2⟩:=GW.get DB;obtain⟨y',k3,k4⟩:=GX.get Bm
  have e1:x'=x:=by
   have:ia[j]?=some x:=by simpa using g4
   rw[k1]at this;exact Xm this
  have e2:y'=y:=by
   have:ib[j]?=some y:=by simpa using g5
   rw[k3]at this;exact Xm this
  subst e1 e2;exact⟨_,_,g3,k2,k4⟩
 have same:∀(i j:Nat)(p p':V×V)(T:WS),(xs.zip ys)[i]?=some p->(xs.zip ys)[j]?=some p'->ts[i]?=some T->ts[j]?=some T->p=p':=λi j p p' T h1 h2 h3 h4=>by
  obtain⟨x,y,g1,g2,g3⟩:=rel i p T h1 h3;obtain⟨x',y',k1,k2,k3⟩:=rel j p' T h2 h4;have e:=Xm (g1.symm.trans k1);have ed:=h! Obj.data e;injection ed with Ut _;have el:=h! Array.toList Ut;have ex:x=x':=(List.cons.inj el).1;have ey:y=y':=(List.cons.inj (List.cons.inj el).2).1;subst ex ey;obtain⟨p1,p2⟩:=p;obtain⟨q1,q2⟩:=p';have f1:p1=q1:=g2.inj k2;have f2:p2=q2:=g3.inj k3;rw[f1,f2]
 have Jy:h'.objs.size∉ts:=λm=>by
  obtain⟨j,hj⟩:=List.getElem?_of_mem m;obtain⟨_,x,y,g3,_⟩:=ht j _ hj;exact g! (YS (h! Obj.cls (Xm (g3.symm.trans hS)))) (by decide)
 have Fg:s2.heap.objs.size<h'.objs.size:=by rw[z6];omega
 have Jz:∀T∈ts,h'.objs.size<=T:=λT m=>by
  obtain⟨j,hj⟩:=List.getElem?_of_mem m;exact(ht j _ hj).1
 have F9:∀b,s2.heap.objs.size<=b->H2 b=none:=λb hb=>I2.hok.fresh hb;have Bl:H2 h'.objs.size=none:=F9 _ (ZV Fg)
 have Uu:∀(j:Nat)(p:V×V)(T:WS),(xs.zip ys)[j]?=some p->ts[j]?=some T->oK H2 ts (xs.zip ys) T=some (.tup [p.1,p.2]):=λj p T hp hT=>by
  obtain⟨i,p',k1,k2,k3⟩:=rA (H:=H2) AB (WU hT);rw[k3,same i j p' p T k2 hp k1 hT]
 have I3:Inv X U Z (upd (oK H2 ts (xs.zip ys)) h'.objs.size (.lst (ts.map i!))) {s2 with heap:=h2,toks:=s2.toks}:=by
  refine I2.laidAll ND (λb hb=>?_) λb u hb hu=>?_
  .rw[aj (Xy (Nat.lt_trans hb Fg)),nZ];exactλm=>g! (Nat.lt_trans hb Fg) (Nat.not_lt.mpr (Jz b m))
  .by_cases e:b=h'.objs.size
   .subst e;rw[ac]at hu;cases hu;refine⟨by rw[WO,AB,List.length_zip];omega,ts.map Xl,c,?_,by rw[<-et];exact hS⟩
    exact ki (by simp) λj p t e1 e2=>by
     rw[W0]at e1 e2;cases q:ts[j]? with
     |none=>rw[q]at e1;cases e1
     |some T=>rw[q]at e1 e2;cases e1;cases e2;rfl
   .rw[aj e]at hu;rcases tU hu with q|⟨j,p,q1,q2,q3⟩
    .rw[F9 b hb]at q;cases q
    .subst q3;obtain⟨x,y,g1,g2,g3⟩:=rel j p b q2 q1;exact⟨by show 2<=Xe;decide,[x,y],0,.cons g2 (.cons g3 .nil),g1⟩
 refine⟨.ref h'.objs.size,_,I3,rfl,q h'.objs.size ts _ (λb o e=>?_) Bl ac ?_⟩
 .have hb:=I2.hok.lt e;rw[aj (Xy (Nat.lt_trans hb Fg)),nZ]
  .exact e
  .exactλm=>g! (Nat.lt_trans hb Fg) (Nat.not_lt.mpr (Jz b m))
 .refine ki AB.symm λj p T hp hT=>?_;rw[aj (show T≠h'.objs.size fromλe=>Jy (by rw[<-e];exact WU hT))];exact Uu j p T hp hT
end
section
variable{κ:Type}[DecidableEq κ]
def aQ(f':List (κ×V))(k:κ):Option V:=(f'.find? λkv=>decide (kv.1=k)).map (·.2)
def putK(f':List (κ×V))(k:κ)(v:V):List (κ×V) :=
 if(f'.any λkv=>decide (kv.1=k))=true then f'.map (λkv=>if kv.1=k then(kv.1,v)else kv)else f'++[(k,v)]
theorem bD{p:κ×V}{r:List (κ×V)}{k:κ}(e:p.1=k):aQ (p::r) k=some p.2:=by simp[aQ,ZQ,e]
theorem bC{p:κ×V}{r:List (κ×V)}{k:κ}(e:¬p.1=k):aQ (p::r) k=aQ r k:=by simp[aQ,ZQ,e]
theorem eh(k:κ):∀f':List (κ×V),(f'.any λkv=>decide (kv.1=k))=(aQ f' k).isSome
 | []=>rfl
 | p::r=>by
   rw[List.any_cons];by_cases e:p.1=k
   .simp only[bD e,d! e,Bool.true_or,Option.isSome_some]
   .rw[bC e,c! e,Bool.false_or];exact eh k r
theorem rC(k j:κ)(y:V):∀f':List (κ×V),aQ (f'.map λkv=>if kv.1=k then(kv.1,y)else kv) j=(aQ f' j).map λx=>if j=k then y else x
 | []=>rfl
 | p::r=>by
   have ih:=rC k j y r;rw[XB];by_cases h:p.1=k
   .rw[b! h];by_cases e:p.1=j
    .rw[bD (p:=(p.1,y)) e,bD e,Option.map_some,b! (e.symm.trans h)]
    .rw[bC (p:=(p.1,y)) e,bC e,ih]
   .rw[a! h];by_cases e:p.1=j
    .rw[bD (p:=p) e,bD e,Option.map_some,a! (λz=>h (e.trans z))]
    .rw[bC (p:=p) e,bC e,ih]
theorem pi(k j:κ)(y:V):∀f':List (κ×V),aQ f' k=none->aQ (f'++[(k,y)]) j=if j=k then some y else aQ f' j
 | [],_=>by
   by_cases e:k=j
   .rw[b! e.symm];exact bD (p:=(k,y)) e
   .rw[a! (λz=>e z.symm)];exact bC (p:=(k,y)) e
 | p::r,hn=>by
   rw[Yn];have hk:¬p.1=k:=λz=>by rw[bD z]at hn;cases hn
   rw[bC hk]at hn;have ih:=pi k j y r hn;by_cases e:p.1=j
   .rw[bD e,bD e,a! (λz=>hk (e.trans z))]
   .rw[bC e,bC e,ih]
theorem fB(f':List (κ×V))(k j:κ)(y:V):aQ (putK f' k y) j=if j=k then some y else aQ f' j:=by
 unfold putK;by_cases a:(f'.any λkv=>decide (kv.1=k))=true
 .rw[b! a,rC];rw[eh]at a;by_cases e:j=k
  .obtain⟨x,hx⟩:=Z2.mp a;rw[b! e,e,hx,Option.map_some,b! rfl]
  .rw[a! e];cases aQ f' j with
   |none=>rfl
   |some x=>rw[Option.map_some,a! e]
 .rw[a! a];refine pi k j y f' ?_;rw[eh]at a;cases q:aQ f' k with
  |none=>rfl
  |some x=>rw[q]at a;exact(a rfl).elim
theorem bt(f':List (κ×V))(k:κ)(v:V):(putK f' k v).length<=f'.length+1:=by
 unfold putK;split
 .rw[WO];omega
 .rw[Xg,W3,List.length_nil];omega
theorem jC{f':List (κ×V)}{k:κ}(v:V)(h:aQ f' k=none):putK f' k v=f'++[(k,v)]:=by
 unfold putK;rw[eh,h];exact a! (by decide)
theorem RelO.isSome_eq{o:Option V}{u:Option WV}(r:RelO o u):o.isSome=u.isSome:=by
 cases o with
 | none=>cases u with
   |none=>rfl
   |some _=>exact(show False from r).elim
 | some _=>cases u with
   |none=>exact(show False from r).elim
   |some _=>rfl
theorem RelO.getD{o:Option V}{u:Option WV}{d:V}{d':WV}(r:RelO o u)(rd:RelV d d'):RelV (o.getD d) (u.getD d'):=by
 cases o with
 | none=>cases u with
   |none=>exact rd
   |some _=>exact(show False from r).elim
 | some _=>cases u with
   |none=>exact(show False from r).elim
   |some _=>exact r
theorem KV.val{f':List (κ×V)}{vs:List (κ×WV)}(r:KV f' vs)(k:κ):RelO (aQ f' k) (valueAt vs k):=by
 unfold KV at r;induction r with
 |nil=>exact YU
 | @cons p q ps qs h t ih =>
   obtain⟨h1,h2⟩:=h;by_cases e:p.1=k
   .have e':q.1=k:=h1.symm.trans e;have b:valueAt (q::qs) k=some q.2:=by simp[valueAt,ZQ,e']
    rw[bD e,b];exact h2
   .have e':¬q.1=k:=λz=>e (h1.trans z);have b:valueAt (q::qs) k=valueAt qs k:=by simp[valueAt,ZQ,e']
    rw[bC e,b];exact ih
theorem KV.any{f':List (κ×V)}{vs:List (κ×WV)}(r:KV f' vs)(k:κ):(f'.any λkv=>decide (kv.1=k))=vs.any λkv=>decide (kv.1=k):=by
 unfold KV at r;induction r with
 |nil=>rfl
 |cons h t ih=>rw[List.any_cons,List.any_cons,ih,h.1]
theorem KV.repl{f':List (κ×V)}{vs:List (κ×WV)}(r:KV f' vs)(k:κ)(ry:RelV y u) :
 KV (f'.map λkv=>if kv.1=k then(kv.1,y)else kv) (vs.map λkv=>if kv.1=k then(kv.1,u)else kv):=by
 unfold KV at r |-;induction r with
 |nil=>exact .nil
 | @cons p q ps qs h t ih =>
   rw[XB,XB];refine .cons ?_ ih;obtain⟨h1,h2⟩:=h;by_cases e:p.1=k
   .rw[b! e,b! (h1.symm.trans e)];exact⟨h1,ry⟩
   .rw[a! e,a! (λz=>e (h1.trans z))];exact⟨h1,h2⟩
theorem KV.put{f':List (κ×V)}{vs:List (κ×WV)}(r:KV f' vs)(k:κ)(ry:RelV y u):KV (putK f' k y) (stored vs k u):=by
 unfold putK stored;rw[r.any k];by_cases e:(vs.any λkv=>decide (kv.1=k))=true
 .rw[b! e,b! e];exact r.repl k ry
 .rw[a! e,a! e];exact Paired.snoc r ⟨rfl,ry⟩
theorem KV.length{f':List (κ×V)}{vs:List (κ×WV)}(r:KV f' vs):f'.length=vs.length:=W5 r
end
theorem lK{k:Key}(r:RelV (kV k) u):(av P w).is k u=true:=by
 cases k with
 |inl i=>obtain⟨t,e⟩:=(show∃t,u=Value.int i t from r);subst e;exact rO P w i t
 |inr x=>obtain⟨t,e⟩:=(show∃t,u=Value.str x t from r);subst e;exact sy P w x t
theorem o0:∀{ks:List Key}{us:List WV},Vals (ks.map kV) us->ItemsAre (av P w) ks us
 | [],_,r=>by rw[Zb]at r;cases r;exact .nil
 | k::ks,_,r=>by
   rw[XB]at r;cases r with
   |cons h t=>exact .cons (lK h) (o0 t)
abbrev KTd(H:Hp):List (List Key×V)->List (List Key×WS×WV)->Prop:=Xs λp q=>p.1=q.1/\H q.2.1=some (.tup (p.1.map kV))/\RelV p.2 q.2.2
theorem KTd.val{f':List (List Key×V)}{xs:List (List Key×WS×WV)}(r:KTd H f' xs)(k:List Key):RelO (aQ f' k) ((atKey xs k).map (·.2)):=by
 induction r with
 |nil=>exact YU
 | @cons p q ps qs h t ih =>
   obtain⟨h1,_,h2⟩:=h;by_cases e:p.1=k
   .have e':q.1=k:=h1.symm.trans e;have b:atKey (q::qs) k=some q.2:=by simp[atKey,ZQ,e']
    rw[bD e,b];exact h2
   .have e':¬q.1=k:=λz=>e (h1.trans z);have b:atKey (q::qs) k=atKey qs k:=by simp[atKey,ZQ,e']
    rw[bC e,b];exact ih
theorem KTd.repl{f':List (List Key×V)}{xs:List (List Key×WS×WV)}(r:KTd H f' xs)(k:List Key)(ry:RelV y u) :
 KTd H (f'.map λkv=>if kv.1=k then(kv.1,y)else kv) (xs.map (putAt k u)):=by
 induction r with
 |nil=>exact .nil
 | @cons p q ps qs h t ih =>
   rw[XB,XB];refine .cons ?_ ih;obtain⟨h1,h2,h3⟩:=h;unfold putAt;by_cases e:p.1=k
   .rw[b! e,b! (h1.symm.trans e)];exact⟨h1,h2,ry⟩
   .rw[a! e,a! (λz=>e (h1.trans z))];exact⟨h1,h2,h3⟩
theorem KTd.put{f':List (List Key×V)}{xs:List (List Key×WS×WV)}(r:KTd H f' xs)(k:List Key)(hb:H b=some (.tup (k.map kV)))(ry:RelV y u) :
 KTd H (putK f' k y) (storedH xs k b u):=by
 have e:(f'.any λkv=>decide (kv.1=k))=(atKey xs k).isSome:=by
  rw[eh,(r.val k).isSome_eq,Option.isSome_map]
 unfold putK storedH;rw[e];by_cases q:(atKey xs k).isSome=true
 .rw[b! q,b! q];exact r.repl k ry
 .rw[a! q,a! q];exact Paired.snoc r ⟨rfl,hb,ry⟩
theorem KTd.keeps{f':List (List Key×V)}{xs:List (List Key×WS×WV)}(r:KTd H f' xs)(ht:∀b ys,H b=some (.tup ys)->H' b=some (.tup ys)):KTd H' f' xs :=
 Xs.mapP r λ_ _ z=>⟨z.1,ht _ _ z.2.1,z.2.2⟩
theorem aaC{u:HO}(ok:HOk P w H h)(e:Rd H a u):ObjOk P w H h a u:=e.ok ok
theorem pz{f':List (Key×V)}(ok:HOk P w H h)(e:Rd H a (.dK f')):f'.length<=Xe/\(a == YO)=false/\∃vs,KV f' vs/\h.DictOf (av P w) a vs :=
 show ObjOk P w H h a (.dK f')from aaC ok e
theorem aaA{f':List (Key×V)}(ok:HOk P w H h)(e:H a=some (.dK f')):f'.length<=Xe/\(a == YO)=false/\∃vs,KV f' vs/\h.DictOf (av P w) a vs:=pz ok (.inl e)
theorem f9{ks:List Key}(ok:HOk P w H h)(e:H a=some (.tup (ks.map kV))):(tupleKind (av P w)).is h ks a:=by
 obtain⟨_,its,n,r,h1⟩:=(show ObjOk P w H h a (.tup (ks.map kV))from ok a _ e);exact⟨_,its.toArray,n,h1,rfl,rfl,by simpa using o0 r⟩
theorem pI{f':List (List Key×V)}(ok:HOk P w H h)(e:Rd H a (.dT f')):f'.length<=Xe/\(a == YO)=false /\
 ∃xs,KTd H f' xs/\h.DictOfH (tupleKind (av P w)) a xs:=by
 obtain⟨z,y,xs,r,o,es,ep,h1,h2,h3,h4,h5⟩:=(show ObjOk P w H h a (.dT f')from aaC ok e);refine⟨z,y,xs,r,o,es,ep,h1,h2,h3,h4,λx hx=>?_,h5⟩
 have all:∀{l:List (List Key×V)}{m:List (List Key×WS×WV)},KTd H l m->∀x∈m,(tupleKind (av P w)).is h x.1 x.2.1:=by
  intro l m q;induction q with
  |nil=>intro x hx;exact nomatch hx
  | @cons p q ps qs hq t ih =>
    intro x hx;rcases W9.mp hx with e|hx
    .subst e;exact f9 ok (by rw[<-hq.1];exact hq.2.1)
    .exact ih x hx
 exact all r x hx
theorem tz{f':List (List Key×V)}(ok:HOk P w H h)(e:H a=some (.dT f')):f'.length<=Xe/\(a == YO)=false /\
 ∃xs,KTd H f' xs/\h.DictOfH (tupleKind (av P w)) a xs:=pI ok (.inl e)
def DGet(H:Hp)(a:WS)(y:V)(r:Option V):Prop :=
 (∃f' k,Rd H a (.dK f')/\y=kV k/\r=aQ f' k)\/∃f' k b,Rd H a (.dT f')/\y=.ref b/\H b=some (.tup (k.map kV))/\r=aQ f' k
def DPut(H:Hp)(a:WS)(y v:V)(H':Hp):Prop :=
 (∃f' k,H a=some (.dK f')/\y=kV k/\f'.length<Xe/\H'=upd H a (.dK (putK f' k v))) \/
 ∃f' k b,H a=some (.dT f')/\y=.ref b/\H b=some (.tup (k.map kV))/\f'.length<Xe/\H'=upd H a (.dT (putK f' k v))
theorem DGet.k{f':List (Key×V)}{k:Key}(e:H a=some (.dK f')):DGet H a (kV k) (aQ f' k):=.inl ⟨f',k,.inl e,rfl,rfl⟩
theorem DGet.t{f':List (List Key×V)}{k:List Key}(e:H a=some (.dT f'))(eb:H b=some (.tup (k.map kV))):DGet H a (.ref b) (aQ f' k):=.inr ⟨f',k,b,.inl e,rfl,eb,rfl⟩
theorem DPut.t{f':List (List Key×V)}{k:List Key}(e:H a=some (.dT f'))(eb:H b=some (.tup (k.map kV)))(hl:f'.length<Xe) :
 DPut H a (.ref b) v (upd H a (.dT (putK f' k v))):=.inr ⟨f',k,b,e,rfl,eb,hl,rfl⟩
section
variable{r:WV}{o:Option V}
theorem Inv.big(I:Inv X U Z H s):YO<s.heap.objs.size:=by
 have h:Xr<s.heap.objs.size:=(I.mod.glob.keeps I.bk).lt;exact Nat.lt_trans (by decide) h
theorem pC(hu:A.units+1<YM)(I:Inv X U Z H s)(g:DGet H a y (some v))(ry:RelV y u)(h:∀w' s',Inv X U Z H s'->RelV v w'->Q w' s') :
 Xa (Xu X.prog X.w) A (getItem (.ref a) u) Q E s:=by
 rcases g with⟨f',k,e,ey,l⟩|⟨f',k,b,e,ey,eb,l⟩
 .subst ey;obtain⟨z,hd,vs,rel,dd⟩:=pz I.hok e;obtain⟨w',hw,CA⟩:=RelO.some_of (v:=v) (o:=valueAt vs k) (by rw[l];exact rel.val k);exact wpAny_getItem_of (lK ry) dd.mapOf hw (h w' _ (I.tok _) CA)
 .subst ey;cases(show u=Xl b from ry);obtain⟨z,hd,xs,rel,dd⟩:=pI I.hok e;obtain⟨w',hw,CA⟩:=RelO.some_of (v:=v) (o:=(atKey xs k).map (·.2)) (by rw[l];exact rel.val k);obtain⟨p,hp,Bm⟩:=XJ.mp hw;refine wpAny_getItem_heap (tupleKind_room_in1 hu) (f9 I.hok eb) dd hp ?_;rw[Bm];exact h w' _ (I.tok _) CA
theorem adi(hu:A.units+1<YM)(I:Inv X U Z H s)(g:DGet H a y o)(ry:RelV y u)(h:∀s',Inv X U Z H s'->Q (.bool o.isSome) s') :
 Xa (Xu X.prog X.w) A (compareOp .In u (.ref a)) Q E s:=by
 rcases g with⟨f',k,e,ey,l⟩|⟨f',k,b,e,ey,eb,l⟩
 .subst ey;obtain⟨z,hd,vs,rel,dd⟩:=pz I.hok e;refine wpAny_in_of (lK ry) hd dd.mapOf ?_;rw[<-(rel.val k).isSome_eq,<-l];exact h _ (I.tok _)
 .subst ey;cases(show u=Xl b from ry);obtain⟨z,hd,xs,rel,dd⟩:=pI I.hok e;refine wpAny_in_heap (tupleKind_room_in1 hu) (f9 I.hok eb) hd dd ?_;have q:=(rel.val k).isSome_eq;rw[Option.isSome_map]at q;rw[<-q,<-l];exact h _ (I.tok _)
theorem fT{ob:HO}(I:Inv X U Z H s)(mu:Mut (H a))(hs:YF a s.heap h')(he:∃q,h'.get? a=some q)(new:ObjOk X.prog X.w (upd H a ob) h' a ob) :
 Inv X U Z (upd H a ob) {s with heap:=h',toks:=t'} :=
 I.write (x:=a) (e:=a) mu (.inl rfl) (λb q hb z=>(hs.2 b hb).trans z) he new
theorem ym{f':List (Key×V)}{vs:List (Key×WV)}(z:f'.length<=Xe)(hd:(a == YO)=false)(rel:KV f' vs)(dd:h'.DictOf (av P w) a vs) :
 ObjOk P w H' h' a (.dK f'):=⟨z,hd,vs,rel,dd⟩
theorem wm{Q:Unit->WZ->Prop}(hu:A.units+1<YM)(I:Inv X U Z H s)(g:DPut H a y v H')(ry:RelV y u)(rv:RelV v r)(h:∀s',Inv X U Z H' s'->Q () s') :
 Xa (Xu X.prog X.w) A (setItem (.ref a) u r) Q E s:=by
 rcases g with⟨f',k,e,ey,l,eH⟩|⟨f',k,b,e,ey,eb,l,eH⟩
 .subst ey eH;obtain⟨z,hd,vs,rel,dd⟩:=aaA I.hok e;have hz:vs.length<=Xe:=by rw[<-rel.length];exact z
  have hl:(putK f' k v).length<=Xe:=by have:=bt f' k v;omega
  refine wpAny_setItem_pairs (hsz:=hz) (lK ry) dd λh' Di hs=>h _ ?_;have he:∃q,h'.get? a=some q:=let⟨q,_,_,hq,_⟩:=Di;⟨q,hq⟩
  exact fT I (by rw[e];exact YU) hs he (ym hl hd (rel.put k rv) Di)
 .subst ey eH;cases(show u=Xl b from ry);obtain⟨z,hd,xs,rel,dd⟩:=tz I.hok e;have hz:xs.length<=Xe:=by rw[<-W5 rel];exact z
  have hl:(putK f' k v).length<=Xe:=by have:=bt f' k v;omega
  refine wpAny_setItem_heap (hsz:=hz) (tupleKind_room_in1 hu) (f9 I.hok eb) dd λh' Di hs=>h _ ?_;obtain⟨q,es,ep,hq,h2,h3,h4,_,h5⟩:=Di;refine fT I (by rw[e];exact YU) hs ⟨q,hq⟩ ⟨hl,hd,_,(rel.put k eb rv).keeps λc ys ec=>?_,q,es,ep,hq,h2,h3,h4,h5⟩;rw[aj (ej ec e (λz=>nomatch z))];exact ec
end
section
variable{f':List (Key×V)}{k:Key}
end
def aab(i:X8):Prop:=∀ov iv,subscripted i false ov iv=operate [ov,iv] (getItem ov iv)
theorem qM{value slice:X8}{T id:String}
 (hl:typeLookup (.type T) "__getitem__"=pure (some (.builtin id))) (hs:aab slice)
 (h:Xa (Xu prog w) A (Y3 value env) (λo Ac=>Xa (Xu prog w) A (Y3 slice env) (λi AN=>AN.TypeIs o T/\Xa (Xu prog w) A (getItem o i) Q E AN) E Ac) E s) :
 Xa (Xu prog w) A (Y3 (.Subscript value slice pos) env) Q E s:=by
 refine Subscript_ (Y7 h (λo Ac Ap=>Y7 Ap (λi AN A9=>?_) λ_ _ x=>x) λ_ _ x=>x);obtain⟨hT,A9⟩:=A9;unfold subscriptTail;refine WN ?_;rw[getitemInPython_of_ne hT.not_modules];refine WN (Ys hT hl ?_)
 have fin:Xa (Xu prog w) A (subscripted slice false o i) (λr Ci=>Xa (Xu prog w) A (letTemporaryGo value o r >>= λ_=>pure r) Q E Ci) E AN:=by
  rw[hs o i];exact wpAny_operating (Y7 A9 (λr Ci CD=>WN (wpAny_letTemporaryGo (WX CD))) λ_ _ x=>x)
 first
  |exact WX (WN fin)
  |exact WN (WX (WN fin))
  |exact WN fin
theorem lH{o:Option V}(I:Inv X U Z H s)(g:DGet H a y o):s.TypeIs (.ref a) "dict":=by
 rcases g with⟨f',k,e,_,_⟩|⟨f',k,b,e,_,_,_⟩
 .obtain⟨_,_,vs,_,dd⟩:=pz I.hok e;exact dd.typeIs
 .obtain⟨_,_,xs,_,dd⟩:=pI I.hok e;exact dd.typeIs
def ab7(td ty:TE):TE:=λZ H Q=>td Z H λx H1=>ty Z H1 λy H2=>∃a v,x=.ref a/\DGet H2 a y (some v)/\Q v H2
def acU(ty td:TE):TE:=λZ H Q=>ty Z H λy H1=>td Z H1 λx H2=>∃a o,x=.ref a/\DGet H2 a y o/\Q (.bl o.isSome) H2
def acJ(td ty tv:TE):TS:=λD Z H=>tv Z H λv H1=>td Z H1 λx H2=>ty Z H2 λy H3=>∃a H4,x=.ref a/\DPut H3 a y v H4/\D.nx Z H4
section
variable{o i value:X8}{I0:Z9}{td ty tv:TE}
theorem pZ(hu:X.A.units+1<YM)(ho:PE X o td)(hi:PE X i ty)(hs:aab i):PE X (.Subscript o i pos) (ab7 td ty):=by
 intro U s Z H Q I h;refine qM PySem.F.slot_dict_getitem.lookup hs (thn (ho U s Z H _ I h) λu s1⟨x,H1,I1,rx,q1⟩=>thn (hi U s1 Z H1 _ I1 q1) λiv s2⟨y,H2,I2,ry,a,v,ex,g,q2⟩=>?_);subst ex;obtain rfl:u=Xl a:=rx;exact⟨lH I2 g,pC hu I2 g ry λw' s3 I3 CA=>⟨v,H2,I3,CA,q2⟩⟩
theorem abU(hu:X.A.units+1<YM)(hi:PE X i ty)(ho:PE X o td):PC X .In i o (acU ty td):=by
 intro U s Z H Q I h;refine thn (hi U s Z H _ I h) λiv s1⟨y,H1,I1,ry,q1⟩=>thn (ho U s1 Z H1 _ I1 q1) λu s2⟨x,H2,I2,rx,a,ov,ex,g,q2⟩=>?_;subst ex;obtain rfl:u=Xl a:=rx;exact adi hu I2 g ry λs3 I3=>⟨.bl ov.isSome,H2,I3,rfl,q2⟩
theorem vc(hu:X.A.units+1<YM)(ho:PE X o td)(hi:PE X i ty)(hv:PE X value tv)(hs:swapsWith value (some (.Subscript o i pos')) pos.line X.env=pure false) :
 PS X (.Assign [.Subscript o i pos'] value pos) (acJ td ty tv):=by
 intro U s Z H D I h;refine wpAny_Assign_Subscript (thn (hv U s Z H _ I h) λr s1⟨v,H1,I1,rv,q1⟩=>thn (ho U s1 Z H1 _ I1 q1) λu s2⟨x,H2,I2,rx,q2⟩=>thn (hi U s2 Z H2 _ I2 q2) λiv s3⟨y,H3,I3,ry,a,H4,ex,g,q3⟩=>?_) hs;subst ex;obtain rfl:u=Xl a:=rx;exact wm hu I3 g ry rv λs4 I4=>⟨Z,H4,I4,q3⟩
end
theorem sG(h:X7)(hb:YO<h.objs.size):ObjOk P w H (h.push {cls:=.type "dict",data:=.dict #[]}) h.objs.size (.dK []) :=
 ⟨Xi _,beq_eq_false_iff_ne.mpr (YQ (Xy hb)),[],.nil,Heap.DictOf.new h⟩
theorem sV(h:X7)(hb:YO<h.objs.size):ObjOk P w H (h.push {cls:=.type "dict",data:=.dict #[]}) h.objs.size (.dT []) :=
 ⟨Xi _,beq_eq_false_iff_ne.mpr (YQ (Xy hb)),[],.nil,_,#[],0,W4 _ rfl,⟨rfl,rfl,rfl⟩,rfl,rfl,List.nodup_nil⟩
def abi:TE:=λ_ H Q=>∀p,H p=none->Q (.ref p) (upd H p (.dK []))
def aa5:TE:=λ_ H Q=>∀p,H p=none->Q (.ref p) (upd H p (.dT []))
theorem zf:PE X (.Dict [] [] pos) abi:=λU s Z H Q I h =>
 wpAny_Dict_empty ⟨.ref s.heap.objs.size,_,I.laid (a:=s.heap.objs.size) (o:=.dK []) (t':=s.toks) (λ_ _ q=>WW _ q) (WY _) (sG s.heap I.big),rfl,h _ (I.hok.fresh (WY _))⟩
theorem nB:PE X (.Dict [] [] pos) aa5:=λU s Z H Q I h =>
 wpAny_Dict_empty ⟨.ref s.heap.objs.size,_,I.laid (a:=s.heap.objs.size) (o:=.dT []) (t':=s.toks) (λ_ _ q=>WW _ q) (WY _) (sV s.heap I.big),rfl,h _ (I.hok.fresh (WY _))⟩
def uV:List (TE×TE)->St->Hp->(List (V×V)->Hp->Prop)->Prop
 | [],_,H,Q=>Q [] H
 |(tk,tv)::r,Z,H,Q=>tk Z H λx H1=>tv Z H1 λy H2=>uV r Z H2 λps H3=>Q ((x,y)::ps) H3
abbrev VV:List (V×V)->List (WV×WV)->Prop:=Xs λp q=>RelV p.1 q.1/\RelV p.2 q.2
def PPs(X:Cx)(pos:Z9)(keys:List (Option X8))(values:List X8)(Fh:List (TE×TE)):Prop :=
 ∀(U:List (WS×Ze))(s:WZ)(Z:St)(H:Hp)(Q:List (V×V)->Hp->Prop),Inv X U Z H s->uV Fh Z H Q ->
   Xa (Xu X.prog X.w) X.A (evalPairs (pairTrees keys values X.env pos)) (λvs s'=>∃ps H',Inv X U Z H' s'/\VV ps vs/\Q ps H') X.xe s
theorem vE:PPs X pos [] [] []:=λU s Z H Q I h=>pairTrees_nil_walk ⟨[],H,I,.nil,h⟩
theorem sM{k v:X8}{ks:List (Option X8)}{vs:List X8}{tk tv:TE}{Fh:List (TE×TE)}(hk:PE X k tk)(hv:PE X v tv)(hr:PPs X pos ks vs Fh) :
 PPs X pos (some k::ks) (v::vs) ((tk,tv)::Fh):=λU s Z H Q I h =>
 pairTrees_cons_walk (thn (hk U s Z H _ I h) λu s1⟨x,H1,I1,rx,q1⟩=>thn (hv U s1 Z H1 _ I1 q1) λw2 s2⟨y,H2,I2,ry,q2⟩ =>
  thn (hr U s2 Z H2 _ I2 q2) λws s3⟨ps,H3,I3,rel,q3⟩=>⟨(x,y)::ps,H3,I3,.cons ⟨rx,ry⟩ rel,q3⟩)
def j5(f' more:List (Key×V)):List (Key×V):=more.foldl (λacc kv=>putK acc kv.1 kv.2) f'
theorem KV.merge:∀{more:List (Key×V)}{rs:List (Key×WV)}{f':List (Key×V)}{vs:List (Key×WV)},KV more rs->KV f' vs->KV (j5 f' more) (merged vs rs):=by
 intro more rs f' vs r;unfold KV at r;induction r generalizing f' vs with
 |nil=>intro q;exact q
 | @cons p q ps qs h t ih =>
   intro r0
   have e:KV (putK f' p.1 p.2) (stored vs q.1 q.2):=by
    have:=r0.put p.1 h.2;rw[<-h.1];exact this
   exact ih e
theorem iz:∀(more f':List (Key×V)),(j5 f' more).length<=f'.length+more.length
 | [],f'=>by show f'.length<=f'.length+0;omega
 | p::r,f'=>by
   have h1:=iz r (putK f' p.1 p.2);have h2:=bt f' p.1 p.2;show(j5 (putK f' p.1 p.2) r).length<=_;rw[W3];omega
theorem nK{P:W6}{w:Xj}:∀{f':List (Key×V)}{ws:List (WV×WV)},VV (f'.map λkv=>(kV kv.1,kv.2)) ws->∃rs,Carries (av P w) ws rs/\KV f' rs
 | [],_,r=>by rw[Zb]at r;cases r;exact⟨[],YU,.nil⟩
 | p::f',_,r=>by
   rw[XB]at r;cases r with
   | @cons a b as bs h t =>
     obtain⟨rs,c,q⟩:=nK (P:=P) (w:=w) t;obtain⟨b1,b2⟩:=b;exact⟨(p.1,b2)::rs,⟨lK h.1,rfl,c⟩,.cons ⟨rfl,h.2⟩ q⟩
def aca(Fh:List (TE×TE)):TE:=λZ H Q=>∀p,H p=none->uV Fh Z (upd H p (.dK [])) λps H2=>H2 p=some (.dK [])/\∃f':List (Key×V),ps=f'.map (λkv=>(kV kv.1,kv.2))/\f'.length<=15/\Q (.ref p) (upd H2 p (.dK (j5 [] f')))
theorem vD{keys:List (Option X8)}{values:List X8}{Fh:List (TE×TE)}(h:PPs X pos keys values Fh)(Aa:keys.all (·.isSome)=true)(hl:keys.length=values.length)(h0:keys≠[])
 (Uv:keys.length<=15):PE X (.Dict keys values pos) (aca Fh):=by
 intro U s Z H Q I q;have hn:=I.hok.fresh (WY s.heap.objs.size);have I1:=I.laid (a:=s.heap.objs.size) (o:=.dK []) (h':=s.heap.push {cls:=.type "dict",data:=.dict #[]}) (t':=s.toks) (λ_ _ q=>WW _ q) (WY _) (sG s.heap I.big);refine wpAny_Dict_walk (knd:=av X.prog X.w) Aa hl h0 Uv (thn (h U _ Z _ _ I1 (q _ hn)) λws s2⟨ps,H2,I2,rel,e,f',ep,lk,q2⟩=>?_);subst ep;obtain⟨rs,c,rk⟩:=nK (P:=X.prog) (w:=X.w) rel;obtain⟨z,hd,vs0,r0,dd⟩:=aaA I2.hok e;cases r0;refine⟨rs,c,dd,λh' Di hs=>⟨.ref s.heap.objs.size,_,?_,rfl,q2⟩⟩
 have hz:(j5 [] f').length<=Xe:=by
  have h1:=iz f' [];rw[List.length_nil]at h1;rw[sizeLine_eq];omega
 have he:∃q,h'.get? s.heap.objs.size=some q:=let⟨q,_,_,hq,_⟩:=Di;⟨q,hq⟩
 exact fT I2 (by rw[e];exact YU) hs he (ym hz hd (rk.merge .nil) Di)
structure M2(X:Cx)(o:X8)(m:Xk)(apos:Z9)(e f:X8)(Aw:Z9):Prop where
 base:attributeBase o m X.env (Y3 o X.env)=Y3 o X.env
 few:((Z4 Aw (XE [e,f] X.env)).all (λx=>!x.1) && (backToKw Aw (keywordEach [] X.env)).all (λx=>x.1.isSome)
  && decide (([e,f]:List X8).length+([]:List Keyword).length+(if([]:List Keyword).isEmpty then 0 else 1)<30))=true
 line:(apos.endLine == Aw.line)=true
 trees:Z4 Aw (XE [e,f] X.env)=[(false,Y3 e X.env),(false,Y3 f X.env)]
def IsD(H:Hp)(a:WS):Prop:=(∃f',Rd H a (.dK f'))\/∃f',Rd H a (.dT f')
theorem abt(I:Inv X U Z H s)(d:IsD H a) :
 s.TypeIs (.ref a) "dict"/\(∀b,Xl a=.ref b->∃ob,s.heap.get? b=some ob/\ob.dict=none)/\(a == YO)=false:=by
 rcases d with⟨f',e⟩|⟨f',e⟩
 .obtain⟨_,hd,vs,_,dd⟩:=pz I.hok e;refine⟨dd.typeIs,λb q=>?_,hd⟩;cases q;obtain⟨ob,_,_,h1,h2,_⟩:=dd;exact⟨ob,h1,h2.2.1⟩
 .obtain⟨_,hd,xs,_,dd⟩:=pI I.hok e;refine⟨dd.typeIs,λb q=>?_,hd⟩;cases q;obtain⟨ob,_,_,h1,h2,_⟩:=dd;exact⟨ob,h1,h2.2.1⟩
section
variable{d:V}{r:WV}{o:Option V}
theorem abz(hu:A.units+1<YM)(I:Inv X U Z H s)(g:DGet H a y o)(ry:RelV y u)(rd:RelV d r)(h:∀w' s',Inv X U Z H s'->RelV (o.getD d) w'->Q w' s') :
 Xa (Xu X.prog X.w) A (call (.builtin "dict.get") [.ref a,u,r]) Q E s:=by
 rcases g with⟨f',k,e,ey,l⟩|⟨f',k,b,e,ey,eb,l⟩
 .subst ey;obtain⟨z,hd,vs,rel,dd⟩:=pz I.hok e;refine call_meetsIn PySem.F.slot_dict_get dd.typeIs PySem.F.entry_dict_get (PySem.F.args_dict_get_3 _ _ _) (meets_dict_get_default (av X.prog X.w) a (lK ry) hd r) ⟨_,dd.mapOf,h _ _ (I.tok _) ?_⟩;rw[l];exact(rel.val k).getD rd
 .subst ey;cases(show u=Xl b from ry);obtain⟨z,hd,xs,rel,dd⟩:=pI I.hok e;refine call_meetsIn PySem.F.slot_dict_get dd.typeIs PySem.F.entry_dict_get (PySem.F.args_dict_get_3 _ _ _) (meetsH_dict_get_default (tupleKind (av X.prog X.w)) a b hd r) ⟨tupleKind_room_in1 hu,k,xs,f9 I.hok eb,dd,h _ _ (I.tok _) ?_⟩;rw[l];exact(rel.val k).getD rd
end
def yA(td ty tx:TE):TE:=λZ H Q=>td Z H λx H1=>∃a,x=.ref a/\IsD H1 a/\ty Z H1 λy H2=>tx Z H2 λz H3=>∃o,DGet H3 a y o/\Q (o.getD z) H3
section
variable{o f:X8}{apos Aw:Z9}{td ty tx:TE}
theorem yX(hu:X.A.units+1<YM)(ho:PE X o td)(he:PE X e ty)(hf:PE X f tx)(m:M2 X o "get" apos e f Aw):PE X (.Call (.Attribute o "get" apos) [e,f] [] Aw) (yA td ty tx):=by
 intro U s Z H Q I h;refine wpAny_Call_method m.base m.few m.line PySem.F.plainAttrs_dict PySem.F.slot_dict_get PySem.F.type_dict_get (thn (ho U s Z H _ I h) λu s1⟨x,H1,I1,rx,a,ex,d,q1⟩=>?_);subst ex;obtain rfl:u=Xl a:=rx;obtain⟨t1,t2,_⟩:=abt I1 d;refine⟨t1,t2,?_⟩;rw[m.trees]
 refine Calls.callWith_builtin rfl (Calls.evalArgs_plain (YL (thn (he U s1 Z H1 _ I1 q1) λiv s2⟨y,H2,I2,ry,q2⟩ =>
  YL (thn (hf U s2 Z H2 _ I2 q2) λfv s3⟨z,H3,I3,rz,ov,g,q3⟩=>Zh ?_))))
 exact abz hu I3 g ry rz λw' s4 I4 CA=>⟨_,H3,I4,CA,q3⟩
end
section
variable{f':List (Key×V)}
end
inductive aaQ(K:WQ)(T:String)(xs:List V)(H:Hp)(Q:VK):Prop
 |mk (x:_) (b:_) (t:_) (An:xs=[x,.ty T]) (Ao:jF K H x t) (Au:PySem.W.kitOne K t (.type T)=some b) (AD:Q (.bl b) H):aaQ K T xs H Q
def add(K:WQ)(T:String):List V->Hp->VK->Prop:=aaQ K T
theorem px{T:String}:eQ X (.builtin "isinstance") (add X.K T):=by
 intro U s Z H xs us Q I r h;obtain⟨x,b,t,e,ty,k,q⟩:=h;exact xQ (T:=T) (b:=b) (t:=t) U s Z H xs us Q I r ⟨x,e,ty,k,q⟩
theorem zj{J:It}(zs:List α)(p:α->Bool)(f:α->V)(hz:zs.length=xs.length)(hn:xs.length<=1000000)
 (Fe:∀i H2,Same H H2->i<xs.length->J.go i H2) (Bf:∀H2,Same H H2->J.stop xs.length H2) (Cj:∀(i:Nat)H2 x H3,Same H H2->i<xs.length->J.yld i H2 x H3->H3=H2/\xs[i]?=some x)
 (hb:∀(i:Nat)x z H2(R:VK)(R0:Hp->Prop),xs[i]?=some x->zs[i]?=some z->Same H H2->(p z=true->R (f z) H2)->(p z=false->R0 H2)->g x (cσ js Z) H2 λAz H3=>tt Az H3 λb H4=>if b=true then te Az H4 R else R0 H4)
 (q:∀D,H D=none->fin D (upd H D (.lst ((zs.filter p).map f)))) :
 ∀D,H D=none->∃(n:Nat)(W:Nat->Hp->Prop),W 0 (upd H D (.lst []))/\gX js g tt te Z J D n W λH'=>fin D H':=by
 intro D hD;refine⟨xs.length,λi H2=>i<=xs.length/\H2=upd H D (.lst (((zs.take i).filter p).map f)),⟨Xi _,by simp⟩,?_⟩;rintro i H2 ⟨hi,rfl⟩;have sm:∀o,Same H (upd H D o):=λo=>ae hD o;by_cases h:i=xs.length
 .left;subst h;refine⟨Bf _ (sm _),?_⟩;rw[<-hz,YR];exact q D hD
 .right;have Be:i<xs.length:=by omega
  refine⟨Be,Fe i _ (sm _) Be,λx H1 hy=>?_⟩;obtain⟨rfl,hx⟩:=Cj i _ x H1 (sm _) Be hy;have Nm:i<zs.length:=by omega
  have e1:zs[i]?=some zs[i]:=WR Nm
  have e2:(zs.take (i+1)).filter p=(zs.take i).filter p++(if p zs[i]=true then[zs[i]]else[]):=by
   rw[Yi,e1,ZD];show _++List.filter p [zs[i]]=_;rw[XX,List.filter_nil]
  have hlen:(((zs.take i).filter p).map f).length<=1000000:=by
   rw[WO];have:=ZG p (zs.take i);rw[XO]at this;omega
  refine hb i x zs[i] _ _ _ hx e1 (sm _) (λhp=>⟨_,ac,Nat.lt_of_le_of_lt hlen (by decide),Be,?_⟩) (λhp=>⟨Be,?_⟩)
  .rw[l6,e2,b! hp,Xc];rfl
  .rw[e2,a! (by rw[hp];exact W8),XA]
theorem iA(zs:List α)(p:α->Bool)(f:α->V)(hS:SqL K H a xs)(hz:zs.length=xs.length)(hn:xs.length<=1000000)
 (hb:∀(i:Nat)x z H2(R:VK)(R0:Hp->Prop),xs[i]?=some x->zs[i]?=some z->Same H H2->(p z=true->R (f z) H2)->(p z=false->R0 H2)->g x (cσ js Z) H2 λAz H3=>tt Az H3 λb H4=>if b=true then te Az H4 R else R0 H4)
 (q:∀D,H D=none->fin D (upd H D (.lst ((zs.filter p).map f)))) :
 ∀D,H D=none->∃(n:Nat)(W:Nat->Hp->Prop),W 0 (upd H D (.lst []))/\gX js g tt te Z (Itl K a) D n W λH'=>fin D H' :=
 zj zs p f hz hn (λi H2 s hi=>⟨xs,xs[i],s.seq hS,WR hi⟩) (λH2 s=>⟨xs,s.seq hS,WY _⟩) (λi H2 x H3 s hi hy=>⟨hy.1,hy.2 xs (s.seq hS)⟩) hb q
theorem abk:PySem.W.kitOne K (.type "int") (.type "int")=some true:=rfl
theorem abl:PySem.W.kitOne K (.type "int") (.type "bool")=some false:=by with_unfolding_all rfl
end L2
namespace BB
open PySem L2
set_option genInjectivity true in
inductive Dv where
 |int (i:Int)
 |str (x:Xk)
 |tup (ds:List Dv)
mutual
def Dv.deep:Dv->Nat
 |.int _=>0
 |.str _=>0
 |.tup ds=>cN ds+1
def cN:List Dv->Nat
 | []=>0
 |d::ds=>max d.deep (cN ds)
end
mutual
def Dv.tot:Dv->Nat
 |.int _=>1
 |.str _=>1
 |.tup ds=>aaj ds+1
def aaj:List Dv->Nat
 | []=>0
 |d::ds=>d.tot+aaj ds
end
mutual
def DAt(H:Hp):Dv->V->Prop
 |.int i,v=>v=.int i
 |.str x,v=>v=.str x
 |.tup ds,v=>∃a vs,v=.ref a/\H a=some (.tup vs)/\DAts H ds vs
def DAts(H:Hp):List Dv->List V->Prop
 | [],vs=>vs=[]
 |d::ds,vs=>∃v r,vs=v::r/\DAt H d v/\DAts H ds r
end
theorem DAts.nil:DAts H [] []:=by rw[DAts]
theorem DAts.cons{d:Dv}{ds:List Dv}(h1:DAt H d v)(h2:DAts H ds vs):DAts H (d::ds) (v::vs):=by rw[DAts];exact⟨v,vs,rfl,h1,h2⟩
theorem DAts.length:∀{ds:List Dv}{vs:List V},DAts H ds vs->vs.length=ds.length
 | [],vs,h=>by rw[DAts]at h;subst h;rfl
 | d::ds,vs,h=>by
   rw[DAts]at h;obtain⟨v,r,rfl,h1,h2⟩:=h;rw[W3,W3,h2.length]
theorem DAts.at:∀{ds:List Dv}{vs:List V}{i:Nat}{d:Dv},DAts H ds vs->ds[i]?=some d->∃v,vs[i]?=some v/\DAt H d v
 | [],vs,i,d,h,e=>by simp at e
 | d0::ds,vs,i,d,h,e=>by
   rw[DAts]at h;obtain⟨v,r,rfl,h1,h2⟩:=h;cases i with
   |zero=>simp at e;subst e;exact⟨v,rfl,h1⟩
   | succ i =>
     obtain⟨u,g1,g2⟩:=h2.at (i:=i) (by simpa using e);exact⟨u,by simpa using g1,g2⟩
theorem gL:∀{ds:List Dv}{i:Nat}{d:Dv},ds[i]?=some d->d.deep<=cN ds
 | [],i,d,e=>by simp at e
 | d0::ds,i,d,e=>by
   rw[cN];cases i with
   |zero=>simp at e;subst e;omega
   | succ i =>
     have:=gL (ds:=ds) (i:=i) (by simpa using e);omega
theorem v8:∀{ds:List Dv}{i:Nat}{d:Dv},ds[i]?=some d->d.tot<=aaj ds
 | [],i,d,e=>by simp at e
 | d0::ds,i,d,e=>by
   rw[aaj];cases i with
   |zero=>simp at e;subst e;omega
   | succ i =>
     have:=v8 (ds:=ds) (i:=i) (by simpa using e);omega
theorem Dv.tot_pos(d:Dv):1<=d.tot:=by
 cases d with
 |int i=>rw[Dv.tot];omega
 |str x=>rw[Dv.tot];omega
 |tup ds=>rw[Dv.tot];omega
mutual
def Th.dv:Th->Dv
 |.knot n ks=>.tup (.str n::dvs ks)
 |.call s k=>.tup [.str q,.int s,.int k]
def dvs:List Th->List Dv
 | []=>[]
 |t::ts=>t.dv::dvs ts
end
mutual
theorem At.dv:∀{t:Th}{a:WS},At H t a->DAt H t.dv (.ref a)
 | .knot n ks,a,h=>by
   rw[At]at h;obtain⟨_,as,h1,h2⟩:=h;rw[Th.dv,DAt];exact⟨a,_,rfl,h1,.cons (by rw[DAt]) (Ats.dvs h2)⟩
 | .call s k,a,h=>by
   rw[At]at h;rw[Th.dv,DAt];exact⟨a,_,rfl,h,.cons (by rw[DAt]) (.cons (by rw[DAt]) (.cons (by rw[DAt]) .nil))⟩
theorem Ats.dvs:∀{ts:List Th}{as:List WS},Ats H ts as->DAts H (dvs ts) (as.map i!)
 | [],as,h=>by rw[Ats]at h;subst h;rw[BB.dvs];exact .nil
 | t::ts,as,h=>by
   rw[Ats]at h;obtain⟨a,r,rfl,h1,h2⟩:=h;rw[BB.dvs,XB];exact .cons (At.dv h1) (Ats.dvs h2)
end
mutual
theorem Th.dv_deep:∀t:Th,t.dv.deep<=t.tall
 | .knot n ks=>by
   have:=jr ks;rw[Th.dv,Dv.deep,cN,Dv.deep,r!];omega
 |.call s k=>by rw[Th.dv,r!];simp[Dv.deep,cN]
theorem jr:∀ts:List Th,cN (dvs ts)<=aC ts
 | []=>by rw[dvs,cN];exact Xi _
 | t::ts=>by
   have:=t.dv_deep;have:=jr ts;rw[dvs,cN,aC];omega
end
theorem pX{ys:List V}{Q:VK}(ha:H a=some (.tup xs))(hb:H b=some (.tup ys))(hz:xs.length+ys.length<=1000000)(q:∀p H',k! H H'->H' p=some (.tup (xs++ys))->Q (.ref p) H'):rG K (.ref a) (.ref b) H Q:=by
 refine⟨a,b,xs,ys,rfl,rfl,n! ha,n! hb,di hz,λe=>?_,λ_ e=>?_,λ_ _ p hp=>?_⟩
 .exact q b H (.refl _) (by rw[e];exact hb)
 .exact q a H (.refl _) (by rw[e,XA];exact ha)
 .exact q p _ (ae hp _) ac
mutual
def Th.pl(pre:List Int):Th->List (List Int×Th)
 |.knot n ks=>(pre,.knot n ks)::pls pre 0 ks
 |.call s k=>[(pre,.call s k)]
def pls(pre:List Int)(i:Int):List Th->List (List Int×Th)
 | []=>[]
 |t::ts=>t.pl (pre++[i])++pls pre (i+1) ts
end
theorem Th.pl_eq(pre:List Int)(t:Th):t.pl pre=(pre,t)::pls pre 0 t.kids:=by
 cases t with
 |knot n ks=>rw[Th.pl];rfl
 |call s k=>rw[Th.pl];simp[M!,pls]
mutual
theorem Th.pl_len(pre:List Int):∀t:Th,(t.pl pre).length=t.size
 |.knot n ks=>by rw[Th.pl,p!,W3,vS pre 0 ks]
 |.call s k=>by rw[Th.pl,p!];rfl
theorem vS(pre:List Int)(i:Int):∀ts:List Th,(pls pre i ts).length=aw ts
 | []=>by rw[pls,aw];rfl
 |t::ts=>by rw[pls,aw,Xg,Th.pl_len _ t,vS pre (i+1) ts]
end
def szP:List (List Int×Th)->Nat
 | []=>0
 |p::ps=>p.2.size+szP ps
def plP:List (List Int×Th)->List (List Int×Th)
 | []=>[]
 |p::ps=>p.2.pl p.1++plP ps
theorem cK:∀a b,szP (a++b)=szP a+szP b
 | [],b=>by simp[szP]
 |p::a,b=>by rw[Yn,szP,szP,cK a b,Z3]
theorem lZ(a:List (List Int×Th)):szP a.reverse=szP a:=by
 induction a with
 |nil=>rfl
 |cons x xs ih=>rw[X9,cK,ih,szP,szP,szP];omega
theorem mZ:∀a b,plP (a++b)=plP a++plP b
 | [],b=>by simp[plP]
 |p::a,b=>by rw[Yn,plP,plP,mZ a b,XS]
theorem wg:∀a,(plP a).length=szP a
 | []=>rfl
 |p::a=>by rw[plP,szP,Xg,Th.pl_len,wg a]
theorem qu:∀a,a.length<=szP a
 | []=>Xi _
 | p::a=>by
   have:=p.2.size_pos;have:=qu a;rw[W3,szP];omega
def cV(pre:List Int)(i:Int):List Th->List (List Int×Th)
 | []=>[]
 |t::ts=>(pre++[i],t)::cV pre (i+1) ts
theorem gA(pre:List Int)(i:Int):∀ts,(cV pre i ts).length=ts.length
 | []=>rfl
 |t::ts=>by rw[cV,W3,W3,gA pre (i+1) ts]
theorem rR(pre:List Int)(i:Int):∀ts,plP (cV pre i ts)=pls pre i ts
 | []=>by rw[cV,plP,pls]
 |t::ts=>by rw[cV,plP,pls,rR pre (i+1) ts]
theorem jg(pre:List Int)(i:Int):∀ts,szP (cV pre i ts)=aw ts
 | []=>by rw[cV,szP,aw]
 |t::ts=>by rw[cV,szP,aw,jg pre (i+1) ts]
theorem nC(pre:List Int):∀(i:Int)(ts:List Th)(j:Nat)(t:Th),ts[j]?=some t->(cV pre i ts)[j]?=some (pre++[i+j],t)
 |i,[],j,t,e=>by simp at e
 |i,u::ts,0,t,e=>by simp at e;subst e;rw[cV];simp
 | i,u::ts,j+1,t,e=>by
   rw[cV,List.getElem?_cons_succ,nC pre (i+1) ts j t (by simpa using e)];have:i+1+(j:Int)=i+((j+1:Nat):Int):=by omega
   rw[this]
theorem ni(pre:List Int):∀(i:Int)(ts:List Th)(p:List Int×Th),p∈cV pre i ts->p.1.length=pre.length+1/\p.2∈ts
 |i,[],p,h=>by rw[cV]at h;cases h
 | i,u::ts,p,h=>by
   rw[cV]at h;rcases W9.mp h with rfl|h
   .exact⟨by simp,Xh ..⟩
   .have:=ni pre (i+1) ts p h;exact⟨this.1,Xf _ this.2⟩
theorem P2.reverse:∀{a:List α}{b:List β},Xs F a b->Xs F a.reverse b.reverse
 |_,_,.nil=>.nil
 | _,_,.cons r t=>by
   rw[X9,X9];exact t! (P2.reverse t) (.cons r .nil)
theorem P2.snoc_inv{a:List α}{b:List β}{y:β}(h:Xs F a (b++[y])):∃us x,a=us++[x]/\Xs F us b/\F x y:=by
 have r:=P2.reverse h;rw[YC,List.reverse_singleton,List.singleton_append]at r;cases e:a.reverse with
 |nil=>rw[e]at r;cases r
 | cons x us =>
   rw[e]at r;cases r with
   | cons h1 h2 =>
     refine⟨us.reverse,x,?_,?_,h1⟩
     .rw[<-X9,<-e,Y5]
     .have:=P2.reverse h2;rw[Y5]at this;exact this
theorem qO{t u:Th}(h:u∈t.kids):u.tall+1<=t.tall:=by
 have:=bX h;rw[t.tall_eq];omega
def Th.sub:Th->List Int->Option Th
 |t,[]=>some t
 |t,i::r=>if 0<=i then(match t.kids[i.toNat]? with|some u=>u.sub r|none=>none)else none
termination_by _ p=>p.length
theorem fW(t:Th):t.sub []=some t:=by rw[Th.sub]
theorem rZ{t u:Th}{i:Int}{r:List Int}(h0:0<=i)(h:t.kids[i.toNat]?=some u):t.sub (i::r)=u.sub r:=by rw[Th.sub,b! h0,h]
mutual
theorem xh:∀(t:Th)(pre p:List Int)(u:Th),(p,u)∈t.pl pre->∃r,p=pre++r/\t.sub r=some u/\r.length+u.tall<=t.tall/\u.size<=t.size
 | .knot n ks,pre,p,u,h=>by
   rw[Th.pl]at h;rcases W9.mp h with e|h
   .cases e;exact⟨[],by simp,fW _,by simp,WY _⟩
   .obtain⟨j,v,r,h1,rfl,h3,h4,h5,h6,h7⟩:=vU ks pre 0 p u h;refine⟨(0+(j:Int))::r,by simp,?_,?_,?_⟩
    .rw[rZ (u:=v) (by omega) (by rw[show(0+(j:Int)).toNat=j by omega];exact h1)];exact h3
    .rw[r!,W3];omega
    .rw[p!];omega
 | .call s k,pre,p,u,h=>by
   rw[Th.pl]at h;have e:(p,u)=(pre,B! s k):=by simpa using h
   cases e;exact⟨[],by simp,fW _,by simp,WY _⟩
theorem vU:∀(ts:List Th)(pre:List Int)(i:Int)(p:List Int)(u:Th),(p,u)∈pls pre i ts->∃(j:Nat)(v:Th)(r:List Int),ts[j]?=some v/\p=pre++(i+(j:Int))::r/\v.sub r=some u/\r.length+u.tall<=v.tall/\v.tall<=aC ts/\u.size<=v.size/\v.size<=aw ts
 | [],pre,i,p,u,h=>by rw[pls]at h;cases h
 | t::ts,pre,i,p,u,h=>by
   rw[pls]at h;rcases Xq.mp h with h|h
   .obtain⟨r,rfl,h1,h2,h3⟩:=xh t (pre++[i]) p u h;exact⟨0,t,r,rfl,by simp,h1,h2,by rw[aC];omega,h3,by rw[aw];omega⟩
   .obtain⟨j,v,r,h1,rfl,h3,h4,h5,h6,h7⟩:=vU ts pre (i+1) p u h;refine⟨j+1,v,r,by simpa using h1,?_,h3,h4,by rw[aC];omega,h6,by rw[aw];omega⟩;have:i+1+(j:Int)=i+((j+1:Nat):Int):=by omega
    rw[this]
end
theorem bg:∀{ts:List Th}{t:Th},t∈ts->t.size<=aw ts
 | u::ts,t,h=>by
   rw[aw];rcases W9.mp h with rfl|h
   .omega
   .have:=bg h;omega
end BB
open BB.Th renaming pl_len->D!,pl->E!
variable{ds:List BB.Dv}
namespace BB
open PySem L2
mutual
def Th.kn:Th->Nat
 |.knot _ ks=>kns ks+1
 |.call _ _=>0
def kns:List Th->Nat
 | []=>0
 |t::ts=>t.kn+kns ts
end
section
variable{ext:Th->List V}{t:Th}{es:List WS}
end
def Th.isCall:Th->Bool
 |.knot _ _=>false
 |.call _ _=>true
def qB:List Int×Th->Option (List Int×Int×Int)
 |(_,.knot _ _)=>none
 |(p,.call s k)=>some (p,s,k)
def callsOf(ps:List (List Int×Th)):List (List Int×Int×Int):=ps.filterMap qB
theorem dU(a b:List (List Int×Th)):callsOf (a++b)=callsOf a++callsOf b:=List.filterMap_append
theorem lp(a:List (List Int×Th)):(callsOf a).length<=a.length:=List.length_filterMap_le _ _
def CAt(H:Hp)(c:List Int×Int×Int)(a:WS):Prop:=∃pa ca,H a=some (.tup [.ref pa,.ref ca])/\H pa=some (.tup (c.1.map q!))/\H ca=some (.tup [.int c.2.1,.int c.2.2])
def CsAt(H:Hp)(cs:List (List Int×Int×Int))(as:List WS):Prop:=Xs (CAt H) cs as
theorem CAt.mono(k:KT H H'){c:List Int×Int×Int}(h:CAt H c a):CAt H' c a:=by
 obtain⟨pa,ca,h1,h2,h3⟩:=h;exact⟨pa,ca,k _ _ h1,k _ _ h2,k _ _ h3⟩
theorem CsAt.mono(k:KT H H'){cs:List (List Int×Int×Int)}(h:CsAt H cs as):CsAt H' cs as:=y! (λ_ _ e=>CAt.mono k e) h
def TK(K:WQ)(H:Hp)(a:WS)(xs:List V):Prop:=H a=some (.tup xs)\/∃(o:Ze)(its:Array WV)(n:Nat),K.lookup a=some o/\o.cls=.type "tuple"/\o.data=.seq its n/\its.size<=Xe/\Vals xs its.toList
theorem TK.of(h:H a=some (.tup xs)):TK K H a xs:=.inl h
theorem TK.sq(h:TK K H a xs):SqT K H a xs:=by
 rcases h with h|h
 .exact n! h
 .exact .inr h
theorem TK.mono(h:TK K H a xs)(k:KT H H'):TK K H' a xs:=by
 rcases h with h|h
 .exact .inl (k _ _ h)
 .exact .inr h
mutual
def DAtK(K:WQ)(H:Hp):Dv->V->Prop
 |.int i,v=>v=.int i
 |.str x,v=>v=.str x
 |.tup ds,v=>∃a vs,v=.ref a/\TK K H a vs/\DAtsK K H ds vs
def DAtsK(K:WQ)(H:Hp):List Dv->List V->Prop
 | [],vs=>vs=[]
 |d::ds,vs=>∃v r,vs=v::r/\DAtK K H d v/\DAtsK K H ds r
end
theorem DAtsK.nil:DAtsK K H [] []:=by rw[DAtsK]
theorem DAtsK.cons{d:Dv}(h1:DAtK K H d v)(h2:DAtsK K H ds vs):DAtsK K H (d::ds) (v::vs):=by rw[DAtsK];exact⟨v,vs,rfl,h1,h2⟩
theorem DAtsK.length:∀{ds:List Dv}{vs:List V},DAtsK K H ds vs->vs.length=ds.length
 | [],vs,h=>by rw[DAtsK]at h;subst h;rfl
 | d::ds,vs,h=>by
   rw[DAtsK]at h;obtain⟨v,r,rfl,h1,h2⟩:=h;rw[W3,W3,h2.length]
theorem DAtsK.at:∀{ds:List Dv}{vs:List V}{i:Nat}{d:Dv},DAtsK K H ds vs->ds[i]?=some d->∃v,vs[i]?=some v/\DAtK K H d v
 | [],vs,i,d,h,e=>by simp at e
 | d0::ds,vs,i,d,h,e=>by
   rw[DAtsK]at h;obtain⟨v,r,rfl,h1,h2⟩:=h;cases i with
   |zero=>simp at e;subst e;exact⟨v,rfl,h1⟩
   | succ i =>
     obtain⟨u,g1,g2⟩:=h2.at (i:=i) (by simpa using e);exact⟨u,by simpa using g1,g2⟩
mutual
theorem DAt.k:∀{d:Dv}{v:V},DAt H d v->DAtK K H d v
 |.int i,v,h=>by rw[DAt]at h;rw[DAtK];exact h
 |.str x,v,h=>by rw[DAt]at h;rw[DAtK];exact h
 | .tup ds,v,h=>by
   rw[DAt]at h;rw[DAtK];obtain⟨a,vs,e,h1,h2⟩:=h;exact⟨a,vs,e,.of h1,DAts.k h2⟩
theorem DAts.k:∀{ds:List Dv}{vs:List V},DAts H ds vs->DAtsK K H ds vs
 | [],vs,h=>by rw[DAts]at h;rw[DAtsK];exact h
 | d::ds,vs,h=>by
   rw[DAts]at h;rw[DAtsK];obtain⟨v,r,e,h1,h2⟩:=h;exact⟨v,r,e,DAt.k h1,DAts.k h2⟩
end
mutual
theorem DAtK.inj(I:Inv X U Z H s):∀{d e:Dv}{v:V},DAtK X.K H d v->DAtK X.K H e v->d=e
 |.int i,.int j,v,h,g=>by rw[DAtK]at h;rw[DAtK]at g;rw[h]at g;cases g;rfl
 |.int i,.str y,v,h,g=>by rw[DAtK]at h;rw[DAtK]at g;rw[h]at g;cases g
 |.int i,.tup es,v,h,g=>by rw[DAtK]at h;rw[DAtK]at g;obtain⟨a,vs,e,_⟩:=g;rw[h]at e;cases e
 |.str x,.int j,v,h,g=>by rw[DAtK]at h;rw[DAtK]at g;rw[h]at g;cases g
 |.str x,.str y,v,h,g=>by rw[DAtK]at h;rw[DAtK]at g;rw[h]at g;cases g;rfl
 |.str x,.tup es,v,h,g=>by rw[DAtK]at h;rw[DAtK]at g;obtain⟨a,vs,e,_⟩:=g;rw[h]at e;cases e
 |.tup ds,.int j,v,h,g=>by rw[DAtK]at h;rw[DAtK]at g;obtain⟨a,vs,e,_⟩:=h;rw[e]at g;cases g
 |.tup ds,.str y,v,h,g=>by rw[DAtK]at h;rw[DAtK]at g;obtain⟨a,vs,e,_⟩:=h;rw[e]at g;cases g
 | .tup ds,.tup es,v,h,g=>by
   rw[DAtK]at h;rw[DAtK]at g;obtain⟨a,vs,e1,h1,h2⟩:=h;obtain⟨b,ws,e2,g1,g2⟩:=g;rw[e1]at e2;cases e2;have e3:=I.tuple_inj h1.sq g1.sq;subst e3;rw[DAtsK.inj I h2 g2]
theorem DAtsK.inj(I:Inv X U Z H s):∀{ds es:List Dv}{vs:List V},DAtsK X.K H ds vs->DAtsK X.K H es vs->ds=es
 | [],[],vs,h,g=>rfl
 | [],e::es,vs,h,g=>by rw[DAtsK]at h;rw[DAtsK]at g;obtain⟨v,r,z,_⟩:=g;rw[h]at z;cases z
 |d::ds,[],vs,h,g=>by rw[DAtsK]at h;rw[DAtsK]at g;obtain⟨v,r,z,_⟩:=h;rw[g]at z;cases z
 | d::ds,e::es,vs,h,g=>by
   rw[DAtsK]at h;rw[DAtsK]at g;obtain⟨v,r,z,h1,h2⟩:=h;obtain⟨v',r',z',g1,g2⟩:=g;rw[z]at z';cases z';rw[DAtK.inj I h1 g1,DAtsK.inj I h2 g2]
end
end BB
namespace L2
open PySem PySem.Spec PySem.SeqAt PyProof.Rows BB
open Classical in
theorem iX[DecidableEq α]{Ah:List WV}{ds es:List α}(p1:s.heap.IsTuple a its.toArray)(p2:s.heap.IsTuple b Ah.toArray)(l1:its.length=ds.length)(l2:Ah.length=es.length)(hu:A.units<YM)
 (ih:∀(j:Nat)(d e:α)(u v:WV),ds[j]?=some d->es[j]?=some e->its[j]?=some u->Ah[j]?=some v->EqAt A.in1 s u v (decide (d=e))):RcAt A s (.ref a) (.ref b) (decide (ds=es)):=by
 have NF:RcAt A s (.ref a) (.ref b) ((XG (min its.toArray.size Ah.toArray.size)).all (λj=>decide (ds[j]?=es[j]?)) && its.toArray.size == Ah.toArray.size):=by
  refine RcAt.tuples p1 p2 hu λj h1 h2=>?_;have EW:j<ds.length:=by rw[<-l1];simpa using h1
  have D6:j<es.length:=by rw[<-l2];simpa using h2
  have e1:ds[j]?=some ds[j]:=WR EW;have e2:es[j]?=some es[j]:=WR D6;have e3:decide (ds[j]?=es[j]?)=decide (ds[j]=es[j]):=by rw[e1,e2];simp
  have g1:its[j]?=some its[j]:=WR (by rw[l1];exact EW);have g2:Ah[j]?=some Ah[j]:=WR (by rw[l2];exact D6);rw[e3];exact ih j ds[j] es[j] its[j] Ah[j] e1 e2 g1 g2
 have e:decide (ds=es)=((XG (min its.toArray.size Ah.toArray.size)).all (λj=>decide (ds[j]?=es[j]?)) && its.toArray.size == Ah.toArray.size):=by
  rw[W2,W2,l1,l2];by_cases h:ds=es
  .subst h;rw[d! rfl];symm;simp
  .rw[c! h];symm;by_cases hl:ds.length=es.length
   .rw[hl,Nat.min_self]
    have:¬((XG es.length).all (λj=>decide (ds[j]?=es[j]?)))=true:=by
     intro z;apply h;apply List.ext_getElem?;intro j;by_cases hj:j<es.length
     .exact e! (List.all_eq_true.mp z j (YY.mpr hj))
     .rw[ZH (by omega),ZH (by omega)]
    rw[Yj.mpr this];rfl
   .have:(ds.length == es.length)=false:=by simpa using hl
    rw[this,Bool.and_false]
 rw[e];exact NF
open Classical in
theorem ph(I:Inv X U Z H s){es:List Dv}(ha:SqT X.K H a vs)(hb:SqT X.K H b ws)(Dj:DAtsK X.K H ds vs)(hws:DAtsK X.K H es ws)(hu:A.units<YM)
 (ih:∀(j:Nat)(d e:Dv)(x y:V)(u v:WV),ds[j]?=some d->DAtK X.K H d x->DAtK X.K H e y->RelV x u->RelV y v->EqAt A.in1 s u v (decide (d=e))):RcAt A s (.ref a) (.ref b) (decide (Dv.tup ds=Dv.tup es)):=by
 obtain⟨its,r1,p1,_⟩:=I.tuple ha;obtain⟨Ah,r2,p2,_⟩:=I.tuple hb;rw[show decide (Dv.tup ds=Dv.tup es)=decide (ds=es)from decide_eq_decide.mpr ⟨λz=>Dv.tup.inj z,λz=>h! _ z⟩];refine iX (show s.heap.IsTuple a its.toArray from p1) (show s.heap.IsTuple b Ah.toArray from p2) (by rw[<-r1.length,Dj.length]) (by rw[<-r2.length,hws.length]) hu λj d e u v e1 e2 e3 e4=>?_;obtain⟨x',Ba,dx⟩:=Dj.at e1;obtain⟨y',Ee,dy⟩:=hws.at e2;obtain⟨u',Ca,GY⟩:=r1.get Ba;obtain⟨v',BE,Fi⟩:=r2.get Ee;rw[Ca]at e3;rw[BE]at e4;cases e3;cases e4;exact ih j d e x' y' _ _ e1 dx dy GY Fi
open Classical in
theorem nj(I:Inv X U Z H s):∀(n:Nat)(d e:Dv),d.tot<=n->∀(x y:V)(u v:WV)(A:XF),DAtK X.K H d x->DAtK X.K H e y->RelV x u->RelV y v->A.units+d.deep<YM->EqAt A s u v (decide (d=e))
 |0,d,e,hn,x,y,u,v,A,hd,he,ru,rv,hu=>by have:=d.tot_pos;omega
 | n+1,.int i,.int j,hn,x,y,u,v,A,hd,he,ru,rv,hu=>by
   rw[DAtK]at hd;rw[DAtK]at he;subst hd he;obtain⟨t,rfl⟩:=ru;obtain⟨t',rfl⟩:=rv
   have e:decide (Dv.int i=Dv.int j)=(i == j):=by
    by_cases h:i=j
    .subst h;simp
    .rw[c! (λz=>h (Dv.int.inj z))];simp[h]
   rw[e];exact EqAt.int_int i t j t'
 | n+1,.int i,.str b,hn,x,y,u,v,A,hd,he,ru,rv,hu=>by
   rw[DAtK]at hd;rw[DAtK]at he;subst hd he;obtain⟨t,rfl⟩:=ru;obtain⟨t',rfl⟩:=rv;rw[c! (λz=>by cases z)];exact EqAt.int_str i t b t'
 | n+1,.int i,.tup es,hn,x,y,u,v,A,hd,he,ru,rv,hu=>by
   rw[DAtK]at hd;rw[DAtK]at he;obtain⟨a,vs,rfl,ha,_⟩:=he;subst hd;obtain⟨t,rfl⟩:=ru;cases rv;obtain⟨its,_,p,_⟩:=I.tuple (ha.sq);rw[c! (λz=>by cases z)];exact EqAt.int_tuple i t (show s.heap.IsTuple a its.toArray from p) (by omega)
 | n+1,.str b,.int j,hn,x,y,u,v,A,hd,he,ru,rv,hu=>by
   rw[DAtK]at hd;rw[DAtK]at he;subst hd he;obtain⟨t,rfl⟩:=ru;obtain⟨t',rfl⟩:=rv;rw[c! (λz=>by cases z)];exact EqAt.str_int b t j t'
 | n+1,.str b,.str c,hn,x,y,u,v,A,hd,he,ru,rv,hu=>by
   rw[DAtK]at hd;rw[DAtK]at he;subst hd he;obtain⟨t,rfl⟩:=ru;obtain⟨t',rfl⟩:=rv
   have e:decide (Dv.str b=Dv.str c)=(b == c):=by
    by_cases h:b=c
    .subst h;simp
    .rw[c! (λz=>h (Dv.str.inj z))];simp[h]
   rw[e];exact EqAt.str_str b t c t'
 | n+1,.str b,.tup es,hn,x,y,u,v,A,hd,he,ru,rv,hu=>by
   rw[DAtK]at hd;rw[DAtK]at he;obtain⟨a,vs,rfl,ha,_⟩:=he;subst hd;obtain⟨t,rfl⟩:=ru;cases rv;obtain⟨its,_,p,_⟩:=I.tuple (ha.sq);rw[c! (λz=>by cases z)];exact EqAt.str_tuple b t (show s.heap.IsTuple a its.toArray from p) (by omega)
 | n+1,.tup ds,.int j,hn,x,y,u,v,A,hd,he,ru,rv,hu=>by
   rw[DAtK]at hd;rw[DAtK]at he;obtain⟨a,vs,rfl,ha,_⟩:=hd;subst he;cases ru;obtain⟨t,rfl⟩:=rv;obtain⟨its,_,p,_⟩:=I.tuple (ha.sq);rw[c! (λz=>by cases z)];exact EqAt.tuple_int j t (show s.heap.IsTuple a its.toArray from p) (by omega)
 | n+1,.tup ds,.str b,hn,x,y,u,v,A,hd,he,ru,rv,hu=>by
   rw[DAtK]at hd;rw[DAtK]at he;obtain⟨a,vs,rfl,ha,_⟩:=hd;subst he;cases ru;obtain⟨t,rfl⟩:=rv;obtain⟨its,_,p,_⟩:=I.tuple (ha.sq);rw[c! (λz=>by cases z)];exact EqAt.tuple_str b t (show s.heap.IsTuple a its.toArray from p) (by omega)
 | n+1,.tup ds,.tup es,hn,x,y,u,v,A,hd,he,ru,rv,hu=>by
   have F':=hd;have Uw:=he;rw[DAtK]at hd;rw[DAtK]at he;obtain⟨a,vs,rfl,ha,Dj⟩:=hd;obtain⟨b,ws,rfl,hb,hws⟩:=he;cases ru;cases rv;by_cases Cs:a=b
   .subst Cs;rw[d! (DAtK.inj I F' Uw)];exact EqAt.same _
   rw[Dv.tot]at hn;rw[Dv.deep]at hu;refine EqAt.of_refs Cs (ph I ha.sq hb.sq Dj hws (by omega) λj d e x' y' u' v' e1 dx dy GY Fi=>?_);have q1:=v8 e1;have q2:=gL e1;refine nj I n d e (by omega) x' y' u' v' A.in1 dx dy GY Fi ?_;show A.units+1+_<YM;omega
end L2
namespace BB
open PySem PySem.Spec PyProof.Rows L2
mutual
theorem DAt.inj:∀{d e:Dv}{v:V},DAt H d v->DAt H e v->d=e
 |.int i,.int j,v,h,g=>by rw[DAt]at h;rw[DAt]at g;rw[h]at g;cases g;rfl
 |.int i,.str y,v,h,g=>by rw[DAt]at h;rw[DAt]at g;rw[h]at g;cases g
 |.int i,.tup es,v,h,g=>by rw[DAt]at h;rw[DAt]at g;obtain⟨a,vs,e,_⟩:=g;rw[h]at e;cases e
 |.str x,.int j,v,h,g=>by rw[DAt]at h;rw[DAt]at g;rw[h]at g;cases g
 |.str x,.str y,v,h,g=>by rw[DAt]at h;rw[DAt]at g;rw[h]at g;cases g;rfl
 |.str x,.tup es,v,h,g=>by rw[DAt]at h;rw[DAt]at g;obtain⟨a,vs,e,_⟩:=g;rw[h]at e;cases e
 |.tup ds,.int j,v,h,g=>by rw[DAt]at h;rw[DAt]at g;obtain⟨a,vs,e,_⟩:=h;rw[e]at g;cases g
 |.tup ds,.str y,v,h,g=>by rw[DAt]at h;rw[DAt]at g;obtain⟨a,vs,e,_⟩:=h;rw[e]at g;cases g
 | .tup ds,.tup es,v,h,g=>by
   rw[DAt]at h;rw[DAt]at g;obtain⟨a,vs,e1,h1,h2⟩:=h;obtain⟨b,ws,e2,g1,g2⟩:=g;rw[e1]at e2;cases e2;rw[h1]at g1;cases g1;rw[DAts.inj h2 g2]
theorem DAts.inj:∀{ds es:List Dv}{vs:List V},DAts H ds vs->DAts H es vs->ds=es
 | [],[],vs,h,g=>rfl
 | [],e::es,vs,h,g=>by rw[DAts]at h;rw[DAts]at g;obtain⟨v,r,z,_⟩:=g;rw[h]at z;cases z
 |d::ds,[],vs,h,g=>by rw[DAts]at h;rw[DAts]at g;obtain⟨v,r,z,_⟩:=h;rw[g]at z;cases z
 | d::ds,e::es,vs,h,g=>by
   rw[DAts]at h;rw[DAts]at g;obtain⟨v,r,z,h1,h2⟩:=h;obtain⟨v',r',z',g1,g2⟩:=g;rw[z]at z';cases z';rw[DAt.inj h1 g1,DAts.inj h2 g2]
end
end BB
namespace L2
open PySem PySem.Spec PySem.SeqAt PyProof.Rows BB
open Classical in
theorem v5(I:Inv X U Z H s):∀(n:Nat)(d e:Dv),d.tot<=n->∀(x y:V)(u v:WV)(A:XF),DAt H d x->DAt H e y->RelV x u->RelV y v->A.units+d.deep<YM->EqAt A s u v (decide (d=e)):=λn d e hn x y u v A hd he=>nj I n d e hn x y u v A hd.k he.k
end L2
namespace BB
open PySem L2
theorem qm{t u:Th}{i:Int}{r:List Int}(h:t.sub (i::r)=some u):0<=i/\∃w,t.kids[i.toNat]?=some w/\w.sub r=some u:=by
 rw[Th.sub]at h;split at h
 .rename_i h0
  split at h
  .rename_i w hw
   exact⟨h0,w,hw,h⟩
  .cases h
 .cases h
theorem Ats.set:∀{ts:List Th}{as:List WS}(i:Nat){x:Th}{a:WS},Ats H ts as->At H x a->Ats H (ts.set i x) (as.set i a)
 | [],as,i,x,a,h,g=>by rw[Ats]at h;subst h;exact .nil
 | t::ts,as,i,x,a,h,g=>by
   rw[Ats]at h;obtain⟨b,r,rfl,h1,h2⟩:=h;cases i with
   |zero=>exact .cons g h2
   |succ i=>exact .cons h1 (Ats.set i h2 g)
end BB
namespace PySem
theorem bb_extendT(l:WS)(items:Array WV)(n:Nat)(b:WS)(BM:Array WV)(n2:Nat)(dd:Option WS)(sl:Array (Option WV))(g0:¬(!items.isEmpty && Zr (items.size+BM.size))=true)(g1:items.size<=Xe)(g2:items.size+BM.size<=Xe+1) :
 Meets (Zt.«list.extend» ⟨[.ref l,.ref b],[]⟩) (λ_ R s=>s.heap.get? l=some {cls:=.type "list",dict:=none,data:=.seq items n,slots:=#[]}/\s.heap.get? b=some {cls:=.type "tuple",dict:=dd,data:=.seq BM n2,slots:=sl}/\R (.ok (.ret Yp)) {s with heap:=s.heap.update l (Yh λx=>x++BM),toks:=s.toks}) :=
 .of_wp λprog w A R s h=>by
  obtain⟨hp,g,d,tk,os⟩:=s;obtain⟨hl,hb,h⟩:=h;have f1:=AutoSeq1.idx_int;have f2:=AutoSeq1.sub_tuple_tuple;have f3:=AutoSeq1.sub_list_list;have f4:=AutoSeq1.sub_tuple_list;have f5:=AutoSeq1.sub_list_tuple;have z2:(items++BM).size<=Xe+1:=by rw[Array.size_append];exact g2
  wp_walk using(YT hl rfl (hz:=g1) (_hz':=z2)),Zu hl,Zu hb
  exact⟨_,rfl,h⟩
end PySem
namespace L2
open PySem PySem.Spec PyProof.Rows
def yV(K:WQ):V->List V->Hp->VK->Prop:=λx vs H Q=>∃l b xs zs,x=.ref l/\vs=[.ref b]/\H l=some (.lst xs)/\SqT K H b zs/\xs.length+zs.length<=Xe/\Q .non (upd H l (.lst (xs++zs)))
theorem uB:MtM X "list.extend" (yV X.K):=by
 intro U s Z H x vs v us Q I rx rv h;obtain⟨l,b,xs,zs,rfl,rfl,hH,hB,hz,q⟩:=h;cases rx;obtain⟨u,rfl,ru⟩:=rv.one;cases ru;obtain⟨z,its,n,r,hl,e⟩:=I.lstM hH;obtain⟨Ah,r2,p2,_⟩:=I.tuple hB;have Bl:=r2.length;obtain⟨⟨Jb,Ik,data2,Il⟩,e2,B8,n2,hd2⟩:=p2;simp only at B8 hd2;subst B8 hd2;have hsz:its.toArray.size+Ah.toArray.size<=Xe:=by rw[W2,W2];omega
 have Ed:¬(!its.toArray.isEmpty && Zr (its.toArray.size+Ah.toArray.size))=true:=by
  rw[m4 hsz,Bool.and_false];exact W8
 refine call_meets F.slot_list_extend ⟨_,e,rfl⟩ F.entry_list_extend (F.args_list_extend_2 _ _)
  (bb_extendT l its.toArray n b Ah.toArray n2 Ik Il Ed (by rw[W2];omega) (by omega)) ⟨e,e2,?_⟩
 refine⟨.non,_,I.lset (its':=its++Ah) hH e (by simp) (r.append r2) ?_,rfl,q⟩;rw[Xg];omega
end L2
namespace BB
open PySem L2
def kDv(k:Xk×Int):Dv:=.tup [.str k.1,.int k.2]
theorem aaE:∀{ks:List (Xk×Int)}{as:List WS},Xs (KAt H) ks as->DAts H (ks.map kDv) (as.map i!)
 |_,_,.nil=>.nil
 | _,_,.cons r h=>by
   rw[XB,XB];refine .cons ?_ (aaE h);rw[kDv,DAt];exact⟨_,_,rfl,r,.cons (by rw[DAt]) (.cons (by rw[DAt]) .nil)⟩
theorem sF:∀ks:List (Xk×Int),cN (ks.map kDv)<=1
 | []=>by rw[Zb,cN];exact Xi _
 | k::ks=>by
   have:=sF ks;rw[XB,cN,kDv];simp only[Dv.deep,cN];omega
def star:Xk:=WT "*"
open Classical in
def Th.isHole:Th->Bool
 |.knot n ks=>decide (n=star/\ks=[])
 |.call _ _=>false
def Th.isKnot(t:Th):Bool:=!t.isCall && !t.isHole
theorem iZ:∀(n:Nat)(ts:List Th),aw ts<=n->∀x∈walks ts,x.tall<=aC ts
 |_,[],_,x,h=>by simp[walks]at h
 | 0,t::ts,hn,x,h=>by
   have:=t.size_pos;rw[aw]at hn;omega
 | n+1,t::ts,hn,x,h=>by
   have hs:=t.size_eq;have ht:=t.tall_eq;rw[aw]at hn;rw[aC];rw[walks,t.walk_eq,Yn,W9,Xq]at h;rcases h with rfl|h|h
   .omega
   .have:=iZ n t.kids (by omega) x h;omega
   .have:=iZ n ts (by omega) x h;omega
theorem wA(t x:Th)(h:x∈t.walk):x.tall<=t.tall:=by
 have:=iZ _ [t] (WY _) x (by simpa[walks]using h);simpa[aC]using this
end BB
open BB.Th renaming isHole->N!
namespace PySem
open Sem (wp)
namespace F
theorem bb_entry_upd:entryFor table "dict.update.loop"=some Zt.«dict.update.loop»:=entryFor_of_tree (by kernel_rfl)
theorem bb_plain_upd:plainId "dict.update.loop"=true:=by decide +kernel
end F
section
variable{xs:Array WV}{k:Nat}
end
end PySem
open PySem.F renaming bb_plain_upd->G!
namespace L2
open PySem PySem.Spec PyProof.Rows BB
end L2
namespace BB
open PySem L2
end BB
namespace HT
open PySem PySem.Spec PyProof.Rows
theorem getItem_tuple_whole{t:WS}(ht:IsTup s.heap t items)(hs:s.heap.IsSliceOf sl vl vu .none)(pl:IsPart vl lo)(pu:IsPart vu hi)
 (hw:sIx items.size 0 lo=0/\sIx items.size items.size hi=items.size) (h:Q (.ref t) s):Xa (Xu prog w) A (getItem (.ref t) (.ref sl)) Q E s:=by
 obtain⟨os,DL,Cz,Bq⟩:=id hs;have Jc:s.TypeIs (.ref sl) "slice":=⟨os,DL,Cz⟩;have hT:s.TypeIs (.ref t) "tuple":=ht.typeIs;unfold getItem
 try with_reducible refine Yx ?_
 first|refine WN (WX ?_)|skip
 refine WN (wpAny_sequenceKey ht.typeIs (by decide) ?_)
 refine WN (X2 (name:=WT "__getitem__") ht.typeIs XQ
  (X5 XQ ht.typeIs entry_tuple_getitem ?_ (args_tuple_getitem _ _)))
 show Xa _ _ (ZY (.ref t) >>= _) _ _ s;refine WN (tupleItemsOf_ ht ?_);refine WN (ZI Jc ?_);rw[b! (by decide)];refine WN (sliceApplied_gen hs pl pu ?_)
 have GZ:(((sIx items.size 0 lo:Nat):Int) == 0 && (1:Int) == 1 && (sIx items.size items.size hi - sIx items.size 0 lo) == items.size)=true:=by
  rw[hw.1,hw.2];simp
 show Xa _ _ (if(((sIx items.size 0 lo:Nat):Int) == 0 && (1:Int) == 1 && (sIx items.size items.size hi - sIx items.size 0 lo) == items.size)=true then _ else _) _ _ s;rw[b! GZ];refine WN (m:=Builtin.Tuple.tupleIsExact _) ?_;unfold Builtin.Tuple.tupleIsExact;refine WN (ZI hT (WX ?_));rw[b! (by decide)];exact WN (Zy (WX ⟨_,rfl,WX h⟩))
end HT
namespace L2
open PySem PySem.Spec PyProof.Rows
end L2
namespace PySem
open Sem (wp)
section
variable{ep:Nat}{od:Ze}{es:Array DictEntry}
theorem bb_keyNext{en:DictEntry}{Q:Option WV->WZ->Prop}(g:s.heap.IsKeyIter it d i es.size ep)(g1:s.heap.get? d=some od)(g2:od.data=.dict es ep)(hx:es[i]?=some en)
 (fin:∀h',h'.IsKeyIter it d (i+1) es.size ep->YF it s.heap h'->Q (some en.key) {s with heap:=h'}):Xa (Xu prog w) A (pyNext (.ref it)) Q E s:=by
 obtain⟨o,q1,q2,q3⟩:=id g;unfold pyNext;refine WN (wpAny_attempt (X2 (name:=WT "__next__") g.typeIs Zz (X5 Zz g.typeIs F.entry_dict_keyiterator_next ?_ (F.args_dict_keyiterator_next_1 _))));refine WN (WX ?_);refine WN ?_;refine WN ?_
 first|refine WN (wpAny_typeNameOfWhole_keyiter g.typeIs (WX ?_))|refine WN (wpAny_typeNameOf_keyiter g.typeIs (WX ?_))
 refine WN (wpAny_fieldsOf q1 q3 ?_);have own:Builtin.Dict_items.ownsTuple "dict_keyiterator"=false:=by decide
 simp only[own,Yd,if_false];show Xa _ _ (if(Xl d == Yp)=true then _ else _) _ _ s;rw[a! (show¬((Xl d == Yp)=true)from W8)];refine WN (WX ?_);refine WN (wpAny_dictEntries g1 g2 ?_);rw[a! (by simp)];refine WN (WX ?_);refine WN (wpAny_dictEpoch g1 g2 ?_);rw[a! (by simp)];refine WX ?_;have lt:i<es.size:=(Array.getElem?_eq_some_iff.mp hx).1;have ee:es[i]=en:=(Array.getElem?_eq_some_iff.mp hx).2;simp only[show¬((i:Int)<0)from by omega,if_false,XM,Zg lt];refine WN ?_
 first|refine WN (wpAny_typeNameOfWhole_keyiter g.typeIs (WX ?_))|refine WN (wpAny_typeNameOf_keyiter g.typeIs (WX ?_))
 refine WN (wpAny_isOneOf_keyiter g.typeIs ?_);show Xa _ _ (setField (.ref it) 1 (Y8 ((i:Int)+1)) >>= _) _ _ s;refine WN (wpAny_setField q1 q3 (by simp) ?_);have g':(s.heap.update it (Obj.mapFields (·.setIfInBounds 1 (Y8 ((i:Int)+1))))).IsKeyIter it d (i+1) es.size ep:=⟨_,XN _ q1 (Obj.isFreed_of_fields (Zn q3 _)),(Obj.cls_mapFields ..).trans q2,by rw[Zn q3];simp[Y8]⟩;refine WN (Yx ?_);refine WN (wpAny_isOneOf_keyiter (s:={s with heap:=s.heap.update it (Obj.mapFields (·.setIfInBounds 1 (Y8 ((i:Int)+1))))}) g'.typeIs ?_);show Xa _ _ (pure es[i].key) _ _ _;rw[ee];exact WX (WX ⟨_,rfl,WX (fin _ g' (Zi ..))⟩)
theorem bb_keyEnd{Q:Option WV->WZ->Prop}(calm:A.handled=none)(g:s.heap.IsKeyIter it d i es.size ep)(g1:s.heap.get? d=some od)(g2:od.data=.dict es ep)(hx:es.size<=i)
 (fin:∀h',Heap.ExtBut it s.heap h'->Q none {s with heap:=h'}):Xa (Xu prog w) A (pyNext (.ref it)) Q E s:=by
 obtain⟨o,q1,q2,q3⟩:=id g;unfold pyNext;refine WN (wpAny_attempt (X2 (name:=WT "__next__") g.typeIs Zz (X5 Zz g.typeIs F.entry_dict_keyiterator_next ?_ (F.args_dict_keyiterator_next_1 _))));refine WN (WX ?_);refine WN ?_;refine WN ?_
 first|refine WN (wpAny_typeNameOfWhole_keyiter g.typeIs (WX ?_))|refine WN (wpAny_typeNameOf_keyiter g.typeIs (WX ?_))
 refine WN (wpAny_fieldsOf q1 q3 ?_);have own:Builtin.Dict_items.ownsTuple "dict_keyiterator"=false:=by decide
 simp only[own,Yd,if_false];show Xa _ _ (if(Xl d == Yp)=true then _ else _) _ _ s;rw[a! (show¬((Xl d == Yp)=true)from W8)];refine WN (WX ?_);refine WN (wpAny_dictEntries g1 g2 ?_);rw[a! (by simp)];refine WN (WX ?_);refine WN (wpAny_dictEpoch g1 g2 ?_);rw[a! (by simp)];refine WX ?_;simp only[show¬((i:Int)<0)from by omega,if_false,XM,Array.getElem?_eq_none hx];refine WN ?_
 first|refine WN (wpAny_typeNameOfWhole_keyiter g.typeIs (WX ?_))|refine WN (wpAny_typeNameOf_keyiter g.typeIs (WX ?_))
 show Xa _ _ (setField (.ref it) 0 .none >>= _) _ _ s;refine WN (wpAny_setField q1 q3 (by simp) ?_);show Xa _ _ (newExc (.type "StopIteration") [] >>= _) _ _ _;refine WN ?_;simp only[newExc,newTuple];refine WN (Ye ?_ (by size_fits));refine WN (m:=firstArgMember _ _) (wpAny_of_eq (a:=Yp) (by first|rfl|(simp only[firstArgMember];rfl)) ?_);refine Ye ?_ (by size_fits);simp only[raiseNew];refine WN (wpAny_handled ?_)
 first|rw[show A.in1.handled=none from calm]|rw[calm]
 refine WN (WX (wpAny_throw ?_));refine WN (ZL (T:="StopIteration") (b:=true) ⟨_,W4 _ rfl,rfl⟩ isSubtype_stop ?_);exact WX (fin _ (((Zi ..).extBut.push _).push _))
theorem bb_keyIter(ns:(d == YO)=false)(g1:s.heap.get? d=some od)(gc:od.cls=.type "dict")(g2:od.data=.dict es ep)
 (fin:Q (.ref s.heap.objs.size) {s with heap:=s.heap.push {cls:=.type "dict_keyiterator",data:=.fields #[.ref d,.int 0 0,.int es.size 0,.int ep 0]}}):Xa (Xu prog w) A (pyIter (.ref d)) Q E s:=by
 have gT:s.TypeIs (.ref d) "dict":=⟨_,g1,gc⟩;refine wpAny_pyIter_slot gT F.slot_dict_iter (X5 F.slot_dict_iter gT F.entry_dict_iter ?_ (F.args_dict_iter_1 _));unfold Zt.«dict.__iter__»;refine WN ?_;unfold Builtin.Dict.dictSlotNone;refine WN (wpAny_notOrdered_dict gT ?_);show Xa _ _ (pure (Xl d)) _ _ s;refine WX ?_;show Xa _ _ (Builtin.Dict.showsAll d >>= _) _ _ s;unfold Builtin.Dict.showsAll;rw[a! (by rw[ns];exact W8)];refine WN (WX ?_);refine WN (wpAny_dictEntries g1 g2 ?_);refine WN (wpAny_dictEpoch g1 g2 ?_);refine WN (Ye (WX ⟨_,rfl,"dict_keyiterator",_,⟨_,W4 _ rfl,rfl⟩,Zz.lookup,?_⟩));simpa[Y8]using fin
end
end PySem
namespace L2
open PySem PySem.Spec PyProof.Rows
end L2
namespace BB
open PySem L2
inductive Top where
 |nm (n:Xk) (m:Nat)
 |th (t:Th)
def bl:List Top->List Th
 | []=>[]
 |.nm n m::S=>.knot n ((bl S).take m)::(bl S).drop m
 |.th t::S=>t::bl S
def TopsOk:List Top->Prop
 | []=>True
 |.nm _ m::S=>m<=(bl S).length/\TopsOk S
 |.th _::S=>TopsOk S
theorem TopsOk.drop:∀{l:List Top}(i:Nat),TopsOk l->TopsOk (l.drop i)
 |l,0,h=>by rw[List.drop_zero];exact h
 | [],i+1,h=>by rw[List.drop_nil];exact h
 | .nm n m::S,i+1,h=>by
   rw[TopsOk]at h;rw[List.drop_succ_cons];exact TopsOk.drop i h.2
 | .th t::S,i+1,h=>by
   rw[TopsOk]at h;rw[List.drop_succ_cons];exact TopsOk.drop i h
theorem uk:∀l:List Top,(bl l).length<=l.length
 | []=>WY _
 | .nm n m::S=>by
   have:=uk S;rw[bl,W3,W3,List.length_drop];omega
 | .th t::S=>by
   have:=uk S;rw[bl,W3,W3];omega
mutual
def Th.fill(f:Int->Int->Th):Th->Th
 |.knot n ks=>.knot n (fills f ks)
 |.call s k=>f s k
def fills(f:Int->Int->Th):List Th->List Th
 | []=>[]
 |t::ts=>t.fill f::fills f ts
end
theorem ky(f:Int->Int->Th):∀ts:List Th,(fills f ts).length=ts.length
 | []=>by rw[fills]
 |t::ts=>by rw[fills,W3,W3,ky f ts]
mutual
theorem kc(f g:Int->Int->Th):∀t:Th,(t.fill f).fill g=t.fill λs k=>(f s k).fill g
 |.knot n ks=>by rw[Th.fill,Th.fill,Th.fill,lB f g ks]
 |.call s k=>by rw[Th.fill,Th.fill]
theorem lB(f g:Int->Int->Th):∀ts:List Th,fills g (fills f ts)=fills (λs k=>(f s k).fill g) ts
 | []=>by rw[fills,fills,fills]
 |t::ts=>by rw[fills,fills,fills,kc f g t,lB f g ts]
end
mutual
theorem vF:∀t:Th,t.fill B!=t
 |.knot n ks=>by rw[Th.fill,sQ ks]
 |.call s k=>by rw[Th.fill]
theorem sQ:∀ts:List Th,fills B! ts=ts
 | []=>by rw[fills]
 |t::ts=>by rw[fills,vF t,sQ ts]
end
def eV(f:Int->Int->Th):Th->Top
 |.knot n ks=>.nm n ks.length
 |.call s k=>.th (f s k)
theorem oh(f:Int->Int->Th):∀(n:Nat)(ts:List Th),aw ts<=n->∀S,bl ((walks ts).map (eV f)++S)=fills f ts++bl S/\(TopsOk S->TopsOk ((walks ts).map (eV f)++S))
 |_,[],_,S=>by rw[walks,fills];exact⟨rfl,λh=>h⟩
 | 0,t::ts,hn,S=>by
   have:=t.size_pos;rw[aw]at hn;omega
 | n+1,t::ts,hn,S=>by
   have hs:=t.size_eq;rw[aw]at hn;have h2:=oh f n ts (by omega) S;have e:(walks (t::ts)).map (eV f)++S=eV f t::((walks t.kids).map (eV f)++((walks ts).map (eV f)++S)):=by rw[walks,t.walk_eq];simp
   have h1:=oh f n t.kids (by omega) ((walks ts).map (eV f)++S);rw[e];cases t with
   | knot nm ks =>
     simp only[M!]at h1 |-;refine⟨?_,λhS=>?_⟩
     .show bl (.nm nm ks.length::_)=_;rw[bl,h1.1,h2.1,<-ky f ks,List.take_left,List.drop_left,fills,Th.fill];rfl
     .show TopsOk (.nm nm ks.length::_);rw[TopsOk];refine⟨?_,h1.2 (h2.2 hS)⟩;rw[h1.1,Xg,ky];exact Zj _ _
   | call s k =>
     simp only[M!,walks,Zb,Zp]at h1 |-;refine⟨?_,λhS=>?_⟩
     .show bl (.th (f s k)::_)=_;rw[bl,h2.1,fills,Th.fill];rfl
     .show TopsOk (.th (f s k)::_);rw[TopsOk];exact h2.2 hS
theorem vq(f:Int->Int->Th)(t:Th):bl (t.walk.map (eV f))=[t.fill f]/\TopsOk (t.walk.map (eV f)):=by
 have h:=oh f _ [t] (WY _) [];have e:walks [t]=t.walk:=by simp[walks]
 rw[e,XA]at h;refine⟨?_,h.2 (by rw[TopsOk];trivial)⟩;rw[h.1,fills,fills,bl];rfl
theorem vN(x:V)(xs:List V):gB (x::xs) none (some 1)=[x]:=by
 unfold gB;rw[show(some (1:Int))=some ((1:Nat):Int)from rfl,HT.sIx_nat,HT.sIx_none,W3,Nat.min_eq_left (by omega)];rfl
end BB
open BB.Th renaming fill->v!
namespace PySem
open Sem (wp)
end PySem
namespace L2
open PySem PySem.Spec PyProof.Rows BB
end L2
namespace BB
open PySem L2
theorem jE{k:Nat}(hr:L2.Room k A):A.units+150+2<YM:=by
 have:=hr.un;omega
def hole:Th:=.knot star []
def Th.name:Th->Xk
 |.knot n _=>n
 |.call _ _=>q
def aE:Th->Th->Bool
 |.knot n ks,.knot m us=>!(o! n ks).isHole && decide (n=m) && decide (ks.length=us.length)
 |_,_=>false
mutual
def Th.sbs:Th->Th->List (Th×Th)
 |.knot n ks,r=>(.knot n ks,r)::(if aE (.knot n ks) r=true then qy ks r.kids else[])
 |.call s k,r=>[(.call s k,r)]
def qy:List Th->List Th->List (Th×Th)
 | [],_=>[]
 | k::ks,us=>match us with
   | []=>[]
   |u::us=>k.sbs u++qy ks us
end
def wks:List (Th×Th)->List (Th×Th)
 | []=>[]
 |p::ps=>p.1.sbs p.2++wks ps
theorem mW:∀a b:List (Th×Th),wks (a++b)=wks a++wks b
 | [],b=>rfl
 |p::a,b=>by rw[Yn,wks,wks,mW a b,XS]
theorem uX:∀ks us:List Th,wks (ks.zip us)=qy ks us
 | [],_=>by rw[List.zip_nil_left,wks,qy]
 |k::ks,[]=>by rw[List.zip_nil_right,wks,qy]
 |k::ks,u::us=>by rw[ZC,wks,qy,uX ks us]
theorem Th.sbs_eq(l r:Th):l.sbs r=(l,r)::(if aE l r=true then wks (l.kids.zip r.kids)else[]):=by
 cases l with
 |knot n ks=>rw[Th.sbs,uX];rfl
 | call s k =>
   rw[Th.sbs];have:aE (.call s k) r=false:=by cases r <;> rfl
   rw[this];rfl
def szL:List (Th×Th)->Nat
 | []=>0
 |p::ps=>p.1.size+szL ps
theorem dX:∀a b,szL (a++b)=szL a+szL b
 | [],b=>by simp[szL]
 |p::a,b=>by rw[Yn,szL,szL,dX a b,Z3]
theorem wb(a:List (Th×Th)):szL a.reverse=szL a:=by
 induction a with
 |nil=>rfl
 |cons x xs ih=>rw[X9,dX,ih,szL,szL,szL];omega
theorem jt:∀ks us:List Th,szL (ks.zip us)<=aw ks
 | [],_=>by rw[List.zip_nil_left,szL];exact Xi _
 |k::ks,[]=>by rw[List.zip_nil_right,szL];exact Xi _
 | k::ks,u::us=>by
   have:=jt ks us;rw[ZC,szL,aw];show k.size+_<=_;omega
theorem qo:∀a:List (Th×Th),a.length<=szL a
 | []=>Xi _
 | p::a=>by
   have:=p.1.size_pos;have:=qo a;rw[W3,szL];omega
theorem qj:∀(n:Nat)(ps:List (Th×Th)),szL ps<=n->(wks ps).length<=szL ps
 |_,[],_=>Xi _
 | 0,p::ps,h=>by
   have:=p.1.size_pos;rw[szL]at h;omega
 | n+1,p::ps,h=>by
   have hs:=p.1.size_eq;have hz:=jt p.1.kids p.2.kids;rw[szL]at h;have h1:=qj n ps (by omega);have h2:=qj n (p.1.kids.zip p.2.kids) (by omega);rw[wks,Th.sbs_eq,szL,Xg,W3];split
   .omega
   .rw[List.length_nil];omega
theorem aax(l r:Th):(l.sbs r).length<=l.size:=by
 have:=qj _ [(l,r)] (WY _);rw[wks,wks,XA,szL,szL]at this;exact this
theorem ql:∀(n:Nat)(ps:List (Th×Th)),szL ps<=n->∀x∈wks ps,∃p∈ps,x.1.tall<=p.1.tall/\x.2.tall<=p.2.tall/\x.1.size<=p.1.size/\x.2.size<=p.2.size
 |_,[],_,x,h=>nomatch h
 | 0,p::ps,h,x,_=>by
   have:=p.1.size_pos;rw[szL]at h;omega
 | n+1,p::ps,h,x,hx=>by
   have hs:=p.1.size_eq;have hz:=jt p.1.kids p.2.kids;rw[szL]at h;rw[wks,Th.sbs_eq,Xq]at hx;rcases hx with hx|hx
   .rcases W9.mp hx with rfl|hx
    .exact⟨p,Xh ..,WY _,WY _,WY _,WY _⟩
    .split at hx
     .obtain⟨y,hy,h1,h2,h3,h4⟩:=ql n _ (by omega) x hx;have m1:y.1∈p.1.kids:=(List.of_mem_zip hy).1;have m2:y.2∈p.2.kids:=(List.of_mem_zip hy).2;have t1:=bX m1;have t2:=bX m2;have z1:=bg m1;have z2:=bg m2;have e1:=p.1.tall_eq;have e2:=p.2.tall_eq;have e4:=p.2.size_eq;exact⟨p,Xh ..,by omega,by omega,by omega,by omega⟩
     .cases hx
   .obtain⟨y,hy,r⟩:=ql n ps (by omega) x hx;exact⟨y,Xf _ hy,r⟩
theorem vK{l r:Th}{x:Th×Th}(h:x∈l.sbs r):x.1.tall<=l.tall/\x.2.tall<=r.tall/\x.1.size<=l.size/\x.2.size<=r.size:=by
 obtain⟨p,hp,r⟩:=ql _ [(l,r)] (WY _) x (by rw[wks,wks,XA];exact h);rw[W7]at hp;subst hp;exact r
mutual
def Th.lies:Th->Th->Bool
 |.knot n ks,r=>(o! n ks).isHole ||(aE (.knot n ks) r && aP ks r.kids)
 |.call _ _,_=>false
def aP:List Th->List Th->Bool
 | [],_=>true
 | k::ks,us=>match us with
   | []=>true
   |u::us=>k.lies u && aP ks us
end
theorem fX{l r:Th}(h:l.isHole=true):aE l r=false:=by
 cases l with
 | knot n ks =>
   cases r with
   | knot m us =>
     show(!(o! n ks).isHole && decide (n=m) && decide (ks.length=us.length))=false;rw[h];rfl
   |call s k=>rfl
 |call s k=>cases h
mutual
def Th.noCall:Th->Prop
 |.knot _ ks=>aN ks
 |.call _ _=>False
def aN:List Th->Prop
 | []=>True
 |t::ts=>t.noCall/\aN ts
end
theorem cP:∀{ts:List Th}{t:Th},aN ts->t∈ts->t.noCall
 | [],_,_,h=>nomatch h
 | u::ts,t,hn,h=>by
   rw[aN]at hn;rcases W9.mp h with rfl|h
   .exact hn.1
   .exact cP hn.2 h
def Th.wid:Th->Nat
 |.knot _ ks=>ks.length
 |.call _ _=>2
theorem bz{l r:Th}(h:aE l r=true):∃n ks us,l=.knot n ks/\r=.knot n us/\ks.length=us.length/\l.isHole=false:=by
 cases l with
 | knot n ks =>
   cases r with
   | knot m us =>
     have h':(!(o! n ks).isHole && decide (n=m) && decide (ks.length=us.length))=true:=h;simp only[XY,decide_eq_true_eq,Bool.not_eq_true']at h';obtain⟨⟨h1,h2⟩,h3⟩:=h';subst h2;exact⟨n,ks,us,rfl,rfl,h3,h1⟩
   |call s k=>cases h
 |call s k=>cases r <;> cases h
theorem y9(l r:Th)(S:List (Th×Th)):wks ((l,r)::S)=(l,r)::((if aE l r=true then wks (l.kids.zip r.kids)else[])++wks S):=by
 rw[wks,Th.sbs_eq];rfl
theorem ll:hole.noCall:=by rw[hole,Th.noCall,aN];trivial
theorem dz:hole.isHole=true:=by
 show decide (star=star/\([]:List Th)=[])=true;exact d! ⟨rfl,rfl⟩
theorem o8:hole.tall=1:=by rw[hole,r!,aC]
theorem dR:hole.size=1:=by rw[hole,p!,aw]
theorem zK:star≠q:=by decide
end BB
open BB.Th renaming noCall->u!,lies->w!
namespace L2
open PySem PySem.Spec PySem.SeqAt PyProof.Rows BB
open Classical in
theorem tE(I:Inv X U Z H s){es:List Dv}{Ah:List WV}(r1:Vals vs its)(r2:Vals ws Ah)(Dj:DAts H ds vs)(hws:DAts H es ws)(hu:A.units+cN ds+2<YM) :
 ∀j(h1:j<its.toArray.size)(h2:j<Ah.toArray.size),EqAt A.in1 s its.toArray[j] Ah.toArray[j] (decide (ds[j]?=es[j]?)):=by
 intro j h1 h2;have l1:its.length=ds.length:=by rw[<-r1.length,Dj.length]
 have l2:Ah.length=es.length:=by rw[<-r2.length,hws.length]
 have EW:j<ds.length:=by rw[<-l1];simpa using h1
 have D6:j<es.length:=by rw[<-l2];simpa using h2
 have e1:ds[j]?=some ds[j]:=WR EW;have e2:es[j]?=some es[j]:=WR D6;obtain⟨x',Ba,dx⟩:=Dj.at e1;obtain⟨y',Ee,dy⟩:=hws.at e2;obtain⟨u',Ca,GY⟩:=r1.get Ba;obtain⟨v',BE,Fi⟩:=r2.get Ee;have e3:decide (ds[j]?=es[j]?)=decide (ds[j]=es[j]):=by rw[e1,e2];simp
 have e4:its.toArray[j]=u':=by
  rw[WR (by rw[l1];exact EW)]at Ca;simpa using Ca
 have e5:Ah.toArray[j]=v':=by
  rw[WR (by rw[l2];exact D6)]at BE;simpa using BE
 rw[e3,e4,e5];have q2:=gL e1;refine v5 I _ ds[j] es[j] (WY _) x' y' u' v' A.in1 dx dy GY Fi ?_;show A.units+1+_<YM;omega
open Classical in
theorem nn{es:List Dv}(hl:ds.length=es.length):(XG ds.length).all (λj=>decide (ds[j]?=es[j]?))=decide (ds=es):=by
 by_cases h:ds=es
 .subst h;rw[d! rfl];simp
 .rw[c! h];refine Yj.mpr λz=>h (List.ext_getElem? λj=>?_);by_cases hj:j<ds.length
  .exact e! (List.all_eq_true.mp z j (YY.mpr hj))
  .rw[ZH (by omega),ZH (by omega)]
def acP(K:WQ)(B:Nat):R2:=λx y H Q=>∃a b vs ws ds es,x=.ref a/\y=.ref b/\SqT K H a vs/\SqT K H b ws/\DAts H ds vs/\DAts H es ws/\cN ds<=B/\∀b:Bool,(b=true↔ds≠es)->Q (.bl b) H
open Classical in
theorem abh(hu:X.A.units+B+2<YM):OpR X (compareOp .NotEq) (acP X.K B):=by
 intro U s Z H x y v u Q I rx ry h;obtain⟨a,b,vs,ws,ds,es,rfl,rfl,ha,hb,Dj,hws,hB,q⟩:=h;cases rx;cases ry;obtain⟨its,r1,p1,_⟩:=I.tuple ha;obtain⟨Ah,r2,p2,_⟩:=I.tuple hb;have l1:its.length=ds.length:=by rw[<-r1.length,Dj.length]
 have l2:Ah.length=es.length:=by rw[<-r2.length,hws.length]
 refine RcNeAt.tuples (show s.heap.IsTuple a its.toArray from p1) (show s.heap.IsTuple b Ah.toArray from p2) (by omega) (tE I r1 r2 Dj hws (by omega)) X.prog X.w X.xe _ ?_
 have e:((XG (min its.toArray.size Ah.toArray.size)).all (λj=>decide (ds[j]?=es[j]?)) && its.toArray.size == Ah.toArray.size)=decide (ds=es):=by
  rw[W2,W2,l1,l2];by_cases hl:ds.length=es.length
  .rw[<-hl,Nat.min_self,nn hl];simp
  .rw[c! (λz=>hl (by rw[z]))];simp[hl]
 refine⟨.bl (!decide (ds=es)),H,I,by rw[e];rfl,q _ ?_⟩;simp
end L2
namespace BB
open PySem L2
mutual
def Th.hw(pre:List Int):Th->Th->List (List Int×Th)
 |.knot n ks,t=>if(o! n ks).isHole=true then[(pre,t)]else hws pre 0 ks t.kids
 |.call _ _,_=>[]
def hws(pre:List Int)(i:Int):List Th->List Th->List (List Int×Th)
 | [],_=>[]
 | k::ks,us=>match us with
   | []=>[]
   |u::us=>k.hw (pre++[i]) u++hws pre (i+1) ks us
end
theorem eS{f:Th}(h:f.isHole=true)(pre:List Int)(t:Th):f.hw pre t=[(pre,t)]:=by
 cases f with
 |knot n ks=>rw[Th.hw,b! h]
 |call s k=>cases h
theorem qw{f:Th}(h:f.isHole=true):f=hole:=by
 cases f with
 | knot n ks =>
   have h':=e! (show decide (n=star/\ks=[])=true from h);rw[h'.1,h'.2];rfl
 |call s k=>cases h
theorem bL{f t:Th}(h:f.lies t=true):f.isHole=true\/∃n ks us,f=.knot n ks/\t=.knot n us/\ks.length=us.length/\f.isHole=false/\aE f t=true/\aP ks us=true:=by
 cases f with
 | knot n ks =>
   rw[w!]at h;cases hh:(o! n ks).isHole with
   |true=>exact .inl rfl
   | false =>
     rw[hh,Bool.false_or,XY]at h;obtain⟨n',Fj,us,e1,rfl,e3,_⟩:=bz h.1;cases e1;exact .inr ⟨n,ks,us,rfl,rfl,e3,rfl,h.1,h.2⟩
 |call s k=>rw[w!]at h;cases h
theorem bd{k u:Th}{ks us:List Th}:aP (k::ks) (u::us)=(k.lies u && aP ks us):=by rw[aP]
mutual
theorem j6:∀(pre:List Int)(f t:Th),f.lies t=true->((f.pl pre).filter λp=>p.2.isHole).map (·.1)=(f.hw pre t).map (·.1)
 | pre,.knot n ks,t,h=>by
   rcases bL h with hh|⟨n',Fj,us,e1,rfl,e3,hh,_,hl⟩
   .rw[eS hh,qw hh,hole,E!,pls];rw[XX,b! (show(o! star []).isHole=true from dz)];rfl
   .cases e1;rw[E!,Th.hw,a! (by rw[hh];exact W8),XX,a! (show¬(o! n ks).isHole=true by rw[hh];exact W8)];exact nF pre 0 ks us e3 hl
 |pre,.call s k,t,h=>by rw[w!]at h;cases h
theorem nF:∀(pre:List Int)(i:Int)(ks us:List Th),ks.length=us.length->aP ks us=true->((pls pre i ks).filter λp=>p.2.isHole).map (·.1)=(hws pre i ks us).map (·.1)
 |pre,i,[],us,_,_=>by rw[pls,hws];rfl
 |pre,i,k::ks,[],e,_=>by simp at e
 | pre,i,k::ks,u::us,e,h=>by
   rw[bd,XY]at h;rw[pls,hws,ZD,Xc,Xc,j6 _ k u h.1,nF pre (i+1) ks us (by simpa using e) h.2]
end
mutual
theorem tJ:∀(pre:List Int)(f t:Th),f.lies t=true->((f.sbs t).filter λp=>p.1.isHole).map (·.2)=(f.hw pre t).map (·.2)
 | pre,.knot n ks,t,h=>by
   rcases bL h with hh|⟨n',Fj,us,e1,rfl,e3,hh,hs,hl⟩
   .rw[eS hh,Th.sbs,fX hh,a! W8,XX,b! hh];rfl
   .cases e1;rw[Th.sbs,hs,b! rfl,Th.hw,a! (by rw[hh];exact W8),XX,a! (show¬(o! n ks).isHole=true by rw[hh];exact W8)];exact oT pre 0 ks us e3 hl
 |pre,.call s k,t,h=>by rw[w!]at h;cases h
theorem oT:∀(pre:List Int)(i:Int)(ks us:List Th),ks.length=us.length->aP ks us=true->((qy ks us).filter λp=>p.1.isHole).map (·.2)=(hws pre i ks us).map (·.2)
 |pre,i,[],us,_,_=>by rw[qy,hws];rfl
 |pre,i,k::ks,[],e,_=>by simp at e
 | pre,i,k::ks,u::us,e,h=>by
   rw[bd,XY]at h;rw[qy,hws,ZD,Xc,Xc,tJ _ k u h.1,oT pre (i+1) ks us (by simpa using e) h.2]
end
def aZ:List Th->List Th->List Top
 | [],_=>[]
 |x::xs,ps=>if x.isHole=true then .th (ps.headD hole)::aZ xs ps.tail else .nm x.name x.wid::aZ xs ps
def aW(xs:List Th):Nat:=(xs.filter N!).length
theorem dh(a b:List Th):aW (a++b)=aW a+aW b:=by unfold aW;rw[ZD,Xg]
theorem cA:∀(xs ys ps:List Th),aZ (xs++ys) ps=aZ xs ps++aZ ys (ps.drop (aW xs))
 | [],ys,ps=>by show _=[]++aZ ys (ps.drop 0);rfl
 | x::xs,ys,ps=>by
   rw[Yn,aZ,aZ];by_cases h:x.isHole=true
   .rw[b! h,b! h];have hn:aW (x::xs)=aW xs+1:=by unfold aW;rw[XX,b! h];rfl
    rw[cA xs ys ps.tail,hn,List.drop_tail,Nat.add_comm];rfl
   .rw[a! h,a! h];have hn:aW (x::xs)=aW xs:=by unfold aW;rw[XX,a! h]
    rw[cA xs ys ps,hn];rfl
mutual
theorem p8:∀(pre:List Int)(f t:Th),f.lies t=true->∀(P:List Th)(S:List Top),aZ f.walk ((f.hw pre t).map (·.2)++P)=aZ f.walk ((f.hw pre t).map (·.2))/\aW f.walk=(f.hw pre t).length/\bl (aZ f.walk ((f.hw pre t).map (·.2))++S)=t::bl S/\(TopsOk S->TopsOk (aZ f.walk ((f.hw pre t).map (·.2))++S))
 | pre,.knot n ks,t,h,P,S=>by
   rcases bL h with hh|⟨n',Fj,us,e1,rfl,e3,hh,_,hl⟩
   .have he:=qw hh;rw[eS hh,he];have Ux:hole.walk=[hole]:=by rw[hole,Th.walk,walks]
    have ht:∀Q:List Th,aZ [hole] (t::Q)=[.th t]:=λQ=>by rw[aZ,b! dz];rfl
    rw[Ux];refine⟨by rw[XB,Yn,ht,Zb,ht],by unfold aW;rw[XX,b! dz];rfl,?_,λhS=>?_⟩
    .rw[XB,ht];show bl (.th t::S)=_;rw[bl]
    .rw[XB,ht];show TopsOk (.th t::S);rw[TopsOk];exact hS
   .cases e1;have Av:¬(o! n ks).isHole=true:=by rw[hh];exact W8
    have ih:=sZ pre 0 ks us e3 hl P S;have e:(o! n ks).hw pre (.knot n us)=hws pre 0 ks us:=by rw[Th.hw,a! Av];rfl
    rw[e,Th.walk];have hg:∀Q:List Th,aZ (.knot n ks::walks ks) Q=.nm n ks.length::aZ (walks ks) Q:=λQ=>by rw[aZ,a! Av];rfl
    refine⟨by rw[hg,hg,ih.1],?_,?_,λhS=>?_⟩
    .have:aW (o! n ks::walks ks)=aW (walks ks):=by unfold aW;rw[XX,a! Av]
     rw[this];exact ih.2.1
    .rw[hg,Yn,bl,ih.2.2.1,e3,List.take_left,List.drop_left]
    .rw[hg,Yn,TopsOk];exact⟨by rw[ih.2.2.1,Xg,e3];exact Zj _ _,ih.2.2.2 hS⟩
 |pre,.call s k,t,h,P,S=>by rw[w!]at h;cases h
theorem sZ:∀(pre:List Int)(i:Int)(ks us:List Th),ks.length=us.length->aP ks us=true->∀(P:List Th)(S:List Top),aZ (walks ks) ((hws pre i ks us).map (·.2)++P)=aZ (walks ks) ((hws pre i ks us).map (·.2))/\aW (walks ks)=(hws pre i ks us).length/\bl (aZ (walks ks) ((hws pre i ks us).map (·.2))++S)=us++bl S/\(TopsOk S->TopsOk (aZ (walks ks) ((hws pre i ks us).map (·.2))++S))
 | pre,i,[],us,e,_,P,S=>by
   have:us=[]:=X6.mp (by simpa using e.symm);subst this;rw[walks,hws];exact⟨rfl,rfl,rfl,λh=>h⟩
 |pre,i,k::ks,[],e,_,P,S=>by simp at e
 | pre,i,k::ks,u::us,e,h,P,S=>by
   rw[bd,XY]at h;have i2:=sZ pre (i+1) ks us (by simpa using e) h.2 P S;have i1:=p8 (pre++[i]) k u h.1 ((hws pre (i+1) ks us).map (·.2)) (aZ (walks ks) ((hws pre (i+1) ks us).map (·.2))++S);have Uy:=p8 (pre++[i]) k u h.1 ((hws pre (i+1) ks us).map (·.2)++P) S
   have hd:∀Q:List Th,((k.hw (pre++[i]) u).map (·.2)++Q).drop (aW k.walk)=Q:=λQ=>by
    rw[i1.2.1,<-WO (as:=k.hw (pre++[i]) u) (f:=(·.2)),List.drop_left]
   have Dm:aZ (walks (k::ks)) ((hws pre i (k::ks) (u::us)).map (·.2))=aZ k.walk ((k.hw (pre++[i]) u).map (·.2))++aZ (walks ks) ((hws pre (i+1) ks us).map (·.2)):=by
    rw[walks,hws,Xc,cA,hd,i1.1]
   refine⟨?_,?_,?_,λhS=>?_⟩
   .rw[Dm,walks,hws,Xc,XS,cA,hd,Uy.1,i2.1]
   .rw[walks,hws,dh,Xg,i1.2.1,i2.2.1]
   .rw[Dm,XS,i1.2.2.1,i2.2.2.1];rfl
   .rw[Dm,XS];exact i1.2.2.2 (i2.2.2.2 hS)
end
theorem vb(pre:List Int){f t:Th}(h:f.lies t=true):bl (aZ f.walk ((f.hw pre t).map (·.2)))=[t]/\TopsOk (aZ f.walk ((f.hw pre t).map (·.2)))/\aW f.walk=(f.hw pre t).length:=by
 obtain⟨_,h2,h3,h4⟩:=p8 pre f t h [] [];rw[XA]at h3 h4;exact⟨by rw[h3,bl],h4 (by rw[TopsOk];trivial),h2⟩
theorem ii:∀(xs ps:List Th),(aZ xs ps).length=xs.length
 | [],_=>rfl
 | x::xs,ps=>by
   rw[aZ];split
   .rw[W3,W3,ii xs ps.tail]
   .rw[W3,W3,ii xs ps]
theorem jx:∀(xs ps:List Th)(t:Th),Top.th t∈aZ xs ps->t∈ps\/t=hole
 | [],_,t,h=>nomatch h
 | x::xs,ps,t,h=>by
   rw[aZ]at h;split at h
   .cases ps with
    | nil =>
      rcases W9.mp h with h|h
      .cases h;exact .inr rfl
      .exact jx xs [] t h
    | cons p ps =>
      rcases W9.mp h with h|h
      .cases h;exact .inl (Xh ..)
      .rcases jx xs ps t h with h|h
       .exact .inl (Xf _ h)
       .exact .inr h
   .rcases W9.mp h with h|h
    .cases h
    .exact jx xs ps t h
theorem zw(pre:List Int){f t:Th}(h:f.lies t=true):∀p∈f.hw pre t,p.2.size<=t.size/\p.2.tall<=t.tall:=by
 intro p hp;have h1:p.2∈(f.hw pre t).map (·.2):=XD.mpr ⟨p,hp,rfl⟩;rw[<-tJ pre f t h]at h1;obtain⟨x,hx,e⟩:=XD.mp h1;have:=vK (Zq.mp hx).1;rw[<-e];exact⟨this.2.2.2,this.2.1⟩
theorem abJ(pre:List Int){f t:Th}(h:f.lies t=true):(f.hw pre t).length<=f.size:=by
 have h1:=(vb pre h).2.2;rw[<-h1];unfold aW;have:=ZG N! f.walk;rw[L!]at this;exact this
theorem pick{G:α->β->γ->Prop}(h:∀x a,F x a->∃c,G x a c):∀{xs:List α}{as:List β},Xs F xs as->∃cs:List γ,cs.length=as.length/\∀(i:Nat)x a c,xs[i]?=some x->as[i]?=some a->cs[i]?=some c->G x a c
 |_,_,.nil=>⟨[],rfl,λi x a c e=>by simp at e⟩
 | _,_,.cons r t=>by
   obtain⟨c,hc⟩:=h _ _ r;obtain⟨cs,h1,h2⟩:=pick h t;refine⟨c::cs,by rw[W3,W3,h1],λi x a c' e1 e2 e3=>?_⟩;cases i with
   |zero=>simp at e1 e2 e3;subst e1 e2 e3;exact hc
   |succ i=>exact h2 i x a c' (by simpa using e1) (by simpa using e2) (by simpa using e3)
theorem uZ{R:α->γ->Prop}(p:α->Bool):∀{xs:List α}{cs:List γ},xs.length=cs.length->(∀(i:Nat)x c,xs[i]?=some x->cs[i]?=some c->R x c)->Xs R (xs.filter p) (((xs.zip cs).filter λz=>p z.1).map (·.2))
 | [],[],_,_=>.nil
 | [],_::_,h,_=>by simp at h
 |_::_,[],h,_=>by simp at h
 | x::xs,c::cs,h,r=>by
   rw[ZC,XX,XX];have ih:=uZ p (xs:=xs) (cs:=cs) (R:=R) (by simpa using h) λi x' c' e1 e2=>r (i+1) x' c' (by simpa using e1) (by simpa using e2);by_cases e:p x=true
   .rw[b! e,b! e];exact .cons (r 0 x c rfl rfl) ih
   .rw[a! e,a! e];exact ih
theorem P2.mapl{R:β->γ->Prop}(f:α->β):∀{xs:List α}{cs:List γ},Xs (λx c=>R (f x) c) xs cs->Xs R (xs.map f) cs
 |_,_,.nil=>.nil
 |_,_,.cons r h=>.cons r (P2.mapl f h)
mutual
theorem kX:∀f:Th,f.noCall->∀x∈f.walk,x.noCall
 | .knot n ks,h,x,hx=>by
   rw[Th.walk]at hx;rcases W9.mp hx with rfl|hx
   .exact h
   .rw[u!]at h;exact jL ks h x hx
 |.call s k,h,x,hx=>by rw[u!]at h;exact h.elim
theorem jL:∀ts:List Th,aN ts->∀x∈walks ts,x.noCall
 | [],_,x,hx=>by rw[walks]at hx;cases hx
 | t::ts,h,x,hx=>by
   rw[aN]at h;rw[walks]at hx;rcases Xq.mp hx with hx|hx
   .exact kX t h.1 x hx
   .exact jL ts h.2 x hx
end
inductive Rep where
 |i
 |p
def enc(s l:Int):Int:=1000 * s+l
def StV(r:Rep)(H:Hp)(s:Int)(v:V):Prop:=match r with
 |.i=>v=.int s
 |.p=>∃(a:WS)(x y:Int),v=.ref a/\H a=some (.tup [.int x,.int y])/\s=enc x y/\0<=x/\0<=y/\y<1000
theorem StV.mono{r:Rep}(k:KT H H'){s:Int}(h:StV r H s v):StV r H' s v:=by
 cases r with
 |i=>exact h
 | p =>
   obtain⟨a,x,y,e,h1,h2⟩:=h;exact⟨a,x,y,e,k _ _ h1,h2⟩
theorem vh{x y x' y':Int}(h:enc x y=enc x' y')(h1:0<=y)(h2:y<1000)(h3:0<=y')(h4:y'<1000):x=x'/\y=y':=by
 unfold enc at h;omega
mutual
def AtK(rp:Rep)(K:WQ)(H:Hp):Th->WS->Prop
 |.knot n ks,a=>n≠q/\∃as:List WS,TK K H a (.str n::as.map i!)/\AtsK rp K H ks as
 |.call s k,a=>∃v,TK K H a [.str q,v,.int k]/\StV rp H s v
def AtsK(rp:Rep)(K:WQ)(H:Hp):List Th->List WS->Prop
 | [],as=>as=[]
 |t::ts,as=>∃a r,as=a::r/\AtK rp K H t a/\AtsK rp K H ts r
end
mutual
theorem AtK.mono(k:KT H H'):∀{t:Th}{a:WS},AtK rp K H t a->AtK rp K H' t a
 | .knot n ks,a,h=>by
   rw[AtK]at h |-;obtain⟨h0,as,h1,h2⟩:=h;exact⟨h0,as,h1.mono k,AtsK.mono k h2⟩
 | .call s c,a,h=>by
   rw[AtK]at h |-;obtain⟨v,h1,h2⟩:=h;exact⟨v,h1.mono k,h2.mono k⟩
theorem AtsK.mono(k:KT H H'):∀{ts:List Th}{as:List WS},AtsK rp K H ts as->AtsK rp K H' ts as
 | [],as,h=>by rw[AtsK]at h |-;exact h
 | t::ts,as,h=>by
   rw[AtsK]at h |-;obtain⟨a,r,e,h1,h2⟩:=h;exact⟨a,r,e,AtK.mono k h1,AtsK.mono k h2⟩
end
theorem AtsK.nil:AtsK rp K H [] []:=by rw[AtsK]
theorem AtsK.cons{t:Th}(h1:AtK rp K H t a)(h2:AtsK rp K H ts as):AtsK rp K H (t::ts) (a::as):=by rw[AtsK];exact⟨a,as,rfl,h1,h2⟩
theorem AtsK.append:∀{ts us:List Th}{as bs:List WS},AtsK rp K H ts as->AtsK rp K H us bs->AtsK rp K H (ts++us) (as++bs)
 | [],us,as,bs,h,g=>by rw[AtsK]at h;subst h;exact g
 | t::ts,us,as,bs,h,g=>by
   rw[AtsK]at h;obtain⟨a,r,rfl,h1,h2⟩:=h;exact .cons h1 (h2.append g)
theorem AtsK.length:∀{ts:List Th}{as:List WS},AtsK rp K H ts as->as.length=ts.length
 | [],as,h=>by rw[AtsK]at h;subst h;rfl
 | t::ts,as,h=>by
   rw[AtsK]at h;obtain⟨a,r,rfl,h1,h2⟩:=h;rw[W3,W3,h2.length]
theorem AtsK.reverse:∀{ts:List Th}{as:List WS},AtsK rp K H ts as->AtsK rp K H ts.reverse as.reverse
 | [],as,h=>by rw[AtsK]at h;subst h;exact .nil
 | t::ts,as,h=>by
   rw[AtsK]at h;obtain⟨a,r,rfl,h1,h2⟩:=h;rw[X9,X9];exact h2.reverse.append (.cons h1 .nil)
theorem AtsK.get:∀{ts:List Th}{as:List WS}{i:Nat}{a:WS},AtsK rp K H ts as->as[i]?=some a->∃t,ts[i]?=some t/\AtK rp K H t a
 | [],as,i,a,h,e=>by rw[AtsK]at h;subst h;simp at e
 | t::ts,as,i,a,h,e=>by
   rw[AtsK]at h;obtain⟨b,r,rfl,h1,h2⟩:=h;cases i with
   |zero=>simp at e;subst e;exact⟨t,rfl,h1⟩
   |succ i=>exact h2.get (i:=i) (by simpa using e)
theorem AtsK.at:∀{ts:List Th}{as:List WS}{i:Nat}{t:Th},AtsK rp K H ts as->ts[i]?=some t->∃a,as[i]?=some a/\AtK rp K H t a
 | [],as,i,a,h,e=>by simp at e
 | t::ts,as,i,a,h,e=>by
   rw[AtsK]at h;obtain⟨b,r,rfl,h1,h2⟩:=h;cases i with
   |zero=>simp at e;subst e;exact⟨b,rfl,h1⟩
   |succ i=>exact h2.at (i:=i) (by simpa using e)
theorem AtsK.snoc_inv(h:AtsK rp K H ts (as++[a])):∃us t,ts=us++[t]/\AtsK rp K H us as/\AtK rp K H t a:=by
 have r:=h.reverse;rw[YC,List.reverse_singleton,List.singleton_append]at r;cases e:ts.reverse with
 |nil=>rw[e,AtsK]at r;cases r
 | cons t us =>
   rw[e,AtsK]at r;obtain⟨b,z,e1,h1,h2⟩:=r;cases e1;refine⟨us.reverse,t,?_,?_,h1⟩
   .rw[<-X9,<-e,Y5]
   .have:=h2.reverse;rw[Y5]at this;exact this
mutual
theorem AtK.dv:∀{t:Th}{a:WS},AtK .i K H t a->DAtK K H t.dv (.ref a)
 | .knot n ks,a,h=>by
   rw[AtK]at h;obtain⟨_,as,h1,h2⟩:=h;rw[Th.dv,DAtK];exact⟨a,_,rfl,h1,.cons (by rw[DAtK]) (AtsK.dvs h2)⟩
 | .call s k,a,h=>by
   rw[AtK]at h;obtain⟨v,h,hv⟩:=h;cases(show v=.int s from hv);rw[Th.dv,DAtK];exact⟨a,_,rfl,h,.cons (by rw[DAtK]) (.cons (by rw[DAtK]) (.cons (by rw[DAtK]) .nil))⟩
theorem AtsK.dvs:∀{ts:List Th}{as:List WS},AtsK .i K H ts as->DAtsK K H (dvs ts) (as.map i!)
 | [],as,h=>by rw[AtsK]at h;subst h;rw[BB.dvs];exact .nil
 | t::ts,as,h=>by
   rw[AtsK]at h;obtain⟨a,r,rfl,h1,h2⟩:=h;rw[BB.dvs,XB];exact .cons (AtK.dv h1) (AtsK.dvs h2)
end
mutual
theorem At.k:∀{t:Th}{a:WS},At H t a->AtK .i K H t a
 | .knot n ks,a,h=>by
   rw[At]at h;rw[AtK];obtain⟨h0,as,h1,h2⟩:=h;exact⟨h0,as,.of h1,Ats.k h2⟩
 | .call s c,a,h=>by
   rw[At]at h;rw[AtK];exact⟨_,.of h,rfl⟩
theorem Ats.k:∀{ts:List Th}{as:List WS},Ats H ts as->AtsK .i K H ts as
 | [],as,h=>by rw[Ats]at h;rw[AtsK];exact h
 | t::ts,as,h=>by
   rw[Ats]at h;rw[AtsK];obtain⟨a,r,e,h1,h2⟩:=h;exact⟨a,r,e,At.k h1,Ats.k h2⟩
end
theorem AtK.row{t:Th}(h:AtK rp K H t a):∃r,TK K H a (.str t.name::r)/\r.length=t.wid:=by
 cases t with
 | knot n ks =>
   rw[AtK]at h;obtain⟨_,as,h1,h2⟩:=h;exact⟨_,h1,by rw[WO,h2.length];rfl⟩
 | call s k =>
   rw[AtK]at h;obtain⟨v,h,_⟩:=h;exact⟨_,h,rfl⟩
theorem tP{l:Th}{x:WS}(h:AtK rp K H l x)(r:Th):aE l r=(l.isKnot && (decide (l.name=r.name) && decide (l.wid=r.wid))):=by
 cases l with
 | knot n ks =>
   rw[AtK]at h;cases r with
   | knot m us =>
     show(!(o! n ks).isHole && decide (n=m) && decide (ks.length=us.length))=(!false && !(o! n ks).isHole && (decide (n=m) && decide (ks.length=us.length)));rw[Bool.and_assoc];rfl
   | call s k =>
     show false=(_ && (decide (n=q) && _));rw[c! h.1];simp
 |call s k=>cases r <;> rfl
theorem acY{ys:List V}{Q:VK}(ha:TK K H a xs)(hb:TK K H b ys)(hz:xs.length+ys.length<=1000000)(q:∀p H',k! H H'->TK K H' p (xs++ys)->Q (.ref p) H'):rG K (.ref a) (.ref b) H Q:=by
 refine⟨a,b,xs,ys,rfl,rfl,ha.sq,hb.sq,di hz,λe=>?_,λ_ e=>?_,λ_ _ p hp=>?_⟩
 .exact q b H (.refl _) (by rw[e];exact hb)
 .exact q a H (.refl _) (by rw[e,XA];exact ha)
 .exact q p _ (ae hp _) (.of ac)
def PPK(K:WQ)(H:Hp)(p:Th×Th)(a:WS):Prop:=∃x y,H a=some (.tup [.ref x,.ref y])/\AtK .i K H p.1 x/\AtK .i K H p.2 y
theorem PPK.mono(k:KT H H'){p:Th×Th}(h:PPK K H p a):PPK K H' p a:=by
 obtain⟨x,y,h1,h2,h3⟩:=h;exact⟨x,y,k _ _ h1,h2.mono k,h3.mono k⟩
theorem dS(k:KT H H'){ps:List (Th×Th)}(h:Xs (PPK K H) ps as):Xs (PPK K H') ps as:=y! (λ_ _ e=>PPK.mono k e) h
theorem rE:∀{ks us:List Th}{as bs ts:List WS},AtsK .i K H ks as->AtsK .i K H us bs->Xs (λ(p:V×V)t=>H t=some (.tup [p.1,p.2])) ((as.map i!).zip (bs.map i!)) ts->Xs (PPK K H) (ks.zip us) ts
 | [],us,as,bs,ts,h1,h2,h=>by
   rw[AtsK]at h1;subst h1;rw[Zb,List.zip_nil_left]at h;cases h;rw[List.zip_nil_left];exact .nil
 | k::ks,[],as,bs,ts,h1,h2,h=>by
   rw[AtsK]at h2;subst h2;rw[Zb,List.zip_nil_right]at h;cases h;rw[List.zip_nil_right];exact .nil
 | k::ks,u::us,as,bs,ts,h1,h2,h=>by
   rw[AtsK]at h1 h2;obtain⟨a,ar,rfl,a1,a2⟩:=h1;obtain⟨b,br,rfl,b1,b2⟩:=h2;rw[XB,XB,ZC]at h;cases h with
   | cons r h =>
     rw[ZC];exact .cons ⟨a,b,r,a1,b1⟩ (rE a2 b2 h)
def TopAtK(rp:Rep)(K:WQ)(H:Hp):Top->WS->Prop
 |.nm n m,a=>∃ta,H a=some (.tup [.ref ta,.int (m:Nat)])/\n≠q/\TK K H ta [.str n]
 |.th t,a=>∃ta,H a=some (.tup [.ref ta,.int 0])/\AtK rp K H t ta
theorem TopAtK.mono(k:KT H H'):∀{x:Top}{a:WS},TopAtK rp K H x a->TopAtK rp K H' x a
 | .nm n m,a,h=>by
   obtain⟨ta,h1,h2,h3⟩:=h;exact⟨ta,k _ _ h1,h2,h3.mono k⟩
 | .th t,a,h=>by
   obtain⟨ta,h1,h2⟩:=h;exact⟨ta,k _ _ h1,h2.mono k⟩
theorem cZ(k:KT H H'){l:List Top}(h:Xs (TopAtK rp K H) l as):Xs (TopAtK rp K H') l as:=y! (λ_ _ e=>TopAtK.mono k e) h
theorem AtK.whole{t:Th}(h:AtK rp K H t a):∃xs,TK K H a xs/\xs.length<=t.size+2/\∀(H':Hp)(p:WS),KT H H'->TK K H' p xs->AtK rp K H' t p:=by
 cases t with
 | knot n ks =>
   rw[AtK]at h;obtain⟨h0,as,h1,h2⟩:=h;refine⟨_,h1,?_,λH' p kt hp=>?_⟩
   .have:=h2.length;have:=cw ks;rw[W3,WO,p!];omega
   .rw[AtK];exact⟨h0,as,hp,h2.mono kt⟩
 | call s k =>
   rw[AtK]at h;obtain⟨v,h,hv⟩:=h;refine⟨_,h,by rw[p!];exact WY _,λH' p kt hp=>?_⟩;rw[AtK];exact⟨v,hp,hv.mono kt⟩
theorem x9(h:TK K H a [.str star]):AtK rp K H hole a:=by
 rw[hole,AtK];exact⟨zK,[],h,by rw[AtsK]⟩
theorem qJ:∀{ts:List Th}{as:List WS},Xs (AtK rp K H) ts as->AtsK rp K H ts as
 |_,_,.nil=>.nil
 |_,_,.cons r h=>.cons r (qJ h)
end BB
namespace L2
open PySem PySem.Spec PySem.SeqAt PyProof.Rows BB
def aaY(K:WQ)(B:Nat):R2:=λx y H Q=>∃a b vs ws ds es,x=.ref a/\y=.ref b/\SqT K H a vs/\SqT K H b ws/\DAtsK K H ds vs/\DAtsK K H es ws/\cN ds<=B/\∀b:Bool,(b=true↔ds=es)->Q (.bl b) H
open Classical in
theorem zn(hu:X.A.units+B+2<YM):OpR X (compareOp .Eq) (aaY X.K B):=by
 intro U s Z H x y v u Q I rx ry h;obtain⟨a,b,vs,ws,ds,es,rfl,rfl,ha,hb,Dj,hws,hB,q⟩:=h;cases rx;cases ry
 have r:RcAt X.A s (.ref a) (.ref b) (decide (Dv.tup ds=Dv.tup es)):=ph I ha hb Dj hws (by omega) λj d e x' y' u' v' e1 dx dy GY Fi=>by
  have q2:=gL e1;refine nj I _ d e (WY _) x' y' u' v' X.A.in1 dx dy GY Fi ?_;show X.A.units+1+_<YM;omega
 refine r X.prog X.w X.xe _ ⟨.bl (decide (Dv.tup ds=Dv.tup es)),H,I,rfl,q _ ?_⟩;constructor
 .intro z;exact Dv.tup.inj (e! z)
 .intro z;rw[z];exact d! rfl
def acV(K:WQ):V->Option Int->Option Int->Hp->VK->Prop:=λx lo hi H Q=>∃a xs,x=.ref a/\TK K H a xs/\∀p H',Same H H'->TK K H' p (gB xs lo hi)->Q (.ref p) H'
theorem vC:SlR X (acV X.K):=by
 intro U s Z H x v vl vu lo hi sl Q I rx hs pl pu h;obtain⟨a,xs,rfl,ha,q⟩:=h;by_cases hw:z! xs.length 0 lo=0/\z! xs.length xs.length hi=xs.length
 .obtain⟨its,r,p1,hz⟩:=I.tuple ha.sq;have hl:=r.length;cases rx
  have e:gB xs lo hi=xs:=by
   unfold gB;rw[hw.1,hw.2,List.drop_zero,Nat.sub_zero,YR]
  refine⟨"tuple",_,XQ.lookup,p1.typeIs,HT.getItem_tuple_whole p1 hs pl pu (by rw[W2,<-hl];exact hw) ⟨.ref a,H,I,rfl,q a H (.refl _) (by rw[e];exact ha)⟩⟩
 .exact iU U s Z H _ v vl vu lo hi sl Q I rx hs pl pu ⟨a,xs,rfl,ha.sq,hw,λp hp=>q p _ (ae hp _) (.of ac)⟩
end L2
namespace BB
open PySem L2
mutual
def Th.com:Th->Th->Th
 |.knot n ks,r=>if aE (.knot n ks) r=true then .knot n (dJ ks r.kids)else hole
 |.call _ _,_=>hole
def dJ:List Th->List Th->List Th
 | [],_=>[]
 | k::ks,us=>match us with
   | []=>[]
   |u::us=>k.com u::dJ ks us
end
theorem rg:∀ks us:List Th,dJ ks us=(ks.zip us).map λp=>p.1.com p.2
 | [],_=>by rw[dJ];rfl
 |k::ks,[]=>by rw[dJ];rfl
 |k::ks,u::us=>by rw[dJ,rg ks us];rfl
theorem kQ(l r:Th):l.com r=if aE l r=true then .knot l.name ((l.kids.zip r.kids).map λp=>p.1.com p.2)else hole:=by
 cases l with
 |knot n ks=>rw[Th.com,rg];rfl
 | call s k =>
   rw[Th.com];have:aE (.call s k) r=false:=by cases r <;> rfl
   rw[this];rfl
def topC(p:Th×Th):Top:=if aE p.1 p.2=true then .nm p.1.name p.1.kids.length else .th hole
theorem uj:∀(n:Nat)(ps:List (Th×Th)),szL ps<=n->∀S,bl ((wks ps).map topC++S)=ps.map (λp=>p.1.com p.2)++bl S/\(TopsOk S->TopsOk ((wks ps).map topC++S))
 |_,[],_,S=>⟨rfl,λh=>h⟩
 | 0,p::ps,h,S=>by
   have:=p.1.size_pos;rw[szL]at h;omega
 | n+1,p::ps,h,S=>by
   have hs:=p.1.size_eq;have hz:=jt p.1.kids p.2.kids;rw[szL]at h;have i2:=uj n ps (by omega) S;rw[wks,Th.sbs_eq,Xc,XS,XB,Yn];have hc:(p::ps).map (λp=>p.1.com p.2)=p.1.com p.2::ps.map (λp=>p.1.com p.2):=rfl;by_cases A7:aE p.1 p.2=true
   .have i1:=uj n (p.1.kids.zip p.2.kids) (by omega) ((wks ps).map topC++S);obtain⟨nm,ks,us,e1,e2,e3,_⟩:=bz A7
    have hl:((p.1.kids.zip p.2.kids).map λp=>p.1.com p.2).length=p.1.kids.length:=by
     rw[WO,List.length_zip,e1,e2];simp only[M!];omega
    have ht:topC (p.1,p.2)=.nm p.1.name p.1.kids.length:=by unfold topC;rw[b! A7]
    rw[b! A7,ht];refine⟨?_,λhS=>?_⟩
    .rw[bl,i1.1,i2.1,hc,kQ,b! A7,<-hl,List.take_left,List.drop_left];rfl
    .rw[TopsOk];exact⟨by rw[i1.1,Xg,hl];exact Zj _ _,i1.2 (i2.2 hS)⟩
   .have ht:topC (p.1,p.2)=.th hole:=by unfold topC;rw[a! A7]
    rw[a! A7,ht,Zb,Zp];refine⟨?_,λhS=>?_⟩
    .rw[bl,i2.1,hc,kQ,a! A7];rfl
    .rw[TopsOk];exact i2.2 hS
theorem aby(l r:Th):bl ((l.sbs r).map topC)=[l.com r]/\TopsOk ((l.sbs r).map topC):=by
 have h:=uj _ [(l,r)] (WY _) [];rw[wks,wks,XA,XA]at h;refine⟨?_,h.2 (by rw[TopsOk];trivial)⟩;rw[h.1,bl];rfl
theorem cU(l r:Th):aE l r=aE r l:=by
 cases l with
 | knot n ks =>
   cases r with
   | knot m us =>
     show(!decide (n=star/\ks=[]) && decide (n=m) && decide (ks.length=us.length))=(!decide (m=star/\us=[]) && decide (m=n) && decide (us.length=ks.length));by_cases h1:n=m
     .subst h1;by_cases h2:ks.length=us.length
      .have h3:(n=star/\ks=[])↔(n=star/\us=[]):=by
        constructor
        .rintro⟨a,b⟩;rw[b]at h2;exact⟨a,X6.mp h2.symm⟩
        .rintro⟨a,b⟩;rw[b]at h2;exact⟨a,X6.mp h2⟩
       rw[decide_eq_decide.mpr h3,h2]
      .have D6:¬us.length=ks.length:=λe=>h2 e.symm;simp[h2,D6]
     .have EW:¬m=n:=λe=>h1 e.symm;simp[h1,EW]
   |call s k=>rfl
 |call s k=>cases r <;> rfl
mutual
theorem se:∀l r:Th,(l.com r).size<=l.size/\(l.com r).tall<=l.tall
 | .knot n ks,r=>by
   have h:=pL ks r.kids;rw[Th.com];split
   .rw[p!,p!,r!,r!];omega
   .have:=(o! n ks).size_pos;have:=(o! n ks).tall_eq;rw[dR,o8];omega
 |.call s k,r=>by rw[Th.com,dR,o8,p!,r!];omega
theorem pL:∀ks us:List Th,aw (dJ ks us)<=aw ks/\aC (dJ ks us)<=aC ks
 | [],us=>by rw[dJ,aw,aC];exact⟨WY _,WY _⟩
 |k::ks,[]=>by rw[dJ,aw,aC];exact⟨Xi _,Xi _⟩
 | k::ks,u::us=>by
   have h1:=se k u;have h2:=pL ks us;rw[dJ,aw,aw,aC,aC];omega
end
mutual
theorem mX:∀l r:Th,(l.com r).noCall
 | .knot n ks,r=>by
   rw[Th.com];split
   .rw[u!];exact lL ks r.kids
   .exact ll
 |.call s k,r=>by rw[Th.com];exact ll
theorem lL:∀ks us:List Th,aN (dJ ks us)
 | [],us=>by rw[dJ,aN];trivial
 |k::ks,[]=>by rw[dJ,aN];trivial
 |k::ks,u::us=>by rw[dJ,aN];exact⟨mX k u,lL ks us⟩
end
theorem TK.const(h:∀H:Hp,SqT K H a xs):TK K H a xs:=by
 rcases h (λ_=>none)with(h|⟨o,h⟩)|h
 .cases h
 .cases h
 .exact .inr h
theorem zI{t:Th}{h0:WS}{Q:VK}(hA:AtK .i K H t a)(e0:TK K H h0 [.str star])(AB:t.tall<=150)(k:Q (.bl t.isHole) H):aaY K 150 (.ref a) (.ref h0) H Q:=by
 cases t with
 | knot n ks =>
   rw[AtK]at hA;obtain⟨hn,as,h1,h2⟩:=hA;rw[r!]at AB;have hd:=jr ks;refine⟨a,h0,_,_,.str n::dvs ks,[.str star],rfl,rfl,h1.sq,e0.sq,.cons (by rw[DAtK]) h2.dvs,.cons (by rw[DAtK]) .nil,by rw[cN,Dv.deep];omega,λb hb=>?_⟩
   have e:b=(o! n ks).isHole:=by
    rw[Bool.eq_iff_iff,hb];show _↔decide (n=star/\ks=[])=true;rw[decide_eq_true_iff];constructor
    .intro z;have z1:=List.cons.inj z;refine⟨Dv.str.inj z1.1,?_⟩;cases ks with
     |nil=>rfl
     |cons x xs=>rw[dvs]at z1;cases z1.2
    .rintro⟨z1,z2⟩;rw[z1,z2,dvs]
   rw[e];exact k
 | call sn kn =>
   rw[AtK]at hA;obtain⟨v,hA,hv⟩:=hA;cases(show v=.int sn from hv);refine⟨a,h0,_,_,[.str q,.int sn,.int kn],[.str star],rfl,rfl,hA.sq,e0.sq,.cons (by rw[DAtK]) (.cons (by rw[DAtK]) (.cons (by rw[DAtK]) .nil)),.cons (by rw[DAtK]) .nil,by simp[cN,Dv.deep],λb hb=>?_⟩
   have e:b=(B! sn kn).isHole:=by
    show b=false;cases b with
    |false=>rfl
    |true=>exact g! (hb.mp rfl) (by simp)
   rw[e];exact k
end BB
namespace L2
open PySem PySem.Spec PyProof.Rows BB
end L2
namespace BB
open PySem L2
theorem iM{f:Th}(h:f.isHole=false):f.lies hole=false:=by
 cases f with
 | knot n ks =>
   rw[w!,h]
   have:aE (.knot n ks) hole=false:=by
    rw[cU];exact fX dz
   rw[this];rfl
 |call s k=>rw[w!]
theorem fm{f a b:Th}(h1:aE f a=true)(h2:aE f b=true):aE a b=true:=by
 obtain⟨n,ks,us,rfl,rfl,e3,hh⟩:=bz h1;obtain⟨n',Fj,vs,e1,rfl,e4,_⟩:=bz h2;cases e1
 have hn:(o! n us).isHole=false:=by
  cases hz:(o! n us).isHole with
  |false=>rfl
  | true =>
    rw[cU,fX hz]at h1;cases h1
 show(!(o! n us).isHole && decide (n=n) && decide (us.length=vs.length))=true;rw[hn];have:us.length=vs.length:=by omega
 simp[this]
theorem oH{f a b:Th}(h:aE a b=true):aE f a=aE f b:=by
 cases h1:aE f a with
 | true =>
   cases h2:aE f b with
   |true=>rfl
   | false =>
     have:=fm (f:=a) (a:=f) (b:=b) (by rw[cU];exact h1) h;rw[h2]at this;cases this
 | false =>
   cases h2:aE f b with
   |false=>rfl
   | true =>
     have:=fm (f:=b) (a:=f) (b:=a) (by rw[cU];exact h2) (by rw[cU];exact h);rw[h1]at this;cases this
theorem sw{n:Xk}{us vs:List Th}(f:Th)(h:us.length=vs.length):aE f (.knot n us)=aE f (.knot n vs):=by
 cases f with
 |knot m ks=>show(_ && _ && decide (ks.length=us.length))=(_ && _ && decide (ks.length=vs.length));rw[h]
 |call s k=>rfl
theorem qW:∀ks us:List Th,(dJ ks us).length=min ks.length us.length
 | [],us=>by rw[dJ];simp
 |k::ks,[]=>by rw[dJ];simp
 |k::ks,u::us=>by rw[dJ,W3,qW ks us,W3,W3];omega
mutual
theorem ss:∀f a b:Th,f.lies (a.com b)=(f.lies a && f.lies b)
 |.call s k,a,b=>by rw[w!,w!,w!];rfl
 | .knot n ks,a,b=>by
   cases hh:(o! n ks).isHole with
   | true =>
     rw[w!,w!,w!,hh];rfl
   | false =>
     by_cases Cs:aE a b=true
     .obtain⟨m,us,vs,rfl,rfl,e3,_⟩:=bz Cs;have hc:(o! m us).com (.knot m vs)=.knot m (dJ us vs):=by rw[Th.com,b! Cs];rfl
      have hl:(dJ us vs).length=us.length:=by rw[qW];omega
      rw[hc,w!,w!,w!,hh,Bool.false_or,Bool.false_or,Bool.false_or,sw (.knot n ks) hl,<-oH (f:=.knot n ks) Cs];cases hs:aE (.knot n ks) (.knot m us)with
      |false=>rfl
      | true =>
        show(true && aP ks (dJ us vs))=((true && aP ks us) && (true && aP ks vs));rw[Bool.true_and,Bool.true_and,Bool.true_and];obtain⟨_,_,_,e1,e2,e4,_⟩:=bz hs;cases e1;cases e2;exact mT ks us vs e4 (by omega)
     .have hc:a.com b=hole:=by rw[kQ,a! Cs]
      rw[hc,iM hh];cases h1:(o! n ks).lies a with
      |false=>rfl
      | true =>
        cases h2:(o! n ks).lies b with
        |false=>rfl
        | true =>
          rw[w!,hh,Bool.false_or,XY]at h1 h2;exact g! (fm h1.1 h2.1) Cs
theorem mT:∀ks us vs:List Th,ks.length=us.length->ks.length=vs.length->aP ks (dJ us vs)=(aP ks us && aP ks vs)
 | [],us,vs,_,_=>by rw[aP,aP,aP];rfl
 |k::ks,[],vs,h,_=>by simp at h
 |k::ks,u::us,[],_,h=>by simp at h
 | k::ks,u::us,v::vs,h1,h2=>by
   rw[dJ,bd,bd,bd,ss k u v,mT ks us vs (by simpa using h1) (by simpa using h2)];cases k.lies u <;> cases k.lies v <;> cases aP ks us <;> cases aP ks vs <;> rfl
end
def PAtK(K:WQ)(H:Hp)(p:List Int×Th)(a:WS):Prop:=∃pa ta,H a=some (.tup [.ref pa,.ref ta])/\H pa=some (.tup (p.1.map q!))/\AtK .i K H p.2 ta
def PsAtK(K:WQ)(H:Hp)(ps:List (List Int×Th))(as:List WS):Prop:=Xs (PAtK K H) ps as
theorem PAtK.mono(k:KT H H'){p:List Int×Th}(h:PAtK K H p a):PAtK K H' p a:=by
 obtain⟨pa,ta,h1,h2,h3⟩:=h;exact⟨pa,ta,k _ _ h1,k _ _ h2,h3.mono k⟩
theorem PsAtK.mono(k:KT H H'){ps:List (List Int×Th)}(h:PsAtK K H ps as):PsAtK K H' ps as:=y! (λ_ _ e=>PAtK.mono k e) h
end BB
open BB.PsAtK renaming mono->J!
namespace L2
open PySem PySem.Spec PySem.Calls PyProof.Rows PySem.W
section
variable{g:Array GenState}{d:Drawn}{t:Nat}{os:OsState}{C:WS}{o:Ze}{K:Frag}
end
section
variable{cd:WV}{outer:List Env}{E:XK}
end
open PySem.SeqAt
theorem fM{k:Nat}(hr:Room k A):A.units+2<YM:=by
 have:=hr.units;omega
end L2
namespace BB
open PySem
end BB
namespace L2
open PySem PySem.Spec PySem.Calls PyProof.Rows BB
end L2
namespace PySem
end PySem
namespace L2
open PySem PySem.Spec PySem.Calls PyProof.Rows BB
def acN(K:WQ)(tl:TE):TI:=λZ H R=>tl Z H λx H1=>∃a,x=.ref a/\(((∃xs,SqL K H1 a xs)/\R (Itl K a) H1)\/((∃xs,SqT K H1 a xs)/\R (Itt K a) H1))
theorem abv{l:X8}(hl:PE X l tl):PI X tg l (acN X.K tl):=by
 intro U s Z H R I h;refine thn (hl U s Z H _ I h) λv s1⟨x,H1,I1,r1,q1⟩=>?_;obtain⟨a,e,q⟩:=q1;subst e;cases r1
 have fp:∀b∈[s1.heap.objs.size],km X U H1 b:=λb hb=>by
  have e:b=s1.heap.objs.size:=by simpa using hb
  subst e;exact I1.fpOk (WY _) (I1.hok.fresh (WY _))
 rcases q with⟨⟨xs,hq⟩,q⟩|⟨⟨xs,hq⟩,q⟩
 .obtain⟨its,rv,p,hz⟩:=I1.list hq;refine wpAny_pyIter_list p.isList ?_;exact⟨s1.heap.objs.size,[s1.heap.objs.size],_,_,H1,rfl,I1.kept (t':=s1.toks) λb o e=>WW _ e,o9 a _,⟨_,W4 _ rfl,rfl,rfl⟩,fp,q⟩
 .obtain⟨its,rv,p,hz⟩:=I1.tuple hq;refine ZT (show s1.heap.IsTuple a its.toArray from p) ?_;exact⟨s1.heap.objs.size,[s1.heap.objs.size],_,_,H1,rfl,I1.kept (t':=s1.toks) λb o e=>WW _ e,mV a _,⟨_,W4 _ rfl,rfl,rfl⟩,fp,q⟩
end L2
namespace BB
open PySem L2
theorem vp{J:It}(zs:List α)(f:α->V)(hz:zs.length=xs.length)(hn:xs.length<=1000000)
 (Fe:∀i H2,k! H H2->i<xs.length->J.go i H2) (Bf:∀H2,k! H H2->J.stop xs.length H2) (Cj:∀(i:Nat)H2 x H3,k! H H2->i<xs.length->J.yld i H2 x H3->H3=H2/\xs[i]?=some x)
 (hb:∀(i:Nat)x z H2(R:VK)(W':Hp->Prop),xs[i]?=some x->zs[i]?=some z->k! H H2->(∀H3,k! H2 H3->R (f z) H3)->g x (cσ js Z) H2 λAz H3=>tt Az H3 λb H4=>if b=true then te Az H4 R else W' H4)
 (B2:∀D H',H D=none->k! H H'->H' D=some (.lst (zs.map f))->fin D H') :
 ∀D,H D=none->∃(n:Nat)(W:Nat->Hp->Prop),W 0 (upd H D (.lst []))/\gX js g tt te Z J D n W λH'=>fin D H':=by
 intro D hD;refine⟨xs.length,λi H'=>i<=xs.length/\k! H H'/\H' D=some (.lst ((zs.take i).map f)),⟨Xi _,ae hD _,by rw[ac];rfl⟩,?_⟩;rintro i H' ⟨hi,s1,e1⟩;by_cases Am:i<xs.length
 .refine .inr ⟨Am,Fe i H' s1 Am,λv H1 hy=>?_⟩;obtain⟨e,hx⟩:=Cj i H' v H1 s1 Am hy;subst e;obtain⟨z,B1⟩:∃z,zs[i]?=some z:=⟨_,WR (by omega)⟩;refine hb i v z _ _ _ hx B1 s1 λH3 s3=>⟨_,s3 _ _ e1,?_,Am,am (s1.trans s3) hD,?_⟩
  .rw[WO,XO];have:Xe=16777216:=sizeLine_eq;omega
  .rw[ac,take_snoc B1,Xc];rfl
 .have Be:i=xs.length:=by omega
  subst Be;refine .inl ⟨Bf _ s1,B2 D H' hD s1 ?_⟩;rw[e1,YI (by omega)]
theorem tW(zs:List α)(f:α->V)(hS:SqT K H a xs)(hz:zs.length=xs.length)(hn:xs.length<=1000000)
 (hb:∀(i:Nat)x z H2(R:VK)(W':Hp->Prop),xs[i]?=some x->zs[i]?=some z->k! H H2->(∀H3,k! H2 H3->R (f z) H3)->g x (cσ js Z) H2 λAz H3=>tt Az H3 λb H4=>if b=true then te Az H4 R else W' H4)
 (B2:∀D H',H D=none->k! H H'->H' D=some (.lst (zs.map f))->fin D H') :
 ∀D,H D=none->∃(n:Nat)(W:Nat->Hp->Prop),W 0 (upd H D (.lst []))/\gX js g tt te Z (Itt K a) D n W λH'=>fin D H' :=
 vp zs f hz hn (λi H2 s hi=>⟨xs,xs[i],s.seqT hS,WR hi⟩) (λH2 s=>⟨xs,s.seqT hS,WY _⟩) (λi H2 x H3 s hi hy=>⟨hy.1,hy.2 xs (s.seqT hS)⟩) hb B2
end BB
namespace HT
open PySem PySem.Spec PyProof.Rows
theorem adjust_back(n:Nat):Z5 none none (-1) (n:Int)=((n:Int) - 1,-1):=rfl
theorem places_back(n:Nat):YJ ((n:Int) - 1) (-1) (-1)=n:=by
 unfold YJ;have h1:¬((-1:Int) > 0):=by omega
 simp only[h1,if_false];by_cases h:n=0
 .subst h;decide
 .have h2:((n:Int) - 1) > -1:=by omega
  simp only[h2,if_true];rw[show(- -1:Int)=1 by decide,Int.ediv_one];omega
theorem pick_back(xs:Array WV):((XG xs.size).filterMap λ(m:Nat)=>xs[(((xs.size:Nat):Int) - 1+(m:Int) * (-1)).toNat]?).toArray=xs.toList.reverse.toArray:=by
 congr 1
 have e:∀m∈XG xs.size,xs[(((xs.size:Nat):Int) - 1+(m:Int) * (-1)).toNat]?=xs.toList.reverse[m]?:=by
  intro m hm;have Ga:=YY.mp hm;rw[List.getElem?_reverse (by rw[XR];exact Ga),Array.getElem?_toList,XR];congr 1;omega
 have f:∀(l:List Nat)(f g:Nat->Option WV),(∀m∈l,f m=g m)->l.filterMap f=l.filterMap g:=by
  intro l f g;induction l with
  |nil=>intro _;rfl
  | cons y ys ih =>
    intro h;rw[Z6,Z6,h y (by simp),ih (λm hm=>h m (by simp[hm]))]
 rw[f _ _ _ e]
 have gl:∀(ys:List WV),(XG ys.length).filterMap (λm=>ys[m]?)=ys:=by
  intro ys;have:=pick_run ys.toArray 0 ys.length;simp only[List.filterMap_map]at this
  have e3:((λx=>ys.toArray[x]?) ∘ λx=>0+x)=λm=>ys[m]?:=by
   funext m;simp
  rw[e3]at this;rw[this];simp
 have:=gl xs.toList.reverse;rw[Yt,XR]at this;exact this
theorem sliceApplied_back{t:Tok}{Q:Int×Int×Nat->WZ->Prop}(hs:s.heap.IsSliceOf sl .none .none (.int (-1) t))
 (h:Q ((n:Int) - 1,-1,n) s):Xa (Xu prog w) A (Builtin.Slice.sliceApplied (.ref sl) (pure (n:Int))) Q E s:=by
 obtain⟨os,DL,Cz,Bq⟩:=id hs;unfold Builtin.Slice.sliceApplied Builtin.Slice.sliceFields;refine WN (WN (XW DL Bq (x:=.none) rfl (WN (XW DL Bq (x:=.none) rfl (WN (XW DL Bq (x:=.int (-1) t) rfl (WX ?_)))))));refine WN (slicePart_int ?_);show Xa _ _ (if((-1:Int) == 0)=true then _ else _) _ _ s;rw[a! (by decide)];refine WN (slicePart_none (WN (slicePart_none (WN (WX ?_)))));show Xa _ _ (match Z5 none none (-1) (n:Int)with|(lo,hi)=>pure (lo,(-1:Int),YJ lo hi (-1))) _ _ s;rw[adjust_back n];show Xa _ _ (pure ((n:Int) - 1,(-1:Int),YJ ((n:Int) - 1) (-1) (-1))) _ _ s;rw[places_back];exact WX h
theorem getItem_tuple_back{t:WS}{tk:Tok}(ht:IsTup s.heap t items)(hs:s.heap.IsSliceOf sl .none .none (.int (-1) tk))
 (h:Q (.ref s.heap.objs.size) {s with heap:=s.heap.push {cls:=.type "tuple",data:=.seq items.toList.reverse.toArray}})
 (hsz:items.size<=Xe):Xa (Xu prog w) A (getItem (.ref t) (.ref sl)) Q E s:=by
 have Bd:sizeOk (.seq items.toList.reverse.toArray):=by
  show items.toList.reverse.toArray.size<=Xe;rw[W2,Yt,XR];exact hsz
 obtain⟨os,DL,Cz,Bq⟩:=id hs;have Jc:s.TypeIs (.ref sl) "slice":=⟨os,DL,Cz⟩;unfold getItem
 try with_reducible refine Yx ?_
 first|refine WN (WX ?_)|skip
 refine WN (wpAny_sequenceKey ht.typeIs (by decide) ?_)
 refine WN (X2 (name:=WT "__getitem__") ht.typeIs XQ
  (X5 XQ ht.typeIs entry_tuple_getitem ?_ (args_tuple_getitem _ _)))
 show Xa _ _ (ZY (.ref t) >>= _) _ _ s;refine WN (tupleItemsOf_ ht ?_);refine WN (ZI Jc ?_);rw[b! (by decide)];refine WN (sliceApplied_back hs ?_)
 have Dc:¬((((items.size:Nat):Int) - 1 == 0 && (-1:Int) == 1 && items.size == items.size)=true):=by
  simp
 show Xa _ _ (if(((items.size:Nat):Int) - 1 == 0 && (-1:Int) == 1 && items.size == items.size)=true then _ else _) _ _ s;rw[a! Dc,pick_back]
 first
  |exact WN (m:=YN _) (Ye (WX ⟨_,rfl,WX h⟩) Bd)
  |exact WN (m:=YN _) (Ye (WN (WX (WX ⟨_,rfl,WX h⟩))) Bd)
  |exact WN (WN (m:=YN _) (Ye (WX (WX ⟨_,rfl,WX h⟩)) Bd))
  |exact WN (WN (m:=YN _) (Ye (WX ⟨_,rfl,WX h⟩) Bd))
end HT
namespace L2
open PySem PySem.Spec PyProof.Rows
section
variable{p2 p3 p4:Z9}
def BkR(X:Cx)(r:V->Hp->VK->Prop):Prop :=
 ∀(U:List (WS×Ze))(s:WZ)(Z:St)(H:Hp)(x:V)(v:WV)(t:Tok)(sl:WS)(Q:VK),Inv X U Z H s->RelV x v->s.heap.IsSliceOf sl .none .none (.int (-1) t)->r x H Q ->
   ∃T id,typeLookup (.type T) "__getitem__"=pure (some (.builtin id))/\s.TypeIs v T/\Xa (Xu X.prog X.w) X.A (getItem v (.ref sl)) (EP X U Z Q) X.xe s
def tBk(r:V->Hp->VK->Prop)(te:TE):TE:=λZ H Q=>te Z H λx H1=>r x H1 Q
theorem vB{r:V->Hp->VK->Prop}(hr:BkR X r)(he:PE X e te):PE X (.Subscript e (.Slice none none (some (.UnaryOp .USub (.Constant (.int 1) 0 p3) p4)) p2) pos) (tBk r te):=by
 intro U s Z H Q I h;refine Subscript_ (thn (he U s Z H _ I h) λv s1⟨x,H1,I1,r1,q1⟩=>?_);refine wpAny_Slice ?_;rw[evalPart_none];refine WX ?_;refine WX ?_;have LX:PO X (some (.UnaryOp .USub (.Constant (.int 1) 0 p3) p4)) (aaL (tUn (rU λi=>.int (-i)) (tC (.int 1)))):=dk (ab2 abp ai);refine thn (LX U s1 Z H1 (λo H'=>o=some (-1)/\r x H' Q) I1 ⟨1,rfl,_,rfl,rfl,q1⟩) λvs s2⟨o,H2,I2,ps,ho,q2⟩=>?_;subst ho;cases ps with
 | int i t =>
   have I4:Inv X U Z H2 {s2 with heap:=s2.heap.push {cls:=.type "slice",data:=.fields #[.none,.none,.int (-1) t]}}:=I2.kept (t':=s2.toks) λb ob q=>WW _ q;obtain⟨T,id,hT,ht,hg⟩:=hr U {s2 with heap:=s2.heap.push {cls:=.type "slice",data:=.fields #[.none,.none,.int (-1) t]}} Z H2 x v t s2.heap.objs.size Q I4 r1 (Heap.IsSliceOf.new ..) q2;show Xa (Xu X.prog X.w) X.A (subscriptTail e (.Slice none none (some (.UnaryOp .USub (.Constant (.int 1) 0 p3) p4)) p2) v (.ref s2.heap.objs.size)) (EP X U Z Q) X.xe {s2 with heap:=s2.heap.push {cls:=.type "slice",data:=.fields #[.none,.none,.int (-1) t]}};exact tail_any (ops:=[v,.ref s2.heap.objs.size]) ht hT hg (by with_unfolding_all rfl)
def acM(K:WQ):V->Hp->VK->Prop:=λx H Q=>∃a xs,x=.ref a/\SqT K H a xs/\∀p,H p=none->Q (.ref p) (upd H p (.tup xs.reverse))
def acK(K:WQ):V->Hp->VK->Prop:=λx H Q=>∃a xs,x=.ref a/\SqL K H a xs/\∀p,H p=none->Q (.ref p) (upd H p (.lst xs.reverse))
theorem Vals.rev(r:Vals xs us):Vals xs.reverse us.reverse:=by
 induction r with
 |nil=>exact .nil
 |cons r1 r2 ih=>rw[X9,X9];exact ih.append (.cons r1 .nil)
theorem abe:BkR X (acM X.K):=by
 intro U s Z H x v t sl Q I rx hs h;obtain⟨a,xs,rfl,hx,q⟩:=h;cases rx;obtain⟨its,r,ht,hz⟩:=I.tuple hx;have hlen:its.toArray.size=xs.length:=by rw[W2];exact r.length.symm
 refine⟨"tuple",_,XQ.lookup,ht.typeIs,?_⟩;refine HT.getItem_tuple_back ht hs ?_ (by rw[hlen];exact hz);refine⟨.ref s.heap.objs.size,_,I.laid (t':=s.toks) (o:=.tup xs.reverse) (λb ob q=>WW _ q) (WY _) ?_,rfl,q _ (I.hok.fresh (WY _))⟩;exact⟨by rw[Yt];exact hz,_,0,r.rev,W4 _ rfl⟩
theorem mO(its:List WV):slicePick its.toArray none none (some (-1))=its.reverse.toArray:=by
 unfold slicePick;have e:sliceBounds none none (some (-1)) its.toArray.size=((its.toArray.size:Int) - 1,-1,-1):=rfl;rw[e];unfold sliceRange;have h1:¬((-1:Int) > 0):=by omega
 simp only[h1,if_false]
 have hc:(if((its.toArray.size:Nat):Int) - 1 > -1 then(((its.toArray.size:Nat):Int) - 1 - -1 - -1 - 1) / (- -1)else 0).toNat=its.toArray.size:=by
  by_cases h:its.toArray.size=0
  .rw[h];decide
  .rw[b! (by omega),show(- -1:Int)=1 by decide,Int.ediv_one];omega
 rw[hc,List.filterMap_map];have:=HT.pick_back its.toArray;rw[<-this];congr 1;congr 1;funext m;show its.toArray[(((its.toArray.size:Nat):Int) - 1+-1 * (m:Int)).toNat]?=_;rw[Int.mul_comm]
theorem zr:BkR X (acK X.K):=by
 intro U s Z H x v t sl Q I rx hs h;obtain⟨a,xs,rfl,hx,q⟩:=h;cases rx;obtain⟨its,r,ht,hz⟩:=I.list hx;have hlen:=r.length;refine⟨"list",_,slot_list_getitem.lookup,ht.isList.typeIs,?_⟩;refine wpAny_getItem_list_slice ht.isList hs .none .none (.int _ _) (by simp) ?_ (by rw[W2] <;> omega);rw[mO];refine⟨.ref s.heap.objs.size,_,I.laid (t':=s.toks) (o:=.lst xs.reverse) (λb ob q=>WW _ q) (WY _) ?_,rfl,q _ (I.hok.fresh (WY _))⟩;exact⟨by rw[Yt];exact hz,_,0,r.rev,W4 _ rfl⟩
end
open PySem.Calls
def isStr(z:Xk):WV->Bool
 |.str y _=>y == z
 |_=>false
def aas(K:WQ):V->List V->Hp->VK->Prop:=λx vs H Q=>∃(l:WS)(zs:List Xk)(z:Xk)(j:Nat),x=.ref l/\vs=[.str z]/\SqL K H l (zs.map K!)/\zs[j]?=some z/\(∀i,i<j->zs[i]?≠some z)/\zs.length<=100000/\Q (.int (j:Nat)) H
theorem ww:MtM X "list.index" (aas X.K):=by
 intro U s Z H x vs v us Q I rx rv h;obtain⟨l,zs,z,j,rfl,rfl,hS,hj,Dc,hz,q⟩:=h;cases rx;obtain⟨u,rfl,t,rfl⟩:=rv.one;obtain⟨its,r,pl,_⟩:=I.list hS;have hlen:=r.length;rw[WO]at hlen;obtain⟨⟨cls,dd,data,sl⟩,ho,hc,n,hd⟩:=pl.isList;simp only at hc hd;subst hc hd;have Ep:j<zs.length:=(glE hj)
 have get:∀m,m<zs.length->∃y t',its[m]?=some (.str y t')/\zs[m]?=some y:=λm hm=>by
  obtain⟨v,hv,rv⟩:=r.get (i:=m) (x:=.str zs[m]) (by rw[W0,WR hm];rfl);obtain⟨t',rfl⟩:=rv;exact⟨_,t',hv,WR hm⟩
 refine call_meets PySem.F.slot_list_index ⟨_,ho,rfl⟩ PySem.F.entry_list_index (PySem.F.args_list_index_2 _ _)
  (SeqAt.list_indexAt l its.toArray n dd sl (.str z t) (isStr z) j (by rw[W2];omega) (by omega) ?_ ?_) ⟨ho,λy hy=>?_,⟨.int (j:Nat),H,I.tok _,⟨_,rfl⟩,q⟩⟩
 .obtain⟨y,t',h1,h2⟩:=get j Ep;rw[hj]at h2;cases h2
  have h3:its.toArray[j]'(by rw[W2];omega)=.str z t':=by
   rw[WR (by omega)]at h1;simpa using h1
  rw[h3];show(z == z)=true;simp
 .intro m hm Am;obtain⟨y,t',h1,h2⟩:=get m (by omega)
  have h3:its.toArray[m]'hm=.str y t':=by
   rw[WR (by omega)]at h1;simpa using h1
  rw[h3];show(y == z)=false;refine Yj.mpr λe=>Dc m Am ?_;rw[h2,beq_iff_eq.mp e]
 .have Ee:y∈its:=by simpa using hy
  obtain⟨m,hm,rfl⟩:=List.getElem_of_mem Ee;obtain⟨y,t',h1,h2⟩:=get m (by omega);rw[WR hm]at h1;have h3:=Xm h1;rw[h3];exact SeqAt.EqAt.str_str _ _ _ _
end L2
namespace BB
open PySem L2
structure cS(ks:List (Xk×Int)):Prop where
 ne:1<=ks.length
 le:ks.length<=8
 low:∀k∈ks,Low k.1/\k.1.length<=8
 num:∀k∈ks,0<=k.2/\k.2<=3
 zero:∃k∈ks,k.2=0
 nd:∀(i j:Nat)(k l:Xk×Int),ks[i]?=some k->ks[j]?=some l->k.1=l.1->i=j
mutual
def Th.FitS(ks:List (Xk×Int))(S C:Int):Th->Prop
 |.knot n ts=>(n,(ts.length:Int))∈ks/\FitSs ks S C ts
 |.call s k=>0<=s/\s<S/\0<=k/\k<C
def FitSs(ks:List (Xk×Int))(S C:Int):List Th->Prop
 | []=>True
 |t::ts=>t.FitS ks S C/\FitSs ks S C ts
end
theorem FitSs.of{ks:List (Xk×Int)}:∀{ts:List Th},(∀t∈ts,t.FitS ks S C)->FitSs ks S C ts
 | [],_=>by rw[FitSs];trivial
 | t::ts,h=>by
   rw[FitSs];exact⟨h t (Xh ..),FitSs.of λu hu=>h u (Xf _ hu)⟩
theorem kI(h:∀t∈ts,t.tall<=n):aC ts<=n:=by
 induction ts with
 |nil=>rw[aC];exact Xi _
 | cons t ts ih =>
   rw[aC];have h1:=h t (Xh ..);have h2:=ih λu hu=>h u (Xf _ hu);omega
def SameB(l:WS)(H H':Hp):Prop:=∀b o,b≠l->H b=some o->H' b=some o
theorem SameB.of{l:WS}(h:k! H H'):SameB l H H':=λb o _ e=>h b o e
def RowAt(H:Hp)(row:List Th)(a:WS):Prop:=∃as:List WS,H a=some (.tup (as.map i!))/\Ats H row as
theorem RowAt.mono(k:KT H H'){row:List Th}(h:RowAt H row a):RowAt H' row a:=by
 obtain⟨as,h1,h2⟩:=h;exact⟨as,k _ _ h1,h2.mono k⟩
structure BookAt(H:Hp)(ins outs:List (Xk×Int))(head:Th)(rows:List (List Th))(r ia oa ha ra:WS)(Ag AG AM:List WS):Prop where
 bk:H r=some (.tup [.ref ia,.ref oa,.ref ha,.ref ra])
 inE:H ia=some (.tup (Ag.map i!))
 inK:KsAt H ins Ag
 outE:H oa=some (.tup (AG.map i!))
 outK:KsAt H outs AG
 hd:At H head ha
 rl:H ra=some (.tup (AM.map i!))
 rw:Xs (RowAt H) rows AM
theorem BookAt.mono(k:KT H H'){r:WS}{AG:List WS}(b:BookAt H ins outs head rows r ia oa ha ra Ag AG AM):BookAt H' ins outs head rows r ia oa ha ra Ag AG AM :=
 ⟨k _ _ b.bk,k _ _ b.inE,b.inK.mono k,k _ _ b.outE,b.outK.mono k,b.hd.mono k,k _ _ b.rl,y! (λ_ _ e=>e.mono k) b.rw⟩
def Bk(H:Hp)(ins outs:List (Xk×Int))(head:Th)(rows:List (List Th))(r:WS):Prop:=∃ia oa ha ra Ag AG AM,BookAt H ins outs head rows r ia oa ha ra Ag AG AM
theorem Bk.mono(k:KT H H'){r:WS}(b:Bk H ins outs head rows r):Bk H' ins outs head rows r:=by
 obtain⟨ia,oa,ha,ra,Ag,AG,AM,b⟩:=b;exact⟨ia,oa,ha,ra,Ag,AG,AM,b.mono k⟩
end BB
open BB.Th renaming FitS->A!
namespace L2
open PySem PySem.Spec PySem.Calls PyProof.Rows PySem.SeqAt
end L2
namespace BB
open PySem L2
end BB
namespace L2
open PySem PySem.Spec PyProof.Rows
section
variable{p p2 AH:Z9}
end
end L2
namespace BB
open PySem L2
theorem fN{F:Hp->α->WS->Prop}{J:It}(zs:List α)(hF:∀H1 H2 z p,KT H1 H2->F H1 z p->F H2 z p)(hz:zs.length=xs.length)(hn:xs.length<=1000000)
 (Fe:∀i H2,k! H H2->i<xs.length->J.go i H2) (Bf:∀H2,k! H H2->J.stop xs.length H2) (Cj:∀(i:Nat)H2 x H3,k! H H2->i<xs.length->J.yld i H2 x H3->H3=H2/\xs[i]?=some x)
 (hb:∀(i:Nat)x z H2(R:VK)(W':Hp->Prop),xs[i]?=some x->zs[i]?=some z->k! H H2->(∀H3 p,k! H2 H3->F H3 z p->R (.ref p) H3)->g x (cσ js Z) H2 λAz H3=>tt Az H3 λb H4=>if b=true then te Az H4 R else W' H4)
 (B2:∀D H' as,H D=none->k! H H'->H' D=some (.lst (as.map i!))->Xs (F H') zs as->fin D H') :
 ∀D,H D=none->∃(n:Nat)(W:Nat->Hp->Prop),W 0 (upd H D (.lst []))/\gX js g tt te Z J D n W λH'=>fin D H':=by
 intro D hD;refine⟨xs.length,λi H'=>i<=xs.length/\k! H H'/\∃as:List WS,H' D=some (.lst (as.map i!))/\Xs (F H') (zs.take i) as,⟨Xi _,ae hD _,[],by rw[ac];rfl,.nil⟩,?_⟩;rintro i H' ⟨hi,s1,as,e1,hp⟩;by_cases Am:i<xs.length
 .refine .inr ⟨Am,Fe i H' s1 Am,λv H1 hy=>?_⟩;obtain⟨e,hx⟩:=Cj i H' v H1 s1 Am hy;subst e;obtain⟨z,B1⟩:∃z,zs[i]?=some z:=⟨_,WR (by omega)⟩;have hl:(zs.take i).length=as.length:=W5 hp;rw[XO]at hl;refine hb i v z _ _ _ hx B1 s1 λH3 p s3 NG=>⟨_,s3 _ _ e1,?_,Am,am (s1.trans s3) hD,as++[p],?_,?_⟩
  .rw[WO];have:Xe=16777216:=sizeLine_eq;omega
  .rw[ac,Xc];rfl
  .have kt:KT H3 (upd H3 D (.lst (as.map i!++[.ref p]))):=aK (s3 _ _ e1);rw[take_snoc B1];exact t! (y! (λx y e=>hF _ _ _ _ ((j! s3).trans kt) e) hp) (.cons (hF _ _ _ _ kt NG) .nil)
 .have Be:i=xs.length:=by omega
  subst Be;refine .inl ⟨Bf _ s1,B2 D H' as hD s1 e1 ?_⟩;rw[YI (by omega)]at hp;exact hp
end BB
namespace L2
open PySem PySem.Spec PyProof.Rows
theorem us1:∀{us:List α},us.length=1->∃a,us=[a]
 | [a],_=>⟨a,rfl⟩
theorem us2:∀{us:List α},us.length=2->∃a b,us=[a,b]
 | [a,b],_=>⟨a,b,rfl⟩
theorem us3:∀{us:List α},us.length=3->∃a b c,us=[a,b,c]
 | [a,b,c],_=>⟨a,b,c,rfl⟩
theorem us4:∀{us:List α},us.length=4->∃a b c d,us=[a,b,c,d]
 | [a,b,c,d],_=>⟨a,b,c,d,rfl⟩
theorem us5:∀{us:List α},us.length=5->∃a b c d e,us=[a,b,c,d,e]
 | [a,b,c,d,e],_=>⟨a,b,c,d,e,rfl⟩
end L2
namespace PySem
open Sem (wp)
section
variable{K:Type}[DecidableEq K]{knd:HeapKind prog w K}
end
end PySem
namespace L2
open PySem PySem.Spec PyProof.Rows BB
end L2
namespace BB
open PySem L2
theorem abV:(WT "*")≠q:=by decide +kernel
end BB
namespace PySem
open Sem (wp)
section
variable{wr:List WS}{G:Array GenState->Array GenState->Prop}{P:Nat->WV->Prop}{St:Nat->WZ->Prop}
end
end PySem
namespace L2
open PySem PySem.Spec PyProof.Rows
section
variable{o:X8}{to:TE}{p2 AH apos Aw:Z9}
end
end L2
namespace PySem
open Sem (wp)
namespace F
theorem bb_list_nokeys:typeLookup (.type "list") "keys"=pure none:=by rw[Y6,Yv];kernel_rfl
end F
section
variable{xs:Array WV}{k:Nat}
theorem bb_nokeysL{Q:Option WV->WZ->Prop}(hA:A.handled=none)(hx:s.heap.get? a=some {cls:=.type "list",data:=.seq xs k})
 (q:∀h' tk,(∀b o,s.heap.get? b=some o->h'.get? b=some o)->Q none {s with heap:=h',toks:=tk}):Xa (Xu prog w) A (getAttr? (.ref a) "keys") Q E s:=by
 obtain⟨hp,g,d,tk,os⟩:=s;have gT:∀z,(⟨hp,g,d,z,os⟩:WZ).TypeIs (.ref a) "list":=λ_=>⟨_,hx,rfl⟩;have g1:=sub_AttributeError;have g3:=F.slot_list_getattribute.lookup;have g4:=F.slot_list_getattribute.bind (.ref a);have g5:=am_list_getattr_none;unfold getAttr? getAttrBy? getAttrBy
 repeat (any_goals (first|assumption|exact gT _|((with_reducible show Xa _ _ (call (Value.builtin "list.__getattribute__") _ _) _ _ _);refine call_meets F.slot_list_getattribute (gT _) am_entry_list_getattribute (F.args_list_getattribute_2 _ _) (meets_getattribute_miss_list a xs k #[] "keys" _ F.bb_list_nokeys (by decide +kernel) (by decide)) ⟨hx,hA,λh' Uz e Ba=>?_⟩)|wp_step))
 obtain⟨t',u',he⟩:=Ba.there;show Xa _ _ (getattributeRaised _ _ _ _ _ _ _) _ _ _;unfold getattributeRaised
 repeat (any_goals (first|assumption|wp_step))
 exact q h' Uz Ba.keeps
end
end PySem
namespace L2
open PySem PySem.Spec PyProof.Rows
def dj:List (List Key×V)->List (List Key×V)->List (List Key×V)
 |f',[]=>f'
 |f',p::ps=>dj (putK f' p.1 p.2) ps
def PrA(H:Hp)(pr:List Key×V)(pa:WS):Prop:=∃ka,H pa=some (.tup [.ref ka,pr.2])/\H ka=some (.tup (pr.1.map kV))
theorem wQ{r:WV}{k:List Key}{f':List (List Key×V)}{Q:Unit->WZ->Prop}(hu:(tupleKind (av X.prog X.w)).room A)(I:Inv X U Z H s)(e:H a=some (.dT f'))(eb:H b=some (.tup (k.map kV)))(l:f'.length<Xe)(rv:RelV v r)(h:∀h' tk,YF a s.heap h'->Inv X U Z (upd H a (.dT (putK f' k v))) {s with heap:=h',toks:=tk}->Q () {s with heap:=h',toks:=tk}) :
 Xa (Xu X.prog X.w) A (dictSet a (.ref b) r) Q E s:=by
 obtain⟨z,hd,xs,rel,dd⟩:=tz I.hok e;have hz:xs.length<=Xe:=by rw[<-W5 rel];exact z
 have hl:(putK f' k v).length<=Xe:=by have:=bt f' k v;omega
 refine wpAny_dictSet_heap (hsz:=hz) hu (f9 I.hok eb) dd λh' Di hs=>h _ _ hs ?_;obtain⟨q,es,ep,hq,h2,h3,h4,_,h5⟩:=Di;refine fT I (by rw[e];exact YU) hs ⟨q,hq⟩ ⟨hl,hd,_,(rel.put k eb rv).keeps λc ys ec=>?_,q,es,ep,hq,h2,h3,h4,h5⟩;rw[aj (ej ec e (λz=>nomatch z))];exact ec
theorem uP{l:WS}{prs:List (List Key×V)}{ps:List WS}(hh:A.handled=none)(hu:A.units+8<YM)(hn:prs.length<=10000) :
 ∀(m i:Nat)(s:WZ)(tk:Tok)(H:Hp)(f':List (List Key×V)),prs.length - i=m->i<=prs.length->Inv X U Z H s->H d=some (.dT f')->f'.length<=i->km X U H it->s.heap.IsListIter it l i->H l=some (.lst (ps.map i!))->Xs (PrA H) prs ps ->
   (∀s',Inv X U Z (upd H d (.dT (dj f' (prs.drop i)))) s'->R (.ok (.ret .none)) s') ->
   codeAny (Xu X.prog X.w) A (.builtin "dict.update.loop" ⟨[.ref d,.ref it,.int i tk,.none],[]⟩) R s:=by
 intro m;induction m with
 | zero =>
   intro i s tk H f' hk hi I ed CN hf hit el Bu hR;have CF:i=prs.length:=by omega
   subst CF;obtain⟨its,rv,p,hz⟩:=I.list (l! (K:=X.K) el);have AS:prs.length=ps.length:=W5 Bu;have hl:=rv.length;rw[WO]at hl;obtain⟨f0,f1,f2,f3,f4,f5⟩:=hf;refine codeAny_builtin PySem.F.bb_entry_upd ?_;rw[Around.under_plainId G! _];show Xa _ A.in1 (pyNext (.ref it) >>= _) _ _ s;refine WN (wpAny_pyNext_list_end hh hit p.isList (by simp;omega) λh' eb=>?_);refine WN (WX (WX ?_));refine hR _ ?_;rw[List.drop_length]
   have e0:upd H d (.dT (dj f' []))=H:=by
    funext b;by_cases hb:b=d
    .rw[hb,ac,ed];rfl
    .rw[aj hb]
   rw[e0];exact I.turned (t':=s.toks) (λb o hb e=>eb b o hb e) f0 f1 f3 f4 f5
 | succ m ih =>
   intro i s tk H f' hk hi I ed CN hf hit el Bu hR;have Am:i<prs.length:=by omega
   have AS:prs.length=ps.length:=W5 Bu;obtain⟨its,rv,p,hz⟩:=I.list (l! (K:=X.K) el);have hl:=rv.length;rw[WO]at hl;obtain⟨pa,D7,ka,BY,CZ⟩:=H! Bu (WR Am);have hx:(ps.map i!)[i]?=some (.ref pa):=by rw[W0,D7];rfl
   obtain⟨u,UA,ru⟩:=rv.get hx;cases ru;obtain⟨f0,f1,f2,f3,f4,f5⟩:=id hf;refine codeAny_builtin PySem.F.bb_entry_upd ?_;rw[Around.under_plainId G! _];show Xa _ A.in1 (pyNext (.ref it) >>= _) _ _ s;refine WN (wpAny_pyNext_list_item hit p.isList (x:=.ref pa) (by simpa using UA) λh1 NH UB=>?_);have I1:Inv X U Z H {s with heap:=h1}:=I.turned (t':=s.toks) (λb o hb e=>(UB.2 b hb).trans e) f0 f1 f3 f4 f5;obtain⟨_,Ah,n2,UC,e2⟩:=(show ObjOk X.prog X.w H h1 pa (.tup [.ref ka,(prs[i]).2])from I1.hok pa _ BY)
   obtain⟨vv,rfl,UD⟩:∃vv,Ah=[.ref ka,vv]/\RelV (prs[i]).2 vv:=by
    cases UC with
    | cons a b =>
      cases b with
      | cons c d =>
        cases d;cases a;exact⟨_,rfl,c⟩
   have UE:(⟨h1,s.gens,s.drawn,s.toks,s.os⟩:WZ).TypeIs (.ref pa) "tuple":=⟨_,e2,rfl⟩;refine WN (Yx ?_);refine WN (wpAny_tryCatch ?_);unfold Builtin.Dict.pairItems;refine WN (ZI UE ?_);rw[b! (by decide)];refine WN (YB e2 rfl (WX ?_));show Xa _ _ (holding [.ref ka,vv] (dictSet d (.ref ka) vv)) _ _ _;refine Yx (wQ (k:=(prs[i]).1) ?_ I1 ed CZ (by have:=fJ;rw[sizeLine_eq];omega) UD λh2 tk2 DQ I2=>?_)
   .exact tupleKind_room_in1 (by omega)
   refine WX ⟨plainId_quiet G! _,?_⟩
   have JB:Y8 ((i:Int)+1)=.int ((i+1:Nat):Int) 0:=by
    show Value.int ((i:Int)+1) 0=_;rw[show((i+1:Nat):Int)=(i:Int)+1 by omega]
   rw[JB];have LY:it≠d:=λz=>by rw[z,ed]at f0;cases f0
   refine ih (i+1) _ 0 _ (putK f' (prs[i]).1 (prs[i]).2) (by omega) Am I2 ac (by have:=bt f' (prs[i]).1 (prs[i]).2;omega) ⟨by rw[aj LY];exact f0,f1,f2,f3,f4,f5⟩ ?_ ?_ ?_ λs' I'=>hR s' ?_
   .obtain⟨o,g1,r⟩:=NH;exact⟨o,(DQ.2 it LY).trans g1,r⟩
   .rw[aj (ej el ed (λz=>nomatch z))];exact el
   .refine y! (λx y e=>?_) Bu;obtain⟨Er,g1,g2⟩:=e;exact⟨Er,by rw[aj (ej g1 ed (λz=>nomatch z))];exact g1,by rw[aj (ej g2 ed (λz=>nomatch z))];exact g2⟩
   .rw[l6]at I';rw[List.drop_eq_getElem_cons Am];exact I'
def abG:List V->Hp->VK->Prop:=λxs H Q=>∃(l:WS)(ps:List WS)(prs:List (List Key×V)),xs=[.ref l]/\H l=some (.lst (ps.map i!))/\Xs (PrA H) prs ps/\prs.length<=10000/\∀d,H d=none->Q (.ref d) (upd H d (.dT (dj [] prs)))
theorem nY(hu:X.A.units+12<YM)(hc:X.calm=true):eQ X (.type "dict") abG:=by
 intro U s Z H xs us Q I r h;obtain⟨l,ps,prs,rfl,el,Bu,hn,q⟩:=h;obtain⟨u,rfl,rx⟩:=vals1 r;cases rx;obtain⟨z,its,n,rv,e⟩:=(show ObjOk X.prog X.w H s.heap l (.lst (ps.map i!))from I.hok l _ el);refine callType_codes (Q₁:=λobj Ac=>obj=.ref s.heap.objs.size/\Ac={s with heap:=s.heap.push {cls:=.type "dict",data:=.dict #[]}}) PySem.F.kt_called_dict (PySem.F.kt_typeCall_dict_1 _) PySem.F.entry_dict_init (kt_code_dict_new _ ⟨rfl,rfl⟩) ?_;rintro obj Ac ⟨rfl,rfl⟩;have gn:(s.heap.push {cls:=.type "dict",data:=.dict #[]}).DictOf (av X.prog X.w) s.heap.objs.size []:=Heap.DictOf.new s.heap;have gt:(s.heap.push {cls:=.type "dict",data:=.dict #[]}).get? l=some {cls:=.type "list",data:=.seq its.toArray n}:=WW _ e;refine⟨gn.typeIs,PySem.F.args_dict_init_2 _ _,?_⟩;have F':=I.hok.fresh (WY s.heap.objs.size);have I1:Inv X U Z (upd H s.heap.objs.size (.dT [])) {s with heap:=s.heap.push {cls:=.type "dict",data:=.dict #[]}}:=I.laid (a:=s.heap.objs.size) (o:=.dT []) (t':=s.toks) (λ_ _ q=>WW _ q) (WY _) (sV s.heap I.big);unfold Zt.«dict.__init__»;refine WN ?_;unfold Builtin.Dict.selfAndRest;refine WN (wpAny_notOrdered_dict gn.typeIs ?_);show Xa _ _ (pure (s.heap.objs.size,[Xl l])) _ _ _;refine WX ?_;show Xa _ _ (Builtin.Dict.updateFrom "dict.__init__" s.heap.objs.size (.ref l) [] .none) _ _ _;unfold Builtin.Dict.updateFrom;refine WN (ZI (T:="list") ⟨_,gt,rfl⟩ ?_);rw[b! (by decide)];refine WN (bb_nokeysL (A:=X.A.in1.in1) (I.ok.hd hc) gt λh1 Iq k1=>?_);have I2:Inv X U Z (upd H s.heap.objs.size (.dT [])) {s with heap:=h1,toks:=Iq}:=I1.kept (t':=Iq) λb o e=>k1 b o e;simp only[Option.isNone_none,if_true];refine WN (Zy ?_);obtain⟨od,es,ep,UG,gd2⟩:=id gn;have Am:s.heap.objs.size<h1.objs.size:=Xb (k1 _ _ UG);refine WN (wpAny_pyIter_list (l:=l) (items:=its.toArray) ⟨_,k1 _ _ gt,rfl,n,rfl⟩ ?_);refine WX ⟨plainId_quiet G! _,?_⟩;have UH:l≠s.heap.objs.size:=ax el F'
 have NI:Xs (PrA (upd H s.heap.objs.size (.dT []))) prs ps:=y! (λx y e=>by
  obtain⟨ka,g1,g2⟩:=e;exact⟨ka,by rw[aj (ax g1 F')];exact g1,by rw[aj (ax g2 F')];exact g2⟩) Bu
 have UI:(upd H s.heap.objs.size (.dT [])) h1.objs.size=none:=I2.hok.fresh (WY _);refine uP (A:=X.A.in1) (d:=s.heap.objs.size) (it:=h1.objs.size) (l:=l) (prs:=prs) (ps:=ps) (I.ok.hd hc) (by show X.A.units+1+8<YM;omega) hn prs.length 0 _ 0 (upd H s.heap.objs.size (.dT [])) [] (Nat.sub_zero _) (Xi _) (I2.kept (t':=Iq) λb o e=>WW _ e) ac (WY _) (I2.fpOk (WY _) UI) ⟨_,W4 _ rfl,rfl,rfl⟩ (by rw[aj UH];exact el) NI λs' I'=>?_;rw[l6,List.drop_zero]at I';exact⟨rfl,.ref s.heap.objs.size,_,I',rfl,q _ F'⟩
end L2
namespace BB
open PySem L2
theorem zN{k:Nat}(hr:L2.Room k A):A.units+12<YM:=by
 have:=hr.units;omega
theorem li{R:List Key->V->Prop}:∀(prs f':List (List Key×V)),(∀k v,aQ f' k=some v->R k v)->(∀p∈prs,R p.1 p.2) ->
 (∀k v,aQ (dj f' prs) k=some v->R k v)/\(∀k,((∃v,aQ f' k=some v)\/∃p∈prs,p.1=k)->∃v,aQ (dj f' prs) k=some v)
 | [],f',h1,_=>⟨h1,λk h=>by
   rcases h with h|⟨p,hp,_⟩
   .exact h
   .cases hp⟩
 | p::prs,f',h1,h2=>by
   have ih:=li (R:=R) prs (putK f' p.1 p.2) (λk v hv=>by
    rw[fB]at hv;by_cases e:k=p.1
    .rw[b! e]at hv;cases hv;rw[e];exact h2 p (Xh ..)
    .rw[a! e]at hv;exact h1 k v hv) (λx hx=>h2 x (Xf _ hx))
   refine⟨ih.1,λk h=>ih.2 k ?_⟩;by_cases e:k=p.1
   .left;exact⟨p.2,by rw[fB,b! e]⟩
   .rcases h with⟨v,hv⟩|⟨x,hx,Rz⟩
    .left;exact⟨v,by rw[fB,a! e];exact hv⟩
    .rcases W9.mp hx with rfl|hx
     .exact g! Rz.symm e
     .exact .inr ⟨x,hx,Rz⟩
end BB
namespace PySem
theorem bb_zip_next0{TI TO:WS}{k:Nat}{xs:Array WV}{x y a b:WV}{Q:Option WV->WZ->Prop}(D:ZipApart z TI TO i1 i2 l1 l2)
 (hz:IsZip s.heap z TI TO .none) (hTI:Zk s.heap TI (.ref i1) (.ref i2)) (hTO:Zk s.heap TO a b)
 (h1:s.heap.IsTupleIter i1 l1 k) (h2:s.heap.IsTupleIter i2 l2 k) (B0:s.heap.IsTuple l1 xs) (Bl:s.heap.IsTuple l2 ys) (hx:xs[k]?=some x) (hy:ys[k]?=some y)
 (hQ:∀h',IsZip h' z TI TO (Y8 s.heap.objs.size)->Zk h' TO x y->h'.IsTupleIter i1 l1 (k+1)->h'.IsTupleIter i2 l2 (k+1)->Zk h' s.heap.objs.size x y->h'.objs.size=s.heap.objs.size+1 ->
  (∀c o,c≠z->c≠TO->c≠i1->c≠i2->s.heap.get? c=some o->h'.get? c=some o)->Q (some (.ref s.heap.objs.size)) {s with heap:=h'}) :
 Xa (Xu prog w) A (pyNext (.ref z)) Q E s:=by
 have hT:s.TypeIs (.ref z) "zip":=⟨_,hz,rfl⟩;unfold pyNext;refine WN (wpAny_attempt (X2 (name:=WT "__next__") hT F.slot_zip_next (X5 F.slot_zip_next hT F.entry_zip_next ?_ (F.args_zip_next_1 _))));exact bb_zip_itemA D hz hTI hTO h1 h2 B0 Bl hx hy λh' a1 a2 a3 a4 a5 a6 a7=>WX (hQ h' a1 a2 a3 a4 a5 a6 a7)
end PySem
namespace L2
open PySem PySem.Spec PyProof.Rows
def Itz(K:WQ)(a b:WS):It:=⟨λi H=>∃xs ys x y,SqT K H a xs/\SqT K H b ys/\xs[i]?=some x/\ys[i]?=some y,λi H v H'=>∃p x y,H p=none/\v=.ref p/\H'=upd H p (.tup [x,y])/\(∀xs,SqT K H a xs->xs[i]?=some x)/\(∀ys,SqT K H b ys->ys[i]?=some y),λi H=>∃xs ys,SqT K H a xs/\SqT K H b ys/\(xs.length<=i\/ys.length<=i)⟩
structure ZTn(z TI TO i1 i2 a b:WS)(i:Nat)(h:X7):Prop where
 ap:ZipApart z TI TO i1 i2 a b
 zip:IsZip h z TI TO .none
 hTI:Zk h TI (.ref i1) (.ref i2)
 hTO:∃u v,Zk h TO u v
 h1:h.IsTupleIter i1 a i
 h2:h.IsTupleIter i2 b i
theorem xZ{k1}(a b z TI TO i1 i2:WS):Turn P w K (.Tuple elts k1 pos) (Itz K a b) [z,TI,TO,i1,i2] z (ZTn z TI TO i1 i2 a b) where
 mem:=by simp
 obj:=λi h st c hc=>by
  obtain⟨D,hz,hTI,⟨u,v,hTO⟩,⟨o1,a1,a2,a3⟩,⟨o2,b1,b2,b3⟩⟩:=st;simp only[W9,List.not_mem_nil,or_false]at hc;rcases hc with rfl|rfl|rfl|rfl|rfl
  .exact⟨_,hz,λv z=>by cases z⟩
  .exact⟨_,hTI,λv z=>by cases z⟩
  .exact⟨_,hTO,λv z=>by cases z⟩
  .exact⟨o1,a1,λv z=>by rw[a3]at z;cases z⟩
  .exact⟨o2,b1,λv z=>by rw[b3]at z;cases z⟩
 keep:=λi h h' st k=>by
  obtain⟨D,hz,hTI,⟨u,v,hTO⟩,⟨o1,a1,a2⟩,⟨o2,b1,b2⟩⟩:=st;exact⟨D,k _ (by simp) _ hz,k _ (by simp) _ hTI,⟨u,v,k _ (by simp) _ hTO⟩,⟨o1,k _ (by simp) _ a1,a2⟩,⟨o2,k _ (by simp) _ b1,b2⟩⟩
 item:=by
  intro X hP hw hK hc i U s Z H E I hf st hg;subst hP hw hK;obtain⟨xs,ys,x,y,F7,F8,hx,hy⟩:=hg;obtain⟨ia,GW,pa,Ip⟩:=I.tuple F7;obtain⟨ib,GX,pb,NC⟩:=I.tuple F8;obtain⟨u,hu,ru⟩:=GW.get hx;obtain⟨v,hv,rv⟩:=GX.get hy;obtain⟨D,hz,hTI,⟨ta,tb,hTO⟩,h1,h2⟩:=st
  have lt:∀c∈[z,TI,TO,i1,i2],c<s.heap.objs.size:=λc hc=>by
   simp only[W9,List.not_mem_nil,or_false]at hc;rcases hc with rfl|rfl|rfl|rfl|rfl
   .exact Xb hz
   .exact Xb hTI
   .exact Xb hTO
   .obtain⟨o,e,_⟩:=h1;exact Xb e
   .obtain⟨o,e,_⟩:=h2;exact Xb e
  refine bb_zip_next0 D hz hTI hTO h1 h2 (show s.heap.IsTuple a ia.toArray from pa) (show s.heap.IsTuple b ib.toArray from pb) (by simpa using hu) (by simpa using hv) λEW a1 a2 a3 a4 a5 a6 a7=>?_;refine⟨_,rfl,wpAny_letOwnedTupleGo_zip a1 λD6 g1 sb=>?_⟩;replace sb:YF z EW D6:=sb;have Jn:H s.heap.objs.size=none:=I.hok.fresh (WY _)
  have IA:Inv X U Z (upd H s.heap.objs.size (.tup [x,y])) {s with heap:=s.heap.push {cls:=.type "tuple",data:=.seq #[u,v]},toks:=s.toks} :=
   I.laid (o:=.tup [x,y]) (λb ob q=>WW _ q) (WY _) ⟨by show 2<=Xe;decide,[u,v],0,.cons ru (.cons rv .nil),W4 _ rfl⟩
  have hzT:s.heap.objs.size≠z:=Nat.ne_of_gt (lt z (by simp));refine⟨.ref s.heap.objs.size,upd H s.heap.objs.size (.tup [x,y]),?_,rfl,⟨_,x,y,Jn,rfl,rfl,λzs G0=>by rw[I.tuple_inj G0 F7];exact hx,λzs G0=>by rw[I.tuple_inj G0 F8];exact hy⟩,?_,λc hc=>?_⟩
  .have IB:Inv X U Z (upd H s.heap.objs.size (.tup [x,y])) {s with heap:=D6,toks:=s.toks}:=by
    refine Inv.turnedL (s:={s with heap:=s.heap.push {cls:=.type "tuple",data:=.seq #[u,v]},toks:=s.toks}) (h':=D6) (fp:=[z,TI,TO,i1,i2]) (t':=s.toks) IA (λc o hc q=>?_) λc hc=>?_
    .have n1:c≠z:=λe=>hc (by simp[e]);have n2:c≠TO:=λe=>hc (by simp[e]);have n3:c≠i1:=λe=>hc (by simp[e]);have n4:c≠i2:=λe=>hc (by simp[e]);rw[sb.2 c n1];by_cases AF:c=s.heap.objs.size
     .subst AF;have q':(s.heap.push {cls:=.type "tuple",data:=.seq #[u,v]}).get? s.heap.objs.size=some o:=q;rw[W4 _ rfl]at q';rw[<-q'];exact a5
     .have q':(s.heap.push {cls:=.type "tuple",data:=.seq #[u,v]}).get? c=some o:=q;rw[Heap.get?_push_ne _ _ _ AF]at q';exact a7 c o n1 n2 n3 n4 q'
    .obtain⟨f0,f1⟩:=hf c hc;exact⟨by rw[aj (Xy (lt c hc))];exact f0,f1⟩
   exact IB
  .have sT:∀c o,c≠z->EW.get? c=some o->D6.get? c=some o:=λc o hc e=>(sb.2 c hc).trans e;refine⟨D,g1,sT _ _ D.TIz (a7 _ _ D.TIz D.TITO D.TIi1 D.TIi2 hTI),⟨_,_,sT _ _ D.TOz a2⟩,?_,?_⟩
   .obtain⟨o,e,r⟩:=a3;exact⟨o,sT _ _ D.i1z e,r⟩
   .obtain⟨o,e,r⟩:=a4;exact⟨o,sT _ _ D.i2z e,r⟩
  .rw[aj (Xy (lt c hc))];exact(hf c hc).1
 done:=by
  intro X hP hw hK hc i U s Z H E I hf st hg;subst hP hw hK;obtain⟨xs,ys,F7,F8,CL⟩:=hg;obtain⟨ia,GW,pa,Ip⟩:=I.tuple F7;obtain⟨ib,GX,pb,NC⟩:=I.tuple F8;have Ff:=GW.length;have Ur:=GX.length;obtain⟨D,hz,hTI,hTO,h1,h2⟩:=st;refine bb_zip_done (show X.A.handled=none from I.ok.hd hc) ⟨D,.inl hz,hTI,hTO,h1,h2,pa,pb⟩ ?_ λh' kp=>⟨rfl,?_⟩
  .rcases CL with h|h
   .exact .inl (by simp;omega)
   .exact .inr (by simp;omega)
  exact I.turnedL (fp:=[z,TI,TO,i1,i2]) (t':=s.toks) (λc o hc q=>kp c o (λhm=>hc (by simp only[W9,List.not_mem_nil,or_false]at hm |-;rcases hm with h|h|h|h <;> simp[h])) q) hf
 self:=λ_ _ _ _ _ st h=>wpAny_pyIter_zip st.zip h
section
variable{e1 e2:X8}{t:TA}{p2 AH:Z9}
def acT(K:WQ)(t:TA):TI:=λZ H R=>t Z H λvs H1=>∃a b,vs=[.ref a,.ref b]/\(∃xs,SqT K H1 a xs)/\(∃ys,SqT K H1 b ys)/\R (Itz K a b) H1
theorem yJ{k1}(g2:Gl X "zip")(m2:X.mg "zip"=none)(ha:PA X [e1,e2] t)
 (h2:XE [e1,e2] X.env=(false,Y3 e1 X.env)::XE [e2] X.env:=by rfl) (h3:(Z4 AH (XE [e2] X.env)).any (·.1)=false:=by rfl):PI X (.Tuple elts k1 pos) (.Call (.Name "zip" p2) [e1,e2] [] AH) (acT X.K t):=by
 intro U s Z H R I h;refine Yl (de I g2 m2 boot_zip ?_);refine X0 (thn (ha AH U s Z H _ I h) λus s2⟨vs,H2,I2,r,a,b,ev,⟨xs,F7⟩,⟨ys,F8⟩,q⟩=>?_) h2 h3;subst ev;obtain⟨u1,u2,rfl,r1,r2⟩:=vals2 r;cases r1;cases r2;obtain⟨ia,GW,pa,Ip⟩:=I2.tuple F7;obtain⟨ib,GX,pb,NC⟩:=I2.tuple F8;have Bb:a<s2.heap.objs.size:=by obtain⟨o,e,_⟩:=pa;exact Xb e
 have Bi:b<s2.heap.objs.size:=by obtain⟨o,e,_⟩:=pb;exact Xb e
 refine bb_call_zip (show s2.heap.IsTuple a ia.toArray from pa) (show s2.heap.IsTuple b ib.toArray from pb) λh' z1 z2 z3 z4 z5 z6 z7=>?_;have D:ZipApart (s2.heap.objs.size+4) (s2.heap.objs.size+2) (s2.heap.objs.size+3) s2.heap.objs.size (s2.heap.objs.size+1) a b:=zipApart_new Bb Bi;refine wpAny_pyIter_zip (s:={s2 with heap:=h'}) z1 ?_;refine⟨s2.heap.objs.size+4,[s2.heap.objs.size+4,s2.heap.objs.size+2,s2.heap.objs.size+3,s2.heap.objs.size,s2.heap.objs.size+1],_,_,H2,rfl,I2.kept (t':=s2.toks) z7,xZ a b _ _ _ _ _,⟨D,z1,z2,⟨_,_,z3⟩,z4,z5⟩,λc hc=>?_,q⟩
 have AX:s2.heap.objs.size<=c:=by
  simp only[W9,List.not_mem_nil,or_false]at hc;rcases hc with h|h|h|h|h <;> rw[h]
  .exact Zj _ _
  .exact Zj _ _
  .exact Zj _ _
  .exact WY _
  .exact Zj _ _
 exact I2.fpOk AX (I2.hok.fresh AX)
end
end L2
namespace BB
open PySem L2
noncomputable section
local instance:DecidableEq Th:=λ_ _=>Classical.propDecidable _
end
end BB
namespace PySem
open Sem (wp)
section
variable{K:Type}[DecidableEq K]{knd:HeapKind prog w K}
theorem bb_setDefault_heap{xs:List (K×WS×WV)}{k:K}{v:WV}(hu:knd.room A)(C9:knd.is s.heap k a)(hm:s.heap.DictOfH knd d xs)
 (G1:∀p,atKey xs k=some p->Q p.2 {s with toks:=s.toks+knd.draws k})
 (NJ:atKey xs k=none->∀h',h'.DictOfH knd d (storedH xs k a v)->YF d s.heap h'->Q v {s with heap:=h',toks:=s.toks+knd.draws k})
 (hsz:xs.length<=Xe):Xa (Xu prog w) A (dictSetDefault d (.ref a) v) Q E s:=by
 obtain⟨o,es,ep,ho,hc,hd,he,Ir,hn⟩:=hm;unfold dictSetDefault
 try with_reducible refine Yx ?_
 refine WN (knd.pyHash hu C9 ?_);refine WN (wpAny_dictFind_heap (s:={s with toks:=s.toks+knd.draws k}) hu C9 ho hd he Ir hn ?_ ?_)
 .intro Dc;have NK:k∉xs.map (·.1):=not_mem_keys_of_get Dc
  refine WN (Zy (WN (wpAny_updateDictKeys (hz:=by have e:=size_of_entries he;omega) (s:={s with toks:=s.toks+knd.draws k}) ho hd (WX (NJ (atKey_none_of_get Dc) _ ⟨_,_,ep+1,XN _ ho (Obj.isFreed_of_dict (Obj.data_mapDictKeys hd _)),
   hc.mapDictKeys _,Obj.data_mapDictKeys hd _,?_,?_,?_⟩ (Zi ..))))))
  .rw[storedH_new (atKey_none_of_get Dc)];simp[he,entryOfKey]
  .rw[storedH_new (atKey_none_of_get Dc)];intro x hx;rcases Xq.mp hx with hx|hx
   .exact knd.keeps (Ir x hx) ho hd (Zi ..)
   .simp only[W7]at hx;subst hx;exact knd.keeps C9 ho hd (Zi ..)
  .rw[storedH_new (atKey_none_of_get Dc)];rw[Xc,List.nodup_append];refine⟨hn,by simp,?_⟩;intro x hx y hy;simp only[XB,Zb,W7]at hy;subst hy;exactλe=>NK (e ▸ hx)
 .intro j p hj;have h1:=G1 _ (atKey_of_get hn hj);refine WN (wpAny_dictEntries (s:={s with toks:=s.toks+knd.draws k}) ho hd ?_);rw[entry_at he j,hj];exact WN (Zy (WX h1))
theorem bb_meets_setdefault(knd:HeapKind prog w K)(d a:WS)(dflt:WV)(hd:(d == YO)=false) :
 MeetsIn prog w (Zt.«dict.setdefault» ⟨[.ref d,.ref a,dflt],[]⟩) (λA R s=>knd.room A.in1/\∃k xs,knd.is s.heap k a/\s.heap.DictOfH knd d xs/\xs.length<=Xe /\
  (∀p,atKey xs k=some p->R (.ok (.ret p.2)) {s with toks:=s.toks+knd.draws k}) /\
  (atKey xs k=none->∀h',h'.DictOfH knd d (storedH xs k a dflt)->YF d s.heap h'->R (.ok (.ret dflt)) {s with heap:=h',toks:=s.toks+knd.draws k})) :=
 .of_wp λA R s⟨hu,k,xs,C9,hm,hz,h1,h2⟩=>by
  unfold Zt.«dict.setdefault»;refine WN ?_;unfold Builtin.Dict.keyAndDefault;have hT:s.TypeIs (.ref d) "dict":=hm.typeIs;refine WN (wpAny_notOrdered_dict hT ?_);show Xa _ _ (pure (d,Xl a,some dflt)) _ _ s;refine WX ?_;show Xa _ _ (if(d == YO)=true then _ else(dictSetDefault d (.ref a) dflt >>= _)) _ _ s;rw[a! (by rw[hd];exact W8)];exact WN (bb_setDefault_heap hu C9 hm (λp hp=>WX ⟨_,rfl,h1 p hp⟩) (λhn h' Ga Dz=>WX ⟨_,rfl,h2 hn h' Ga Dz⟩) hz)
end
end PySem
namespace L2
open PySem PySem.Spec PyProof.Rows
def zM:V->List V->Hp->VK->Prop:=λx vs H Q=>∃(a b:WS)(v:V)(k:List Key)(f':List (List Key×V)),x=.ref a/\vs=[.ref b,v]/\H a=some (.dT f')/\H b=some (.tup (k.map kV))/\f'.length<Xe /\
 (∀u,aQ f' k=some u->Q u H)/\(aQ f' k=none->Q v (upd H a (.dT (putK f' k v))))
theorem oA(hu:X.A.units+1<YM):MtM X "dict.setdefault" zM:=by
 intro U s Z H x vs v us Q I rx rv h;obtain⟨a,b,y,k,f',rfl,rfl,e,eb,l,q1,q2⟩:=h;cases rx;cases rv with
 |cons r1 rv =>
 cases rv with
 |cons r2 rv =>
 cases rv;cases r1;obtain⟨z,hd,xs,rel,dd⟩:=tz I.hok e;have hz:xs.length<=Xe:=by rw[<-W5 rel];exact z
 have hl:(putK f' k y).length<=Xe:=by have:=bt f' k y;omega
 have hT:s.TypeIs (.ref a) "dict":=dd.typeIs;refine call_meetsIn Zo hT PySem.F.entry_dict_setdefault (PySem.F.args_dict_setdefault_3 _ _ _) (bb_meets_setdefault (tupleKind (av X.prog X.w)) a b _ hd) ⟨tupleKind_room_in1 hu,k,xs,f9 I.hok eb,dd,hz,λp hp=>?_,λhn h' Di hs=>?_⟩
 .have hr:=rel.val k;rw[hp]at hr;cases hv:aQ f' k with
  |none=>rw[hv]at hr;exact hr.elim
  | some u =>
    rw[hv]at hr;exact⟨u,H,I.tok _,hr,q1 u hv⟩
 .have hr:=rel.val k;rw[hn]at hr;cases hv:aQ f' k with
  |some u=>rw[hv]at hr;exact hr.elim
  | none =>
    refine⟨y,_,?_,r2,q2 hv⟩;obtain⟨q,es,ep,hq,h2,h3,h4,_,h5⟩:=Di;refine fT I (by rw[e];exact YU) hs ⟨q,hq⟩ ⟨hl,hd,_,(rel.put k eb r2).keeps λc ys ec=>?_,q,es,ep,hq,h2,h3,h4,h5⟩;rw[aj (ej ec e (λz=>nomatch z))];exact ec
end L2
namespace PySem
open Sem (wp)
theorem bb_key_loop{S:WS}{es:Array DictEntry}{ep:Nat}{od:Ze}(hh:A.in1.handled=none)(hz:es.size<=Xe)(G2:S≠it)(JC:S≠d)(LY:d≠it)(g2:od.data=.dict es ep)(res:WV) :
 ∀(k i:Nat)(s:WZ)(acc:Array WV)(c:Nat),es.size - i=k->i<=es.size->s.heap.IsKeyIter it d i es.size ep->s.heap.get? d=some od->s.heap.get? S=some {cls:=.type "list",dict:=none,data:=.seq acc c,slots:=#[]}->acc.toList=(es.toList.take i).map (·.key) ->
 (∀h' A' c',(∀b o,b≠S->b≠it->s.heap.get? b=some o->h'.get? b=some o)->h'.get? S=some {cls:=.type "list",dict:=none,data:=.seq A' c',slots:=#[]}->A'.toList=es.toList.map (·.key)->R (.ok (.ret res)) {s with heap:=h'}) ->
 codeAny (Xu prog w) A (.builtin "list.extend.loop" ⟨[.ref S,.ref it,res],[]⟩) R s:=by
 intro k;induction k with
 | zero =>
   intro i s acc c hk hi hit hd hS Aq hR;have CF:i=es.size:=by omega
   subst CF;refine codeAny_builtin F.entry_extend_loop ?_;rw[Around.under_plainId YG _];show Xa _ A.in1 (pyNext (.ref it) >>= _) _ _ s;refine WN (bb_keyEnd hh hit hd g2 (WY _) λh' AV=>WX ?_);refine hR h' acc c (λb o _ hb e=>AV b o hb e) (AV _ _ G2 hS) ?_;rw[Aq,YI (by rw[XR];omega)]
 | succ k ih =>
   intro i s acc c hk hi hit hd hS Aq hR;have Am:i<es.size:=by omega
   refine codeAny_builtin F.entry_extend_loop ?_;rw[Around.under_plainId YG _];show Xa _ A.in1 (pyNext (.ref it) >>= _) _ _ s;have hx:es[i]?=some es[i]:=Zg Am
   have Bb:acc.size=i:=by
    have:=h! ZX Aq;rw[XR,WO,XO,XR]at this;omega
   refine WN (bb_keyNext hit hd g2 hx λh' Fc AV=>?_);have D4:=(AV.2 S G2).trans hS;have BD:=(AV.2 d LY).trans hd;show Xa _ A.in1 (updateSeq S (·.push es[i].key) >>= _) _ _ _;refine WN ?_;have CI:∀b o,b≠S->h'.get? b=some o->(h'.update S (Yh (·.push es[i].key))).get? b=some o:=λb o hb e=>(XU _ _ (YQ hb)).trans e
   refine YT D4 rfl (WX ⟨plainId_quiet YG _,ih (i+1) _ (acc.push es[i].key) _ (by omega) Am (Fc.at λo e=>CI _ _ (YQ G2) e) (CI _ _ (YQ JC) BD) (XN _ D4 rfl) ?_ λJv A' c' GU GV Eo=>?_⟩)
    (by rw[Bb];omega) (by show(acc.push _).size<=Xe+1;rw[Array.size_push,Bb];omega)
   .rw[Array.toList_push,Aq,Yi,WR (by rw[XR];exact Am),Xc];simp
   .exact hR Jv A' c' (λb o hb AF e=>GU b o hb AF (CI b o hb ((AV.2 b AF).trans e))) GV Eo
theorem bb_list_keys{es:Array DictEntry}{ep:Nat}{od:Ze}(hh:A.in1.in1.handled=none)(ns:(d == YO)=false)(hd:s.heap.get? d=some od)(gc:od.cls=.type "dict")(g2:od.data=.dict es ep)(hz:es.size<=Xe)
 (hQ:∀h' acc c,(∀b o,s.heap.get? b=some o->h'.get? b=some o)->h'.get? s.heap.objs.size=some {cls:=.type "list",dict:=none,data:=.seq acc c,slots:=#[]}->acc.toList=es.toList.map (·.key)->Q (.ref s.heap.objs.size) {s with heap:=h'}) :
 Xa (Xu prog w) A (call (.type "list") [.ref d]) Q E s:=by
 have Fl:=Xb hd;have JC:s.heap.objs.size≠d:=Nat.ne_of_gt Fl
 refine callType_codes (Q₁:=λobj Ac=>obj=.ref s.heap.objs.size/\Ac={s with heap:=s.heap.push {cls:=.type "list",data:=.seq #[]}}) F.called_list (F.typeCall_list_1 _) F.entry_list_init
  (code_list_new _ ⟨rfl,rfl⟩) λobj Ac Ap=>?_
 obtain⟨rfl,rfl⟩:=Ap;have hS:(s.heap.push {cls:=.type "list",data:=.seq #[]}).get? s.heap.objs.size=some {cls:=.type "list",data:=.seq #[]}:=W4 _ rfl;refine⟨⟨_,hS,rfl⟩,F.args_list_init_2 _ _,?_⟩;show Xa _ A.in1.in1 (do let old <-ZK (.ref s.heap.objs.size);Builtin.List.listUpdate (.ref s.heap.objs.size) (λ_=>#[]);letGo old.toList.reverse;Zd (.ref s.heap.objs.size) (.ref d) .none) _ _ _;refine WN ?_;unfold ZK;refine WN (YB hS rfl (WX ?_));refine WN (YT hS rfl ?_);have Br:=XN (Yh (λ_=>(#[]:Array WV))) hS rfl;refine WN (wpAny_letGo ?_);have CM:((s.heap.push {cls:=.type "list",data:=.seq #[]}).update s.heap.objs.size (Yh (λ_=>(#[]:Array WV)))).objs.size=s.heap.objs.size+1:=by rw[Heap.size_update,X3]
 generalize hH:(s.heap.push {cls:=.type "list",data:=.seq #[]}).update s.heap.objs.size (Yh (λ_=>(#[]:Array WV)))=H2 at Br CM |-
 have old:∀b o,s.heap.get? b=some o->H2.get? b=some o:=λb o e=>by
  rw[<-hH,XU _ _ (YQ (Xy (Xb e)))];exact WW _ e
 obtain⟨c2,DO⟩:∃c,H2.get? s.heap.objs.size=some {cls:=.type "list",data:=.seq #[] c}:=⟨_,Br⟩;have hd2:=old _ _ hd;have Jw:({s with heap:=H2}:WZ).TypeIs (.ref d) "dict":=⟨_,hd2,gc⟩;unfold Zd;refine WN (ZI Jw ?_);have h1:Zs (.ref s.heap.objs.size) (.ref d)=false:=by simp[Zs,JC]
 have h2:(Zm "dict" == Zm "list")=false:=by decide
 have h3:(Zm "dict" == Zm "tuple")=false:=by decide
 simp only[h1,h2,h3,Bool.or_false,Yd,if_false];refine WN (bb_keyIter (s:={s with heap:=H2}) ns hd2 gc g2 ?_);refine WN (Yx ?_);have G4:(H2.push {cls:=.type "dict_keyiterator",data:=.fields #[.ref d,.int 0 0,.int es.size 0,.int ep 0]}).IsKeyIter H2.objs.size d 0 es.size ep:=⟨_,W4 _ rfl,rfl,rfl⟩;have Ge:∀b o,H2.get? b=some o->(H2.push {cls:=.type "dict_keyiterator",data:=.fields #[.ref d,.int 0 0,.int es.size 0,.int ep 0]}).get? b=some o:=λb o e=>WW _ e;have JD:s.heap.objs.size≠H2.objs.size:=by rw[CM];omega
 have NL:d≠H2.objs.size:=by rw[CM];exact Xy (Nat.lt_succ_of_lt Fl)
 show Xa _ _ _ _ _ ({s with heap:=H2.push {cls:=.type "dict_keyiterator",data:=.fields #[.ref d,.int 0 0,.int es.size 0,.int ep 0]}}:WZ);generalize H2.push {cls:=.type "dict_keyiterator",data:=.fields #[.ref d,.int 0 0,.int es.size 0,.int ep 0]}=H3 at G4 Ge |-;have RA:=Ge _ _ hd2;have NM:=Ge _ _ DO;have NN:({s with heap:=H3}:WZ).TypeIs (.ref d) "dict":=⟨_,RA,gc⟩
 have key:∀(h:X7)(c₁:Nat),h.IsKeyIter H2.objs.size d 0 es.size ep->(∀b o,b≠s.heap.objs.size->H3.get? b=some o->h.get? b=some o)->h.get? s.heap.objs.size=some {cls:=.type "list",data:=.seq #[] c₁} ->
  codeAny (Xu prog w) A.in1 (.builtin "list.extend.loop" ⟨[.ref s.heap.objs.size,.ref H2.objs.size,.none],[]⟩) (wants (λr AN=>r=.none/\Q (.ref s.heap.objs.size) AN) E) {s with heap:=h}:=by
  intro h c₁ hit hk CG;refine bb_key_loop hh hz JD JC NL g2 .none es.size 0 _ #[] c₁ rfl (Xi _) hit (hk _ _ (YQ JC) RA) CG rfl λh' A' c' hm D4 Aq=>?_;refine⟨rfl,hQ h' A' c' (λb o e=>?_) D4 Aq⟩;have hb:=Xy (Xb e);exact hm b o hb (by rw[CM];exact Xy (Nat.lt_succ_of_lt (Xb e))) (hk b o hb (Ge b o (old b o e)))
 unfold ZJ;refine WN (Ys NN F.slot_dict_len.lookup ?_);generalize hid:("dict.__len__":String)=GP
 wp_delta
 rw[show splitId GP=some ("dict","__len__")from by subst hid;decide +kernel];subst hid;refine WN (ZL (T:="dict") (b:=true) NN (by rw[isSubtype_type];kernel_rfl) ?_);refine wpAny_ite_split (λCs=>g! Cs (by decide)) (λ_=>?_);refine wpAny_ite_split (λ_=>?_) (λCs=>g! (by decide +kernel) Cs);refine WN (ZI NN ?_);refine WX ?_;refine wpAny_ite_split (λ_=>?_) (λ_=>WX ⟨plainId_quiet YG _,key _ c2 G4 (λb o _ e=>e) NM⟩);refine WN (Zy ?_);refine WN ?_;show Xa _ _ (updateSeq s.heap.objs.size (·.push .none) >>= λ_=>updateSeq s.heap.objs.size (·.pop)) _ _ _;refine WN (YT NM rfl ?_);have Bs:=XN (Yh (·.push Yp)) NM rfl;refine YT (hz:=by seq_fits) Bs rfl ?_;have CH:=XN (Yh (·.pop)) Bs rfl
 have CI:∀b o,b≠s.heap.objs.size->H3.get? b=some o->((H3.update s.heap.objs.size (Yh (·.push Yp))).update s.heap.objs.size (Yh (·.pop))).get? b=some o :=
  λb o hb e=>(XU _ _ (YQ hb)).trans ((XU _ _ (YQ hb)).trans e)
 exact WX ⟨plainId_quiet YG _,key _ _ (G4.at λo e=>CI _ _ (YQ JD) e) CI CH⟩
end PySem
namespace L2
open PySem PySem.Spec PyProof.Rows
def abW:List V->Hp->VK->Prop:=λxs H Q=>∃(a:WS)(f':List (List Key×V)),xs=[.ref a]/\H a=some (.dT f')/\∀(l:WS)(bs:List WS),H l=none->Xs (λkv b=>H b=some (.tup (kv.1.map kV))) f' bs->Q (.ref l) (upd H l (.lst (bs.map i!)))
theorem yR{f':List (List Key×V)}{ys:List (List Key×WS×WV)}(rel:KTd H f' ys):Xs (λkv b=>H b=some (.tup (kv.1.map kV))) f' (ys.map λy=>y.2.1):=by
 induction rel with
 |nil=>exact .nil
 |cons h t ih=>exact .cons h.2.1 ih
theorem mE(hc:X.calm=true):eQ X (.type "list") abW:=by
 intro U s Z H xs us Q I r h;obtain⟨a,f',rfl,e,q⟩:=h;obtain⟨u,rfl,rx⟩:=vals1 r;cases rx;obtain⟨z,hd,ys,rel,dd⟩:=tz I.hok e;have hT:=dd.typeIs;obtain⟨o,es,ep,ho,UJ,Iu,he,Ir,hn⟩:=dd;obtain⟨o',BC,Bx⟩:=hT;have eo:o'=o:=Xm (BC.symm.trans ho);subst eo;have hl:f'.length=ys.length:=W5 rel
 have G5:es.toList.map (·.key)=ys.map λy=>Xl y.2.1:=by
  rw[he,Y1];rfl
 have hsz:es.size<=Xe:=by
  have:=h! ZX G5;rw[WO,WO,XR]at this;omega
 have hh:X.A.in1.in1.handled=none:=I.ok.hd hc;refine bb_list_keys hh hd BC Bx Iu hsz λh' acc c hk hS Aq=>?_;have hp:Xs (λkv b=>H b=some (.tup (kv.1.map kV))) f' (ys.map λy=>y.2.1):=yR rel;refine⟨.ref s.heap.objs.size,upd H s.heap.objs.size (.lst ((ys.map λy=>y.2.1).map i!)),?_,rfl,q _ _ I.fresh hp⟩;refine I.laid (t':=s.toks) hk (WY _) ⟨by rw[WO,WO];omega,acc.toList,c,?_,hS⟩;rw[Aq,G5];clear hn Ir he G5 Aq hS hl z rel hp q;induction ys with
 |nil=>exact .nil
 |cons y ys ih=>exact .cons rfl ih
open BB
theorem ada{es:List Dv}(r1:Vals ws its)(hws:DAts H es ws)(j:Nat)(z:WV)(hz:its[j]?=some z):∃e y',es[j]?=some e/\DAt H e y'/\RelV y' z:=by
 have hj:j<its.length:=(glE hz);have l1:=r1.length;have l2:=hws.length;have JE:j<es.length:=by omega
 obtain⟨y',Ee,dy⟩:=hws.at (WR JE);obtain⟨v',BE,Fi⟩:=r1.get Ee;rw[hz]at BE;cases BE;exact⟨_,y',WR JE,dy,Fi⟩
theorem acp{z:WV}{e e':Dv}{y' NO:V}(h1:DAt H e y')(h2:RelV y' z)(h3:DAt H e' NO)(h4:RelV NO z):e=e':=by
 have:=h2.inj h4;subst this;exact h1.inj h3
def zU(K:WQ)(B:Nat):V->List V->Hp->VK->Prop:=λx vs H Q=>∃(l:WS)(y:V)(ws:List V)(d:Dv)(es:List Dv)(j:Nat),x=.ref l/\vs=[y]/\SqL K H l ws/\DAt H d y/\DAts H es ws/\cN es<=B/\es[j]?=some d/\(∀i,i<j->es[i]?≠some d)/\es.length<=100000/\Q (.int (j:Nat)) H
open Classical in
theorem wj(hu:X.A.units+B+4<YM):MtM X "list.index" (zU X.K B):=by
 intro U s Z H x vs v us Q I rx rv h;obtain⟨l,y,ws,d,es,j,rfl,rfl,hS,hd,hws,hB,hj,Dc,hz,q⟩:=h;cases rx;obtain⟨u,rfl,ru⟩:=rv.one;obtain⟨its,r,pl,_⟩:=I.list hS;have hlen:=r.length;have Bl:=hws.length;obtain⟨⟨cls,dd,data,sl⟩,ho,hc,n,Iu⟩:=pl.isList;simp only at hc Iu;subst hc Iu;have Ep:j<es.length:=(glE hj)
 have NP:∀(m:Nat)(z:WV),its[m]?=some z->∃e y',es[m]?=some e/\DAt H e y'/\RelV y' z/\decide (∃y',DAt H d y'/\RelV y' z)=decide (e=d):=λm z hz=>by
  obtain⟨e,y',he,dy,ry⟩:=ada r hws m z hz;refine⟨e,y',he,dy,ry,?_⟩;by_cases h:e=d
  .rw[d! h,d! ⟨y',h ▸ dy,ry⟩]
  .rw[c! h,c!];rintro⟨NO,h1,h2⟩;exact h (acp dy ry h1 h2)
 refine call_meets PySem.F.slot_list_index ⟨_,ho,rfl⟩ PySem.F.entry_list_index (PySem.F.args_list_index_2 _ _)
  (SeqAt.list_indexAt l its.toArray n dd sl u (λz=>decide (∃y',DAt H d y'/\RelV y' z)) j (by rw[W2];omega) (by omega) ?_ ?_) ⟨ho,λy hy=>?_,⟨.int (j:Nat),H,I.tok _,⟨_,rfl⟩,q⟩⟩
 .obtain⟨e,y',he,dy,ry,e3⟩:=NP j (its.toArray[j]'(by rw[W2];omega)) (by simp);rw[hj]at he;cases he;rw[e3];exact d! rfl
 .intro m hm Am;obtain⟨e,y',he,dy,ry,e3⟩:=NP m (its.toArray[m]'hm) (by simp);rw[e3];exact c! λz=>Dc m Am (by rw[he,z])
 .have Ee:y∈its:=by simpa using hy
  obtain⟨m,hm⟩:=Xp.mp Ee;obtain⟨e,y',he,dy,ry,e3⟩:=NP m y hm;rw[e3];have hq:=gL he;refine v5 I _ e d (WY _) y' _ y u _ dy hd ry ru ?_;show X.A.units+1+_<YM;omega
def acm(K:WQ)(B:Nat):R2:=λx y H Q=>∃a b vs ws ds es,x=.ref a/\y=.ref b/\SqL K H a vs/\SqL K H b ws/\DAts H ds vs/\DAts H es ws/\cN ds<=B/\∀b:Bool,(b=true↔ds=es)->Q (.bl b) H
open Classical in
theorem aai(hu:X.A.units+B+2<YM):OpR X (compareOp .Eq) (acm X.K B):=by
 intro U s Z H x y v u Q I rx ry h;obtain⟨a,b,vs,ws,ds,es,rfl,rfl,ha,hb,Dj,hws,hB,q⟩:=h;cases rx;cases ry;obtain⟨its,r1,p1,_⟩:=I.list ha;obtain⟨Ah,r2,p2,_⟩:=I.list hb;have l1:its.length=ds.length:=by rw[<-r1.length,Dj.length]
 have l2:Ah.length=es.length:=by rw[<-r2.length,hws.length]
 by_cases hl:ds.length=es.length
 .have hsz:its.toArray.size=Ah.toArray.size:=by rw[W2,W2];omega
  refine SeqAt.RcAt.lists p1.isList p2.isList hsz (by omega) (tE I r1 r2 Dj hws (by omega)) X.prog X.w X.xe _ ?_
  have e:(XG its.toArray.size).all (λj=>decide (ds[j]?=es[j]?))=decide (ds=es):=by
   rw[W2,l1];exact nn hl
  refine⟨.bl (decide (ds=es)),H,I,by rw[e];rfl,q _ ?_⟩;simp
 .refine SeqAt.RcAt.lists_lengths p1.isList p2.isList (by rw[W2,W2,l1,l2];simpa using hl) (by omega) X.prog X.w X.xe _ ⟨.bl false,H,I,rfl,q _ ?_⟩;exact⟨λz=>g! z W8,λz=>g! (by rw[z]) hl⟩
end L2
namespace PySem
open Sem (wp)
section
variable{K:Type}[DecidableEq K](knd:HeapKind prog w K)(d:WS)
theorem bb_meets_len(hd:(d == YO)=false) :
 MeetsIn prog w (Zt.«dict.__len__» ⟨[.ref d],[]⟩) (λ_ R s=>∃xs,s.heap.DictOfH knd d xs/\R (.ok (.ret (.int xs.length s.toks))) {s with toks:=s.toks+1}) :=
 .of_wp λA R s⟨xs,hm,h⟩=>by
  obtain⟨o,es,ep,ho,hc,NQ,he,hp,hn⟩:=hm;show Xa _ _ (dictSize d >>= _) _ _ s;unfold dictSize;refine WN (WN (wpAny_dictEntries ho NQ (WX ?_)));show Xa _ _ (Builtin.Dict.pendingCount d >>= _) _ _ s;refine WN (wpAny_pendingCount_other hd ?_);refine wpAny_ret_mkInt ?_
  have:es.size=xs.length:=by
   have:=h! ZX he;rw[WO,XR]at this;exact this
  rw[Nat.add_zero,this];exact h
end
section
variable{K:Type}[DecidableEq K]{knd:HeapKind prog w K}
theorem bb_call_len{xs:List (K×WS×WV)}(hd:(d == YO)=false)(hm:s.heap.DictOfH knd d xs)(AY:(xs.length:Int)<2 ^ 63)
 (h:Q (.int xs.length (s.toks+1)) {s with toks:=s.toks+1+1}):Xa (Xu prog w) A (call (.builtin "len") [.ref d]) Q E s:=by
 refine Calls.call_function_entry kind_len plain_len entry_len (args_len1 _) ?_;unfold Zt.«len»;refine WN (m:=oneArg "len" _) (WX ?_)
 refine WN (m:=callSpecial? (.ref d) (WT "__len__")) (X2 (name:=WT "__len__") hm.typeIs F.slot_dict_len
  (call_meetsIn F.slot_dict_len hm.typeIs F.entry_dict_len (F.args_dict_len_1 _) (bb_meets_len knd d hd) ⟨xs,hm,?_⟩))
 show Xa _ _ _ _ _ {s with toks:=s.toks+1};refine WN (Yx (WX ?_));refine WN (wpAny_letGo ?_);show Xa _ _ (if((xs.length:Nat):Int)<0 then _ else _) _ _ _;rw[a! (by omega)];show Xa _ _ (if((xs.length:Nat):Int) >= 2 ^ 63 then _ else _) _ _ _;rw[a! (by omega)];exact WN (wpAny_mkInt (WX ⟨_,rfl,h⟩))
end
end PySem
namespace L2
open PySem PySem.Spec PyProof.Rows
def acz:List V->Hp->VK->Prop:=λxs H Q=>∃(a:WS)(f':List (List Key×V)),xs=[.ref a]/\H a=some (.dT f')/\Q (.int f'.length) H
theorem kR:eQ X (.builtin "len") acz:=by
 intro U s Z H xs us Q I r h;obtain⟨a,f',rfl,e,q⟩:=h;obtain⟨u,rfl,rx⟩:=vals1 r;cases rx;obtain⟨z,hd,ys,rel,dd⟩:=tz I.hok e;have hl:f'.length=ys.length:=W5 rel;refine bb_call_len hd dd (by rw[sizeLine_eq]at z;omega) ?_;rw[<-hl];exact⟨.int f'.length,H,I.tok _,⟨_,rfl⟩,q⟩
end L2
namespace BB
open PySem L2
theorem om:∀{ks:List (Xk×Int)}{as:List WS},KsAt H ks as->∀z∈ks.zip as,z.1∈ks/\KAt H z.1 z.2
 |_,_,.nil,z,hz=>by simp at hz
 | _,_,.cons (a:=k) (b:=a) r t,z,hz=>by
   rw[ZC]at hz;rcases W9.mp hz with rfl|hz
   .exact⟨Xh ..,r⟩
   .obtain⟨h1,h2⟩:=om t z hz;exact⟨Xf _ h1,h2⟩
open PySem.Builtin PySem.Builtin.Str
end BB
namespace L2
open PySem PySem.Spec PySem.Calls PyProof.Rows BB
section
variable{Z:List (Option V)}
end
open PySem.Builtin PySem.Builtin.Str
end L2
namespace BB
open PySem L2
section
variable{t:Th}{es:List WS}
end
end BB
namespace L2
open PySem PySem.Spec PyProof.Rows BB
open PySem.W
open PySem.Calls
end L2
namespace BB
open PySem L2 PySem.Builtin PySem.Builtin.Str
end BB
namespace L2
open PySem PySem.Spec PySem.Calls PyProof.Rows PySem.Builtin PySem.Builtin.Str BB
end L2
namespace BB
open PySem L2
theorem tY{ks:List (Xk×Int)}(g:cS ks):(ks.map (·.1)).Nodup:=by
 refine List.pairwise_iff_getElem.mpr λi j hi hj Iv e=>?_;rw[WO]at hi hj;rw[List.getElem_map,List.getElem_map]at e;have:=g.nd i j _ _ (WR hi) (WR hj) e;omega
end BB
namespace L2
open PySem PySem.Spec PyProof.Rows
open PySem.Calls
structure aap(P:W6)(w:Xj)(K:WQ)(mg:Xk->Option WV)(base:X7)(CX:CXT)(k:Nat)(f:WS)(sp:Sp):Prop where
 fn:∀(A:XF)(outer:List Env)(s:WZ)(H:Hp)(vs:List V)(Q:VK)(E:XK),Env0 P w K mg base A outer s H->sp vs H Q E->PySem.W.FnAt f s.heap
 run:∀(A:XF)(outer:List Env)(s:WZ)(H:Hp)(us:List WV)(vs:List V)(Q:VK)(E:XK),Room k A->Env0 P w K mg base A outer s H->Vals vs us->sp vs H Q E ->
  codeAny (Xu P w) A (.call (.ref f) ⟨us,[]⟩) (CR CX outer P w H s Q E) s
section
variable{k:Nat}{E:XK}{p:Z9}{t:TA}
def aa9(P:W6)(w:Xj)(K:WQ)(mg:Xk->Option WV)(base:X7)(CX:CXT)(k i:Nat)(E:XK)(t:TA):TE:=λZ H Q=>∃f sp,Z[i]?=some (some (.ref f))/\aap P w K mg base CX k f sp/\t Z H λvs H1=>sp vs H1 Q E
theorem uF{E:WV->WZ->Prop}{q:WS}{rest:List X8}(h:Xa M A (spliced (Z4 pos (XE (e::rest) env))) (λvs Ac=>PySem.W.FnAt q Ac.heap/\Xa M A (call (.ref q) ([]++vs)) Q E Ac) E s)
 (he:XE (e::rest) env=(false,Y3 e env)::XE rest env) (BI:(Z4 pos (XE rest env)).any (·.1)=false) :
 Xa M A (callWith pos (.ref q) [] (Z4 pos (XE (e::rest) env)) []) Q E s:=by
 rw[he]at h |-;exact PySem.W.callWith_of (by show((false ||(Z4 pos (XE rest env)).any (·.1)) ||false)=false;rw[BI];rfl) PySem.W.keeps_F (evalArgs_plain h)
theorem xH(hN:X.N[i]?=some x)(hv:Vis X.env.scope x)(hr:Room k X.A)(hx:Passes CX X E)(ha:PA X (e::es) t)(DK:(x == ("__debug__":Xk))=false:=by decide)(Cg:(x == ("__classdict__":Xk))=false:=by decide)
 (he:XE (e::es) X.env=(false,Y3 e X.env)::XE es X.env:=by rfl) (AS:(Z4 pos (XE es X.env)).any (·.1)=false:=by rfl) :
 PE X (.Call (.Name x p) (e::es) [] pos) (aa9 X.prog X.w X.K X.mg X.base CX k i E t):=by
 intro U s Z H Q I h;obtain⟨f,sp,NR,F,q⟩:=h;refine Yl (thn (xj (X:=X) hN hv DK Cg U s Z H (λv H1=>v=.ref f/\t Z H1 λvs H2=>sp vs H2 Q E) I ⟨_,NR,rfl,q⟩) λu s1⟨v,H1,I1,r,e1,q1⟩=>?_);subst e1;obtain rfl:u=Xl f:=r;refine uF (thn (ha pos U s1 Z H1 _ I1 q1) λus s2⟨vs,H2,I2,r2,q2⟩=>⟨F.fn X.A X.stack s2 H2 vs Q E I2.env0 q2,?_⟩) he AS;refine wpAny_call (codeAny_mono (F.run X.A X.stack s2 H2 ([]++us) vs Q E hr I2.env0 r2 q2) λr s' hq=>?_);cases r with
 |error e=>exact hx U Z H2 s2 e s' I2 hq
 | ok fl =>
   cases fl with
   |ret u=>exact I2.after hq
   |next=>exact YE hq
   |brk=>exact YE hq
   |cont=>exact YE hq
end
def fgt(S:List WS)(H:Hp):Hp:=λb=>if b∈S then none else H b
def rst(S:List WS)(H H':Hp):Hp:=λb=>if b∈S then H b else H' b
theorem kH{S:List WS}(h:b∈S):fgt S H b=none:=b! h
theorem bO{S:List WS}(h:b∉S):fgt S H b=H b:=a! h
theorem yH{S:List WS}(h:b∈S):rst S H H' b=H b:=b! h
theorem dG{S:List WS}(h:b∉S):rst S H H' b=H' b:=a! h
theorem xW{S:List WS}(h:fgt S H b=some o):b∉S/\H b=some o:=by
 by_cases hb:b∈S
 .rw[kH hb]at h;cases h
 .exact⟨hb,by rw[bO hb]at h;exact h⟩
def Exts(S:List WS)(H:Hp):Prop:=∀b∈S,∃φ,H b=some (.ext φ)
theorem Exts.out{S:List WS}(x:Exts S H)(e:H b=some o)(n:∀φ,o≠.ext φ):b∉S:=λz=>by
 obtain⟨φ,h⟩:=x b z;rw[e]at h;exact n φ (Xm h)
theorem HOk.fgt{S:List WS}(x:HOk P w H h)(hS:Exts S H):HOk P w (fgt S H) h:=λa o e=>by
 obtain⟨ha,e'⟩:=xW e;exact(x a o e').stay (λ_ _ _ q=>q) (λb q=>by rw[bO (hS.out q (by intro φ z;cases z))];exact q) λb xs q=>by rw[bO (hS.out q (by intro φ z;cases z))];exact q
theorem HOk.rst{S:List WS}(x:HOk P w H h)(x':HOk P w H' h')(hS:Exts S H)(hk:∀b∈S,∀o,h.get? b=some o->h'.get? b=some o)(hn:∀b∈S,H' b=none):HOk P w (rst S H H') h':=λa o e=>by
 by_cases ha:a∈S
 .rw[yH ha]at e;obtain⟨φ,UK⟩:=hS a ha;have e2:=UK;rw[e]at e2;cases e2;obtain⟨p,⟨ob,q⟩,st⟩:=x a _ e;exact⟨st _ _ p (λo z=>hk a ha o z),⟨ob,hk a ha ob q⟩,st⟩
 .rw[dG ha]at e;have out:∀b u,H' b=some u->b∉S:=λb u q z=>by rw[hn b z]at q;cases q
  exact(x' a o e).stay (λ_ _ _ q=>q) (λb q=>by rw[dG (out b _ q)];exact q) λb xs q=>by rw[dG (out b _ q)];exact q
def CellAt(H:Hp)(c:WS)(v:V):Prop:=∃φ,H c=some (.ext φ)/\∀h:X7,φ h->∃u,RelV v u/\h.IsCell c (some u)
def CodeAt(H:Hp)(c:WS)(qual:Xk):Prop:=∃φ,H c=some (.ext φ)/\∀h:X7,φ h->h.CodeRec (.ref c) qual
def aad(H:Hp)(cl:List (Xk×WS))(ns:List Xk)(ws:List V):Prop:=Xs (λ(x:Xk)(v:V)=>∃c,cl.lookup x=some c/\CellAt H c v) ns ws
theorem CellAt.mono(s:Same H H')(h:CellAt H c v):CellAt H' c v:=by
 obtain⟨φ,h1,h2⟩:=h;exact⟨φ,s _ _ h1,h2⟩
theorem CodeAt.mono(s:Same H H'){q:Xk}(h:CodeAt H c q):CodeAt H' c q:=by
 obtain⟨φ,h1,h2⟩:=h;exact⟨φ,s _ _ h1,h2⟩
theorem CellAt.now(x:HOk P w H h)(z:CellAt H c v):∃u,RelV v u/\h.IsCell c (some u):=by
 obtain⟨φ,h1,h2⟩:=z;exact h2 h (x c _ h1).1
theorem lC(h:cl.lookup x=some c):c∈cl.map (·.2):=XD.mpr ⟨(x,c),Yk h,rfl⟩
theorem oS:∀{l:List (Xk×WV)}{x:Xk}{u:WV},(l.map (·.1)).Nodup->(x,u)∈l->l.lookup x=some u
 | [],_,_,_,h=>by cases h
 | (y,v)::l,x,u,nd,h=>by
   rw[XB,ZO]at nd;rw[YK];rcases W9.mp h with e|e
   .cases e;rw[beq_self_eq_true]
   .have Av:(x == y)=false:=by
     rw[beq_eq_false_iff_ne];intro z;subst z;exact nd.1 (XD.mpr ⟨_,e,rfl⟩)
    rw[Av];exact oS nd.2 e
theorem sL(nd:ps.Nodup)(hl:us.length=ps.length)(h1:ps[i]?=some x)(h2:us[i]?=some u):(ps.zip us).reverse.lookup x=some u:=by
 refine oS ?_ ?_
 .rw[List.map_reverse,List.map_fst_zip (by omega)];exact(List.pairwise_reverse.mpr (nd.imp λh z=>h z.symm))
 .rw[List.mem_reverse];exact WU (Zf.mpr ⟨h1,h2⟩)
structure Lam(mg:Xk->Option WV)(base:X7)(c P:WS):Prop where
 hd:PySem.W.CodeHd base c P
 bl:base.BuiltinsAt mg P
def SameT(P:WS)(H H':Hp):Prop:=∀b o,b≠P->H b=some o->H' b=some o
def tabOf(pos:Z9)(c':WS):Array WV:=#[Y8 pos.line,Y8 pos.col,.ref c']
def TabSt(H:Hp)(P:WS)(pos:Z9)(qual:Xk):Prop:=H P=some (.tbl #[])\/∃c',H P=some (.tbl (tabOf pos c'))/\CodeAt H c' qual
theorem TabSt.mono(s:Same H H'){P:WS}(h:TabSt H P pos qual):TabSt H' P pos qual:=by
 rcases h with h|⟨c',h1,h2⟩
 .exact .inl (s _ _ h)
 .exact .inr ⟨c',s _ _ h1,h2.mono s⟩
theorem SameT.trans{P:WS}(a:SameT P H H1)(b:SameT P H1 H2):SameT P H H2:=λc o n e=>b c o n (a c o n e)
theorem Same.t(s:Same H H')(P:WS):SameT P H H':=λb o _ e=>s b o e
theorem SameT.kt{P:WS}(s:SameT P H H'){pp:Array WV}(hP:H P=some (.tbl pp)):BB.KT H H':=λb xs e=>s b _ (λz=>by rw[z,hP]at e;cases e) e
theorem TabSt.kt{P:WS}(t:TabSt H P pos qual)(s:SameT P H H'):BB.KT H H':=by
 rcases t with h|⟨_,h,_⟩
 .exact s.kt h
 .exact s.kt h
theorem yk(pos:Z9)(c':WS):TriplesOk (tabOf pos c').toList:=trivial
theorem wP(pos:Z9)(c':WS):codeAmong pos (tabOf pos c').toList=some (.ref c'):=by
 show codeAmong pos [Y8 pos.line,Y8 pos.col,.ref c']=_;simp[codeAmong,Y8]
section
variable{k:Nat}{p:Z9}{t:TA}
def Trk(X:Cx)(Z:St)(cl:List (Xk×WS))(H H':Hp):Prop:=(∀b∈cl.map (·.2),H b=none)/\(∀b,b∉cl.map (·.2)->H' b=H b)/\Exts (cl.map (·.2)) H'/\∀(i:Nat)(y:Xk)(v:V)(c:WS),X.N[i]?=some y->Z[i]?=some (some v)->cl.lookup y=some c->CellAt H' c v
def abI(X:Cx)(cl:List (Xk×WS))(sp:Sp)(t:TA):TE:=λZ H Q=>t Z H λvs H1=>∀H2,Trk X Z cl H1 H2->sp vs H2 (λv H3=>(∀b∈cl.map (·.2),H3 b=H2 b)/\Q v (fgt (cl.map (·.2)) H3)) E0
theorem Trk.same(t:Trk X Z cl H H'):Same H H':=λb o e=>by
 rw[t.2.1 b (λz=>by rw[t.1 b z]at e;cases e)];exact e
theorem Trk.back{H3:Hp}(t:Trk X Z cl H H')(s:Same H' H3):Same H (fgt (cl.map (·.2)) H3):=λb o e=>by
 rw[bO (λz=>by rw[t.1 b z]at e;cases e)];exact s _ _ (t.same _ _ e)
theorem Trk.kt{H3:Hp}(t:Trk X Z cl H H')(s:Same H' H3):BB.KT H3 (fgt (cl.map (·.2)) H3):=λb xs e=>by
 rw[bO λz=>?_]
 .exact e
 obtain⟨φ,h⟩:=t.2.2.1 b z;rw[s _ _ h]at e;cases e
structure jc(X:Cx)(cl:List (Xk×WS)):Prop where
 look:∀y c,(y,c)∈cl->X.env.cells.lookup y=some c
 fn:∀y c,(y,c)∈cl->X.fn y=true
 kind:∀y c,(y,c)∈cl->X.env.kindOf y=some .cell
theorem ac8{y:Xk}(h1:X.env.cells.lookup y=some c)(h2:X.fn y=true)(h3:X.env.kindOf y=some .cell):jc X [(y,c)] :=
 ⟨λ_ _ h=>by cases W7.mp h;exact h1,λ_ _ h=>by cases W7.mp h;exact h2,λ_ _ h=>by cases W7.mp h;exact h3⟩
theorem yc(F:aO X.prog X.w X.K X.mg X.base CX0 k f fd ps sp)(hr:Room k X.A)(hg:Gl X x)(hm:X.mg x=some (.ref f))(hk:YX X.K (.ref f)=true)(hb:Binds X.K fd ps [])(oc:jc X cl)
 (ha:PA X (e::es) t) (DK:(x == ("__debug__":Xk))=false:=by decide) (he:XE (e::es) X.env=(false,Y3 e X.env)::XE es X.env:=by rfl) (AS:(Z4 pos (XE es X.env)).any (·.1)=false:=by rfl) :
 PE X (.Call (.Name x p) (e::es) [] pos) (abI X cl sp t):=by
 intro U s Z H Q I h;refine Yl (l9 I hg hm ?_ DK);refine PySem.W.callWith_K (h₀:=X.base) I.ok.mod.kin hk (thn (ha pos U s Z H _ I h) λus s1⟨vs,H1,I1,r,q⟩=>⟨I1.kIn,?_⟩) he AS
 have AE:∀b∈cl.map (·.2),∃y,(y,b)∈cl:=λb hb=>by
  obtain⟨⟨y,c⟩,h1,h2⟩:=XD.mp hb;cases h2;exact⟨y,h1⟩
 have Bp:∀b∈cl.map (·.2),∃v o,s1.heap.get? b=some o/\o.data=.cell v:=λb hb=>by
  obtain⟨y,hy⟩:=AE b hb;obtain⟨v,o,h1,h2⟩:=I1.cell y b (oc.look y b hy);exact⟨v,o,h1,h2⟩
 have Cy:∀b∈cl.map (·.2),H1 b=none:=λb hb=>by
  obtain⟨y,hy⟩:=AE b hb;exact I1.freeC y b (oc.look y b hy)
 obtain⟨H2,RC⟩:∃H2:Hp,H2=λb=>if b∈cl.map (·.2)then some (.ext λh=>h.get? b=s1.heap.get? b/\(h.get? b).isSome=true)else H1 b:=⟨_,rfl⟩
 have JF:∀b∈cl.map (·.2),H2 b=some (.ext λh=>h.get? b=s1.heap.get? b/\(h.get? b).isSome=true):=λb hb=>by rw[RC];exact b! hb
 have By:∀b,b∉cl.map (·.2)->H2 b=H1 b:=λb hb=>by rw[RC];exact a! hb
 have Ct:Exts (cl.map (·.2)) H2:=λb hb=>⟨_,JF b hb⟩;have JG:∀b u,H1 b=some u->b∉cl.map (·.2):=λb u z hb=>by rw[Cy b hb]at z;cases z
 have NS:HOk X.prog X.w H2 s1.heap:=λa o ea=>by
  by_cases hb:a∈cl.map (·.2)
  .rw[JF a hb]at ea;cases ea;obtain⟨v,o,h1,h2⟩:=Bp a hb
   exact⟨⟨rfl,by rw[h1];rfl⟩,⟨o,h1⟩,λg1 g2 z y=>by
    obtain⟨ob,Iw⟩:=Z2.mp z.2;have:=y ob Iw;exact⟨by rw[this,<-Iw];exact z.1,by rw[this];rfl⟩⟩
  .rw[By a hb]at ea;exact(I1.hok a o ea).stay (λ_ _ _ z=>z) (λb z=>by rw[By b (JG b _ z)];exact z) λb xs z=>by rw[By b (JG b _ z)];exact z
 have BH:∀b o,X.base.get? b=some o->b∉cl.map (·.2):=λb o z hb=>by
  obtain⟨y,hy⟩:=AE b hb;have h1:=I1.ok.cab y b (oc.fn y b hy) (oc.look y b hy);exact g! (XI (Xb z) (Xv I1.ok.bsz h1)) (Ym _)
 have JH:∀b∈frs X.stack,b∉cl.map (·.2):=λb hb hc=>by
  obtain⟨y,hy⟩:=AE b hc;rcases W9.mp (I1.stkSub b hb)with z|z
  .exact I1.cne y b (oc.look y b hy) z
  .obtain⟨_,o,ho,_⟩:=I1.ok.funs.mem z;have h1:=I1.ok.cab y b (oc.fn y b hy) (oc.look y b hy);exact g! (XI (Xb ho) h1) (Ym _)
 have e0:=I1.env0;have e2:Env0 X.prog X.w X.K X.mg X.base X.A X.stack s1 H2:=⟨e0.frames,e0.mod,λb o z=>⟨(e0.bs b o z).1,by rw[By b (BH b o z)];exact(e0.bs b o z).2⟩,e0.bsz,e0.funs,λb hb=>by rw[By b (JH b hb)];exact e0.frf b hb,NS,e0.bare⟩
 have NT:Trk X Z cl H1 H2:=by
  refine⟨Cy,By,Ct,λi y v c hN NR hc=>?_⟩;have RD:(y,c)∈cl:=Yk hc;have UL:=oc.look y c RD;have Fm:=oc.kind y c RD;obtain⟨m,hn,hl⟩:=I1.loc;obtain⟨u,ru,l⟩:=hl i y v hN NR (.inr (.inl Fm));rcases l with⟨z,_⟩|⟨_,c2,B8,z⟩
  .rw[Fm]at z;cases z
  .rw[UL]at B8;cases B8;refine⟨_,JF c (lC hc),λh z'=>⟨u,ru,?_⟩⟩;obtain⟨o,ho,hd⟩:=z;exact⟨o,by rw[z'.1];exact ho,hd⟩
 have CW:=q H2 NT;have hl:us.length=ps.length:=by rw[<-r.length];exact F.len _ _ _ _ CW
 have AJ:=hb s1 us I1.kIn (by rw[XA];exact hl);rw[XA]at AJ;refine wpAny_call (codeAny_mono (F.run X.A X.stack s1 H2 ⟨us,[]⟩ us vs _ _ hr e2 AJ r CW) λrr s' hq=>?_);cases rr with
 |error e=>exact YE hq
 | ok fl =>
   cases fl with
   |next=>exact YE hq
   |brk=>exact YE hq
   |cont=>exact YE hq
   | ret u =>
     obtain⟨v,H3,os,bare,un,JI,rv,hS,q3⟩:=hq;have UM:Exts (cl.map (·.2)) H3:=λb hb=>⟨_,(hS b hb).trans (JF b hb)⟩;have kS:∀b∈cl.map (·.2),s'.heap.get? b=s1.heap.get? b:=λb hb=>((JI b _ ((hS b hb).trans (JF b hb))).1).1;refine⟨v,fgt (cl.map (·.2)) H3,I1.call' (ch:=[]) os ⟨λb o z n hb Ba=>?_,λb o z n hb Ba=>?_,λb o z n Ba=>?_,λb o z Ba=>un.there b o z Ba,λb xs z=>?_,λb o u' z=>?_,λb pp z=>?_⟩ (JI.fgt UM) bare (λb z=>by cases z),rv,q3⟩
     .by_cases hc:b∈cl.map (·.2)
      .rw[kS b hc];exact z
      .exact un.keep b o z (by rw[By b hc];exact n) hb Ba
     .exact un.slot b o z (by rw[By b (JH b hb)];exact n) hb Ba
     .by_cases hc:b∈cl.map (·.2)
      .exact kH hc
      .rw[bO hc];exact un.free b o z (by rw[By b hc];exact n) Ba
     .have hc:=JG b _ z;rw[bO hc];exact un.tups b xs (by rw[By b hc];exact z)
     .have hc:=JG b _ z;rw[bO hc];exact un.frzs b o u' (by rw[By b hc];exact z)
     .have hc:=JG b _ z;rw[bO hc];exact un.tbls b pp (by rw[By b hc];exact z)
end
theorem Fun.okT{st:Yz}{k:Nat}(F:Fun K x qual st f fd)(hc:fd.code=.ref c)(S:ao N ps (ag st))(len:∀vs H Q E,sp vs H Q E->vs.length=ps.length)
 (Bc:∀(A:XF)(outer:List Env)(s:WZ)(H:Hp)(vs:List V)(Q:VK)(E:XK),Room k (A.deeper (envOfC qual (ag st) s.heap.objs.size f (.ref c)))->sp vs H Q E ->
  ∃t,PSs (tq CX0 P w K mg base N qual (ag st) f (.ref c) A outer s H E).nox (be st) t/\t {nx:=λ_ H'=>Q .non H',rt:=Q} (start N vs) H):aO P w K mg base CX0 (k+1) f fd ps sp:=by
 obtain⟨oc,od,kV,doc,pm,an,Ai,ct,ET,rfl,lk,Cg⟩:=F.ex;have AX:Ai=.ref c:=hc;subst AX;refine aaU lk Cg S len λA outer s H vs Q E hr CW=>?_;obtain⟨t,h,q⟩:=Bc A outer s H vs Q E hr CW;exact⟨t,h.nox,q⟩
theorem zx{st:Yz}{P:WS}(F:Fun K x qual st f fd)(hn:XZ K Xr x=some (some (.ref f)))(ht:PySem.W.tabIn K x=some (c,P)):fd.code=.ref c:=by
 obtain⟨oc,od,kV,doc,pm,an,Ai,ct,ET,rfl,lk,Cg⟩:=F.ex;unfold PySem.W.tabIn at ht;rw[hn]at ht;simp only[lk]at ht;show Ai=.ref c;cases Ai with
 | ref c2 =>
   simp only[Y0]at ht;split at ht
   .split at ht
    .cases ht;rfl
    .cases ht
   .cases ht
 |_=>simp[Y0]at ht
theorem wJ{mb:Xk->Option WV}{k:Nat}{fa T:WS}{Ac:WZ}{vs:List WV}
 (KX:K.In Ac.heap) (CC:Ac.heap.Ns Xr mg) (hb:Ac.heap.Ns builtinsNs mb) (UN:∀x:Xk,x≠"__name__"->mb x=bootBuiltins x) (G7:Ac.heap.NoLimit) (hg:Ac.gens=#[])
 (ha:Ac.heap.get? a=some {cls:=.type "list",data:=.seq vs.toArray}) (hi:IntsAre vs ns) (hl:ns.length<=Xe) (hr:Room k callerA)
 (hC:PySem.W.CodeHd Ac.heap c T) (hT:Ac.heap.get? T=some (PySem.W.tabObj #[])) (Bi:Ac.heap.BuiltinsAt mg T) (NU:K.lookup T=none)
 (F:∀base:X7,K.In base->base.Ns Xr mg->Lam mg base c T->aO P w K mg base CX k fa fd [x] sp) (JJ:∀(s:WZ)(u:WV),BindsTo s fd ⟨[u],[]⟩ [(x,u)])
 (CW:∀H:Hp,SqL K H a (ns.map q!)->H T=some (.tbl #[])->sp [.ref a] H (λv _=>v=.bl true) λ_ _ _=>False)
 (NV:∀H e s',CX [] H Ac (λ_ _ _=>False) e s'->False) :
 codeAny (Xu P w) callerA (.call (.ref fa) ⟨[.ref a],[]⟩) (λr s'=>r=.ok (.ret (.bool true))/\OldK Ac.heap s'.heap/\s'.os=Ac.os/\AllBare s'.gens) Ac:=by
 have rv:=pK hi;have NW:=hi.length;have RE:a≠T:=λz=>by rw[z,hT]at ha;cases ha
 have core:∀H:Hp,(∀b,H b=none\/(∃o xs,H b=some (.frz o (.lst xs)))\/(b=T/\H b=some (.tbl #[])))->H T=some (.tbl #[])->SqL K H a (ns.map q!)->HOk P w H Ac.heap->(∀b,H b≠none->b=a\/b=T)->(H a≠none->K.lookup a=none) ->
  codeAny (Xu P w) callerA (.call (.ref fa) ⟨[.ref a],[]⟩) (λr s'=>r=.ok (.ret (.bool true))/\OldK Ac.heap s'.heap/\s'.os=Ac.os/\AllBare s'.gens) Ac:=by
  intro H hO NX hS hok hA hK;have BF:∀{b:WS}{o:Ze},Ac.heap.get? b=some o->H b=none->(oI Ac.heap H).get? b=some o:=λe n=>xK e n
  have NY:∀{b:WS}{o:Ze},Ac.heap.get? b=some o->(∀xs n,o.data≠.seq xs n)->(∀xs,o.data≠.fields xs\/o.cls≠.none)->H b=none:=λ{b o}e d1 d2=>by
   cases q:H b with
   |none=>rfl
   | some u =>
     rcases hA b (by rw[q];simp)with e'|e'
     .subst e';rw[ha]at e;cases e;exact g! rfl (d1 _ _)
     .subst e';rw[hT]at e;cases e;rcases d2 #[]with z|z
      .exact g! rfl z
      .exact g! rfl z
  have LZ:∀{b:WS}{m:Xk->Option WV},Ac.heap.Ns b m->(oI Ac.heap H).Ns b m:=λ{b m}⟨o,es,ep,e,d,r⟩=>⟨o,es,ep,BF e (NY e (λxs n=>by rw[d];exactλz=>nomatch z) (λxs=>.inl (by rw[d];exactλz=>nomatch z))),d,r⟩
  have RG:K.In (oI Ac.heap H):=λb o e=>BF (KX b o e) (by
   cases q:H b with
   |none=>rfl
   | some u =>
     rcases hA b (by rw[q];simp)with e'|e'
     .subst e';rw[hK (by rw[q];simp)]at e;cases e
     .subst e';rw[NU]at e;cases e)
  have hM:Mod K mg (oI Ac.heap H):=⟨RG,LZ CC,⟨mb,LZ hb,UN⟩,let⟨mc,h1,h2⟩:=G7;⟨mc,LZ h1,h2⟩⟩
  have hL:Lam mg (oI Ac.heap H) c T:=by
   refine⟨?_,?_⟩
   .obtain⟨o,UO,file,tf,flags,tg,UP,text,tt,e1,r1,r2,r3⟩:=hC;exact⟨o,UO,file,tf,flags,tg,UP,text,tt,BF e1 (NY e1 (λxs n=>by rw[r2];exactλz=>nomatch z) (λxs=>.inr (by rw[r1];exactλz=>nomatch z))),r1,r2,r3⟩
   .obtain⟨bm,o,h1,h2,h3,h4,h5,h6,h7,h8⟩:=Bi;exact⟨bm,o,h1,h2,h3,h4,BF h5 (NY h5 (λxs n=>by rw[h8];exactλz=>nomatch z) (λxs=>.inl (by rw[h8];exactλz=>nomatch z))),h6,h7,h8⟩
  have e0:Env0 P w K mg (oI Ac.heap H) callerA [] Ac H:=⟨rfl,hM,λb o e=>zV e,Nat.le_of_eq (w8 _ _),trivial,λb hb=>g! (show b∈([]:List WS)from hb) (by simp),hok,.of_eq hg⟩;refine codeAny_mono ((F _ RG (LZ CC) hL).run callerA [] Ac H ⟨[.ref a],[]⟩ [.ref a] [.ref a] _ _ hr e0 (JJ Ac (.ref a)) (.cons rfl .nil) (CW H hS NX)) λr s' h=>?_;cases r with
  |error e=>exact(NV H e s' h).elim
  | ok fl =>
    cases fl with
    |next=>exact YE h
    |brk=>exact YE h
    |cont=>exact YE h
    | ret u =>
      obtain⟨v,H',os,bare,un,JK,r',q⟩:=h;have q':v=.bl true:=q;subst q';obtain rfl:u=Value.bool true:=r';refine⟨rfl,⟨λb o e=>?_,λb o e=>un.there b o e (by simp)⟩,os,bare⟩;cases q:H b with
      |none=>exact .inl (un.keep b o e q (by intro z;exact g! (show b∈([]:List WS)from z) (by simp)) (by simp))
      | some u =>
        rcases hO b with z|⟨ob,xs,z⟩|⟨rfl,z⟩
        .rw[q]at z;cases z
        .have z2:=un.frzs b ob _ z;obtain⟨e1,_⟩:=hok b _ z;obtain⟨e2,_⟩:=JK b _ z2;rw[e]at e1;cases e1;exact .inl e2
        .obtain⟨more,z2⟩:=un.tbls b _ z;have e2:s'.heap.get? b=some {cls:=.none,data:=.fields (#[]++more)}:=JK b _ z2;rw[hT]at e;cases e;exact .inr (.inl ⟨(hC.tab hT).isCodeTable,rfl,#[],more,rfl,e2⟩)
 have okT:∀H:Hp,ObjOk P w H Ac.heap T (.tbl #[]):=λ_=>hT;cases hk:K.lookup a with
 | some o =>
   have e:=KX a o hk;rw[ha]at e;cases e;refine core (λb=>if b=T then some (.tbl #[])else none) (λb=>?_) (b! rfl) (.inr ⟨_,vs.toArray,_,hk,rfl,rfl,rfl,by rw[W2,NW];exact hl,by simpa using rv⟩) (λb u z=>?_) (λb z=>?_) λz=>g! (a! RE) z
   .by_cases hb:b=T
    .exact .inr (.inr ⟨hb,b! hb⟩)
    .exact .inl (a! hb)
   .by_cases hb:b=T
    .have z':=(b! hb).symm.trans z;cases z';rw[hb];exact okT _
    .have z':=(a! hb).symm.trans z;cases z'
   .by_cases hb:b=T
    .exact .inr hb
    .exact g! (a! hb) z
 | none =>
   refine core (λb=>if b=T then some (.tbl #[])else if b=a then some (.frz {cls:=.type "list",data:=.seq vs.toArray} (.lst (ns.map q!)))else none) (λb=>?_) (b! rfl) (.inl (.inr ⟨{cls:=.type "list",data:=.seq vs.toArray},(a! RE).trans (b! rfl)⟩)) (λb u z=>?_) (λb z=>?_) λ_=>hk
   .by_cases hb:b=T
    .exact .inr (.inr ⟨hb,b! hb⟩)
    .by_cases AJ:b=a
     .exact .inr (.inl ⟨_,_,(a! hb).trans (b! AJ)⟩)
     .exact .inl ((a! hb).trans (a! AJ))
   .by_cases hb:b=T
    .have z':=(b! hb).symm.trans z;cases z';rw[hb];exact okT _
    .have z':=(a! hb).symm.trans z;by_cases AJ:b=a
     .have z2:=(b! AJ).symm.trans z';cases z2;subst AJ;exact⟨ha,by rw[WO];exact hl,vs,_,rv,ha⟩
     .have z2:=(a! AJ).symm.trans z';cases z2
   .by_cases hb:b=T
    .exact .inr hb
    .by_cases AJ:b=a
     .exact .inl AJ
     .exact g! ((a! hb).trans (a! AJ)) z
def tabAt(o:Ze):Option WS:=match o.data with
 | .fields vs=>(match(vs[11]?:Option WV)with
   |some (.ref P)=>some P
   |_=>none)
 |_=>none
theorem abL{T:WS}{sl:Array (Option WV)}{ot:Ze}(hn:XZ K Xr x=some (some (.ref f)))(hl:K.lookup f=some ⟨oc,od,.func fd,sl⟩)(hc:fd.code=.ref c)(ho:K.lookup c=some ot)(ht:tabAt ot=some T):PySem.W.tabIn K x=some (c,T):=by
 unfold PySem.W.tabIn;rw[hn];simp only[hl,hc,ho];obtain⟨o1,o2,o3,o4⟩:=ot;unfold tabAt at ht;cases o3 with
 | fields vs =>
   simp only at ht |-;split at ht
   .rename_i e
    cases ht;simp only[e]
   .cases ht
 |_=>cases ht
theorem ya{l:PySem.W.OpenLaw}{k:Nat}{q:W6}{d dt:DefRec}{K:Params->WQ}{CX:Xj->CXT}{sp:Xj->WS->Sp}{tn:Xk}
 (hn:l.most=some n) (IZ:n<=Xe) (Je:d.params.defaults=[]) (hr:Room k callerA) (hq:(recsOf q).find? (λe=>e.name == tn)=some dt)
 (hY:∀(w:Xj)(h:X7),YP w h->(K w.params).In h)
 (F:∀(w:Xj)(mg:Xk->Option WV)(fa:WS)(h:X7),(K w.params).In h->h.Ns Xr mg->mg d.name=some (.ref fa) ->
  ∃(fd:Zl)(c T:WS),(∀(s:WZ)(u:WV),BindsTo s fd ⟨[u],[]⟩ [(x,u)])/\PySem.W.tabIn (K w.params) tn=some (c,T)/\(K w.params).lookup T=none /\
    ∀base:X7,(K w.params).In base->base.Ns Xr mg->Lam mg base c T->aO l.prog w (K w.params) mg base (CX w) k fa fd [x] (sp w T))
 (CW:∀(w:Xj)(T:WS)(H:Hp)(a:WS)(ns:List Int),ns.length<=n->SqL (K w.params) H a (ns.map q!)->H T=some (.tbl #[])->sp w T [.ref a] H (λv _=>v=.bl true) λ_ _ _=>False)
 (NV:∀(w:Xj)(H:Hp)(s:WZ)(e:WV)(s':WZ),CX w [] H s (λ_ _ _=>False) e s'->False) :
 PySem.W.WalkO q loose XP YP l.row.toRowW d [] (λf vs=>PySem.call f vs):=by
 refine Att.attach_call hn Je λw s₀ Ac mg mb fa o pm cd doc a vs ns G Y ho hd Cg Jf GN hints hlen hg=>?_;have KX:=hY w _ Y;obtain⟨fd,c,T,hb,ht,NU,hF⟩:=F w mg fa _ KX G.T.g Jf;obtain⟨hC,hT⟩:=PySem.W.tab_of G.T KX hq ht
 have Bi:Ac.heap.BuiltinsAt mg T:=by
  obtain⟨bm,ob,b1,b2,b3,b4,b5,b6⟩:=G.T.bmain;refine⟨bm,ob,b1,b2,λz=>?_,λz=>?_,b3,b4,b5,b6⟩
  .obtain⟨o',es,ep,e,d',_⟩:=G.T.g;rw[z,e]at b3;cases b3;rw[d']at b6;cases b6
  .rw[z,hT]at b3;cases b3;cases b4
 exact wJ KX G.T.g G.T.b G.T.builtins G.T.nolimit hg GN hints (Xv hlen IZ) hr hC hT Bi NU hF hb (λH hS NX=>CW w T H a ns hlen hS NX) λH e s'=>NV w H Ac e s'
end L2
namespace BB
open PySem L2
def pO:Th->Option (Int×Int)
 |.knot _ _=>none
 |.call s k=>some (s,k)
def dB(t:Th):List (Int×Int):=t.walk.filterMap pO
def stT(t:Th):List Int:=(dB t).map (·.1)
def ck(ts:List Th):List Int:=ts.flatMap stT
theorem nN(s k:Int):stT (.call s k)=[s]:=rfl
theorem gW(n:Xk)(ks:List Th):stT (.knot n ks)=ck ks:=by
 unfold stT dB ck;rw[Th.walk,Z6];show((walks ks).filterMap pO).map (·.1)=_;induction ks with
 |nil=>rfl
 | cons t ts ih =>
   rw[walks,List.filterMap_append,Xc,ih];rfl
def jO(m:List Int)(s:Int):List Int:=if s∈m then m else m++[s]
def bG(m l:List Int):List Int:=l.foldl jO m
theorem eX(m a b:List Int):bG m (a++b)=bG (bG m a) b:=List.foldl_append
theorem sO(m:List Int)(s:Int):m <+: jO m s:=by
 unfold jO;split
 .exact List.prefix_refl _
 .exact List.prefix_append _ _
theorem gQ(l:List Int):∀m:List Int,m <+: bG m l:=by
 induction l with
 |nil=>exactλm=>List.prefix_refl _
 |cons s l ih=>exactλm=>(sO m s).trans (ih _)
theorem xP{m:List Int}{s x:Int}:x∈jO m s↔x∈m\/x=s:=by
 unfold jO;split
 .rename_i h
  exact⟨.inl,λz=>z.elim id λy=>y ▸ h⟩
 .rw[Xq,W7]
theorem eE{l:List Int}:∀{m:List Int}{x:Int},x∈bG m l↔x∈m\/x∈l:=by
 induction l with
 |nil=>intro m x;simp[bG]
 | cons s l ih =>
   intro m x;show x∈bG (jO m s) l↔_;rw[ih,xP,W9,or_assoc]
theorem zL{m:List Int}{s:Int}(h:m.Nodup):(jO m s).Nodup:=by
 unfold jO;split
 .exact h
 .rename_i hs
  refine List.nodup_append.mpr ⟨h,by simp,λa ha b hb e=>?_⟩;rw[W7.mp hb]at e;exact hs (e ▸ ha)
theorem vm{l:List Int}:∀{m:List Int},m.Nodup->(bG m l).Nodup:=by
 induction l with
 |nil=>exactλh=>h
 |cons s l ih=>exactλh=>ih (zL h)
def bfs(R:Int->List Th):Nat->List Int->Nat->List Int
 |0,m,_=>m
 | n+1,m,i=>match m[i]? with
   |none=>m
   |some s=>bfs R n (bG m (ck (R s))) (i+1)
theorem jM(R:Int->List Th):∀(n:Nat)(m:List Int)(i:Nat),m <+: bfs R n m i
 |0,m,i=>List.prefix_refl _
 | n+1,m,i=>by
   rw[bfs];split
   .exact List.prefix_refl _
   .exact(gQ _ _).trans (jM R n _ _)
theorem yP(R:Int->List Th):∀(n:Nat)(m:List Int)(i:Nat),m.Nodup->(bfs R n m i).Nodup
 |0,m,i,h=>h
 | n+1,m,i,h=>by
   rw[bfs];split
   .exact h
   .exact yP R n _ _ (vm h)
theorem xq(R:Int->List Th)(p:Int->Prop)(hR:∀s,p s->∀x∈ck (R s),p x):∀(n:Nat)(m:List Int)(i:Nat),(∀x∈m,p x)->∀x∈bfs R n m i,p x
 |0,m,i,h=>h
 | n+1,m,i,h=>by
   rw[bfs];split
   .exact h
   .rename_i s hs
    refine xq R p hR n _ _ λx hx=>?_;rcases eE.mp hx with z|z
    .exact h x z
    .exact hR s (h s (WU hs)) x z
theorem aau(R:Int->List Th)(n:Nat)(m:List Int)(i:Nat)(h:m.length<=i):bfs R n m i=m:=by
 cases n with
 |zero=>rfl
 |succ n=>rw[bfs,ZH h]
def idx(M:List Int)(s:Int):Int:=(M.idxOf s:Nat)
theorem vd{m M:List Int}(h:m <+: M){s:Int}(hs:s∈m):idx M s=idx m s:=by
 obtain⟨r,rfl⟩:=h;unfold idx;rw[List.idxOf_append,b! hs]
theorem ue{M:List Int}{s:Int}(hs:s∈M):0<=idx M s/\idx M s<(M.length:Int):=by
 have:=List.idxOf_lt_length_of_mem hs;unfold idx;omega
theorem aaa{M:List Int}{s:Int}(hs:s∈M):M[(idx M s).toNat]?=some s:=by
 have h:=List.idxOf_lt_length_of_mem hs;unfold idx;rw[XM,WR h,List.getElem_idxOf h]
def ren(g:Int->Int)(t:Th):Th:=t.fill λs k=>.call (g s) k
theorem mD(g:Int->Int)(s k:Int):ren g (.call s k)=.call (g s) k:=by unfold ren;rw[v!]
theorem db(f:Int->Int->Th):∀ts:List Th,fills f ts=ts.map (·.fill f)
 | []=>rfl
 |t::ts=>by rw[fills,db f ts];rfl
theorem oy(g:Int->Int)(n:Xk)(ks:List Th):ren g (.knot n ks)=.knot n (ks.map (ren g)):=by
 unfold ren;rw[v!,db]
theorem rN{t:Th}{x:Int}(ht:t∈ts)(hx:x∈stT t):x∈ck ts:=List.mem_flatMap.mpr ⟨t,ht,hx⟩
mutual
theorem uI{g h:Int->Int}:∀t:Th,(∀s∈stT t,g s=h s)->ren g t=ren h t
 |.call s k,e=>by rw[mD,mD,e s (by rw[nN];exact W7.mpr rfl)]
 | .knot n ks,e=>by
   rw[oy,oy,u6 ks λs hs=>e s (by rw[gW];exact hs)]
theorem u6{g h:Int->Int}:∀ts:List Th,(∀s∈ck ts,g s=h s)->ts.map (ren g)=ts.map (ren h)
 | [],_=>rfl
 | t::ts,e=>by
   rw[XB,XB,uI t λs hs=>e s (XH _ hs),u6 ts λs hs=>e s (XC _ hs)]
end
mutual
theorem ow(g:Int->Int):∀t:Th,(ren g t).size=t.size/\(ren g t).tall=t.tall
 |.call s k=>by rw[mD,p!,p!,r!,r!];exact⟨rfl,rfl⟩
 | .knot n ks=>by
   have:=pw g ks;rw[oy,p!,p!,r!,r!,this.1,this.2];exact⟨rfl,rfl⟩
theorem pw(g:Int->Int):∀ts:List Th,aw (ts.map (ren g))=aw ts/\aC (ts.map (ren g))=aC ts
 | []=>⟨rfl,rfl⟩
 | t::ts=>by
   have h1:=ow g t;have h2:=pw g ts;rw[XB,aw,aw,aC,aC,h1.1,h1.2,h2.1,h2.2];exact⟨rfl,rfl⟩
end
def rowOf(rows:List (List Th))(s:Int):List Th:=rows.getD s.toNat []
theorem ox{R:Int->List Th}:∀(n:Nat)(m:List Int)(i:Nat),(bfs R n m i).length<i+n->(∀j s,j<i->m[j]?=some s->∀x∈ck (R s),x∈bfs R n m i)->∀s∈bfs R n m i,∀x∈ck (R s),x∈bfs R n m i
 | 0,m,i,hl,h=>λs hs x hx=>by
   obtain⟨j,hj⟩:=Xp.mp hs;have Ep:=(glE hj);exact h j s (by rw[bfs]at hl Ep;omega) hj x hx
 | n+1,m,i,hl,h=>by
   rw[bfs]at hl h |-;cases hi:m[i]? with
   | none =>
     rw[hi]at h;intro s hs x hx;obtain⟨j,hj⟩:=Xp.mp (show s∈m from hs);have Ep:=(glE hj);have:=List.getElem?_eq_none_iff.mp hi;exact h j s (by omega) hj x hx
   | some s0 =>
     rw[hi]at hl h
     have GJ:(bfs R n (bG m (ck (R s0))) (i+1)).length<i+1+n:=by
      have:(bfs R n (bG m (ck (R s0))) (i+1)).length<i+(n+1):=hl;omega
     refine ox n (bG m (ck (R s0))) (i+1) GJ λj s hj RH x hx=>?_;have hp:=jM R n (bG m (ck (R s0))) (i+1);have Cr:=(glE hi)
     have hm:m[j]?=some s:=by
      obtain⟨r,hr⟩:=gQ (ck (R s0)) m;rw[<-hr,Yw (by omega)]at RH;exact RH
     by_cases NZ:j=i
     .rw[NZ,hi]at hm;cases hm;exact hp.subset (eE.mpr (.inr hx))
     .exact h j s (by omega) hm x hx
end BB
namespace L2
open PySem PySem.Spec PySem.SeqAt PyProof.Rows
theorem sY{k l:Key}{v:WV}(hu:iJ k u=true)(hv:iJ l v=true):EqAt A s u v (decide (k=l)):=by
 rcases bi hu with⟨i,t,rfl,rfl⟩|⟨x,t,rfl,rfl⟩
 .rcases bi hv with⟨j,t',rfl,rfl⟩|⟨y,t',rfl,rfl⟩
  .have:decide ((Xn i:Key)=Xn j)=(i == j):=by
    by_cases h:i=j
    .subst h;simp
    .rw[c! (λz=>h (YV z)),beq_eq_false_iff_ne.mpr h]
   rw[this];exact EqAt.int_int i t j t'
  .rw[c! (λz=>nomatch z)];exact EqAt.int_str i t y t'
 .rcases bi hv with⟨j,t',rfl,rfl⟩|⟨y,t',rfl,rfl⟩
  .rw[c! (λz=>nomatch z)];exact EqAt.str_int x t j t'
  .have:decide ((Zv x:Key)=Zv y)=(x == y):=by
    by_cases h:x=y
    .subst h;simp
    .rw[c! (λz=>h (Sum.inr.inj z)),beq_eq_false_iff_ne.mpr h]
   rw[this];exact EqAt.str_str x t y t'
theorem j3:∀{ks:List Key}{vs:List WV}{j:Nat}{k:Key}{v:WV},ItemsAre (av P w) ks vs->ks[j]?=some k->vs[j]?=some v->iJ k v=true
 |_,_,0,k,v,.cons h _,e1,e2=>by cases e1;cases e2;exact h
 |_,_,j+1,k,v,.cons _ h,e1,e2=>j3 (j:=j) h e1 e2
theorem wq{x y:List Key}(hx:IsTupleKey (av P w) s.heap x a)(hy:IsTupleKey (av P w) s.heap y b)(hu:A.units<YM):EqAt A s (.ref a) (.ref b) (decide (x=y)):=by
 by_cases Cs:a=b
 .subst Cs;obtain rfl:=hx.inj hy;rw[d! rfl];exact EqAt.same _
 .obtain⟨o,its,n,ho,hc,hd,hi⟩:=hx;obtain⟨o',its',n',BC,AX,BD,Be⟩:=hy;have p1:s.heap.IsTuple a its.toList.toArray:=⟨o,ho,hc,n,by rw[hd]⟩;have p2:s.heap.IsTuple b its'.toList.toArray:=⟨o',BC,AX,n',by rw[BD]⟩;have:=iX (ds:=x) (es:=y) p1 p2 hi.length.symm Be.length.symm hu λj d e u v e1 e2 e3 e4=>sY (A:=A.in1) (s:=s) (j3 hi e1 e3) (j3 Be e2 e4);exact EqAt.of_refs Cs this
abbrev ay:=List Key×Key
theorem ub{ks:List Key}{Q:Bool->WZ->Prop}(hk:IsTupleKey (av P w) s.heap ks a)(h:Q true s):Xa (Xu P w) A (eqIsQuiet (m+1) (.ref a)) Q E s:=by
 have hT:=hk.typeIs;obtain⟨o,items,n,ho,_,hd,hi⟩:=hk;unfold eqIsQuiet;refine WN (Ys hT F.slot_tuple_eq.lookup ?_);show Xa _ _ (isInstance (.ref a) (.type "tuple") >>= _) _ _ s;refine WN (ZL hT isSubtype_tuple_tuple ?_);simp only[Bool.not_true,Yd,if_false];refine WN (YB ho hd ?_);refine WN ?_;show Xa _ _ (forIn items _ _) _ _ s;rw[<-Array.forIn_toList];refine wpAny_forIn_list _ (λrest r s'=>r.1=none/\s'=s/\∀v∈rest,carriedByValue v=true) _ ?_ ?_ _ _ ⟨rfl,rfl,hi.byValue⟩
 .rintro v rest r s' ⟨hr,rfl,Aa⟩;rw[eqIsQuiet_byValue _ (Aa v Xh)];refine WN (WX ?_);simp only[Bool.not_true,Yd,if_false];exact WX ⟨rfl,rfl,λu Ca=>Aa u (Xf _ Ca)⟩
 .rintro⟨r1,r2⟩ s' ⟨hr,rfl,_⟩;simp only at hr;subst hr;exact WX h
section
variable{o i value:X8}{td ty tv:TE}
end
end L2
variable{f':List (L2.ay×L2.V)}{Al:List L2.ay}
namespace BB
open PySem L2
def fD(fs:List (Int->Th))(s c:Int):Th:=(fs.getD c.toNat λ_=>.knot (WT "") []) s
mutual
def eB(pat:Int->Xk->Th):Th->Int->Th
 |.call l h,s=>.call (enc s l) h
 |.knot n ts,s=>(pat s n).fill (fD (cX pat ts))
def cX(pat:Int->Xk->Th):List Th->List (Int->Th)
 | []=>[]
 |t::ts=>eB pat t::cX pat ts
end
theorem ku(pat:Int->Xk->Th):∀ts:List Th,cX pat ts=ts.map (eB pat)
 | []=>by rw[cX];rfl
 |t::ts=>by rw[cX,ku pat ts];rfl
def made(pat:Int->Xk->Th)(p k:Th):Th:=p.fill (fD (cX pat k.kids))
theorem wu(pat:Int->Xk->Th)(n:Xk)(ks:List Th)(k:Th):made pat (.knot n ks) k=.knot n (ks.map λp=>made pat p k):=by
 unfold made;rw[v!,db]
theorem wB(pat:Int->Xk->Th){s c:Int}{k k':Th}(h:k.kids[c.toNat]?=some k'):made pat (.call s c) k=eB pat k' s:=by
 unfold made;rw[v!];unfold fD;rw[ku,ZP,W0,h];rfl
theorem wt(pat:Int->Xk->Th)(n:Xk)(ts:List Th)(s:Int):eB pat (.knot n ts) s=made pat (pat s n) (.knot n ts):=by
 rw[eB];rfl
mutual
theorem iP(f:Int->Int->Th)(hf:∀s c,(f s c).tall<=m+1):∀t:Th,(t.fill f).tall<=t.tall+m
 | .call s c=>by
   rw[v!,r!];have:=hf s c;omega
 | .knot n ks=>by
   have:=kU f hf ks;rw[v!,r!,r!];omega
theorem kU(f:Int->Int->Th)(hf:∀s c,(f s c).tall<=m+1):∀ts:List Th,aC (fills f ts)<=aC ts+m
 | []=>by rw[fills,aC];exact Xi _
 | t::ts=>by
   have h1:=iP f hf t;have h2:=kU f hf ts;rw[fills,aC,aC];omega
end
theorem FitSs.mem'{ks:List (Xk×Int)}:∀{ts:List Th},FitSs ks S C ts->∀t∈ts,t.FitS ks S C
 | [],_,t,ht=>by cases ht
 | u::us,h,t,ht=>by
   rw[FitSs]at h;rcases W9.mp ht with e|e
   .rw[e];exact h.1
   .exact FitSs.mem' h.2 t e
def bM(ins:List (Xk×Int))(rows:List (List Th))(s:Int)(n:Xk):Th:=(rowOf rows s).getD ((ins.map (·.1)).idxOf n) (.knot (WT "") [])
theorem n8(g:cS ins){s:Int}{row:List Th}{n:Xk}{m:Int}(hr:rows[s.toNat]?=some row)(hj:ins[j]?=some (n,m))(hp:row[j]?=some p):bM ins rows s n=p:=by
 have h1:(ins.map (·.1))[j]?=some n:=by rw[W0,hj];rfl
 obtain⟨hl,he⟩:=YH.mp h1;have h2:(ins.map (·.1)).idxOf n=j:=by rw[<-he];exact List.Nodup.idxOf_getElem (tY g) j hl
 unfold bM rowOf;rw[h2,ZP,ZP,hr];show(row[j]?).getD _=p;rw[hp];rfl
structure FitB(ins outs:List (Xk×Int))(S:Int)(rows:List (List Th)):Prop where
 len:(rows.length:Int)=S
 row:∀row∈rows,row.length=ins.length/\∀(j:Nat)(p:Th)(k:Xk×Int),row[j]?=some p->ins[j]?=some k->p.FitS outs S k.2
mutual
def cnT:Th->Nat
 |.knot _ ks=>cF ks
 |.call _ _=>1
def cF:List Th->Nat
 | []=>0
 |t::ts=>cnT t+cF ts
end
structure Small(t:Th):Prop where
 tall:t.tall<=20
 kn:t.kn<=400
 cn:cnT t<=200
theorem aaZ(t:Th):t.kn=(if t.isCall=true then 0 else 1)+kns t.kids:=by
 cases t with
 |knot n ks=>rw[Th.kn,Th.isCall,M!,a! W8];omega
 |call s k=>rw[Th.kn,Th.isCall,M!,b! rfl,kns]
theorem aaF(t:Th):cnT t=(if t.isCall=true then 1 else 0)+cF t.kids:=by
 cases t with
 |knot n ks=>rw[cnT,Th.isCall,M!,a! W8];omega
 |call s k=>rw[cnT,Th.isCall,M!,b! rfl,cF]
theorem mq(a b:List Th):kns (a++b)=kns a+kns b:=by
 induction a with
 |nil=>rw[Zp,kns];omega
 |cons x a ih=>rw[Yn,kns,kns,ih];omega
theorem lE(a b:List Th):cF (a++b)=cF a+cF b:=by
 induction a with
 |nil=>rw[Zp,cF];omega
 |cons x a ih=>rw[Yn,cF,cF,ih];omega
mutual
theorem qb:∀t:Th,t.size=t.kn+cnT t
 |.knot n ks=>by rw[p!,Th.kn,cnT,sK ks];omega
 |.call s k=>by rw[p!,Th.kn,cnT]
theorem sK:∀ts:List Th,aw ts=kns ts+cF ts
 | []=>by rw[aw,kns,cF]
 |t::ts=>by rw[aw,kns,cF,qb t,sK ts];omega
end
theorem Small.size{t:Th}(h:Small t):t.size<=600:=by
 have:=qb t;have:=h.kn;have:=h.cn;omega
def sol(t:Th):Th:=.knot (WT "") [t]
def cu(R:Int->List Th)(head:Th):List Int:=bfs R 21 (bG [] (stT head)) 0
mutual
theorem v9{q:Int->Prop}(f:Int->Int->Th){ks:List (Xk×Int)}(hf:∀s c,0<=s->s<S->0<=c->c<C->∀x∈stT (f s c),q x):∀t:Th,t.FitS ks S C->∀x∈stT (t.fill f),q x
 | .call s c,h,x,hx=>by
   rw[A!]at h;rw[v!]at hx;exact hf s c h.1 h.2.1 h.2.2.1 h.2.2.2 x hx
 | .knot n ts,h,x,hx=>by
   rw[A!]at h;rw[v!,gW]at hx;exact sN f hf ts h.2 x hx
theorem sN{q:Int->Prop}(f:Int->Int->Th){ks:List (Xk×Int)}(hf:∀s c,0<=s->s<S->0<=c->c<C->∀x∈stT (f s c),q x):∀ts:List Th,FitSs ks S C ts->∀x∈ck (fills f ts),q x
 | [],_,x,hx=>by rw[fills]at hx;cases hx
 | t::ts,h,x,hx=>by
   rw[FitSs]at h;rw[fills]at hx;have Ba:x∈stT (t.fill f)++ck (fills f ts):=hx;rcases Xq.mp Ba with z|z
   .exact v9 f hf t h.1 x z
   .exact sN f hf ts h.2 x z
end
theorem oU(ok:FitB ins outs S rows){l:Int}(h0:0<=l)(h1:l<S):∃row,rows[l.toNat]?=some row/\rowOf rows l=row/\row.length=ins.length/\∀t∈row,∃C,t.FitS outs S C:=by
 have hl:=ok.len;have hs:l.toNat<rows.length:=by omega
 refine⟨rows[l.toNat],WR hs,?_,(ok.row _ (List.getElem_mem hs)).1,λt ht=>?_⟩
 .unfold rowOf;rw[ZP,WR hs];rfl
 .obtain⟨hlen,AY⟩:=ok.row _ (List.getElem_mem hs);obtain⟨j,hj⟩:=Xp.mp ht;have Ep:=(glE hj);exact⟨_,AY j t _ hj (WR (by omega))⟩
section
variable{mid:List (Xk×Int)}{S1 S2:Int}{Es Et:Th}{Eu Ew:List (List Th)}
theorem zk(R:Int->List Th)(h:Th):(cu R h).Nodup:=yP _ _ _ _ (vm List.nodup_nil)
end
end BB
namespace L2
open PySem PySem.Spec PySem.Calls PyProof.Rows
abbrev mU:Ze:={cls:=.type "frame",data:=.dict #[]}
abbrev vi:Ze:={cls:=.type "cell",data:=.cell none}
theorem jU{globals:WS}{closure:List (Xk×WS)}{binds:List (Xk×WV)}{func:Option WS}{code:WV}{builtins:WS}{Q:Env->WZ->Prop}
 (hk:scope.kind=.function) (hl:∀x∈binds,scope.names.lookup x.1=some .local)
 (hQ:∀h',h'.Ns s.heap.objs.size (λx=>binds.reverse.lookup x)->YF s.heap.objs.size (pushCells (s.heap.push mU) scope.names) h' ->
  Q (newEnv scope s.heap.objs.size globals (cellsFrom (s.heap.objs.size+1) scope.names closure) qual func code none builtins) {s with heap:=h',toks:=s.toks+binds.length}) :
 Xa M A (newFunctionEnv scope globals closure binds qual func code none builtins) Q E s:=by
 simp only[newFunctionEnv,Option.isSome_none,Yd,if_false];refine WN (wpAny_alloc ?_);refine WN (wpAny_layCells _ (λname kind cells=>by cases UQ:kind == NameKind.cell <;> simp[UQ]) _ _ _ _ ?_);rw[show({s with heap:=s.heap.push {cls:=.type "frame",data:=.dict #[]}}:WZ).heap.objs.size=s.heap.objs.size+1 from X3 ..];refine WN ?_;generalize Cz:cellsFrom (s.heap.objs.size+1) scope.names closure=cs at hQ |-
 refine wpAny_forIn_list _
  (λrest _ s'=>∃done h',binds=done++rest/\s'={s with heap:=h',toks:=s.toks+done.length} /\
   h'.Ns s.heap.objs.size (λx=>done.reverse.lookup x) /\
   YF s.heap.objs.size (pushCells (s.heap.push mU) scope.names) h') _ ?_ ?_ binds _
  ⟨[],_,rfl,rfl,(Heap.Ns.new ..).keeps (pushCells_keeps _ _),Heap.SameBut.refl ..⟩
 .rintro⟨name,v⟩ rest _ s' ⟨done,h',hb,rfl,CC,CY⟩
  have AV:Env.kindOf {scope,locals:=s.heap.objs.size,globals,cells:=cs,qual,func,code,frame:=some s.heap.objs.size,builtins} name=some .local :=
   hl (name,v) (by rw[hb];simp)
  have hp:(({scope,locals:=s.heap.objs.size,globals,cells:=cs,qual,func,code,frame:=some s.heap.objs.size,builtins}:Env).scope.kind == .class ||(({scope,locals:=s.heap.objs.size,globals,cells:=cs,qual,func,code,frame:=some s.heap.objs.size,builtins}:Env).scope.kind == .module &&
   ({scope,locals:=s.heap.objs.size,globals,cells:=cs,qual,func,code,frame:=some s.heap.objs.size,builtins}:Env).locals != ({scope,locals:=s.heap.objs.size,globals,cells:=cs,qual,func,code,frame:=some s.heap.objs.size,builtins}:Env).globals))=false:=by
   show(scope.kind == .class ||(scope.kind == .module && _))=false;rw[hk];rfl
  simp only[storeName_local AV hp];refine WN (wpAny_nsSet CC λJv N1 N2=>WX ⟨done++[(name,v)],Jv,by simp[hb],?_,?_,CY.trans N2⟩)
  .simp[Z3]
  .rw[lookup_reverse_snoc];exact N1
 .rintro _ s' ⟨done,h',hb,rfl,CC,CY⟩;rw[XA]at hb;subst hb;exact WX (hQ h' CC CY)
def NestAt(H:Hp)(f c':WS)(name qual:Xk)(params:Arguments)(body:List Yz)(scope:Z7)(cl:List (Xk×WS)):Prop:=∃φ,H f=some (.ext φ)/\∀h:X7,φ h->∃doc pm DR,h.get? f=some (PySem.W.fnMade name qual params body scope cl doc pm c' DR)
theorem NestAt.mono(s:Same H H'){c':WS}{name:Xk}(h:NestAt H f c' name qual params body scope cl):NestAt H' f c' name qual params body scope cl:=by
 obtain⟨φ,h1,h2⟩:=h;exact⟨φ,s _ _ h1,h2⟩
def cxN(P:W6)(w:Xj)(K:WQ)(mg:Xk->Option WV)(base:X7)(N:List Xk)(qual:Xk)(scope:Z7)(f:WS)(cd:WV)(y:Xk)(cl:List (Xk×WS))(A:XF)(outer:List Env)(s:WZ)(H:Hp):Cx where
 prog:=P
 w:=w
 K:=K
 mg:=mg
 base:=base
 A:=A.deeper (PySem.W.envX qual scope s.heap.objs.size f cd ((y,s.heap.objs.size+1)::cl))
 N:=N
 s₀:=s
 H₀:=fgt (cl.map (·.2)) H
 env:=PySem.W.envX qual scope s.heap.objs.size f cd ((y,s.heap.objs.size+1)::cl)
 outer:=outer
 stack:=PySem.W.envX qual scope s.heap.objs.size f cd ((y,s.heap.objs.size+1)::cl)::outer
 ex:=[]
 calm:=true
 fn:=λx=>x == y
 pn:=[]
 xe:=λ_ _=>False
structure oQ(N ps fs:List Xk)(y:Xk)(cl:List (Xk×WS))(sc:Z7):Prop where
 kind:sc.kind=.function
 co:sc.isCoroutine=false
 gen:sc.isGenerator=false
 nd:N.Nodup
 pre:N.take (ps.length+fs.length)=ps++fs
 par:∀x∈ps,sc.names.lookup x=some .local
 fre:∀x∈fs,sc.names.lookup x=some .free
 cells:∀n:Nat,cellsFrom n sc.names cl=(y,n)::cl
 push:∀h:X7,pushCells h sc.names=h.push vi
 cel:∀x,sc.names.lookup x=some .cell->x=y
 has:∀x,sc.names.lookup x=some .free->∃c,cl.lookup x=some c
 inj:∀x z c,cl.lookup x=some c->cl.lookup z=some c->x=z
 ney:∀x∈fs,(x == y)=false
 neq:∀x,sc.names.lookup x=some .free->(x == y)=false
theorem zF{k:Nat}{c':WS}{name y:Xk}{fs:List Xk}
 (S:oQ N ps fs y cl scope) (bind:∀(doc pm DR:WV)(us:List WV),us.length=ps.length->bindArgs (PySem.W.fnX name qual params body scope cl .none .none doc pm none (.ref c') DR) ⟨us,[]⟩=pure (ps.zip us))
 (CW:∀vs H Q E,sp vs H Q E->vs.length=ps.length/\NestAt H f c' name qual params body scope cl/\CodeAt H c' qual/\Exts (cl.map (·.2)) H/\∀x c,cl.lookup x=some c->∃v,CellAt H c v)
 (Bc:∀(A:XF)(outer:List Env)(s:WZ)(H:Hp)(vs:List V)(Q:VK)(E:XK),Room k (A.deeper (PySem.W.envX qual scope s.heap.objs.size f (.ref c') ((y,s.heap.objs.size+1)::cl)))->sp vs H Q E ->
  ∃t ws,aad H cl fs ws/\PSs (cxN P w K mg base N qual scope f (.ref c') y cl A outer s H) body t/\t {nx:=λ_ H'=>(∀b∈cl.map (·.2),H' b=none)->Q .non (rst (cl.map (·.2)) H H'),rt:=λv H'=>(∀b∈cl.map (·.2),H' b=none)->Q v (rst (cl.map (·.2)) H H')} (start N (vs++ws)) (fgt (cl.map (·.2)) H)) :
 aap P w K mg base CX0 (k+1) f sp where
 fn:=λA outer s H vs Q E e0 h=>by
  obtain⟨_,⟨φ,h1,h2⟩,_⟩:=CW _ _ _ _ h;obtain⟨doc,pm,DR,e⟩:=h2 _ (e0.hok f _ h1).1;exact⟨_,_,_,_,e⟩
 run:=λA outer s H us vs Q E hr e0 r h=>by
  obtain⟨hl,⟨φ,h1,h2⟩,⟨ψ,g1,g2⟩,hx,N3⟩:=CW _ _ _ _ h;obtain⟨doc,pm,DR,ef⟩:=h2 _ (e0.hok f _ h1).1;have UR:=g2 _ (e0.hok c' _ g1).1;have Fb:us.length=ps.length:=by rw[<-r.length];exact hl
  have N4:∀z∈ps.zip us,scope.names.lookup z.1=some .local:=λ⟨n,v⟩hy=>S.par n (List.of_mem_zip hy).1;refine codeAny_call_function hr.depth ef rfl S.co S.gen rfl UR ?_;rw[show bindArgs _ _=_ from bind doc pm DR us Fb];refine WX (jU S.kind N4 λAp CC CY=>?_);rw[S.push]at CY;have CO:∀b o,s.heap.get? b=some o->Ap.get? b=some o:=λb o e=>CY.extBut b o (Xy (Xb e)) (WW _ (WW _ e));have N5:(s.heap.push mU).objs.size=s.heap.objs.size+1:=X3 ..;have N6:Ap.IsCell (s.heap.objs.size+1) none:=⟨vi,CY.extBut _ _ (Nat.ne_of_gt (Nat.lt_succ_self _)) (by rw[<-N5];exact W4 _ rfl),rfl⟩;refine⟨e0.mod.nolimit.keeps λb o e=>CO b o (e0.bs b o e).1,codeAny_func ?_⟩;show Xa _ (A.deeper (newEnv scope s.heap.objs.size Xr (cellsFrom (s.heap.objs.size+1) scope.names cl) (qual++".<locals>.") (some f) (.ref c') none builtinsNs)) _ _ _ _;rw[S.cells];obtain⟨t,ws,hws,ht,hq⟩:=Bc A outer s H vs Q E (hr.deeper _) h;have Ef:fs.length=ws.length:=W5 hws;have AS:ps.length+fs.length<=N.length:=by have:=h! ZX S.pre;rw[XO,Xg]at this;omega
  have Bx:∀x c,cl.lookup x=some c->c∈cl.map (·.2):=λx c e=>lC e
  have Am:∀c∈cl.map (·.2),c<s.heap.objs.size:=λc hc=>by
   obtain⟨G9,e⟩:=hx c hc;exact e0.hok.lt e
  have look:∀x c,((y,s.heap.objs.size+1)::cl).lookup x=some c->(x=y/\c=s.heap.objs.size+1)\/((x == y)=false/\cl.lookup x=some c):=λx c e=>by
   rw[YK]at e;cases hb:x == y with
   |true=>rw[hb]at e;cases e;exact .inl ⟨beq_iff_eq.mp hb,rfl⟩
   |false=>rw[hb]at e;exact .inr ⟨rfl,e⟩
  have Gf:∀x c,(x == y)=false->cl.lookup x=some c->((y,s.heap.objs.size+1)::cl).lookup x=some c:=λx c hb e=>by
   rw[YK,hb];exact e
  have JL:((y,s.heap.objs.size+1)::cl).lookup y=some (s.heap.objs.size+1):=by
   rw[YK,beq_self_eq_true]
  have Ha:∀x c,((y,s.heap.objs.size+1)::cl).lookup x=some c->∃v,Ap.IsCell c v:=λx c e=>by
   rcases look x c e with⟨_,rfl⟩|⟨_,e⟩
   .exact⟨_,N6⟩
   .obtain⟨v,hv⟩:=N3 x c e;obtain⟨u,_,o,ho,hd⟩:=hv.now e0.hok;exact⟨_,o,CO _ _ ho,hd⟩
  have Hf:∀b,H b=none->fgt (cl.map (·.2)) H b=none:=λb e=>by
   by_cases hb:b∈cl.map (·.2)
   .exact kH hb
   .rw[bO hb];exact e
  have ndP:ps.Nodup:=by
   have:N.take (ps.length+fs.length)=ps++fs:=S.pre;have h2:(ps++fs).Nodup:=by rw[<-this];exact S.nd.sublist (List.take_sublist _ _)
   exact(List.nodup_append.mp h2).1
  have Fn:∀(i:Nat)(x:Xk),i<ps.length+fs.length->N[i]?=some x->(ps++fs)[i]?=some x:=λi x hi e=>by
   rw[<-S.pre,List.getElem?_take_of_lt hi];exact e
  have I:Inv (cxN P w K mg base N qual scope f (.ref c') y cl A outer s H) [] (start N (vs++ws)) (fgt (cl.map (·.2)) H) {s with heap:=Ap,toks:=s.toks+(ps.zip us).length}:=by
   refine⟨⟨e0.mod,S.kind,rfl,rfl,WY _,λx z c e1 e2=>?_,λx hx=>?_,λx c hf e=>?_,λ_=>hr.hd,Around.frames_deeper e0.frames,.inr ⟨rfl,rfl⟩,λb z=>(by cases z),λb o e=>⟨(e0.bs b o e).1,?_⟩,e0.bsz,λb _ _ z=>(by cases z),λb z=>(by cases z),e0.funs,λb hb=>?_⟩,
    rfl,e0.bare,Un.kept CO,⟨_,CC,λi x v e1 e2 e3=>?_⟩,Ha,?_,λx c e=>?_,λp hp=>(by cases hp),?_,?_⟩
   .rcases look x c e1 with⟨rfl,h1⟩|⟨_,h1⟩ <;> rcases look z c e2 with⟨rfl,h2⟩|⟨_,h2⟩
    .rfl
    .have:=Am c (Bx _ _ h2);omega
    .have:=Am c (Bx _ _ h1);omega
    .exact S.inj x z c h1 h2
   .have Ba:scope.names.lookup x=some .cell\/scope.names.lookup x=some .free:=hx;rcases Ba with z|z
    .exact⟨_,by rw[S.cel x z];exact JL⟩
    .obtain⟨c,hc⟩:=S.has x z;exact⟨c,Gf x c (S.neq x z) hc⟩
   .have JM:(x == y)=true:=hf;rcases look x c e with⟨_,h1⟩|⟨h1,_⟩
    .show s.heap.objs.size<=c;omega
    .rw[h1]at JM;cases JM
   .exact Hf b (e0.bs b o e).2
   .exact Hf b (e0.frf b hb)
   .have CF:i<(vs++ws).length:=by
     unfold start at e2;by_cases hi:i<(vs++ws).length
     .exact hi
     .rw[Zc (by simpa using hi)]at e2;rw[List.getElem?_replicate]at e2;split at e2 <;> cases e2
    have ha:(vs++ws)[i]?=some v:=by
     unfold start at e2;rw[Yw (by simpa using CF),W0]at e2;cases e:(vs++ws)[i]? with
     |none=>rw[e]at e2;cases e2
     |some a=>rw[e]at e2;cases e2;rfl
    rw[Xg]at CF;have hp:=Fn i x (by omega) e1;by_cases hi:i<vs.length
    .rw[Yw hi]at ha;rw[Yw (by omega)]at hp;obtain⟨u,hu,rv⟩:=r.get ha;exact⟨u,rv,.inl ⟨S.par x (WU hp),sL ndP Fb hp hu⟩⟩
    .rw[Zc (by omega)]at ha;rw[Zc (by omega)]at hp;rw[hl]at ha;obtain⟨w',EX,c,hc,Bp⟩:=H! hws hp;rw[ha]at EX;cases EX;obtain⟨u,ru,o,ho,US⟩:=Bp.now e0.hok;have hm:=WU hp;exact⟨u,ru,.inr ⟨.inr (S.fre x hm),c,Gf x c (S.ney x hm) hc,o,CO _ _ ho,US⟩⟩
   .exact Hf _ (e0.hok.fresh (WY _))
   .rcases look x c e with⟨_,rfl⟩|⟨_,e⟩
    .exact Hf _ (e0.hok.fresh (by omega))
    .exact kH (Bx x c e)
   .exact(e0.hok.fgt hx).kept CO
   .show(start N (vs++ws)).length=N.length;unfold start;rw[Xg,WO,List.length_replicate,Xg];omega
  refine Y7 (ht [] _ _ _ _ I hq) (λfl s' hs=>?_) λe s' z=>z.elim
  have fin:∀{Ab:St}{H':Hp}{v:V}{u:WV},Inv (cxN P w K mg base N qual scope f (.ref c') y cl A outer s H) [] Ab H' s'->RelV v u->((∀b∈cl.map (·.2),H' b=none)->Q v (rst (cl.map (·.2)) H H'))->CE outer P w H s Q u s':=λ{Ab H' v u}I' rv q'=>by
   have un:Un (frs outer) [] (fgt (cl.map (·.2)) H) H' s.heap s'.heap:=I'.base
   have kS:∀b∈cl.map (·.2),∀o,s.heap.get? b=some o->s'.heap.get? b=some o:=λb hb o e=>un.keep b o e (kH hb) (λz=>by
    obtain⟨G9,e'⟩:=hx b hb;rw[e0.frf b z]at e';cases e') (by simp)
   have L3:∀b∈cl.map (·.2),H' b=none:=λb hb=>by
    obtain⟨G9,e'⟩:=hx b hb;obtain⟨_,⟨o,ho⟩,_⟩:=e0.hok b _ e';exact un.free b o ho (kH hb) (by simp)
   have nS:∀b,H b=none->b∉cl.map (·.2):=λb e hb=>by
    obtain⟨G9,e'⟩:=hx b hb;rw[e]at e';cases e'
   refine⟨v,rst (cl.map (·.2)) H H',I'.os,I'.bare,⟨λb o e n hb Ba=>un.keep b o e (Hf b n) hb Ba,λb o e n hb Ba=>un.slot b o e (Hf b n) hb Ba,λb o e n Ba=>?_,λb o e Ba=>un.there b o e Ba,λb xs e=>?_,λb o u' e=>?_,λb pp e=>?_⟩,HOk.rst e0.hok I'.hok hx kS L3,rv,q' L3⟩
   .rw[dG (nS b n)];exact un.free b o e (Hf b n) Ba
   .have hb:=hx.out e (by intro G9 z;cases z);rw[dG hb];exact un.tups b xs (by rw[bO hb];exact e)
   .have hb:=hx.out e (by intro G9 z;cases z);rw[dG hb];exact un.frzs b o u' (by rw[bO hb];exact e)
   .have hb:=hx.out e (by intro G9 z;cases z);rw[dG hb];exact un.tbls b pp (by rw[bO hb];exact e)
  cases fl with
  | ret u =>
    obtain⟨v,Ab,H',J,rv,q⟩:=hs;exact fin J rv q
  | next =>
    obtain⟨Ab,H',J,q⟩:=hs;exact fin (v:=V.non) (u:=Yp) J rfl q
  | brk =>
    obtain⟨_,_,_,q⟩:=hs;exact YE q
  | cont =>
    obtain⟨_,_,_,q⟩:=hs;exact YE q
theorem xR{S:List WS}(s:Same (fgt S H) H'):Same H (rst S H H'):=λb o e=>by
 by_cases hb:b∈S
 .rw[yH hb];exact e
 .rw[dG hb];exact s _ _ (by rw[bO hb];exact e)
theorem yb{S:List WS}(hn:∀b∈S,H' b=none):Same H' (rst S H H'):=λb o e=>by
 rw[dG λz=>by rw[hn b z]at e;cases e];exact e
theorem abE{S:List WS}(hx:Exts S H):BB.KT H (fgt S H):=λb xs e=>by
 rw[bO (hx.out e λφ z=>nomatch z)];exact e
def acI(X:Cx)(P:WS)(i:Nat)(name:Xk)(pos:Z9)(params:Arguments)(body:List Yz)(scope:Z7)(cl:List (Xk×WS)):TS:=λD Z H=>TabSt H P pos (X.env.qual++name) /\
 ∀f c' H',SameT P H H'->H' P=some (.tbl (tabOf pos c'))->CodeAt H' c' (X.env.qual++name)->NestAt H' f c' name (X.env.qual++name) params body scope cl->H f=none->D.nx (Z.set i (some (.ref f))) H'
theorem zG{P:WS}{name:Xk}(L:Lam X.mg X.base c P)(hN:X.N.Nodup)(hi:X.N[i]?=some name)(Gg:Loc X.env.scope name)(hc:X.env.code=.ref c)(Bx:closureFor scope X.env=pure cl)
 (F':params.defaults=[]:=by rfl) (C0:params.kw_defaults=[]:=by rfl) (ha:annTrees params none X.env=[]:=by rfl) (hq:qualnameIn X.env name name=X.env.qual++name:=by rfl) (RI:X.fn name=true\/X.env.scope.names.lookup name=some .local:=by first|exact .inl rfl|exact .inr rfl|assumption) :
 PS X (.FunctionDef name params body [] none [] scope none name pos) (acI X P i name pos params body scope cl):=by
 intro U s Z H D I h;obtain⟨tab,q⟩:=h;have N7:s.heap.Ns Xr X.mg:=I.mod.glob.keeps I.bk;have C:PySem.W.CodeHd s.heap c P:=L.hd.keeps I.bk
 have hb:s.heap.BuiltinsAt X.mg P:=by
  obtain⟨bm,o,h1,h2,h3,h4,h5,h6⟩:=L.bl;exact⟨bm,o,h1,h2,h3,h4,I.bk _ _ h5,h6⟩
 refine PySem.W.nestDef_K F' C0 ha ?_;rw[hq];rcases tab with hP|⟨c',hP,C6⟩
 .have L4:s.heap.get? P=some (PySem.W.tabObj #[]):=I.hok P _ hP
  have UT:Xr≠P:=λz=>by
   obtain⟨o,es,ep,e,d,_⟩:=N7;rw[z,L4]at e;cases e;cases d
  refine PySem.W.makeFunction_K Bx I.ok.glob N7 hc C L4 trivial rfl UT hb λc' DR doc h' tk hx Hi Am JN L6=>?_;have hsz:s.heap.objs.size<=h'.objs.size:=Xv Hi (ZV Am);have RJ:H c'=none:=I.hok.fresh Hi;have nf:H h'.objs.size=none:=I.hok.fresh hsz;have UU:c'≠h'.objs.size:=Xy Am;have UW:P≠c':=λz=>by rw[z,RJ]at hP;cases hP
  have UX:P≠h'.objs.size:=λz=>by rw[z,nf]at hP;cases hP
  obtain⟨ob,Iw⟩:∃ob,ob=PySem.W.fnMade name (X.env.qual++name) params body scope cl doc ((X.mg "__name__").getD .none) c' DR:=⟨_,rfl⟩;rw[<-Iw];have kp:∀b o,b≠P->s.heap.get? b=some o->(h'.push ob).get? b=some o:=λb o n e=>WW _ (hx b o n e);obtain⟨H',L9⟩:∃H',H'=upd (upd (upd H P (.tbl (tabOf pos c'))) c' (.ext λh=>h.CodeRec (.ref c') (X.env.qual++name))) h'.objs.size (.ext λh=>h.get? h'.objs.size=some ob):=⟨_,rfl⟩;have eP:H' P=some (.tbl (tabOf pos c')):=by rw[L9,aj UX,aj UW,ac]
  have ec:H' c'=some (.ext λh=>h.CodeRec (.ref c') (X.env.qual++name)):=by rw[L9,aj UU,ac]
  have ef:H' h'.objs.size=some (.ext λh=>h.get? h'.objs.size=some ob):=by rw[L9,ac]
  have eo:∀b,b≠P->b≠c'->b≠h'.objs.size->H' b=H b:=λb n1 n2 n3=>by rw[L9,aj n3,aj n2,aj n1]
  have es:∀b o,H b=some o->b≠P->H' b=some o:=λb o e n=>by rw[eo b n (λz=>by rw[z,RJ]at e;cases e) (λz=>by rw[z,nf]at e;cases e)];exact e
  have un:Un X.fs [] H H' s.heap (h'.push ob):=by
   have nP:∀b,H b=none->b≠P:=λb n z=>by rw[z,hP]at n;cases n
   refine⟨λb o e n _ _=>kp b o (nP b n) e,λb o e n _ _=>⟨o.slots,kp b o (nP b n) e⟩,λb o e n _=>?_,λb o e _=>?_,λb xs e=>es b _ e (λz=>by rw[z,hP]at e;cases e),λb o u e=>es b _ e (λz=>by rw[z,hP]at e;cases e),λb pp e=>?_⟩
   .rw[eo b (nP b n) (Xy (XI (Xb e) Hi)) (Xy (XI (Xb e) hsz))];exact n
   .by_cases hb:b=P
    .exact⟨_,by rw[hb];exact WW _ L6⟩
    .exact⟨o,kp b o hb e⟩
   .by_cases hb:b=P
    .subst hb;rw[hP]at e;cases e;exact⟨tabOf pos c',by rw[eP];simp⟩
    .exact⟨#[],by rw[es b _ e hb];simp⟩
  have hok:HOk X.prog X.w H' (h'.push ob):=λa o e=>by
   by_cases ha:a=P
   .subst ha;rw[eP]at e;cases e;exact WW _ L6
   by_cases AX:a=c'
   .subst AX;rw[ec]at e;cases e;refine⟨JN.push _,?_,λh1 h2 z k=>?_⟩
    .obtain⟨_,oc,_,_,e1,e2,_⟩:=JN;cases e1;exact⟨oc,WW _ e2⟩
    .obtain⟨_,oc,vs,t,e1,e2,e3⟩:=z;cases e1;exact⟨_,oc,vs,t,rfl,k _ e2,e3⟩
   by_cases JM:a=h'.objs.size
   .subst JM;rw[ef]at e;cases e;have Ma:ob.isFreed=false:=by rw[Iw];rfl
    exact⟨W4 _ Ma,⟨_,W4 _ Ma⟩,λh1 h2 z k=>k _ z⟩
   rw[eo a ha AX JM]at e;refine(I.hok a o e).stay (λb u hb z=>kp b u ?_ z) (λb z=>es b _ z (λy=>by rw[y,hP]at z;cases z)) λb xs z=>es b _ z (λy=>by rw[y,hP]at z;cases z);rcases hb with hb|hb
   .rw[hb];exact ha
   .exactλy=>by rw[y,hP]at hb;cases hb
  refine gP (v:=.ref h'.objs.size) (I.un un hok) hN hi Gg rfl (λs2 I2=>⟨_,H',I2,q _ c' H' (λb o n e=>es b o e n) eP ⟨_,ec,λ_ z=>z⟩ ⟨_,ef,λ_ z=>⟨_,_,_,by rw[z,Iw]⟩⟩ nf⟩) RI
 .have L4:s.heap.get? P=some (PySem.W.tabObj (tabOf pos c')):=I.hok P _ hP;refine PySem.W.makeFunction_hit Bx I.ok.glob N7 hc C L4 (yk pos c') (wP pos c') hb λDR doc h' tk hk hsz=>?_;have nf:H h'.objs.size=none:=I.hok.fresh hsz
  have I':=I.laid (h':=h'.push {cls:=.type "function",data:=.func (PySem.W.fnX name (X.env.qual++name) params body scope cl .none .none doc ((X.mg "__name__").getD .none) none (.ref c') DR)}) (a:=h'.objs.size) (t':=tk)
   (o:=.ext λh=>h.get? h'.objs.size=some (PySem.W.fnMade name (X.env.qual++name) params body scope cl doc ((X.mg "__name__").getD .none) c' DR)) (λb u e=>WW _ (hk b u e)) hsz ⟨W4 _ rfl,⟨_,W4 _ rfl⟩,λh1 h2 z k=>k _ z⟩
  have sm:Same H (upd H h'.objs.size (.ext λh=>h.get? h'.objs.size=some (PySem.W.fnMade name (X.env.qual++name) params body scope cl doc ((X.mg "__name__").getD .none) c' DR))):=ae nf _;exact gP (v:=.ref h'.objs.size) I' hN hi Gg rfl (λs2 I2=>⟨_,_,I2,q _ c' _ (sm.t P) (sm _ _ hP) (C6.mono sm) ⟨_,ac,λ_ z=>⟨_,_,_,z⟩⟩ nf⟩) RI
theorem acL{y z:Xk}(h1:X.env.cells.lookup y=some c)(h2:X.fn y=true)(h3:X.env.kindOf y=some .cell)(g1:X.env.cells.lookup z=some d)(g2:X.fn z=true)(g3:X.env.kindOf z=some .cell):jc X [(y,c),(z,d)] :=
 ⟨λa b h=>(W9.mp h).elim (λe=>by cases e;exact h1) λe=>by cases W7.mp e;exact g1,
  λa b h=>(W9.mp h).elim (λe=>by cases e;exact h2) λe=>by cases W7.mp e;exact g2,
  λa b h=>(W9.mp h).elim (λe=>by cases e;exact h3) λe=>by cases W7.mp e;exact g3⟩
end L2
namespace BB
open PySem L2
section
variable{mid:List (Xk×Int)}{S1 S2:Int}{Es Et:Th}{Eu Ew:List (List Th)}{UY UZ U0 U1 U2 U3 U4:Nat}
end
theorem iR:∀{ts:List Th}{as:List WS},Xs (At H) ts as->Ats H ts as
 |_,_,.nil=>.nil
 |_,_,.cons h g=>.cons h (iR g)
end BB
namespace L2
open PySem PySem.Spec PySem.Calls PyProof.Rows
abbrev cI(z:Int×Nat×Z9):X8:=.Constant (.int z.1) z.2.1 z.2.2
end L2
namespace BB
open PySem L2
theorem tK(g:Int->Int)(t:Th)(f:Int->Int->Th):(ren g t).fill f=t.fill λs k=>f (g s) k:=by
 unfold ren;rw[kc];congr 1
mutual
theorem lI{ks:List (Xk×Int)}{f g:Int->Int->Th}:∀t:Th,t.FitS ks S C->(∀s k,0<=s->s<S->0<=k->k<C->f s k=g s k)->t.fill f=t.fill g
 | .call s k,h,hf=>by
   rw[A!]at h;rw[v!,v!];exact hf s k h.1 h.2.1 h.2.2.1 h.2.2.2
 | .knot n ts,h,hf=>by
   rw[A!]at h;rw[v!,v!,jh ts h.2 hf]
theorem jh{ks:List (Xk×Int)}{f g:Int->Int->Th}:∀ts:List Th,FitSs ks S C ts->(∀s k,0<=s->s<S->0<=k->k<C->f s k=g s k)->fills f ts=fills g ts
 | [],_,_=>by rw[fills,fills]
 | t::ts,h,hf=>by
   rw[FitSs]at h;rw[fills,fills,lI t h.1 hf,jh ts h.2 hf]
end
theorem xC{R:Int->List Th}{h:Th}(hl:(cu R h).length<=20):∀s∈cu R h,∀x∈ck (R s),x∈cu R h:=ox 21 _ 0 (Nat.lt_of_le_of_lt hl (by decide)) λj s hj=>g! hj (ZN _)
section
variable{k0 k1 k2 k3:List (Xk×Int)}{SA SB SC:Int}{a0 b0 c0:Th}{RK RL RM:List (List Th)}
end
section
variable{mid:List (Xk×Int)}{S1 S2:Int}{Es Et:Th}{Eu Ew:List (List Th)}{UY UZ U0 U1 U2 U3 U4:Nat}
end
theorem hid{G:Prop}(k:∀F:Prop,(G->F)->F):G:=k G id
inductive Ex1{A0:Type}(p:A0->Prop):Prop
 |mk (x0:A0) (h:p x0):Ex1 p
inductive Ex2{A0 A1:Type}(p:A0->A1->Prop):Prop
 |mk (x0:A0) (x1:A1) (h:p x0 x1):Ex2 p
inductive Ex3{A0 A1 A2:Type}(p:A0->A1->A2->Prop):Prop
 |mk (x0:A0) (x1:A1) (x2:A2) (h:p x0 x1 x2):Ex3 p
inductive Ex4{A0 A1 A2 A3:Type}(p:A0->A1->A2->A3->Prop):Prop
 |mk (x0:A0) (x1:A1) (x2:A2) (x3:A3) (h:p x0 x1 x2 x3):Ex4 p
inductive Ex5{A0 A1 A2 A3 A4:Type}(p:A0->A1->A2->A3->A4->Prop):Prop
 |mk (x0:A0) (x1:A1) (x2:A2) (x3:A3) (x4:A4) (h:p x0 x1 x2 x3 x4):Ex5 p
inductive Ex6{A0 A1 A2 A3 A4 A5:Type}(p:A0->A1->A2->A3->A4->A5->Prop):Prop
 |mk (x0:A0) (x1:A1) (x2:A2) (x3:A3) (x4:A4) (x5:A5) (h:p x0 x1 x2 x3 x4 x5):Ex6 p
inductive Ex7{A0 A1 A2 A3 A4 A5 A6:Type}(p:A0->A1->A2->A3->A4->A5->A6->Prop):Prop
 |mk (x0:A0) (x1:A1) (x2:A2) (x3:A3) (x4:A4) (x5:A5) (x6:A6) (h:p x0 x1 x2 x3 x4 x5 x6):Ex7 p
inductive An2(a0 a1:Prop):Prop
 |mk (h0:a0) (h1:a1):An2 a0 a1
inductive An3(a0 a1 a2:Prop):Prop
 |mk (h0:a0) (h1:a1) (h2:a2):An3 a0 a1 a2
inductive An4(a0 a1 a2 a3:Prop):Prop
 |mk (h0:a0) (h1:a1) (h2:a2) (h3:a3):An4 a0 a1 a2 a3
inductive An5(a0 a1 a2 a3 a4:Prop):Prop
 |mk (h0:a0) (h1:a1) (h2:a2) (h3:a3) (h4:a4):An5 a0 a1 a2 a3 a4
inductive An6(a0 a1 a2 a3 a4 a5:Prop):Prop
 |mk (h0:a0) (h1:a1) (h2:a2) (h3:a3) (h4:a4) (h5:a5):An6 a0 a1 a2 a3 a4 a5
inductive An7(a0 a1 a2 a3 a4 a5 a6:Prop):Prop
 |mk (h0:a0) (h1:a1) (h2:a2) (h3:a3) (h4:a4) (h5:a5) (h6:a6):An7 a0 a1 a2 a3 a4 a5 a6
inductive An8(a0 a1 a2 a3 a4 a5 a6 a7:Prop):Prop
 |mk (h0:a0) (h1:a1) (h2:a2) (h3:a3) (h4:a4) (h5:a5) (h6:a6) (h7:a7):An8 a0 a1 a2 a3 a4 a5 a6 a7
inductive An9(a0 a1 a2 a3 a4 a5 a6 a7 a8:Prop):Prop
 |mk (h0:a0) (h1:a1) (h2:a2) (h3:a3) (h4:a4) (h5:a5) (h6:a6) (h7:a7) (h8:a8):An9 a0 a1 a2 a3 a4 a5 a6 a7 a8
inductive xm(a0 a1 a2 a3 a4 a5 a6 a7 a8 a9:Prop):Prop
 |mk (h0:a0) (h1:a1) (h2:a2) (h3:a3) (h4:a4) (h5:a5) (h6:a6) (h7:a7) (h8:a8) (h9:a9):xm a0 a1 a2 a3 a4 a5 a6 a7 a8 a9
inductive abH(a0 a1 a2 a3 a4 a5 a6 a7 a8 a9 RN RO RP:Prop):Prop
 |mk (h0:a0) (h1:a1) (h2:a2) (h3:a3) (h4:a4) (h5:a5) (h6:a6) (h7:a7) (h8:a8) (h9:a9) (h10:RN) (h11:RO) (h12:RP):abH a0 a1 a2 a3 a4 a5 a6 a7 a8 a9 RN RO RP
end BB
namespace L2
open PySem PySem.Spec PyProof.Rows
end L2
namespace BB
open PySem L2
section
variable{d:Nat}
end
end BB
namespace L2
open PySem PySem.Spec PyProof.Rows
section
variable{apos Aw:Z9}
end
section
variable{apos Aw:Z9}
end
end L2
namespace PySem
open Sem (wp)
section
variable{ep:Nat}{od:Ze}{es:Array DictEntry}{ok ov:WV}
end
end PySem
namespace L2
open PySem PySem.Spec PyProof.Rows
section
variable{apos Aw:Z9}
end
section
variable{e1 e2:X8}{t:TA}{p2 AH:Z9}
end
end L2
namespace BB
open PySem L2
theorem qv(pre:List Int)(n:Xk)(ts:List Th):callsOf (E! pre (.knot n ts))=callsOf (pls pre 0 ts):=by
 rw[E!];rfl
theorem qS(pre:List Int)(s k:Int):callsOf (E! pre (.call s k))=[(pre,s,k)]:=by
 rw[E!];rfl
theorem qe(pre:List Int)(i:Int)(t:Th)(ts:List Th):callsOf (pls pre i (t::ts))=callsOf (t.pl (pre++[i]))++callsOf (pls pre (i+1) ts):=by
 rw[pls,dU]
theorem pk:∀{l m:List α},l.Nodup->(∀a∈l,a∈m)->l.length<=m.length
 | [],m,_,_=>Xi _
 | a::l,m,h,hs=>by
   rw[ZO]at h;obtain⟨m1,m2,rfl⟩:=List.append_of_mem (hs a (Xh ..))
   have:l.length<=(m1++m2).length:=pk h.2 λb hb=>by
    rcases Xq.mp (hs b (Xf _ hb))with z|z
    .exact XH _ z
    .rcases W9.mp z with z|z
     .exact g! (z ▸ hb) h.1
     .exact XC _ z
   rw[Xg,W3]at*;rw[W3];omega
end BB
namespace L2
open PySem
theorem zc(Pv:Nat->St->Hp->Prop)(h0:Pv 0 Z H)(hl:∀i Z H,i<=xs.length->Pv i Z H->SqT K H a xs)
 (hs:∀i x p Z H,xs[i]?=some x->H p=none->Pv i Z H->g (.ref p) Z (upd H p (.tup [.int (i:Nat),x])) λAz H2=>tb {D with nx:=Pv (i+1),ct:=Pv (i+1),bk:=D.nx} Az H2) (hd:∀Z H,Pv xs.length Z H->D.nx Z H) :
 ∃W:Nat->Nat->St->Hp->Prop,(∃m,W 0 m Z H)/\∀i m Z H,W i m Z H ->
   ((Ite K a).stop i H/\D.nx Z H)\/((Ite K a).go i H/\∃N:St->Hp->Prop,(∀Ab H',N Ab H'->∃m',m'<m/\W (i+1) m' Ab H')/\∀x H',(Ite K a).yld i H x H'->g x Z H' λAz H2=>tb {D with nx:=N,ct:=N,bk:=D.nx} Az H2):=by
 refine⟨λi m Z H=>m=xs.length - i/\i<=xs.length/\Pv i Z H,⟨xs.length,by simp,Xi _,h0⟩,?_⟩;rintro i m Z H ⟨rfl,hi,p⟩;have q:=hl i Z H hi p;by_cases Am:i<xs.length
 .refine .inr ⟨⟨xs,xs[i],q,by simp[Am]⟩,Pv (i+1),λAb H' p'=>⟨xs.length - (i+1),by omega,rfl,Am,p'⟩,λx H' y=>?_⟩;obtain⟨pa,y,hp,rfl,rfl,hy⟩:=y;exact hs i y pa Z H (hy xs q) hp p
 .have e:i=xs.length:=by omega
  subst e;exact .inl ⟨⟨xs,q,rfl⟩,hd Z H p⟩
theorem uW{ys:List V}(Fo:xs.length=ys.length)(Pv:Nat->St->Hp->Prop)(h0:Pv 0 Z H)(hl:∀i Z H,i<=xs.length->Pv i Z H->SqT K H a xs/\SqT K H b ys)
 (hs:∀i x y p Z H,xs[i]?=some x->ys[i]?=some y->H p=none->Pv i Z H->g (.ref p) Z (upd H p (.tup [x,y])) λAz H2=>tb {D with nx:=Pv (i+1),ct:=Pv (i+1),bk:=D.nx} Az H2) (hd:∀Z H,Pv xs.length Z H->D.nx Z H) :
 ∃W:Nat->Nat->St->Hp->Prop,(∃m,W 0 m Z H)/\∀i m Z H,W i m Z H ->
   ((Itz K a b).stop i H/\D.nx Z H)\/((Itz K a b).go i H/\∃N:St->Hp->Prop,(∀Ab H',N Ab H'->∃m',m'<m/\W (i+1) m' Ab H')/\∀x H',(Itz K a b).yld i H x H'->g x Z H' λAz H2=>tb {D with nx:=N,ct:=N,bk:=D.nx} Az H2):=by
 refine⟨λi m Z H=>m=xs.length - i/\i<=xs.length/\Pv i Z H,⟨xs.length,by simp,Xi _,h0⟩,?_⟩;rintro i m Z H ⟨rfl,hi,p⟩;obtain⟨q1,q2⟩:=hl i Z H hi p;by_cases Am:i<xs.length
 .have N8:i<ys.length:=by omega
  refine .inr ⟨⟨xs,ys,xs[i],ys[i],q1,q2,by simp[Am],by simp[N8]⟩,Pv (i+1),λAb H' p'=>⟨xs.length - (i+1),by omega,rfl,Am,p'⟩,λx H' y=>?_⟩;obtain⟨pa,x,y,hp,rfl,rfl,hx,hy⟩:=y;exact hs i x y pa Z H (hx xs q1) (hy ys q2) hp p
 .have e:i=xs.length:=by omega
  subst e;exact .inl ⟨⟨xs,ys,q1,q2,.inl (WY _)⟩,hd Z H p⟩
end L2
namespace BB
open PySem L2
section
variable{C:WS}{Dp:DP}{ok:Th->Prop}{L:Lv}{n:Nd}{B:Lv}{Hg:Hp}{B':Lv}{sp:List (Key×V)}
end
section
variable{C:WS}{Dp:DP}{ok:Th->Prop}{H0:Hp}{L B:Lv}{L' B':Lv}
end
mutual
theorem kL{ks:List (Xk×Int)}:∀(t:Th)(pre:List Int),t.FitS ks S C->∀c∈callsOf (t.pl pre),0<=c.2.1/\c.2.1<S/\0<=c.2.2/\c.2.2<C
 | .call s k,pre,h,c,hc=>by
   rw[qS]at hc;rw[W7.mp hc];rw[A!]at h;exact h
 | .knot n ts,pre,h,c,hc=>by
   rw[qv]at hc;rw[A!]at h;exact me ts pre 0 h.2 c hc
theorem me{ks:List (Xk×Int)}:∀(ts:List Th)(pre:List Int)(i:Int),FitSs ks S C ts->∀c∈callsOf (pls pre i ts),0<=c.2.1/\c.2.1<S/\0<=c.2.2/\c.2.2<C
 | [],pre,i,_,c,hc=>by rw[pls]at hc;cases hc
 | t::ts,pre,i,h,c,hc=>by
   rw[qe]at hc;rw[FitSs]at h;rcases Xq.mp hc with hc|hc
   .exact kL t _ h.1 c hc
   .exact me ts _ _ h.2 c hc
end
section
variable{mid:List (Xk×Int)}{S1 S2:Int}{Es Et:Th}{Eu Ew:List (List Th)}
end
end BB
namespace L2
open PySem PySem.Spec PySem.SeqAt PyProof.Rows
def IsNesm(fl:Bool)(P:W6)(w:Xj)(h:X7)(k:ay)(a:WS):Prop:=∃(o:Ze)(n:Nat)(b:WS)(u:WV),h.get? a=some o/\o.cls=.type "tuple"/\o.data=.seq (bif fl then #[.ref b,u]else #[u,.ref b]) n/\IsTupleKey (av P w) h k.1 b/\iJ k.2 u=true
theorem IsNesm.typeIs{k:ay}(x:IsNesm fl P w s.heap k a):s.TypeIs (.ref a) "tuple":=let⟨o,_,_,_,ho,hc,_⟩:=x;⟨o,ho,hc⟩
theorem IsNesm.inj{x y:ay}(hx:IsNesm fl P w h x a)(hy:IsNesm fl P w h y a):x=y:=by
 obtain⟨o,n,b,u,ho,_,hd,hb,hu⟩:=hx;obtain⟨o',n',b',u',BC,_,BD,AJ,Ca⟩:=hy;obtain rfl:o=o':=Xm (ho.symm.trans BC);rw[hd]at BD;injection BD with h1 _
 have h2:b=b'/\u=u':=by
  cases fl <;> (have h2:=h! Array.toList h1;cases h2;exact⟨rfl,rfl⟩)
 obtain⟨rfl,rfl⟩:=h2;exact Prod.ext (hb.inj AJ) ((av P w).inj _ _ _ hu Ca)
theorem IsNesm.keeps{k:ay}{o:Ze}{es ep}(x:IsNesm fl P w h k a)(ho:h.get? d=some o)(hd:o.data=.dict es ep)(hs:YF d h h'):IsNesm fl P w h' k a:=by
 obtain⟨o',n,b,u,BC,hc,BD,hb,hu⟩:=x
 have Av:a≠d:=by
  rintro rfl;obtain rfl:o'=o:=Xm (BC.symm.trans ho);rw[hd]at BD;exact nomatch BD
 exact⟨o',n,b,u,(hs.2 a Av).trans BC,hc,BD,hb.keeps ho hd hs,hu⟩
theorem wx{x y:ay}(hx:IsNesm fl P w s.heap x a)(hy:IsNesm fl P w s.heap y b)(hu:A.units+1<YM):EqAt A s (.ref a) (.ref b) (decide (x=y)):=by
 by_cases Cs:a=b
 .subst Cs;obtain rfl:=hx.inj hy;rw[d! rfl];exact EqAt.same _
 .obtain⟨o,n,c,u,ho,hc,hd,hb,hk⟩:=hx;obtain⟨o',n',c',u',BC,AX,BD,AJ,AV⟩:=hy;have p1:s.heap.IsTuple a (bif fl then[Xl c,u]else[u,Xl c]).toArray:=⟨o,ho,hc,n,by rw[hd];cases fl <;> rfl⟩;have p2:s.heap.IsTuple b (bif fl then[Xl c',u']else[u',Xl c']).toArray:=⟨o',BC,AX,n',by rw[BD];cases fl <;> rfl⟩
  have h1:EqAt A.in1 s u u' (decide ((Zv x.2:Sum (List Key) Key)=Zv y.2)):=by
   rw[show decide ((Zv x.2:Sum (List Key) Key)=Zv y.2)=decide (x.2=y.2)from decide_eq_decide.mpr ⟨λz=>Sum.inr.inj z,λz=>h! _ z⟩];exact sY (A:=A.in1) (s:=s) hk AV
  have h2:EqAt A.in1 s (.ref c) (.ref c') (decide ((Xn x.1:Sum (List Key) Key)=Xn y.1)):=by
   rw[show decide ((Xn x.1:Sum (List Key) Key)=Xn y.1)=decide (x.1=y.1)from decide_eq_decide.mpr ⟨λz=>YV z,λz=>h! _ z⟩];exact wq (A:=A.in1) hb AJ (show A.units+1<YM from hu)
  have:=iX (A:=A) (ds:=bif fl then[Xn x.1,(Zv x.2:Sum (List Key) Key)]else[Zv x.2,Xn x.1]) (es:=bif fl then[Xn y.1,Zv y.2]else[Zv y.2,Xn y.1]) p1 p2 (by cases fl <;> rfl) (by cases fl <;> rfl) (by omega) λj d e v v' e1 e2 e3 e4=>by
   cases fl <;> (match j with
   |0=>cases e1;cases e2;cases e3;cases e4;first|exact h1|exact h2
   |1=>cases e1;cases e2;cases e3;cases e4;first|exact h1|exact h2
   |j+2=>cases e1)
  refine EqAt.of_refs Cs ?_
  have e:decide (x=y)=decide ((bif fl then[Xn x.1,(Zv x.2:Sum (List Key) Key)]else[Zv x.2,Xn x.1])=bif fl then[Xn y.1,Zv y.2]else[Zv y.2,Xn y.1]):=decide_eq_decide.mpr ⟨λz=>by rw[z],λz=>by
   cases fl <;> (injection z with z1 z2;injection z2 with z2 _;first|exact Prod.ext (YV z1) (Sum.inr.inj z2)|exact Prod.ext (YV z2) (Sum.inr.inj z1))⟩
  rw[e];exact this
def ji(fl:Bool)(P:W6)(w:Xj)(k:ay):Int:=reduceHash (Yc (bif fl then[YW (av P w) k.1,(av P w).hash k.2]else[(av P w).hash k.2,YW (av P w) k.1]))
theorem qX{k:ay}{Q:Int->WZ->Prop}(hu:A.units+1<YM)(hk:IsNesm fl P w s.heap k a)(h:Q (ji fl P w k) {s with toks:=s.toks+(k.1.length+3)}) :
 Xa (Xu P w) A (pyHash (.ref a)) Q E s:=by
 cases fl with
 | false =>
   have hT:=hk.typeIs;obtain⟨o,n,c,u,ho,hc,hd,hb,hk⟩:=hk;unfold pyHash
   first|unfold pyHashByItsType|skip
   first|refine WN (wpAny_cRoomFor_or (.inr (by omega)) ?_)|skip
   refine WN (Ys hT Zx.lookup ?_);show Xa _ _ (if(some (Value.builtin "tuple.__hash__") == some Yp)=true then _ else _) Q E s;rw[a! (by rw[beq_builtin_none];exact W8)];refine WN (Ys hT Zx.lookup ?_);show Xa _ _ (callSpecialIfBoundUnlessNone? (.ref a) "__hash__" _ >>= _) Q E s;refine WN (wpAny_callSpecialIfBoundUnlessNone?_slot hT Zx (X5 Zx hT F.entry_tuple_hash ?_ (F.args_tuple_hash_1 _)));show Xa _ _ (ZY (.ref a) >>= _) _ _ s;refine WN (wpAny_tupleItemsOf ho hd ?_);refine WN ?_;rw[<-Array.forIn_toList]
   refine wpAny_forIn_list _
    (λrest(b:Array Int)s'=>(rest=[u,.ref c]/\b=#[]/\s'=s)\/(rest=[.ref c]/\b=#[(av P w).hash k.2]/\s'={s with toks:=s.toks+1})\/(rest=[]/\b=#[(av P w).hash k.2,YW (av P w) k.1]/\s'={s with toks:=s.toks+1+(k.1.length+1)}))
    _ ?_ ?_ _ _ (.inl ⟨rfl,rfl,rfl⟩)
   .rintro x rest b s' (⟨e1,rfl,rfl⟩|⟨e1,rfl,rfl⟩|⟨e1,_⟩)
    .cases e1;refine WN ((av P w).pyHash hk ?_)
     first
      |exact WX (.inr (.inl ⟨rfl,rfl,rfl⟩))
      |exact WN (WX (WX (.inr (.inl ⟨rfl,rfl,rfl⟩))))
    .cases e1;refine WN (wpAny_pyHash_tuple (by show _<YM;first|exact hu|omega) hb ?_)
     first
      |exact WX (.inr (.inr ⟨rfl,rfl,rfl⟩))
      |exact WN (WX (WX (.inr (.inr ⟨rfl,rfl,rfl⟩))))
    .cases e1
   .rintro b s' (⟨e1,_⟩|⟨e1,_⟩|⟨_,rfl,rfl⟩)
    .cases e1
    .cases e1
    show Xa _ _ (retInt (Yc [(av P w).hash k.2,YW (av P w) k.1])) _ _ _;refine wpAny_ret_mkInt ?_;show Xa _ _ (if(decide (-(2:Int) ^ 63<=Yc [(av P w).hash k.2,YW (av P w) k.1]) && decide (Yc [(av P w).hash k.2,YW (av P w) k.1]<2 ^ 63))=true then _ else _) Q E _;unfold ji reduceHash at h;simp only[cond_true,cond_false]at h;by_cases hr:(decide (-(2:Int) ^ 63<=Yc [(av P w).hash k.2,YW (av P w) k.1]) && decide (Yc [(av P w).hash k.2,YW (av P w) k.1]<2 ^ 63))=true
    .rw[b! hr];rw[b! hr]at h;exact WX (by rw[show k.1.length+3=1+(k.1.length+2)by omega]at h;simpa[Z3]using h)
    .rw[a! hr];rw[a! hr]at h;exact WN (Zy (WX (by rw[show k.1.length+3=1+(k.1.length+2)by omega]at h;simpa[Z3]using h)))
 | true =>
   have hT:=hk.typeIs;obtain⟨o,n,c,u,ho,hc,hd,hb,hk⟩:=hk;unfold pyHash
   first|unfold pyHashByItsType|skip
   first|refine WN (wpAny_cRoomFor_or (.inr (by omega)) ?_)|skip
   refine WN (Ys hT Zx.lookup ?_);show Xa _ _ (if(some (Value.builtin "tuple.__hash__") == some Yp)=true then _ else _) Q E s;rw[a! (by rw[beq_builtin_none];exact W8)];refine WN (Ys hT Zx.lookup ?_);show Xa _ _ (callSpecialIfBoundUnlessNone? (.ref a) "__hash__" _ >>= _) Q E s;refine WN (wpAny_callSpecialIfBoundUnlessNone?_slot hT Zx (X5 Zx hT F.entry_tuple_hash ?_ (F.args_tuple_hash_1 _)));show Xa _ _ (ZY (.ref a) >>= _) _ _ s;refine WN (wpAny_tupleItemsOf ho hd ?_);refine WN ?_;rw[<-Array.forIn_toList]
   refine wpAny_forIn_list _
    (λrest(b:Array Int)s'=>(rest=[.ref c,u]/\b=#[]/\s'=s)\/(rest=[u]/\b=#[YW (av P w) k.1]/\s'={s with toks:=s.toks+(k.1.length+1)})\/(rest=[]/\b=#[YW (av P w) k.1,(av P w).hash k.2]/\s'={s with toks:=s.toks+(k.1.length+1)+1}))
    _ ?_ ?_ _ _ (.inl ⟨rfl,rfl,rfl⟩)
   .rintro x rest b s' (⟨e1,rfl,rfl⟩|⟨e1,rfl,rfl⟩|⟨e1,_⟩)
    .cases e1;refine WN (wpAny_pyHash_tuple (by show _<YM;first|exact hu|omega) hb ?_)
     first
      |exact WX (.inr (.inl ⟨rfl,rfl,rfl⟩))
      |exact WN (WX (WX (.inr (.inl ⟨rfl,rfl,rfl⟩))))
    .cases e1;refine WN ((av P w).pyHash hk ?_)
     first
      |exact WX (.inr (.inr ⟨rfl,rfl,rfl⟩))
      |exact WN (WX (WX (.inr (.inr ⟨rfl,rfl,rfl⟩))))
    .cases e1
   .rintro b s' (⟨e1,_⟩|⟨e1,_⟩|⟨_,rfl,rfl⟩)
    .cases e1
    .cases e1
    show Xa _ _ (retInt (Yc [YW (av P w) k.1,(av P w).hash k.2])) _ _ _;refine wpAny_ret_mkInt ?_;show Xa _ _ (if(decide (-(2:Int) ^ 63<=Yc [YW (av P w) k.1,(av P w).hash k.2]) && decide (Yc [YW (av P w) k.1,(av P w).hash k.2]<2 ^ 63))=true then _ else _) Q E _;unfold ji reduceHash at h;simp only[cond_true,cond_false]at h;by_cases hr:(decide (-(2:Int) ^ 63<=Yc [YW (av P w) k.1,(av P w).hash k.2]) && decide (Yc [YW (av P w) k.1,(av P w).hash k.2]<2 ^ 63))=true
    .rw[b! hr];rw[b! hr]at h;exact WX (by simpa[Z3]using h)
    .rw[a! hr];rw[a! hr]at h;exact WN (Zy (WX (by simpa[Z3]using h)))
theorem ux{k:ay}{Q:Bool->WZ->Prop}(hk:IsNesm fl P w s.heap k a)(h:Q true s):Xa (Xu P w) A (eqIsQuiet 8 (.ref a)) Q E s:=by
 have hT:=hk.typeIs;obtain⟨o,n,c,u,ho,hc,hd,hb,hk⟩:=hk;unfold eqIsQuiet;refine WN (Ys hT F.slot_tuple_eq.lookup ?_);show Xa _ _ (isInstance (.ref a) (.type "tuple") >>= _) _ _ s;refine WN (ZL hT isSubtype_tuple_tuple ?_);simp only[Bool.not_true,Yd,if_false];refine WN (YB ho hd ?_);refine WN ?_;show Xa _ _ (forIn (bif fl then #[Xl c,u]else #[u,Xl c]) _ _) _ _ s;rw[<-Array.forIn_toList];refine wpAny_forIn_list _ (λrest r s'=>r.1=none/\s'=s/\∀v∈rest,v=.ref c\/v=u) _ ?_ ?_ _ _ ⟨rfl,rfl,λv hv=>by cases fl <;> simpa[or_comm]using hv⟩
 .rintro v rest r s' ⟨hr,rfl,Aa⟩;have Gh:∀z∈rest,z=.ref c\/z=u:=λz hz=>Aa z (Xf _ hz);rcases Aa v Xh with rfl|rfl
  .refine WN (ub hb ?_);simp only[Bool.not_true,Yd,if_false];exact WX ⟨rfl,rfl,Gh⟩
  .rw[eqIsQuiet_byValue _ ((av P w).byValue _ _ hk)];refine WN (WX ?_);simp only[Bool.not_true,Yd,if_false];exact WX ⟨rfl,rfl,Gh⟩
 .rintro⟨r1,r2⟩ s' ⟨hr,rfl,_⟩;simp only at hr;subst hr;exact WX h
def bZ(fl:Bool)(P:W6)(w:Xj):HeapKind P w ay where
 is:=IsNesm fl P w
 hash:=ji fl P w
 draws:=λk=>k.1.length+3
 room:=λA=>A.units+1<YM
 inj:=λhx hy=>hx.inj hy
 keeps:=λx ho hd hs=>x.keeps ho hd hs
 pyHash:=λhu hk h=>qX hu hk h
 eqBool:=λhu hx hy h=>wx hx hy hu _ _ _ _ h
 quiet:=λhk h=>ux hk h
def tV(fl:Bool)(P:W6)(w:Xj)(xs:List (ay×WS×WV))(a:WS)(h:X7):Prop:=∃o es ep,h.get? a=some o/\o.ExactDict/\o.data=.dict es ep/\es.toList=xs.map (entryOfKey (bZ fl P w))/\(xs.map (·.1)).Nodup
def MKAt(fl:Bool)(H:Hp)(k:ay)(b:WS):Prop:=∃c,H b=some (.tup (bif fl then[.ref c,kV k.2]else[kV k.2,.ref c]))/\H c=some (.tup (k.1.map kV))
abbrev KTm(fl:Bool)(H:Hp):List (ay×V)->List (ay×WS×WV)->Prop:=Xs λp q=>p.1=q.1/\MKAt fl H q.1 q.2.1/\RelV p.2 q.2.2
def DM(fl:Bool)(P:W6)(w:Xj)(H:Hp)(a:WS)(f':List (ay×V)):Prop:=f'.length<=Xe/\(a == YO)=false/\∃xs φ,H a=some (.ext φ)/\(∀h,φ h->tV fl P w xs a h)/\KTm fl H f' xs
theorem MKAt.mono(k:BB.KT H H'){n:ay}(h:MKAt fl H n b):MKAt fl H' n b:=by
 obtain⟨c,h1,h2⟩:=h;exact⟨c,k _ _ h1,k _ _ h2⟩
theorem KTm.mono(k:BB.KT H H'){xs:List (ay×WS×WV)}(r:KTm fl H f' xs):KTm fl H' f' xs:=Xs.mapP r λ_ _ z=>⟨z.1,z.2.1.mono k,z.2.2⟩
theorem DM.mono(s:Same H H')(h:DM fl P w H a f'):DM fl P w H' a f':=by
 obtain⟨z,hd,xs,φ,e,f,r⟩:=h;exact⟨z,hd,xs,φ,s _ _ e,f,KTm.mono (j! s) r⟩
theorem eW{k:ay}(ok:HOk P w H h)(e:MKAt fl H k b):IsNesm fl P w h k b:=by
 obtain⟨c,h1,h2⟩:=e;obtain⟨_,its,n,r,e1⟩:=(show ObjOk P w H h b (.tup (bif fl then[.ref c,kV k.2]else[kV k.2,.ref c]))from ok b _ h1);cases fl with
 | false =>
   cases r with
   |cons r1 r =>
   cases r with
   |cons r2 r =>
   cases r;cases r2;exact⟨_,n,c,_,e1,rfl,rfl,f9 ok h2,lK (P:=P) (w:=w) r1⟩
 | true =>
   cases r with
   |cons r1 r =>
   cases r with
   |cons r2 r =>
   cases r;cases r1;exact⟨_,n,c,_,e1,rfl,rfl,f9 ok h2,lK (P:=P) (w:=w) r2⟩
theorem jl(ok:HOk P w H h)(e:DM fl P w H a f'):f'.length<=Xe/\(a == YO)=false/\∃xs φ,H a=some (.ext φ)/\KTm fl H f' xs/\h.DictOfH (bZ fl P w) a xs:=by
 obtain⟨z,y,xs,φ,ea,f,r⟩:=e;obtain⟨o,es,ep,h1,h2,h3,h4,h5⟩:=f h (ok a _ ea).1;refine⟨z,y,xs,φ,ea,r,o,es,ep,h1,h2,h3,h4,λx hx=>?_,h5⟩
 have all:∀{l:List (ay×V)}{m:List (ay×WS×WV)},KTm fl H l m->∀x∈m,(bZ fl P w).is h x.1 x.2.1:=by
  intro l m q;induction q with
  |nil=>intro x hx;exact nomatch hx
  | @cons p q ps qs hq t ih =>
    intro x hx;rcases W9.mp hx with e|hx
    .subst e;exact eW ok hq.2.1
    .exact ih x hx
 exact all r x hx
theorem KTm.val{xs:List (ay×WS×WV)}(r:KTm fl H f' xs)(k:ay):RelO (aQ f' k) ((atKey xs k).map (·.2)):=by
 induction r with
 |nil=>exact YU
 | @cons p q ps qs hq t ih =>
   by_cases e:p.1=k
   .rw[bD e];have:atKey (q::qs) k=some q.2:=by simp[atKey,ZQ,<-hq.1,e]
    rw[this];exact hq.2.2
   .rw[bC e];have:atKey (q::qs) k=atKey qs k:=by simp[atKey,ZQ,<-hq.1,e]
    rw[this];exact ih
theorem KTm.put{xs:List (ay×WS×WV)}(r:KTm fl H f' xs)(k:ay)(hb:MKAt fl H k b)(ry:RelV y u):KTm fl H (putK f' k y) (storedH xs k b u):=by
 have hv:=KTm.val r k;cases e:aQ f' k with
 | none =>
   rw[e]at hv
   have hn:atKey xs k=none:=by
    cases q:atKey xs k with
    |none=>rfl
    |some p=>rw[q]at hv;exact hv.elim
   rw[jC y e,storedH_new hn];exact t! r (.cons ⟨rfl,hb,ry⟩ .nil)
 | some v0 =>
   rw[e]at hv
   obtain⟨p,hp⟩:∃p,atKey xs k=some p:=by
    cases q:atKey xs k with
    |none=>rw[q]at hv;exact hv.elim
    |some p=>exact⟨p,rfl⟩
   rw[storedH_old hp];unfold putK;rw[b! (by rw[eh,e];rfl)]
   have all:∀{l:List (ay×V)}{m:List (ay×WS×WV)},KTm fl H l m->KTm fl H (l.map λkv=>if kv.1=k then(kv.1,y)else kv) (m.map (putAt k u)):=by
    intro l m q;induction q with
    |nil=>exact .nil
    | @cons p q ps qs hq t ih =>
      refine .cons ?_ ih;unfold putAt;dsimp only;by_cases z:p.1=k
      .rw[b! z,b! (by rw[<-hq.1];exact z)];exact⟨hq.1,hq.2.1,ry⟩
      .rw[a! z,a! (by rw[<-hq.1];exact z)];exact hq
   exact all r
section
variable{o i value:X8}{td ty tv:TE}
inductive xz(fl:Bool)(P:W6)(w:Xj)(x y:V)(H:Hp)(Q:VK):Prop
 |mk (a b:WS) (k:ay) (f':List (ay×V)) (v:V) (z0:x=.ref a) (z1:y=.ref b) (z2:DM fl P w H a f') (z3:MKAt fl H k b) (z4:aQ f' k=some v) (z5:Q v H):xz fl P w x y H Q
def aa6(fl:Bool)(P:W6)(w:Xj)(td ty:TE):TE:=λZ H Q=>td Z H λx H1=>ty Z H1 λy H2=>xz fl P w x y H2 Q
theorem yy(hu:X.A.units+2<YM)(ho:PE X o td)(hi:PE X i ty)(hs:aab i):PE X (.Subscript o i pos) (aa6 fl X.prog X.w td ty):=by
 intro U s Z H Q I h;refine qM PySem.F.slot_dict_getitem.lookup hs (thn (ho U s Z H _ I h) λu s1⟨x,H1,I1,rx,q1⟩=>thn (hi U s1 Z H1 _ I1 q1) λiv s2⟨y,H2,I2,ry,q2⟩=>?_);obtain⟨a,b,k,f',v,rfl,rfl,hd,hk,hv,q⟩:=q2;obtain rfl:u=Xl a:=rx;obtain rfl:iv=Xl b:=ry;obtain⟨_,_,xs,φ,ea,rel,dd⟩:=jl I2.hok hd;obtain⟨w',hw,CA⟩:=RelO.some_of (v:=v) (o:=(atKey xs k).map (·.2)) (by rw[<-hv];exact KTm.val rel k);obtain⟨p,hp,Bm⟩:=XJ.mp hw;refine⟨dd.typeIs,wpAny_getItem_heap (knd:=bZ fl X.prog X.w) (show X.A.units+1+1<YM from hu) (eW I2.hok hk) dd hp ?_⟩;rw[Bm];exact⟨v,H2,I2.tok _,CA,q⟩
inductive zg(fl:Bool)(P:W6)(w:Xj)(x y v:V)(H:Hp)(R:Hp->Prop):Prop
 |mk (a b:WS) (k:ay) (f':List (ay×V)) (z0:x=.ref a) (z1:y=.ref b) (z2:DM fl P w H a f') (z3:MKAt fl H k b) (z4:f'.length<Xe) (z5:∀H',(∀c o,c≠a->H c=some o->H' c=some o)->DM fl P w H' a (putK f' k v)->R H'):zg fl P w x y v H R
def abC(fl:Bool)(P:W6)(w:Xj)(td ty tv:TE):TS:=λD Z H=>tv Z H λv H1=>td Z H1 λx H2=>ty Z H2 λy H3=>zg fl P w x y v H3 λH4=>D.nx Z H4
theorem rK(hu:X.A.units+2<YM)(ho:PE X o td)(hi:PE X i ty)(hv:PE X value tv)(hs:swapsWith value (some (.Subscript o i pos')) pos.line X.env=pure false) :
 PS X (.Assign [.Subscript o i pos'] value pos) (abC fl X.prog X.w td ty tv):=by
 intro U s Z H D I h;refine wpAny_Assign_Subscript (thn (hv U s Z H _ I h) λr s1⟨v,H1,I1,rv,q1⟩=>thn (ho U s1 Z H1 _ I1 q1) λu s2⟨x,H2,I2,rx,q2⟩=>thn (hi U s2 Z H2 _ I2 q2) λiv s3⟨y,H3,I3,ry,q3⟩=>?_) hs;obtain⟨a,b,k,f',rfl,rfl,hd,hk,hl,q⟩:=q3;obtain rfl:u=Xl a:=rx;obtain rfl:iv=Xl b:=ry;obtain⟨z,BD,xs,φ,ea,rel,dd⟩:=jl I3.hok hd;have hz:xs.length<=Xe:=by rw[<-W5 rel];exact z
 have GJ:(putK f' k v).length<=Xe:=by have:=bt f' k v;omega
 refine wpAny_setItem_heap (knd:=bZ fl X.prog X.w) (hsz:=hz) (show X.A.units+1+1<YM from hu) (eW I3.hok hk) dd λh' Di hs=>?_;obtain⟨ob,es,ep,hq,h2,h3,h4,_,h5⟩:=Di;have ne:tV fl X.prog X.w (storedH xs k b r) a h':=⟨ob,es,ep,hq,h2,h3,h4,h5⟩
 have I4:=fT (ob:=.ext (tV fl X.prog X.w (storedH xs k b r) a)) (t':=s3.toks+(bZ fl X.prog X.w).draws k) I3 (by rw[ea];exact YU) hs ⟨ob,hq⟩ ⟨ne,⟨ob,hq⟩,λh1 h2 p kk=>by
  obtain⟨o1,JO,JP,g1,g2⟩:=p;exact⟨o1,JO,JP,kk _ g1,g2⟩⟩
 have kt:BB.KT H3 (upd H3 a (.ext (tV fl X.prog X.w (storedH xs k b r) a))):=λc ys ec=>by
  rw[aj (ej ec ea (λz=>nomatch z))];exact ec
 exact⟨Z,_,I4,q _ (λc o hc e=>by rw[aj hc];exact e) ⟨GJ,BD,_,_,ac,λ_ p=>p,KTm.mono kt (KTm.put rel k hk rv)⟩⟩
def abN(fl:Bool)(P:W6)(w:Xj):TE:=λ_ H Q=>∀p H',H p=none->Same H H'->DM fl P w H' p []->Q (.ref p) H'
theorem nu:PE X (.Dict [] [] pos) (abN fl X.prog X.w):=λU s Z H Q I h=>by
 have hn:H s.heap.objs.size=none:=I.hok.fresh (WY _);have ne:tV fl X.prog X.w [] s.heap.objs.size (s.heap.push {cls:=.type "dict",data:=.dict #[]}):=⟨_,#[],0,W4 _ rfl,⟨rfl,rfl,rfl⟩,rfl,rfl,List.nodup_nil⟩;refine wpAny_Dict_empty ⟨.ref s.heap.objs.size,_,I.laid (a:=s.heap.objs.size) (o:=.ext (tV fl X.prog X.w [] s.heap.objs.size)) (t':=s.toks) (λ_ _ q=>WW _ q) (WY _) ⟨ne,⟨_,W4 _ rfl⟩,λh1 h2 p kk=>?_⟩,rfl,h _ _ hn (ae hn _) ⟨Xi _,beq_eq_false_iff_ne.mpr (YQ (Xy I.big)),[],_,ac,λ_ p=>p,.nil⟩⟩;obtain⟨o1,JO,JP,g1,g2⟩:=p;exact⟨o1,JO,JP,kk _ g1,g2⟩
end
section
variable{o i f:X8}{apos Aw:Z9}{td ty tx:TE}
theorem vG{xs:List (ay×WS×WV)}(rel:KTm fl H f' xs)(k:ay):(aQ f' k).isSome=(atKey xs k).isSome:=by
 have q:=(KTm.val rel k).isSome_eq;rw[Option.isSome_map]at q;exact q
inductive aa3(fl:Bool)(f:Bool->Bool)(P:W6)(w:Xj)(y x:V)(H:Hp)(Q:VK):Prop
 |mk (a b:WS) (k:ay) (f':List (ay×V)) (z0:x=.ref a) (z1:y=.ref b) (z2:DM fl P w H a f') (z3:MKAt fl H k b) (z4:Q (.bl (f (aQ f' k).isSome)) H):aa3 fl f P w y x H Q
def aaz(fl:Bool)(f:Bool->Bool)(P:W6)(w:Xj)(ty td:TE):TE:=λZ H Q=>ty Z H λy H1=>td Z H1 λx H2=>aa3 fl f P w y x H2 Q
theorem aak(hu:X.A.units+2<YM)(hi:PE X i ty)(ho:PE X o td):PC X .In i o (aaz fl (λb=>b) X.prog X.w ty td):=by
 intro U s Z H Q I h;refine thn (hi U s Z H _ I h) λiv s1⟨y,H1,I1,ry,q1⟩=>thn (ho U s1 Z H1 _ I1 q1) λu s2⟨x,H2,I2,rx,q2⟩=>?_;obtain⟨a,b,k,f',rfl,rfl,hd,hk,q⟩:=q2;obtain rfl:u=Xl a:=rx;obtain rfl:iv=Xl b:=ry;obtain⟨_,BD,xs,φ,ea,rel,dd⟩:=jl I2.hok hd;refine wpAny_in_heap (knd:=bZ fl X.prog X.w) (show X.A.units+1+1<YM from hu) (eW I2.hok hk) BD dd ?_;rw[<-vG rel k];exact⟨.bl _,H2,I2.tok _,rfl,q⟩
theorem uU(hu:X.A.units+2<YM)(hi:PE X i ty)(ho:PE X o td):PC X .NotIn i o (aaz fl (λb=>!b) X.prog X.w ty td):=by
 intro U s Z H Q I h;refine thn (hi U s Z H _ I h) λiv s1⟨y,H1,I1,ry,q1⟩=>thn (ho U s1 Z H1 _ I1 q1) λu s2⟨x,H2,I2,rx,q2⟩=>?_;obtain⟨a,b,k,f',rfl,rfl,hd,hk,q⟩:=q2;obtain rfl:u=Xl a:=rx;obtain rfl:iv=Xl b:=ry;obtain⟨_,BD,xs,φ,ea,rel,dd⟩:=jl I2.hok hd;refine wpAny_notIn_heap (knd:=bZ fl X.prog X.w) (show X.A.units+1+1<YM from hu) (eW I2.hok hk) BD dd ?_;rw[<-vG rel k];exact⟨.bl _,H2,I2.tok _,rfl,q⟩
inductive vk(fl:Bool)(P:W6)(w:Xj)(x y z:V)(H:Hp)(Q:VK):Prop
 |mk (a b:WS) (k:ay) (f':List (ay×V)) (z0:x=.ref a) (z1:y=.ref b) (z2:DM fl P w H a f') (z3:MKAt fl H k b) (z4:Q ((aQ f' k).getD z) H):vk fl P w x y z H Q
def zP(fl:Bool)(P:W6)(w:Xj)(td ty tx:TE):TE:=λZ H Q=>td Z H λx H1=>∃a f',x=.ref a/\DM fl P w H1 a f'/\ty Z H1 λy H2=>tx Z H2 λz H3=>vk fl P w x y z H3 Q
theorem zb(I:Inv X U Z H s)(d:DM fl X.prog X.w H a f'):s.TypeIs (.ref a) "dict"/\(∀b,Xl a=.ref b->∃ob,s.heap.get? b=some ob/\ob.dict=none):=by
 obtain⟨_,hd,xs,φ,_,_,dd⟩:=jl I.hok d;refine⟨dd.typeIs,λb q=>?_⟩;cases q;obtain⟨ob,_,_,h1,h2,_⟩:=dd;exact⟨ob,h1,h2.2.1⟩
theorem wK(hu:X.A.units+2<YM)(ho:PE X o td)(he:PE X e ty)(hf:PE X f tx)(m:M2 X o "get" apos e f Aw):PE X (.Call (.Attribute o "get" apos) [e,f] [] Aw) (zP fl X.prog X.w td ty tx):=by
 intro U s Z H Q I h;refine wpAny_Call_method m.base m.few m.line PySem.F.plainAttrs_dict PySem.F.slot_dict_get PySem.F.type_dict_get (thn (ho U s Z H _ I h) λu s1⟨x,H1,I1,rx,a,U5,ex,d,q1⟩=>?_);subst ex;obtain rfl:u=Xl a:=rx;obtain⟨t1,t2⟩:=zb I1 d;refine⟨t1,t2,?_⟩;rw[m.trees]
 refine Calls.callWith_builtin rfl (Calls.evalArgs_plain (YL (thn (he U s1 Z H1 _ I1 q1) λiv s2⟨y,H2,I2,ry,q2⟩ =>
  YL (thn (hf U s2 Z H2 _ I2 q2) λfv s3⟨z,H3,I3,rz,q3⟩=>Zh ?_))))
 obtain⟨a',b,k,f',Na,rfl,hd,hk,q⟩:=q3;cases Na;obtain rfl:iv=Xl b:=ry;obtain⟨_,BD,xs,φ,ea,rel,dd⟩:=jl I3.hok hd;refine call_meetsIn PySem.F.slot_dict_get dd.typeIs PySem.F.entry_dict_get (PySem.F.args_dict_get_3 _ _ _) (meetsH_dict_get_default (bZ fl X.prog X.w) a b BD fv) ⟨(show X.A.units+1+1<YM from hu),k,xs,eW I3.hok hk,dd,?_⟩;exact⟨_,H3,I3.tok _,(KTm.val rel k).getD rz,q⟩
inductive sE(fl:Bool)(P:W6)(w:Xj)(x:V)(vs:List V)(H:Hp)(Q:VK):Prop
 |mk (a b:WS) (v:V) (k:ay) (f':List (ay×V)) (z0:x=.ref a) (z1:vs=[.ref b,v]) (z2:DM fl P w H a f') (z3:MKAt fl H k b) (z4:f'.length<Xe)
  (z5:∀u,aQ f' k=some u->Q u H) (z6:aQ f' k=none->∀H',(∀c o,c≠a->H c=some o->H' c=some o)->DM fl P w H' a (putK f' k v)->Q v H'):sE fl P w x vs H Q
theorem gY(hu:X.A.units+2<YM):MtM X "dict.setdefault" (sE fl X.prog X.w):=by
 intro U s Z H x vs v us Q I rx rv h;obtain⟨a,b,y,k,f',rfl,rfl,e,eb,l,q1,q2⟩:=h;cases rx;cases rv with
 |cons r1 rv =>
 cases rv with
 |cons r2 rv =>
 cases rv;cases r1;obtain⟨z,hd,xs,φ,ea,rel,dd⟩:=jl I.hok e;have hz:xs.length<=Xe:=by rw[<-W5 rel];exact z
 have hl:(putK f' k y).length<=Xe:=by have:=bt f' k y;omega
 have hT:s.TypeIs (.ref a) "dict":=dd.typeIs;refine call_meetsIn Zo hT PySem.F.entry_dict_setdefault (PySem.F.args_dict_setdefault_3 _ _ _) (bb_meets_setdefault (bZ fl X.prog X.w) a b _ hd) ⟨(show X.A.units+1+1<YM from hu),k,xs,eW I.hok eb,dd,hz,λp hp=>?_,λhn h' Di hs=>?_⟩
 .have hr:=KTm.val rel k;rw[hp]at hr;cases hv:aQ f' k with
  |none=>rw[hv]at hr;exact hr.elim
  | some u =>
    rw[hv]at hr;exact⟨u,H,I.tok _,hr,q1 u hv⟩
 .have hr:=KTm.val rel k;rw[hn]at hr;cases hv:aQ f' k with
  |some u=>rw[hv]at hr;exact hr.elim
  | none =>
    obtain⟨ob,es,ep,hq,h2,h3,h4,_,h5⟩:=Di;have ne:tV fl X.prog X.w (storedH xs k b _) a h':=⟨ob,es,ep,hq,h2,h3,h4,h5⟩
    have I4:=fT (t':=s.toks+(bZ fl X.prog X.w).draws k) I (by rw[ea];exact YU) hs ⟨ob,hq⟩ (ob:=.ext (tV fl X.prog X.w (storedH xs k b _) a)) ⟨ne,⟨ob,hq⟩,λh1 h2 p kk=>by
     obtain⟨o1,JO,JP,g1,g2⟩:=p;exact⟨o1,JO,JP,kk _ g1,g2⟩⟩
    have kt:∀ψ:X7->Prop,BB.KT H (upd H a (.ext ψ)):=λψ c ys ec=>by
     rw[aj (ej ec ea (λz=>nomatch z))];exact ec
    exact⟨y,_,I4,r2,q2 hv _ (λc o hc e=>by rw[aj hc];exact e) ⟨hl,hd,_,_,ac,λ_ p=>p,KTm.mono (kt _) (KTm.put rel k eb r2)⟩⟩
inductive ze(fl:Bool)(P:W6)(w:Xj)(xs:List V)(H:Hp)(Q:VK):Prop
 |mk (a:WS) (f':List (ay×V)) (z0:xs=[.ref a]) (z1:DM fl P w H a f') (z2:∀(l:WS)(bs:List WS),H l=none->Xs (λkv b=>MKAt fl H kv.1 b) f' bs->Q (.ref l) (upd H l (.lst (bs.map i!)))):ze fl P w xs H Q
theorem yU{ys:List (ay×WS×WV)}(rel:KTm fl H f' ys):Xs (λkv b=>MKAt fl H kv.1 b) f' (ys.map λy=>y.2.1):=by
 induction rel with
 |nil=>exact .nil
 |cons h t ih=>exact .cons (by rw[h.1];exact h.2.1) ih
theorem t5(hc:X.calm=true):eQ X (.type "list") (ze fl X.prog X.w):=by
 intro U s Z H xs us Q I r h;obtain⟨a,f',rfl,e,q⟩:=h;obtain⟨u,rfl,rx⟩:=vals1 r;cases rx;obtain⟨z,hd,ys,φ,ea,rel,dd⟩:=jl I.hok e;have hT:=dd.typeIs;obtain⟨o,es,ep,ho,UJ,Iu,he,Ir,hn⟩:=dd;obtain⟨o',BC,Bx⟩:=hT;have eo:o'=o:=Xm (BC.symm.trans ho);subst eo;have hl:f'.length=ys.length:=W5 rel
 have G5:es.toList.map (·.key)=ys.map λy=>Xl y.2.1:=by
  rw[he,Y1];rfl
 have hsz:es.size<=Xe:=by
  have:=h! ZX G5;rw[WO,WO,XR]at this;omega
 have hh:X.A.in1.in1.handled=none:=I.ok.hd hc;refine bb_list_keys hh hd BC Bx Iu hsz λh' acc c hk hS Aq=>?_;have hp:Xs (λkv b=>MKAt fl H kv.1 b) f' (ys.map λy=>y.2.1):=yU rel;refine⟨.ref s.heap.objs.size,upd H s.heap.objs.size (.lst ((ys.map λy=>y.2.1).map i!)),?_,rfl,q _ _ I.fresh hp⟩;refine I.laid (t':=s.toks) hk (WY _) ⟨by rw[WO,WO];omega,acc.toList,c,?_,hS⟩;rw[Aq,G5];clear hn Ir he G5 Aq hS hl z rel hp q;induction ys with
 |nil=>exact .nil
 |cons y ys ih=>exact .cons rfl ih
def adc(fl:Bool)(P:W6)(w:Xj)(r:V->List V->Hp->VK->Prop)(to:TE)(t:TA):TE:=λZ H Q=>to Z H λx H1=>(∃a f',x=.ref a/\DM fl P w H1 a f')/\t Z H1 λxs H2=>r x xs H2 Q
theorem yY{to:TE}{t:TA}{name:Xk}{id:String}{r:V->List V->Hp->VK->Prop}(slot:Slot "dict" name id)(Jd:typeOf (.builtin id)=pure (.type "method_descriptor"))(hm:MtR X id r)(ho:PE X o to)(ha:PA X (e::es) t)
 (BH:attributeBase o name X.env (Y3 o X.env)=Y3 o X.env:=by rfl)
 (GL:((Z4 Aw (XE (e::es) X.env)).all (λx=>!x.1) && (backToKw Aw (keywordEach [] X.env)).all (λx=>x.1.isSome)
  && decide ((e::es).length+([]:List Keyword).length+(if([]:List Keyword).isEmpty then 0 else 1)<30))=true:=by rfl)
 (CB:(apos.endLine == Aw.line)=true:=by rfl) (hs:XE (e::es) X.env=(false,Y3 e X.env)::XE es X.env:=by rfl) (BI:(Z4 Aw (XE es X.env)).any (·.1)=false:=by rfl) :
 PE X (.Call (.Attribute o name apos) (e::es) [] Aw) (adc fl X.prog X.w r to t):=by
 intro U s Z H Q I h;refine wpAny_Call_method_late BH GL CB rfl (thn (ho U s Z H _ I h) λv s1⟨x,H1,I1,r1,⟨a,f',ex,hd⟩,q1⟩=>?_);subst ex;obtain rfl:v=Xl a:=r1;obtain⟨h1,h2⟩:=zb I1 hd;refine⟨"dict",id,PySem.F.plainAttrs_dict,slot,Jd,h1,h2,?_⟩;have hA:=ha Aw U s1 Z H1 _ I1 q1;rw[hs]at hA |-;refine Calls.callWith_builtin (by show(false ||(Z4 Aw (XE es X.env)).any (·.1))=false;rw[BI] <;> rfl) (Calls.evalArgs_plain ?_);exact thn hA λvs s2⟨xs,H2,I2,rv,q2⟩=>hm U s2 Z H2 (.ref a) xs (.ref a) vs Q I2 rfl rv q2
end
end L2
namespace BB
open PySem L2
theorem pM:∀{ps:List (List Int×Th)}{as:List WS},PsAtK K H ps as->∃bs,Xs (λ(p:List Int×Th)b=>H b=some (.tup (p.1.map q!))) ps bs/\bs.length=as.length/\∀(i:Nat)x b,(as.map i!)[i]?=some x->bs[i]?=some b->∃a ta,x=.ref a/\H a=some (.tup [.ref b,.ref ta])
 |_,_,.nil=>⟨[],.nil,rfl,λi x b h=>by simp at h⟩
 | _,_,.cons r h=>by
   obtain⟨pa,ta,h1,h2,_⟩:=r;obtain⟨bs,g1,g2,g3⟩:=pM h;refine⟨pa::bs,.cons h2 g1,by rw[W3,W3,g2],λi x b hx hb=>?_⟩;cases i with
   | zero =>
     simp at hx hb;subst hx;subst hb;exact⟨_,ta,rfl,h1⟩
   |succ i=>exact g3 i x b (by simpa using hx) (by simpa using hb)
theorem yS{F:Hp->α->WS->Prop}{J:It}(zs:List α)(p:α->Bool)(hF:∀H1 H2 z p,KT H1 H2->F H1 z p->F H2 z p)(hz:zs.length=xs.length)(hn:xs.length<=1000000)
 (Fe:∀i H2,k! H H2->i<xs.length->J.go i H2) (Bf:∀H2,k! H H2->J.stop xs.length H2) (Cj:∀(i:Nat)H2 x H3,k! H H2->i<xs.length->J.yld i H2 x H3->H3=H2/\xs[i]?=some x)
 (hb:∀(i:Nat)x z H2(R:VK)(W':Hp->Prop),xs[i]?=some x->zs[i]?=some z->k! H H2->(p z=true->∀H3 q,k! H2 H3->F H3 z q->R (.ref q) H3)->(p z=false->∀H3,k! H2 H3->W' H3)->g x (cσ js Z) H2 λAz H3=>tt Az H3 λb H4=>if b=true then te Az H4 R else W' H4)
 (B2:∀D H' as,H D=none->k! H H'->H' D=some (.lst (as.map i!))->Xs (F H') (zs.filter p) as->fin D H') :
 ∀D,H D=none->∃(n:Nat)(W:Nat->Hp->Prop),W 0 (upd H D (.lst []))/\gX js g tt te Z J D n W λH'=>fin D H':=by
 intro D hD;refine⟨xs.length,λi H'=>i<=xs.length/\k! H H'/\∃as:List WS,H' D=some (.lst (as.map i!))/\Xs (F H') ((zs.take i).filter p) as,⟨Xi _,ae hD _,[],by rw[ac];rfl,.nil⟩,?_⟩;rintro i H' ⟨hi,s1,as,e1,hp⟩;by_cases Am:i<xs.length
 .refine .inr ⟨Am,Fe i H' s1 Am,λv H1 hy=>?_⟩;obtain⟨e,hx⟩:=Cj i H' v H1 s1 Am hy;subst e;obtain⟨z,B1⟩:∃z,zs[i]?=some z:=⟨_,WR (by omega)⟩;have hl:((zs.take i).filter p).length=as.length:=W5 hp;have Bl:=ZG p (zs.take i);rw[XO]at Bl;refine hb i v z _ _ _ hx B1 s1 (λEx H3 q s3 NG=>⟨_,s3 _ _ e1,?_,Am,am (s1.trans s3) hD,as++[q],?_,?_⟩) (λEx H3 s3=>⟨Am,s1.trans s3,as,s3 _ _ e1,?_⟩)
  .rw[WO];have:Xe=16777216:=sizeLine_eq;omega
  .rw[ac,Xc];rfl
  .have kt:KT H3 (upd H3 D (.lst (as.map i!++[.ref q]))):=aK (s3 _ _ e1);rw[take_snoc B1,ZD,XX,b! Ex,List.filter_nil];exact t! (y! (λx y e=>hF _ _ _ _ ((j! s3).trans kt) e) hp) (.cons (hF _ _ _ _ kt NG) .nil)
  .rw[take_snoc B1,ZD,XX,a! (by rw[Ex];exact W8),List.filter_nil,XA];exact y! (λx y e=>hF _ _ _ _ (j! s3) e) hp
 .have Be:i=xs.length:=by omega
  subst Be;refine .inl ⟨Bf _ s1,B2 D H' as hD s1 e1 ?_⟩;rw[YI (by omega)]at hp;exact hp
def iY(ins:List (Xk×Int)):Th:=.knot (((ins.filter λk=>decide (k.2=0))[0]?.map (·.1)).getD (WT "")) []
theorem j8{k:Xk×Int}(h:(ins.filter λk=>decide (k.2=0))[0]?=some k):iY ins=.knot k.1 []:=by
 unfold iY;rw[h];rfl
theorem uv(g:cS ins):∃k,(ins.filter λk=>decide (k.2=0))[0]?=some k/\k.2=0:=by
 obtain⟨k,hk,hz⟩:=g.zero;have hm:k∈ins.filter λk=>decide (k.2=0):=Zq.mpr ⟨hk,d! hz⟩;have hl:0<(ins.filter λk=>decide (k.2=0)).length:=List.length_pos_of_mem hm;refine⟨_,WR hl,?_⟩;exact e! (Zq.mp (List.getElem_mem hl)).2
def cY(ins:List (Xk×Int)):Nat:=ins.findIdx λk=>decide (k.2=0)
theorem jX:∀{ins:List (Xk×Int)}{k:Xk×Int},(ins.filter λk=>decide (k.2=0))[0]?=some k->ins[cY ins]?=some k
 | [],k,h=>by simp at h
 | x::xs,k,h=>by
   unfold cY;by_cases hx:x.2=0
   .rw[XX,b! (d! hx)]at h;rw[List.findIdx_cons,d! hx];simpa using h
   .rw[XX,a! (by simpa using hx)]at h;rw[List.findIdx_cons,c! hx];simpa[cY]using jX h
def MkAt(H:Hp)(ins:List (Xk×Int))(rows:List (List Th))(f':List (List Key×V)):Prop :=
 ∀(s k:Nat)(row:List Th)(p:Th),k<3->rows[s]?=some row->row[cY ins]?=some p->∃a,aQ f' [Xn (s:Int),Xn (k:Int)]=some (.ref a)/\At H p a
theorem MkAt.mono(kt:KT H H'){f':List (List Key×V)}(h:MkAt H ins rows f'):MkAt H' ins rows f':=λs k row p hk hr hp=>by
 obtain⟨a,h1,h2⟩:=h s k row p hk hr hp;exact⟨a,h1,h2.mono kt⟩
theorem uu:∀{ts:List Th}{i:Nat},(dvs ts)[i]?=(ts[i]?).map Th.dv
 | [],i=>by rw[dvs];simp
 |t::ts,0=>by rw[dvs];rfl
 |t::ts,i+1=>by rw[dvs,List.getElem?_cons_succ,List.getElem?_cons_succ];exact uu
theorem vW:∀ts:List Th,(dvs ts).length=ts.length
 | []=>by rw[dvs];rfl
 |t::ts=>by rw[dvs,W3,W3,vW ts]
theorem rj{f:α->Th}:∀{zs:List α}{as:List WS},Xs (λz a=>At H (f z) a) zs as->Ats H (zs.map f) as
 |_,_,.nil=>.nil
 |_,_,.cons r h=>.cons r (rj h)
theorem dg{x:List Int×Th}:∀{ts:List Th}{i:Int},x∈pls pre i ts↔∃(j:Nat)(t:Th),ts[j]?=some t/\x∈t.pl (pre++[i+(j:Int)])
 | [],i=>by rw[pls];simp
 | t::ts,i=>by
   rw[pls,Xq,dg (ts:=ts) (i:=i+1)];constructor
   .rintro(h|⟨j,u,hu,h⟩)
    .exact⟨0,t,rfl,by simpa using h⟩
    .refine⟨j+1,u,by simpa using hu,?_⟩;rw[show i+((j+1:Nat):Int)=i+1+(j:Int)by omega];exact h
   .rintro⟨j,u,hu,h⟩;cases j with
    | zero =>
      simp at hu;subst hu;exact .inl (by simpa using h)
    | succ j =>
      refine .inr ⟨j,u,by simpa using hu,?_⟩;rw[show i+1+(j:Int)=i+((j+1:Nat):Int)by omega];exact h
theorem i4{n:Xk}{ks:List Th}{t:Th}(h:ks[j]?=some t){x:List Int×Th}(hx:x∈t.pl (pre++[(j:Int)])):x∈(o! n ks).pl pre:=by
 rw[E!];refine Xf _ (dg.mpr ⟨j,t,h,?_⟩);rw[YA];exact hx
theorem dL(t:Th)(pre:List Int):(pre,t)∈t.pl pre:=by rw[Th.pl_eq];exact Xh ..
theorem yt:∀(n:Nat)(l r:Th)(pre:List Int),l.size<=n->∀x∈(l.com r).pl pre,∃u,(x.1,u)∈l.pl pre
 |0,l,r,pre,hn=>by have:=l.size_pos;omega
 | n+1,.call a b,r,pre,hn=>λx hx=>by
   rw[kQ,aE]at hx
   .rw[a! W8,hole,E!,pls]at hx;rw[W7.mp hx];exact⟨_,dL _ _⟩
   .intro _ _ _ _ h;cases h
 | n+1,.knot m ks,r,pre,hn=>λx hx=>by
   rw[kQ]at hx;by_cases hs:aE (.knot m ks) r=true
   .rw[b! hs,E!]at hx;rcases W9.mp hx with rfl|hx
    .exact⟨_,dL _ _⟩
    .obtain⟨j,t,ht,hx⟩:=dg.mp hx;rw[YA]at hx;rw[W0,XJ]at ht;obtain⟨p,hp,rfl⟩:=ht;obtain⟨h1,h2⟩:=Zf.mp hp;rw[p!]at hn;have hz:p.1.size<=aw ks:=bg (WU h1);obtain⟨u,hu⟩:=yt n p.1 p.2 _ (by omega) x hx;exact⟨u,i4 h1 hu⟩
   .rw[a! hs,hole,E!,pls]at hx;rw[W7.mp hx];exact⟨_,dL _ _⟩
mutual
def Th.cut(D:List Int->Bool)(pre:List Int):Th->Th
 |.knot n ks=>if(o! n ks).isHole=true\/D pre=true then hole else .knot n (cp D pre 0 ks)
 |.call _ _=>hole
def cp(D:List Int->Bool)(pre:List Int)(i:Int):List Th->List Th
 | []=>[]
 |t::ts=>t.cut D (pre++[i])::cp D pre (i+1) ts
end
theorem nJ{D:List Int->Bool}:∀{ts:List Th}{i:Int}{j:Nat},(cp D pre i ts)[j]?=(ts[j]?).map λt=>t.cut D (pre++[i+(j:Int)])
 | [],i,j=>by rw[cp];simp
 |t::ts,i,0=>by rw[cp];simp
 | t::ts,i,j+1=>by
   rw[cp,List.getElem?_cons_succ,List.getElem?_cons_succ,nJ,show i+1+(j:Int)=i+((j+1:Nat):Int)by omega]
theorem eG{D:List Int->Bool}:∀{ts:List Th}{i:Int},(cp D pre i ts).length=ts.length
 | [],i=>by rw[cp]
 |t::ts,i=>by rw[cp,W3,W3,eG]
theorem f8:∀{as bs:List Th},(∀(i:Nat)(a b:Th),as[i]?=some a->bs[i]?=some b->a.lies b=true)->aP as bs=true
 | [],bs,_=>by rw[aP]
 |a::as,[],_=>by rw[aP]
 | a::as,b::bs,h=>by
   rw[aP,h 0 a b rfl rfl,f8 λi x y hx hy=>h (i+1) x y (by simpa using hx) (by simpa using hy)];rfl
theorem im:∀{as bs:List Th},aP as bs=true->∀(i:Nat)(a b:Th),as[i]?=some a->bs[i]?=some b->a.lies b=true
 | [],bs,_,i,a,b,ha,_=>by simp at ha
 |x::as,[],_,i,a,b,_,hb=>by simp at hb
 | x::as,y::bs,h,i,a,b,ha,hb=>by
   rw[aP,XY]at h;cases i with
   | zero =>
     simp at ha hb;subst ha;subst hb;exact h.1
   |succ i=>exact im h.2 i a b (by simpa using ha) (by simpa using hb)
theorem sW{n:Xk}{ks:List Th}{r:Th}(h:aE (.knot n ks) r=true):∃us,r=.knot n us/\ks.length=us.length/\(o! n ks).isHole=false:=by
 cases r with
 |call a b=>rw[aE]at h;exact g! h W8;intro _ _ _ _ _ h;cases h
 | knot m us =>
   rw[aE,XY,XY]at h;obtain⟨⟨h1,h2⟩,h3⟩:=h;obtain rfl:=e! h2;exact⟨us,rfl,e! h3,by simpa using h1⟩
theorem fL{n:Xk}{ks us:List Th}(h1:(o! n ks).isHole=false)(h2:ks.length=us.length):aE (.knot n ks) (.knot n us)=true:=by
 rw[aE,h1,d! rfl,d! h2];rfl
theorem lies_of{n:Xk}{ks:List Th}{r:Th}(h:(o! n ks).lies r=true)(hh:(o! n ks).isHole=false):∃us,r=.knot n us/\ks.length=us.length/\aP ks us=true:=by
 rw[w!,hh,Bool.false_or,XY]at h;obtain⟨us,rfl,hl,_⟩:=sW h.1;exact⟨us,rfl,hl,h.2⟩
theorem i7(r:Th):hole.lies r=true:=by
 rw[hole,w!];have:(o! star []).isHole=true:=dz;rw[this];rfl
theorem rc{n:Xk}{ks cs:List Th}(hl:cs.length=ks.length)(h:(o! n ks).isHole=false):(o! n cs).isHole=false:=by
 rw[N!,decide_eq_false_iff_not]at h |-;rintro⟨h1,h2⟩;rw[h2]at hl;exact h ⟨h1,X6.mp hl.symm⟩
theorem eN{c:List Int×Int×Int}{ps:List (List Int×Th)}:c∈callsOf ps↔(c.1,B! c.2.1 c.2.2)∈ps:=by
 unfold callsOf;rw[List.mem_filterMap];constructor
 .rintro⟨⟨pl,t⟩,hx,e⟩;cases t with
  |knot n ks=>rw[qB]at e;cases e
  |call a b=>rw[qB]at e;cases e;exact hx
 .intro h;exact⟨_,h,by rw[qB]⟩
theorem tj{n:Xk}{ks:List Th}{t:Th}(h:ks[j]?=some t){c:List Int×Int×Int}(hc:c∈callsOf (t.pl (pre++[(j:Int)]))):c∈callsOf ((o! n ks).pl pre):=eN.mpr (i4 h (eN.mp hc))
section
variable{D:Int->List Int->Bool}{mk f0:Int->Th}
theorem pN{s l:Int}{q:List Int}(Hl:∀(r:List Int)(u:Th),D l r=true->(q++r,u)∈(f0 s).pl []->D s (q++r)=true)(Hh:∀(r:List Int)(u:Th),(r,u)∈(f0 l).pl []->u.isHole=true->D l r=true) :
 ∀(n:Nat)(f g m:Th)(r:List Int),f.size<=n->(∀x∈f.pl (q++r),x∈(f0 s).pl [])->(∀x∈g.pl r,x∈(f0 l).pl [])->f.noCall->g.noCall->f.lies m=true->g.lies m=true->(f.cut (D s) (q++r)).lies (g.cut (D l) r)=true
 |0,f,g,m,r,hn=>by have:=f.size_pos;omega
 |n+1,.call a b,g,m,r,_=>λ_ _ h=>by rw[u!]at h;exact h.elim
 |n+1,.knot nm ks,.call a b,m,r,_=>λ_ _ _ h=>by rw[u!]at h;exact h.elim
 | n+1,.knot nm ks,.knot gm vs,m,r,hn=>λhF hG nf ng hf hg=>by
   rw[Th.cut];by_cases hc:(o! nm ks).isHole=true\/D s (q++r)=true
   .rw[b! hc];exact i7 _
   .rw[a! hc];have h1:(o! nm ks).isHole=false:=Yj.mpr λz=>hc (.inl z);have h2:¬D s (q++r)=true:=λz=>hc (.inr z);have h3:¬D l r=true:=λz=>h2 (Hl r _ z (hF _ (dL _ _)));have h4:(o! gm vs).isHole=false:=Yj.mpr λz=>h3 (Hh r _ (hG _ (dL _ _)) z);obtain⟨us,rfl,l1,b1⟩:=lies_of hf h1;obtain⟨U6,e,l2,b2⟩:=lies_of hg h4;cases e;rw[Th.cut,a! (by rintro(z|z);(rw[h4]at z;cases z);exact h3 z)];rw[w!,fL (rc eG h1) (by rw[eG,eG];omega)];rw[p!]at hn;rw[u!]at nf ng
    have:aP (cp (D s) (q++r) 0 ks) (cp (D l) r 0 vs)=true:=f8 λi a b ha hb=>by
     rw[nJ,XJ]at ha hb;obtain⟨k,hk,rfl⟩:=ha;obtain⟨v,hv,rfl⟩:=hb;have CN:=(glE hk);obtain⟨u,hu⟩:∃u,us[i]?=some u:=⟨_,WR (by omega)⟩;have hz:=bg (WU hk);rw[YA,XS];refine pN Hl Hh n k v u (r++[(i:Int)]) (by omega) (λx hx=>hF x (i4 hk (by rw[XS];exact hx))) (λx hx=>hG x (i4 hv hx)) (cP nf (WU hk)) (cP ng (WU hv)) (im b1 i k u hk hu) (im b2 i v u hv hu)
    show((o! nm (cp (D s) (q++r) 0 ks)).isHole ||(true && aP (cp (D s) (q++r) 0 ks) (o! nm (cp (D l) r 0 vs)).kids))=true;rw[show(o! nm (cp (D l) r 0 vs)).kids=cp (D l) r 0 vs from rfl,this,Bool.or_comm];rfl
theorem m9{s:Int}{pat:Th}(Hc:∀c∈callsOf (pat.pl []),(f0 c.2.1).lies (mk c.2.1)=true/\(f0 c.2.1).noCall/\(∀(r:List Int)(u:Th),(r,u)∈(f0 c.2.1).pl []->u.isHole=true->D c.2.1 r=true)/\∀(r:List Int)(u:Th),D c.2.1 r=true->(c.1++r,u)∈(f0 s).pl []->D s (c.1++r)=true) :
 ∀(n:Nat)(f p:Th)(q:List Int),f.size<=n->(∀x∈f.pl q,x∈(f0 s).pl [])->(∀c∈callsOf (p.pl q),c∈callsOf (pat.pl []))->f.noCall->f.lies (p.fill λl _=>mk l)=true->(f.cut (D s) q).lies (p.fill λl _=>(f0 l).cut (D l) [])=true
 |0,f,p,q,hn=>by have:=f.size_pos;omega
 |n+1,.call a b,p,q,_=>λ_ _ h=>by rw[u!]at h;exact h.elim
 | n+1,.knot nm ks,.call l k,q,hn=>λhF hC nf hf=>by
   obtain⟨g1,g2,g3,g4⟩:=Hc (q,l,k) (hC _ (eN.mpr (dL _ _)));rw[v!]at hf |-;have:=pN (q:=q) g4 g3 (n+1) (.knot nm ks) (f0 l) (mk l) [] hn (by rw[XA];exact hF) (λx hx=>hx) nf g2 hf g1;rw[XA]at this;exact this
 | n+1,.knot nm ks,.knot pm ps,q,hn=>λhF hC nf hf=>by
   rw[Th.cut];by_cases hc:(o! nm ks).isHole=true\/D s q=true
   .rw[b! hc];exact i7 _
   .rw[a! hc];have h1:(o! nm ks).isHole=false:=Yj.mpr λz=>hc (.inl z);rw[v!,db]at hf |-;obtain⟨us,e,l1,b1⟩:=lies_of hf h1;cases e;rw[WO]at l1;rw[w!,fL (rc eG h1) (by rw[eG,WO];omega)];rw[p!]at hn;rw[u!]at nf
    have:aP (cp (D s) q 0 ks) (ps.map λt=>t.fill λl _=>(f0 l).cut (D l) [])=true:=f8 λi a b ha hb=>by
     rw[nJ,XJ]at ha;rw[W0,XJ]at hb;obtain⟨k,hk,rfl⟩:=ha;obtain⟨v,hv,rfl⟩:=hb;have hz:=bg (WU hk);rw[YA];refine m9 Hc n k v (q++[(i:Int)]) (by omega) (λx hx=>hF x (i4 hk hx)) (λc C6=>hC c (tj hv C6)) (cP nf (WU hk)) (im b1 i k _ hk (gmE hv))
    show((o! nm (cp (D s) q 0 ks)).isHole ||(true && aP (cp (D s) q 0 ks) (o! nm (ps.map λt=>t.fill λl _=>(f0 l).cut (D l) [])).kids))=true;rw[show(o! nm (ps.map λt=>t.fill λl _=>(f0 l).cut (D l) [])).kids=ps.map λt=>t.fill λl _=>(f0 l).cut (D l) []from rfl,this,Bool.or_comm];rfl
end
theorem kG:∀(n:Nat)(t:Th),t.size<=n->t.noCall->t.lies t=true
 |0,t,hn,_=>by have:=t.size_pos;omega
 |n+1,.call a b,_,h=>by rw[u!]at h;exact h.elim
 | n+1,.knot m ks,hn,h=>by
   by_cases hh:(o! m ks).isHole=true
   .rw[w!,hh];rfl
   .have U7:(o! m ks).isHole=false:=Yj.mpr hh;rw[p!]at hn;rw[u!]at h;rw[w!,fL U7 rfl]
    have:aP ks ks=true:=f8 λi a b ha hb=>by
     rw[ha]at hb;cases hb;have:=bg (WU ha);exact kG n a (by omega) (cP h (WU ha))
    show((o! m ks).isHole ||(true && aP ks (o! m ks).kids))=true;rw[show(o! m ks).kids=ks from rfl,this,Bool.or_comm];rfl
def mkF(ins:List (Xk×Int))(rows:List (List Th))(l:Int):Th:=(rowOf rows l).getD (cY ins) hole
def frF(mk:Int->Th)(m:Th)(row:List Th):Th:=row.foldl (λf p=>f.com (p.fill λl _=>mk l)) m
theorem tG(mk:Int->Th)(m:Th)(row:List Th)(p:Th):frF mk m (row++[p])=(frF mk m row).com (p.fill λl _=>mk l):=by
 unfold frF;rw[List.foldl_append];rfl
theorem uD{mk:Int->Th}{m:Th}(h:m.noCall):∀row:List Th,(frF mk m row).noCall:=λrow=>by
 cases hr:row.reverse with
 | nil =>
   have:row=[]:=by simpa using hr
   subst this;exact h
 | cons p ps =>
   have:row=ps.reverse++[p]:=by
    have:=h! List.reverse hr;simpa using this
   rw[this,tG];exact mX _ _
theorem jp(mk:Int->Th)(m:Th)(row:List Th):(frF mk m row).size<=m.size/\(frF mk m row).tall<=m.tall:=by
 unfold frF;induction row generalizing m with
 |nil=>exact⟨WY _,WY _⟩
 | cons p row ih =>
   rw[List.foldl_cons];have h1:=ih (m.com (p.fill λl _=>mk l));have h2:=se m (p.fill λl _=>mk l);omega
theorem xJ(mk:Int->Th)(m:Th)(row:List Th):∀x∈(frF mk m row).pl [],∃u,(x.1,u)∈m.pl []:=by
 unfold frF;induction row generalizing m with
 |nil=>exactλx hx=>⟨x.2,hx⟩
 | cons p row ih =>
   rw[List.foldl_cons];intro x hx;obtain⟨u,hu⟩:=ih _ x hx;exact yt _ m _ [] (WY _) (x.1,u) hu
theorem tM{mk:Int->Th}(f:Th):∀(row:List Th)(m:Th),f.lies (frF mk m row)=true->f.lies m=true/\∀p∈row,f.lies (p.fill λl _=>mk l)=true
 | [],m,h=>⟨h,λp hp=>by cases hp⟩
 | p::row,m,h=>by
   have h':f.lies (frF mk (m.com (p.fill λl _=>mk l)) row)=true:=h;obtain⟨h1,h2⟩:=tM f row _ h';rw[ss,XY]at h1;refine⟨h1.1,λx hx=>?_⟩;rcases W9.mp hx with rfl|hx
   .exact h1.2
   .exact h2 x hx
def nk(s:Int)(pl:List Int):ay:=(pl.map Xn,Xn s)
theorem pP{s:Int}{pl:List Int}(h1:H b=some (.tup [.int s,.ref c]))(h2:H c=some (.tup (pl.map q!))):MKAt false H (nk s pl) b:=by
 refine⟨c,h1,?_⟩;rw[h2];unfold nk;rw[Y1];rfl
def But(p:WS)(H H':Hp):Prop:=∀c o,c≠p->H c=some o->H' c=some o
theorem But.refl(p:WS)(H:Hp):But p H H:=λ_ _ _ e=>e
theorem But.trans{p:WS}{JQ:Hp}(a:But p H H')(b:But p H' JQ):But p H JQ:=λc o hc e=>b c o hc (a c o hc e)
theorem Same.but{p:WS}(a:k! H H'):But p H H':=λc o _ e=>a c o e
theorem But.kt{p:WS}{φ:X7->Prop}(a:But p H H')(e:H p=some (.ext φ)):KT H H':=λc ys ec=>a c _ (λz=>by rw[z,e]at ec;cases ec) ec
def PtV(H:Hp)(v:V):Prop:=∃(pr ta tb:WS)(t1 t2:Th),v=.ref pr/\H pr=some (.tup [.ref ta,.ref tb])/\At H t1 ta/\At H t2 tb
theorem PtV.mono(k:KT H H')(h:PtV H v):PtV H' v:=by
 obtain⟨pr,ta,tb,t1,t2,e,h1,h2,h3⟩:=h;exact⟨pr,ta,tb,t1,t2,e,k _ _ h1,h2.mono k,h3.mono k⟩
structure Pt(P:W6)(w:Xj)(H:Hp)(pt:WS)(f':List (ay×V))(Al:List ay):Prop where
 dm:DM false P w H pt f'
 nd:(f'.map (·.1)).Nodup
 al:∀p∈f',p.1∈Al
 vl:∀p∈f',PtV H p.2
theorem cq(h:DM false P w H a f'):∃φ,H a=some (.ext φ):=by
 obtain⟨_,_,xs,φ,e,_⟩:=h;exact⟨φ,e⟩
theorem Pt.same{pt:WS}(h:Pt P w H pt f' Al)(s:k! H H'):Pt P w H' pt f' Al:=⟨h.dm.mono s,h.nd,h.al,λp hp=>(h.vl p hp).mono (j! s)⟩
theorem Pt.len{pt:WS}(h:Pt P w H pt f' Al):f'.length<=Al.length:=by
 have:=pk (m:=Al) h.nd λk hk=>by
  obtain⟨p,hp,rfl⟩:=XD.mp hk;exact h.al p hp
 rwa [WO]at this
theorem fx{k:ay}(h:aQ f' k=none):k∉f'.map (·.1):=by
 intro hk;obtain⟨p,hp,rfl⟩:=XD.mp hk;have:=eh p.1 f';rw[h]at this;have h2:(f'.any λkv=>decide (kv.1=p.1))=true:=List.any_eq_true.mpr ⟨p,hp,d! rfl⟩;rw[h2]at this;cases this
theorem ft{k:ay}(h:aQ f' k=some v):(k,v)∈f':=by
 induction f' with
 |nil=>cases h
 | cons p f' ih =>
   by_cases e:p.1=k
   .rw[bD e]at h;cases h;rw[<-e];exact Xh ..
   .rw[bC e]at h;exact Xf _ (ih h)
theorem Pt.put{pt:WS}(h:Pt P w H pt f' Al){k:ay}(hn:aQ f' k=none)(hb:But pt H H')(hd:DM false P w H' pt (putK f' k v))(hv:PtV H v)(hk:k∈Al):Pt P w H' pt (putK f' k v) Al/\(putK f' k v).map (·.1)=f'.map (·.1)++[k]:=by
 obtain⟨φ,e⟩:=cq h.dm;have kt:=hb.kt e;rw[jC v hn]at hd |-;refine⟨⟨hd,?_,λp hp=>?_,λp hp=>?_⟩,by rw[Xc];rfl⟩
 .rw[Xc];refine List.nodup_append.mpr ⟨h.nd,by simp,λa ha b AJ=>?_⟩;simp at AJ;subst AJ;exactλz=>fx hn (z ▸ ha)
 .rcases Xq.mp hp with hp|hp
  .exact h.al p hp
  .rw[W7.mp hp];exact hk
 .rcases Xq.mp hp with hp|hp
  .exact(h.vl p hp).mono kt
  .rw[W7.mp hp];exact hv.mono kt
mutual
theorem u9{u:Th}:∀(t:Th)(pre:List Int),u∈t.walk->∃pl,(pl,u)∈t.pl pre
 | .call a b,pre,h=>by
   rw[Th.walk]at h;rw[W7.mp h];exact⟨pre,dL _ _⟩
 | .knot n ks,pre,h=>by
   rw[Th.walk]at h;rcases W9.mp h with rfl|h
   .exact⟨pre,dL _ _⟩
   .obtain⟨pl,hp⟩:=rh ks pre 0 h;exact⟨pl,by rw[E!];exact Xf _ hp⟩
theorem rh{u:Th}:∀(ts:List Th)(pre:List Int)(i:Int),u∈walks ts->∃pl,(pl,u)∈pls pre i ts
 | [],pre,i,h=>by rw[walks]at h;cases h
 | t::ts,pre,i,h=>by
   rw[walks]at h;rw[pls];rcases Xq.mp h with h|h
   .obtain⟨pl,hp⟩:=u9 t (pre++[i]) h;exact⟨pl,XH _ hp⟩
   .obtain⟨pl,hp⟩:=rh ts pre (i+1) h;exact⟨pl,XC _ hp⟩
end
theorem kO{ks:List (Xk×Int)}{t:Th}(h:t.FitS ks S C){s k:Int}(hm:B! s k∈t.walk):0<=s/\s<S/\0<=k/\k<C:=by
 obtain⟨pl,hp⟩:=u9 t [] hm;exact kL t [] h (pl,s,k) (eN.mpr hp)
theorem lF{ks:List (Xk×Int)}:∀(n:Nat)(t:Th),t.size<=n->t.FitS ks S 0->t.noCall
 |0,t,hn,_=>by have:=t.size_pos;omega
 |n+1,.call a b,_,h=>by rw[A!]at h;omega
 | n+1,.knot m us,hn,h=>by
   rw[A!]at h;rw[p!]at hn;rw[u!]
   have:∀(l:List Th),(∀t∈l,t.noCall)->aN l:=λl=>by
    induction l with
    |nil=>intro _;rw[aN];trivial
    |cons x l ih=>intro hl;rw[aN];exact⟨hl x (Xh ..),ih λt ht=>hl t (Xf _ ht)⟩
   refine this us λt ht=>?_;have hz:=bg ht;exact lF n t (by omega) (FitSs.mem' h.2 t ht)
mutual
theorem yF:∀(t:Th)(a b:List Int),t.pl (a++b)=(t.pl b).map λx=>(a++x.1,x.2)
 |.call s k,a,b=>by rw[E!,E!];rfl
 |.knot n ks,a,b=>by rw[E!,E!,XB,vO ks a b 0]
theorem vO:∀(ts:List Th)(a b:List Int)(i:Int),pls (a++b) i ts=(pls b i ts).map λx=>(a++x.1,x.2)
 | [],a,b,i=>by rw[pls,pls];rfl
 |t::ts,a,b,i=>by rw[pls,pls,Xc,XS,yF t a (b++[i]),vO ts a b (i+1)]
end
theorem gf{t:Th}{a:List Int}{x:List Int×Th}:x∈t.pl a↔∃r,x.1=a++r/\(r,x.2)∈t.pl []:=by
 have:=yF t a [];rw[XA]at this;rw[this,XD];constructor
 .rintro⟨y,hy,rfl⟩;exact⟨y.1,rfl,hy⟩
 .rintro⟨r,h1,h2⟩;exact⟨(r,x.2),h2,by rw[<-h1]⟩
theorem va:∀(n:Nat){t u v:Th}{a r:List Int},t.size<=n->(a,u)∈t.pl []->(r,v)∈u.pl []->(a++r,v)∈t.pl []
 |0,t,_,_,_,_,hn=>by have:=t.size_pos;omega
 | n+1,.call s k,u,v,a,r,hn=>λh1 h2=>by
   rw[E!]at h1;cases W7.mp h1;exact h2
 | n+1,.knot m ks,u,v,a,r,hn=>λh1 h2=>by
   rw[E!]at h1;rcases W9.mp h1 with h1|h1
   .cases h1;exact h2
   .obtain⟨j,t,ht,hx⟩:=dg.mp h1;obtain⟨r',e,BN⟩:=gf.mp hx;dsimp only at e BN;rw[YA,Zp]at e;rw[p!]at hn;have hz:=bg (WU ht);have:=va n (by omega) BN h2;refine i4 ht (gf.mpr ⟨r'++r,?_,this⟩);show a++r=[]++[(j:Int)]++(r'++r);rw[e,Zp,XS]
theorem si:∀(n:Nat){t v:Th}{a r:List Int}{u:Th},t.size<=n->(a++r,v)∈t.pl []->(∃w,(a,w)∈t.pl []/\(r,v)∈w.pl [])
 |0,t,_,_,_,_,hn=>by have:=t.size_pos;omega
 |n+1,t,v,[],r,_,hn=>λh=>⟨t,dL _ _,h⟩
 | n+1,.call s k,v,x::a,r,_,hn=>λh=>by
   rw[E!]at h;have:=h! Prod.fst (W7.mp h);cases this
 | n+1,.knot m ks,v,x::a,r,u,hn=>λh=>by
   rw[E!]at h;rcases W9.mp h with h|h
   .have:=h! Prod.fst h;cases this
   .obtain⟨j,t,ht,hx⟩:=dg.mp h;obtain⟨r',e,BN⟩:=gf.mp hx;dsimp only at e BN;rw[YA,Zp]at e;injection e with e1 e2;have e2:a++r=r':=e2;rw[p!]at hn;have hz:=bg (WU ht);rw[<-e2]at BN;obtain⟨w,h1,h2⟩:=si n (u:=u) (by omega) BN;refine⟨w,i4 ht (gf.mpr ⟨a,?_,h1⟩),h2⟩;show x::a=[]++[(j:Int)]++a;rw[e1];rfl
theorem uK:∀(n:Nat){t u v:Th}{a:List Int},t.size<=n->(a,u)∈t.pl []->(a,v)∈t.pl []->u=v
 |0,t,_,_,_,hn=>by have:=t.size_pos;omega
 | n+1,.call s k,u,v,a,hn=>λh1 h2=>by
   rw[E!]at h1 h2;cases W7.mp h1;cases W7.mp h2;rfl
 | n+1,.knot m ks,u,v,a,hn=>λh1 h2=>by
   rw[E!]at h1 h2;rcases W9.mp h1 with h1|h1
   .cases h1;rcases W9.mp h2 with h2|h2
    .cases h2;rfl
    .obtain⟨j,t,ht,hx⟩:=dg.mp h2;obtain⟨r',e,_⟩:=gf.mp hx;cases e
   .obtain⟨j,t,ht,hx⟩:=dg.mp h1;obtain⟨r',e,BN⟩:=gf.mp hx;rcases W9.mp h2 with h2|h2
    .cases h2;cases e
    .obtain⟨j2,t2,Mb,Ct⟩:=dg.mp h2;obtain⟨r2,e2,Gi⟩:=gf.mp Ct;dsimp only at e e2 BN Gi;rw[e]at e2;have e3:(0+(j:Int))::r'=(0+(j2:Int))::r2:=e2;injection e3 with e4 e5;have:j=j2:=by omega
     subst this;rw[ht]at Mb;cases Mb;subst e5;rw[p!]at hn;have hz:=bg (WU ht);exact uK n (by omega) BN Gi
def LE(H:Hp)(ins:List (Xk×Int))(Al:List ay)(a:WS):Prop:=∃(s kid:Int)(pl:List Int)(pa ka:WS)(kd:Xk×Int),H a=some (.tup [.int s,.ref pa,.ref ka,.int kid])/\H pa=some (.tup (pl.map q!))/\KAt H kd ka/\kd∈ins/\nk s pl∈Al
theorem LE.mono(k:KT H H')(h:LE H ins Al a):LE H' ins Al a:=by
 obtain⟨s,kid,pl,pa,ka,kd,h1,h2,h3,h4,h5⟩:=h;exact⟨s,kid,pl,pa,ka,kd,k _ _ h1,k _ _ h2,k _ _ h3,h4,h5⟩
abbrev LG:=List (ay×WS×List WS)
def lkv(G:LG):List (ay×V):=G.map λg=>(g.1,i! g.2.1)
structure LkI(P:W6)(w:Xj)(ins:List (Xk×Int))(Al:List ay)(H0 H:Hp)(la:WS)(G:LG)(N:Nat):Prop where
 sm:k! H0 H
 la0:H0 la=none
 dm:DM false P w H la (lkv G)
 kn:(G.map (·.1)).Nodup
 an:(G.map (·.2.1)).Nodup
 ls:∀g∈G,H0 g.2.1=none/\H g.2.1=some (.lst (g.2.2.map i!))/\g.2.2.length<=N/\∀a∈g.2.2,LE H ins Al a
 le:G.length<=N
def iq(H:Hp)(G:LG)(k:ay)(s:Int)(pl:List Int):Prop:=∃g∈G,g.1=k/\∃a∈g.2.2,∃(pa ka:WS)(kid:Int),H a=some (.tup [.int s,.ref pa,.ref ka,.int kid])/\H pa=some (.tup (pl.map q!))
def LSub(H H':Hp)(G G':LG):Prop:=∀k s pl,iq H G k s pl->iq H' G' k s pl
theorem LSub.refl(H:Hp)(G:LG):LSub H H G G:=λ_ _ _ h=>h
theorem LSub.trans{JQ:Hp}{G G' RQ:LG}(a:LSub H H' G G')(b:LSub H' JQ G' RQ):LSub H JQ G RQ:=λk s pl h=>b k s pl (a k s pl h)
theorem LSub.kt(k:KT H H')(G:LG):LSub H H' G G:=λ_ _ _⟨g,hg,e,a,ha,pa,ka,kid,h1,h2⟩=>⟨g,hg,e,a,ha,pa,ka,kid,k _ _ h1,k _ _ h2⟩
theorem vR(h:DM false P w H a f')(k:KT H H')(e:∀o,H a=some o->H' a=some o):DM false P w H' a f':=by
 obtain⟨z,hd,xs,φ,e1,f,r⟩:=h;exact⟨z,hd,xs,φ,e _ e1,f,KTm.mono k r⟩
section
variable{H0:Hp}{G:LG}{N:Nat}
theorem LkI.ne(h:LkI P w ins Al H0 H la G N){g:ay×WS×List WS}(hg:g∈G):g.2.1≠la:=λz=>by
 obtain⟨φ,e⟩:=cq h.dm;have:=(h.ls g hg).2.1;rw[z,e]at this;cases this
theorem LkI.same(h:LkI P w ins Al H0 H la G N)(s:k! H H'):LkI P w ins Al H0 H' la G N:=by
 refine⟨h.sm.trans s,h.la0,h.dm.mono s,h.kn,h.an,λg hg=>?_,h.le⟩;obtain⟨a,b,c,d⟩:=h.ls g hg;exact⟨a,s _ _ b,c,λx hx=>(d x hx).mono (j! s)⟩
theorem LkI.up(h:LkI P w ins Al H0 H la G N){M:Nat}(hm:N<=M):LkI P w ins Al H0 H la G M:=by
 refine⟨h.sm,h.la0,h.dm,h.kn,h.an,λg hg=>?_,Xv h.le hm⟩;obtain⟨a,b,c,d⟩:=h.ls g hg;exact⟨a,b,Xv c hm,d⟩
theorem LkI.new(h:LkI P w ins Al H0 H la G N){k:ay}{l:WS}(hn:aQ (lkv G) k=none)(hb:But la H H')(hd:DM false P w H' la (putK (lkv G) k (.ref l)))(EU:H0 l=none)(hl:H l=some (.lst []))(hf:∀g∈G,g.2.1≠l):LkI P w ins Al H0 H' la (G++[(k,l,[])]) (N+1)/\LSub H H' G (G++[(k,l,[])]):=by
 obtain⟨φ,e⟩:=cq h.dm;have kt:=hb.kt e;have N9:l≠la:=λz=>by rw[z,e]at hl;cases hl
 refine⟨⟨λc o ec=>hb c o (λz=>by rw[z,h.la0]at ec;cases ec) (h.sm _ _ ec),h.la0,?_,?_,?_,λg hg=>?_,by rw[Xg];have:=h.le;show G.length+1<=N+1;omega⟩,λk' s pl h'=>?_⟩
 .rw[jC _ hn]at hd;unfold lkv at hd |-;rw[Xc];exact hd
 .rw[Xc];refine List.nodup_append.mpr ⟨h.kn,by simp,λa ha b AJ=>?_⟩;simp at AJ;subst AJ;intro z;subst z;refine fx hn ?_;unfold lkv;rw[Y1];exact ha
 .rw[Xc];refine List.nodup_append.mpr ⟨h.an,by simp,λa ha b AJ=>?_⟩;simp at AJ;subst AJ;obtain⟨g,hg,rfl⟩:=XD.mp ha;exact hf g hg
 .rcases Xq.mp hg with hg|hg
  .obtain⟨a,b,c,d⟩:=h.ls g hg;exact⟨a,hb _ _ (h.ne hg) b,by omega,λx hx=>(d x hx).mono kt⟩
  .rw[W7.mp hg];exact⟨EU,hb _ _ N9 hl,Xi _,λx hx=>by cases hx⟩
 .obtain⟨g,hg,r⟩:=LSub.kt kt G k' s pl h';exact⟨g,XH _ hg,r⟩
def fZ(l en:WS)(g:ay×WS×List WS):ay×WS×List WS:=if g.2.1=l then(g.1,g.2.1,g.2.2++[en])else g
theorem dY(l en:WS)(g:ay×WS×List WS):(fZ l en g).1=g.1/\(fZ l en g).2.1=g.2.1:=by
 unfold fZ;split <;> exact⟨rfl,rfl⟩
theorem LkI.app(h:LkI P w ins Al H0 H la G N){g:ay×WS×List WS}(hg:g∈G){en:WS}(he:LE H ins Al en):LkI P w ins Al H0 (upd H g.2.1 (.lst (g.2.2.map i!++[.ref en]))) la (G.map (fZ g.2.1 en)) (N+1)/\KT H (upd H g.2.1 (.lst (g.2.2.map i!++[.ref en])))/\LSub H (upd H g.2.1 (.lst (g.2.2.map i!++[.ref en]))) G (G.map (fZ g.2.1 en))/\(∀(s:Int)(pl:List Int)(pa ka:WS)(kid:Int),H en=some (.tup [.int s,.ref pa,.ref ka,.int kid])->H pa=some (.tup (pl.map q!))->iq (upd H g.2.1 (.lst (g.2.2.map i!++[.ref en]))) (G.map (fZ g.2.1 en)) g.1 s pl):=by
 obtain⟨gl,ge,gn,U8⟩:=h.ls g hg;have kt:KT H (upd H g.2.1 (.lst (g.2.2.map i!++[.ref en]))):=aK ge;have Ff:=h.ne hg;have k1:(G.map (fZ g.2.1 en)).map (·.1)=G.map (·.1):=by rw[Y1];exact List.map_congr_left λx _=>(dY _ _ x).1
 have k2:(G.map (fZ g.2.1 en)).map (·.2.1)=G.map (·.2.1):=by rw[Y1];exact List.map_congr_left λx _=>(dY _ _ x).2
 have k3:lkv (G.map (fZ g.2.1 en))=lkv G:=by
  unfold lkv;rw[Y1];refine List.map_congr_left λx _=>?_;show((fZ g.2.1 en x).1,i! (fZ g.2.1 en x).2.1)=_;rw[(dY _ _ x).1,(dY _ _ x).2]
 refine⟨⟨am h.sm gl,h.la0,?_,by rw[k1];exact h.kn,by rw[k2];exact h.an,λx hx=>?_,by rw[WO];have:=h.le;omega⟩,kt,λk s pl hh=>?_,λs pl pa ka kid h1 h2=>?_⟩
 .rw[k3];exact vR h.dm kt λo eo=>by rw[aj Ff.symm];exact eo
 .obtain⟨y,hy,rfl⟩:=XD.mp hx;obtain⟨a,b,c,d⟩:=h.ls y hy;by_cases hc:y.2.1=g.2.1
  .have U9:y=g:=by
    obtain⟨i,hi⟩:=Xp.mp hy;obtain⟨j,hj⟩:=Xp.mp hg
    have Iv:i=j:=by
     have h1:(G.map (·.2.1))[i]?=some y.2.1:=by rw[W0,hi];rfl
     have h2:(G.map (·.2.1))[j]?=some y.2.1:=by rw[W0,hj,hc];rfl
     exact(List.getElem?_inj (by have:=(glE h1);exact this) h.an).mp (h1.trans h2.symm)
    subst Iv;rw[hi]at hj;exact Xm hj
   subst U9;unfold fZ;rw[b! rfl];refine⟨a,?_,?_,λx hx=>?_⟩
   .show(upd H y.2.1 _) y.2.1=_;rw[ac];show some (HO.lst (y.2.2.map i!++[.ref en]))=some (.lst ((y.2.2++[en]).map i!));rw[Xc];rfl
   .show(y.2.2++[en]).length<=N+1;rw[Xg];show y.2.2.length+1<=N+1;omega
   .rcases Xq.mp hx with hx|hx
    .exact(d x hx).mono kt
    .rw[W7.mp hx];exact he.mono kt
  .unfold fZ;rw[a! hc];exact⟨a,by rw[aj hc];exact b,by omega,λx hx=>(d x hx).mono kt⟩
 .obtain⟨x,hx,e,a,ha,pa,ka,kid,h1,h2⟩:=hh;refine⟨fZ g.2.1 en x,XD.mpr ⟨x,hx,rfl⟩,by rw[(dY _ _ x).1];exact e,a,?_,pa,ka,kid,kt _ _ h1,kt _ _ h2⟩;unfold fZ;split
  .exact XH _ ha
  .exact ha
 .refine⟨fZ g.2.1 en g,XD.mpr ⟨g,hg,rfl⟩,(dY _ _ g).1,en,?_,pa,ka,kid,kt _ _ h1,kt _ _ h2⟩;unfold fZ;rw[b! rfl];exact XC _ (Xh ..)
end
theorem yu:∀{ps:List (List Int×Th)}{as:List WS},PsAtK K H ps as->∃prs:List (List Key×V),Xs (PrA H) prs as/\(∀p∈prs,∃x∈ps,p.1=x.1.map Xn/\∃a,p.2=.ref a/\AtK .i K H x.2 a)/\∀x∈ps,∃p∈prs,p.1=x.1.map Xn
 |_,_,.nil=>⟨[],.nil,(λp hp=>by cases hp),(λp hp=>by cases hp)⟩
 | _,_,.cons (a:=x) r h=>by
   obtain⟨pa,ta,h1,h2,h3⟩:=r;obtain⟨prs,g1,g2,g3⟩:=yu h;refine⟨(x.1.map Xn,.ref ta)::prs,.cons ⟨pa,h1,by rw[h2,Y1];rfl⟩ g1,λp hp=>?_,λy hy=>?_⟩
   .rcases W9.mp hp with rfl|hp
    .exact⟨x,Xh ..,rfl,ta,rfl,h3⟩
    .obtain⟨y,hy,r⟩:=g2 p hp;exact⟨y,Xf _ hy,r⟩
   .rcases W9.mp hy with rfl|hy
    .exact⟨_,Xh ..,rfl⟩
    .obtain⟨p,hp,e⟩:=g3 y hy;exact⟨p,Xf _ hp,e⟩
structure LQ(P:W6)(w:Xj)(ins:List (Xk×Int))(Al:List ay)(H0:Hp)(la:WS)(Hb:Hp)(Gb:LG)(Hc:Hp)(Gc:LG)(n:Nat):Prop where
 lk:LkI P w ins Al H0 Hc la Gc n
 sub:LSub Hb Hc Gb Gc
 fr:∀c o,Hb c=some o->c≠la->(∀g∈Gb,g.2.1≠c)->Hc c=some o
 dom:∀c o,Hb c=some o->∃o',Hc c=some o'
 ext:∀g∈Gc,(∃g0∈Gb,g0.2.1=g.2.1)\/Hb g.2.1=none
section
variable{H0 Hb Hc Hd:Hp}{Gb Gc Gd:LG}
theorem LQ.refl(h:LkI P w ins Al H0 Hb la Gb n):LQ P w ins Al H0 la Hb Gb Hb Gb n:=⟨h,LSub.refl _ _,λ_ _ e _ _=>e,λc o e=>⟨o,e⟩,λg hg=>.inl ⟨g,hg,rfl⟩⟩
theorem LQ.same(h:LQ P w ins Al H0 la Hb Gb Hc Gc n)(s:k! Hc Hd):LQ P w ins Al H0 la Hb Gb Hd Gc n :=
 ⟨h.lk.same s,h.sub.trans (LSub.kt (j! s) _),λc o e h1 h2=>s _ _ (h.fr c o e h1 h2),λc o e=>by obtain⟨o',e'⟩:=h.dom c o e;exact⟨o',s _ _ e'⟩,h.ext⟩
theorem LQ.up(h:LQ P w ins Al H0 la Hb Gb Hc Gc n)(hm:n<=m):LQ P w ins Al H0 la Hb Gb Hc Gc m:=⟨h.lk.up hm,h.sub,h.fr,h.dom,h.ext⟩
theorem LQ.trans(a:LQ P w ins Al H0 la Hb Gb Hc Gc n)(b:LQ P w ins Al H0 la Hc Gc Hd Gd m):LQ P w ins Al H0 la Hb Gb Hd Gd m:=by
 refine⟨b.lk,a.sub.trans b.sub,λc o e h1 h2=>b.fr c o (a.fr c o e h1 h2) h1 λg hg=>?_,λc o e=>?_,λg hg=>?_⟩
 .rcases a.ext g hg with⟨g0,h3,h4⟩|h3
  .rw[<-h4];exact h2 g0 h3
  .intro z;rw[z,e]at h3;cases h3
 .obtain⟨o',e'⟩:=a.dom c o e;exact b.dom c o' e'
 .rcases b.ext g hg with⟨g0,h3,h4⟩|h3
  .rw[<-h4];exact a.ext g0 h3
  .refine .inr ?_;cases hh:Hb g.2.1 with
   |none=>rfl
   | some o =>
     obtain⟨o',e'⟩:=a.dom _ o hh;rw[h3]at e';cases e'
theorem LQ.kt(h:LQ P w ins Al H0 la Hb Gb Hc Gc n)(L:LkI P w ins Al H0 Hb la Gb m):KT Hb Hc:=λc ys e=>by
 obtain⟨φ,el⟩:=cq L.dm;refine h.fr c _ e (λz=>by rw[z,el]at e;cases e) λg hg z=>?_;have:=(L.ls g hg).2.1;rw[z,e]at this;cases this
theorem LQ.newG(a:LQ P w ins Al H0 la Hb Gb Hc Gc n){k:ay}{l:WS}{He:Hp}(hl:Hc l=none)(hn:aQ (lkv Gc) k=none)(hb:But la (upd Hc l (.lst [])) He)(hd:DM false P w He la (putK (lkv Gc) k (.ref l))):LQ P w ins Al H0 la Hb Gb He (Gc++[(k,l,[])]) (n+1):=by
 have s1:k! Hc (upd Hc l (.lst [])):=ae hl _;have L1:=a.lk.same s1
 obtain⟨h1,h2⟩:=L1.new hn hb hd (a.lk.sm.free hl) ac λg hg z=>by
  have:=(a.lk.ls g hg).2.1;rw[z,hl]at this;cases this
 refine a.trans ⟨h1,(LSub.kt (j! s1) _).trans h2,λc o e hc _=>hb c o hc (s1 _ _ e),λc o e=>?_,λg hg=>?_⟩
 .by_cases hc:c=la
  .obtain⟨φ,e'⟩:=cq hd;exact⟨_,by rw[hc];exact e'⟩
  .exact⟨o,hb c o hc (s1 _ _ e)⟩
 .rcases Xq.mp hg with hg|hg
  .exact .inl ⟨g,hg,rfl⟩
  .rw[W7.mp hg];exact .inr hl
theorem LQ.appG(a:LQ P w ins Al H0 la Hb Gb Hc Gc n){g:ay×WS×List WS}(hg:g∈Gc){en:WS}(he:LE Hc ins Al en):LQ P w ins Al H0 la Hb Gb (upd Hc g.2.1 (.lst (g.2.2.map i!++[.ref en]))) (Gc.map (fZ g.2.1 en)) (n+1)/\∀(s:Int)(pl:List Int)(pa ka:WS)(kid:Int),Hc en=some (.tup [.int s,.ref pa,.ref ka,.int kid])->Hc pa=some (.tup (pl.map q!))->iq (upd Hc g.2.1 (.lst (g.2.2.map i!++[.ref en]))) (Gc.map (fZ g.2.1 en)) g.1 s pl:=by
 obtain⟨h1,h2,h3,h4⟩:=a.lk.app hg he;refine⟨⟨h1,a.sub.trans h3,λc o e hc hf=>?_,λc o e=>?_,λx hx=>?_⟩,h4⟩
 .rw[aj]
  .exact a.fr c o e hc hf
  .intro z;rcases a.ext g hg with⟨g0,h5,h6⟩|h5
   .exact hf g0 h5 (h6.trans z.symm)
   .rw[<-z,e]at h5;cases h5
 .by_cases hc:c=g.2.1
  .exact⟨_,by rw[hc];exact ac⟩
  .rw[aj hc];exact a.dom c o e
 .obtain⟨y,hy,rfl⟩:=XD.mp hx;rw[(dY _ _ y).2];exact a.ext y hy
theorem vP{G:LG}{k:ay}{u:V}(h:aQ (lkv G) k=some u):∃g∈G,g.1=k/\u=.ref g.2.1:=by
 have:=ft h;unfold lkv at this;obtain⟨g,hg,e⟩:=XD.mp this;cases e;exact⟨g,hg,rfl,rfl⟩
end
theorem aaT:∀(n:Nat)(t:Th)(pre:List Int),t.size<=n->∀x∈t.pl pre,x.2.size<=t.size/\x.2.tall<=t.tall
 |0,t,_,hn=>by have:=t.size_pos;omega
 | n+1,.call a b,pre,hn=>λx hx=>by
   rw[E!]at hx;rw[W7.mp hx];exact⟨WY _,WY _⟩
 | n+1,.knot m ks,pre,hn=>λx hx=>by
   rw[E!]at hx;rcases W9.mp hx with rfl|hx
   .exact⟨WY _,WY _⟩
   .obtain⟨j,t,ht,hx⟩:=dg.mp hx;rw[p!]at hn;have hz:=bg (WU ht);have Mb:=bX (WU ht);obtain⟨h1,h2⟩:=aaT n t _ (by omega) x hx;rw[p!,r!];omega
theorem fG(h:n<=16000000):n<Xe:=by
 have:Xe=16777216:=sizeLine_eq;omega
theorem yD:∀(n:Nat)(t:Th)(pre:List Int),t.size<=n->∀x∈t.pl pre,x.1.length<=pre.length+t.tall
 |0,t,_,hn=>by have:=t.size_pos;omega
 | n+1,.call a b,pre,hn=>λx hx=>by
   rw[E!]at hx;rw[W7.mp hx];exact Zj _ _
 | n+1,.knot m ks,pre,hn=>λx hx=>by
   rw[E!]at hx;rcases W9.mp hx with rfl|hx
   .exact Zj _ _
   .obtain⟨j,t,ht,hx⟩:=dg.mp hx;rw[p!]at hn;have hz:=bg (WU ht);have Mb:=bX (WU ht);have h1:=yD n t _ (by omega) x hx;rw[Xg]at h1;rw[r!];have h2:[(0:Int)+(j:Int)].length=1:=rfl;omega
structure LkR(P:W6)(w:Xj)(ins:List (Xk×Int))(Al:List ay)(H:Hp)(la:WS)(G:LG):Prop where
 dm:DM false P w H la (lkv G)
 ls:∀g∈G,H g.2.1=some (.lst (g.2.2.map i!))/\∀a∈g.2.2,LE H ins Al a
 kn:(G.map (·.1)).Nodup
theorem LkI.r{H0:Hp}{G:LG}{N:Nat}(h:LkI P w ins Al H0 H la G N):LkR P w ins Al H la G:=⟨h.dm,λg hg=>⟨(h.ls g hg).2.1,(h.ls g hg).2.2.2⟩,h.kn⟩
theorem LkR.but{pt:WS}{G:LG}{φ:X7->Prop}(h:LkR P w ins Al H la G)(hb:But pt H H')(e:H pt=some (.ext φ))(hn:pt≠la):LkR P w ins Al H' la G:=by
 have kt:=hb.kt e;refine⟨vR h.dm kt λo eo=>hb _ _ hn.symm eo,λg hg=>?_,h.kn⟩;obtain⟨h1,h2⟩:=h.ls g hg;exact⟨hb _ _ (λz=>by rw[z,e]at h1;cases h1) h1,λa ha=>(h2 a ha).mono kt⟩
theorem LkR.at{G:LG}(h:LkR P w ins Al H la G){g:ay×WS×List WS}(hg:g∈G){s:Int}{pl:List Int}(hh:iq H G g.1 s pl):∃a∈g.2.2,∃(pa ka:WS)(kid:Int),H a=some (.tup [.int s,.ref pa,.ref ka,.int kid])/\H pa=some (.tup (pl.map q!)):=by
 obtain⟨g',Nl,e,r⟩:=hh
 have:g'=g:=by
  obtain⟨i,hi⟩:=Xp.mp Nl;obtain⟨j,hj⟩:=Xp.mp hg;have h1:(G.map (·.1))[i]?=some g.1:=by rw[W0,hi,<-e];rfl
  have h2:(G.map (·.1))[j]?=some g.1:=by rw[W0,hj];rfl
  have Iv:i=j:=(List.getElem?_inj (by have:=(glE h1);exact this) h.kn).mp (h1.trans h2.symm);subst Iv;rw[hi]at hj;exact Xm hj
 subst this;exact r
theorem xD{G:LG}{k:ay}(h:aQ (lkv G) k=none){s:Int}{pl:List Int}:¬iq H G k s pl:=λ⟨g,hg,e,_⟩=>by
 refine fx h ?_;unfold lkv;rw[Y1];exact XD.mpr ⟨g,hg,e⟩
theorem rb{a b:List Int}(h:a.map q!=b.map q!):a=b:=(List.map_inj_right (λ_ _ e=>V.int.inj e)).mp h
theorem LkR.back{G:LG}(R:LkR P w ins Al H la G)(kt:KT H H'){k:ay}{s:Int}{pl:List Int}(hh:iq H' G k s pl):iq H G k s pl:=by
 obtain⟨g,hg,e,a,ha,pa,ka,kid,h1,h2⟩:=hh;obtain⟨s',Cn,C1,EY,Er,kd',g1,g2,_⟩:=(R.ls g hg).2 a ha;have e1:=kt _ _ g1;rw[h1]at e1;cases e1;have e2:=kt _ _ g2;rw[h2]at e2;have:pl=C1:=rb (by injection e2 with e3;injection e3);subst this;exact⟨g,hg,e,a,ha,pa,ka,kid,g1,g2⟩
def Dk(f':List (ay×V))(s:Int)(pl:List Int):Bool:=(aQ f' (nk s pl)).isSome
theorem t7{s:Int}{pl:List Int}:Dk f' s pl=true↔nk s pl∈f'.map (·.1):=by
 unfold Dk;constructor
 .intro h;obtain⟨v,hv⟩:=Z2.mp h;exact XD.mpr ⟨_,ft hv,rfl⟩
 .intro h;cases hv:aQ f' (nk s pl)with
  |none=>exact g! h (fx hv)
  |some v=>rfl
def iQ(D:List Int->Bool)(As:List (List Int×Th)):List Th:=As.flatMap λx=>(x.2.cut D x.1).walk
theorem sf(D:List Int->Bool)(a b:List (List Int×Th)):iQ D (a++b)=iQ D a++iQ D b:=by unfold iQ;rw[List.flatMap_append]
theorem oR(D:List Int->Bool)(pre:List Int):∀(i:Int)(ks:List Th),iQ D (cV pre i ks)=walks (cp D pre i ks)
 |i,[]=>by rw[cV,cp,walks];rfl
 | i,k::ks=>by
   rw[cV,cp,walks,<-oR D pre (i+1) ks];rfl
theorem tX(D:List Int->Bool):∀(n:Nat)(t:Th)(pre:List Int),t.size<=n->(t.cut D pre).size<=t.size
 |0,t,_,hn=>by have:=t.size_pos;omega
 |n+1,.call a b,pre,hn=>by rw[Th.cut,dR,p!];exact WY _
 | n+1,.knot m ks,pre,hn=>by
   rw[Th.cut];split
   .rw[dR,p!];omega
   .rw[p!]at hn;rw[p!,p!]
    have:∀(us:List Th)(i:Int),aw us<=n->aw (cp D pre i us)<=aw us:=λus=>by
     induction us with
     |nil=>intro i _;rw[cp];exact WY _
     | cons u us ih =>
       intro i h;rw[aw]at h;rw[cp,aw,aw];have h1:=ih (i+1) (by omega);have h2:=tX D n u (pre++[i]) (by omega);omega
    have:=this ks 0 (by omega);omega
end BB
open BB.Same renaming but->I!
variable{G:BB.LG}
namespace L2
open PySem PySem.Spec PyProof.Rows
def yM(K:WQ)(a:WS):It:=⟨λi H=>∃xs x,SqL K H a xs/\xs[i]?=some x,λi H x H'=>∃p y,H p=none/\x=.ref p/\H'=upd H p (.tup [.int (i:Nat),y])/\∀xs,SqL K H a xs->xs[i]?=some y,λi H=>∃xs,SqL K H a xs/\xs.length=i⟩
theorem t8{k1}(a e it:WS):Turn P w K (.Tuple elts k1 pos) (yM K a) [e,it] e (λi h=>(∃old,IsEnum h e it ((i:Nat):Int) old)/\h.IsListIter it a i) where
 mem:=by simp
 obj:=λi h st b hb=>by
  obtain⟨⟨old,he⟩,o,e1,e2,e3⟩:=st;rcases W9.mp hb with rfl|hb
  .exact⟨_,he,λv z=>by cases z⟩
  .have:b=it:=by simpa using hb
   subst this;exact⟨o,e1,λv z=>by rw[e3]at z;cases z⟩
 keep:=λi h h' st k=>by
  obtain⟨⟨old,he⟩,o,e1,e2⟩:=st;exact⟨⟨old,k e (by simp) _ he⟩,o,k it (by simp) _ e1,e2⟩
 item:=by
  intro X hP hw hK hc i U s Z H E I hf st hg;subst hP hw hK;obtain⟨xs,x,hq,hx⟩:=hg;obtain⟨its,rv,p,hz⟩:=I.list hq;obtain⟨u,hu,ru⟩:=rv.get hx;obtain⟨⟨old,he⟩,hi⟩:=st
  have GQ:e≠it:=by
   rintro rfl;obtain⟨o,e1,e2,_⟩:=hi;rw[he]at e1;cases e1;exact g! (YS e2) (by decide)
  have GR:a≠it:=by
   rintro rfl;obtain⟨o,e1,e2,_⟩:=hi;obtain⟨o',Dh,Cq,_⟩:=p.isList;rw[Dh]at e1;cases e1;rw[Cq]at e2;exact g! (YS e2) (by decide)
  have Np:a≠e:=by
   rintro rfl;obtain⟨o',Dh,Cq,_⟩:=p.isList;rw[he]at Dh;cases Dh;exact g! (YS Cq) (by decide)
  have Am:i<its.toArray.size:=by
   have:=(glE hu);simpa using this
  have Nq:e<s.heap.objs.size:=Xb he;have Cr:it<s.heap.objs.size:=by obtain⟨o,e1,_⟩:=hi;exact Xb e1
  refine wpAny_pyNext_enum_itemD (Draws.list (A:=X.A.in1) (show X.A.in1.handled=none from I.ok.hd hc) it a GR its.toArray) he ⟨hi,p.isList⟩ Am GQ (by simp[GQ,Np.symm]) λy h1 tk hy ho Nr hT hsz hk=>?_
  have Nt:y=u:=by
   have:its[i]?=some y:=by simpa using hy
   rw[hu]at this;exact(Xm this).symm
  subst Nt;refine⟨_,rfl,wpAny_letOwnedTupleGo_enum ho λh2 Nu DQ=>?_⟩;replace DQ:YF e h1 h2:=DQ
  have Av:∀b∈[e,it],b<s.heap.objs.size:=λb hb=>by
   rcases W9.mp hb with rfl|hb
   .exact Nq
   .have:b=it:=by simpa using hb
    subst this;exact Cr
  have Jn:H s.heap.objs.size=none:=I.hok.fresh (WY _)
  have IA:Inv X U Z (upd H s.heap.objs.size (.tup [.int (i:Nat),x])) {s with heap:=s.heap.push {cls:=.type "tuple",data:=.seq #[.int (i:Nat) tk,y]},toks:=tk} :=
   I.laid (o:=.tup [.int (i:Nat),x]) (λb ob q=>WW _ q) (WY _) ⟨by show 2<=Xe;decide,[.int (i:Nat) tk,y],0,.cons ⟨tk,rfl⟩ (.cons ru .nil),W4 _ rfl⟩
  refine⟨.ref s.heap.objs.size,upd H s.heap.objs.size (.tup [.int (i:Nat),x]),?_,rfl,⟨_,x,Jn,rfl,rfl,λys Jk=>by rw[I.list_inj Jk hq];exact hx⟩,⟨⟨y,by simpa using Nu⟩,?_⟩,λb hb=>?_⟩
  .have IB:Inv X U Z (upd H s.heap.objs.size (.tup [.int (i:Nat),x])) {s with heap:=h2,toks:=tk+1}:=by
    refine Inv.turnedL (s:={s with heap:=s.heap.push {cls:=.type "tuple",data:=.seq #[.int (i:Nat) tk,y]},toks:=tk}) (h':=h2) (fp:=[e,it]) (t':=tk+1) IA (λb o hb q=>?_) λb hb=>?_
    .have DJ:b≠e:=λz=>hb (by simp[z]);have Nv:b≠it:=λz=>hb (by simp[z]);rw[DQ.2 b DJ];by_cases AF:b=s.heap.objs.size
     .subst AF;rw[hT];have q':(s.heap.push {cls:=.type "tuple",data:=.seq #[.int (i:Nat) tk,y]}).get? s.heap.objs.size=some o:=q;rw[W4 _ rfl]at q';exact q'
     .have Bi:b<(s.heap.push {cls:=.type "tuple",data:=.seq #[.int (i:Nat) tk,y]}).objs.size:=Xb q;rw[X3]at Bi;refine hk b o DJ Nv ?_;have q':(s.heap.push {cls:=.type "tuple",data:=.seq #[.int (i:Nat) tk,y]}).get? b=some o:=q;rw[Heap.get?_push_ne _ _ _ AF]at q';exact q'
    .obtain⟨f0,f1⟩:=hf b hb;exact⟨by rw[aj (Xy (Av b hb))];exact f0,f1⟩
   exact IB
  .obtain⟨o,e1,r⟩:=Nr.1;exact⟨o,(DQ.2 it (YQ GQ)).trans e1,r⟩
  .rw[aj (Xy (Av b hb))];exact(hf b hb).1
 done:=by
  intro X hP hw hK hc i U s Z H E I hf st hg;subst hP hw hK;obtain⟨xs,hq,hx⟩:=hg;obtain⟨its,rv,p,hz⟩:=I.list hq;obtain⟨⟨old,he⟩,hi⟩:=st
  have GR:a≠it:=by
   rintro rfl;obtain⟨o,e1,e2,_⟩:=hi;obtain⟨o',Dh,Cq,_⟩:=p.isList;rw[Dh]at e1;cases e1;rw[Cq]at e2;exact g! (YS e2) (by decide)
  have hn:its.toArray.size=i:=by
   have:=rv.length;rw[W2];omega
  refine wpAny_pyNext_enum_endD (Draws.list (A:=X.A.in1) (show X.A.in1.handled=none from I.ok.hd hc) it a GR its.toArray) he (by rw[hn];exact⟨hi,p.isList⟩) λh' eb=>⟨rfl,?_⟩;exact I.turnedL (fp:=[e,it]) (t':=s.toks) (λb o hb q=>eb b o (λz=>hb (by simp[z])) q) hf
 self:=λ_ _ _ _ _ st h=>by
  obtain⟨⟨old,he⟩,_⟩:=st;exact wpAny_pyIter_enum he h
section
variable{p2 AH:Z9}
def abO(K:WQ)(tl:TE):TI:=λZ H R=>tl Z H λx H1=>∃a,x=.ref a/\(∃xs,SqL K H1 a xs)/\R (yM K a) H1
theorem mS{k1}(g2:Gl X "enumerate")(m2:X.mg "enumerate"=none)(he:PE X e te)(h2:XE [e] X.env=[(false,Y3 e X.env)]:=by rfl):PI X (.Tuple elts k1 pos) (.Call (.Name "enumerate" p2) [e] [] AH) (abO X.K te):=by
 intro U s Z H R I h;refine Yl (de I g2 m2 boot_enumerate (X0 ?_ h2 rfl));rw[h2];show Xa _ _ (spliced ((false,Y3 e X.env)::[])) _ _ s;refine YL (thn (he U s Z H _ I h) λu s1⟨x,H1,I1,r1,a,ex,⟨xs,hq⟩,q⟩=>Zh ?_);subst ex;cases r1;obtain⟨its,rv,p,hz⟩:=I1.list hq;refine call_enumerate_list (show s1.heap.IsList a its.toArray from p.isList) λh' g1 g2 g3 g4=>?_;refine wpAny_pyIter_enum (s:={s1 with heap:=h'}) g1 ?_;refine⟨s1.heap.objs.size+1,[s1.heap.objs.size+1,s1.heap.objs.size],_,_,H1,rfl,I1.kept (t':=s1.toks) g4,t8 a _ _,⟨⟨_,g1⟩,g2⟩,λb hb=>?_,q⟩
 have AJ:s1.heap.objs.size<=b:=by
  rcases W9.mp hb with rfl|hb
  .omega
  .have:b=s1.heap.objs.size:=by simpa using hb
   exact Nat.le_of_eq this.symm
 exact I1.fpOk AJ (I1.hok.fresh AJ)
end
theorem pR(Pv:Nat->St->Hp->Prop)(h0:Pv 0 Z H)(hl:∀i Z H,i<=xs.length->Pv i Z H->SqL K H a xs)
 (hs:∀i x p Z H,xs[i]?=some x->H p=none->Pv i Z H->g (.ref p) Z (upd H p (.tup [.int (i:Nat),x])) λAz H2=>tb {D with nx:=Pv (i+1),ct:=Pv (i+1),bk:=D.nx} Az H2) (hd:∀Z H,Pv xs.length Z H->D.nx Z H) :
 ∃W:Nat->Nat->St->Hp->Prop,(∃m,W 0 m Z H)/\∀i m Z H,W i m Z H ->
   ((yM K a).stop i H/\D.nx Z H)\/((yM K a).go i H/\∃N:St->Hp->Prop,(∀Ab H',N Ab H'->∃m',m'<m/\W (i+1) m' Ab H')/\∀x H',(yM K a).yld i H x H'->g x Z H' λAz H2=>tb {D with nx:=N,ct:=N,bk:=D.nx} Az H2):=by
 refine⟨λi m Z H=>m=xs.length - i/\i<=xs.length/\Pv i Z H,⟨xs.length,by simp,Xi _,h0⟩,?_⟩;rintro i m Z H ⟨rfl,hi,p⟩;have q:=hl i Z H hi p;by_cases Am:i<xs.length
 .refine .inr ⟨⟨xs,xs[i],q,by simp[Am]⟩,Pv (i+1),λAb H' p'=>⟨xs.length - (i+1),by omega,rfl,Am,p'⟩,λx H' y=>?_⟩;obtain⟨pa,y,hp,rfl,rfl,hy⟩:=y;exact hs i y pa Z H (hy xs q) hp p
 .have e:i=xs.length:=by omega
  subst e;exact .inl ⟨⟨xs,q,rfl⟩,hd Z H p⟩
section
variable{o i:X8}{td ty:TE}
def abu(P:W6)(w:Xj)(H:Hp)(a:WS)(y v:V):Prop:=DGet H a y (some v)\/∃(fl:Bool)(b:WS)(k:ay)(f':List (ay×V)),y=.ref b/\DM fl P w H a f'/\MKAt fl H k b/\aQ f' k=some v
def abm(P:W6)(w:Xj)(td ty:TE):TE:=λZ H Q=>td Z H λx H1=>ty Z H1 λy H2=>∃a v,x=.ref a/\abu P w H2 a y v/\Q v H2
theorem yv(hu:X.A.units+2<YM)(ho:PE X o td)(hi:PE X i ty)(hs:aab i):PE X (.Subscript o i pos) (abm X.prog X.w td ty):=by
 intro U s Z H Q I h;refine qM PySem.F.slot_dict_getitem.lookup hs (thn (ho U s Z H _ I h) λu s1⟨x,H1,I1,rx,q1⟩=>thn (hi U s1 Z H1 _ I1 q1) λiv s2⟨y,H2,I2,ry,a,v,ex,g,q⟩=>?_);subst ex;obtain rfl:u=Xl a:=rx;rcases g with g|⟨fl,b,k,f',rfl,hd,hk,hv⟩
 .exact⟨lH I2 g,pC (Nat.lt_of_succ_lt hu) I2 g ry λw' s3 I3 CA=>⟨v,H2,I3,CA,q⟩⟩
 obtain rfl:iv=Xl b:=ry;obtain⟨_,_,xs,φ,ea,rel,dd⟩:=jl I2.hok hd;obtain⟨w',hw,CA⟩:=RelO.some_of (v:=v) (o:=(atKey xs k).map (·.2)) (by rw[<-hv];exact KTm.val rel k);obtain⟨p,hp,Bm⟩:=XJ.mp hw;refine⟨dd.typeIs,wpAny_getItem_heap (knd:=bZ fl X.prog X.w) (show X.A.units+1+1<YM from hu) (eW I2.hok hk) dd hp ?_⟩;rw[Bm];exact⟨v,H2,I2.tok _,CA,q⟩
end
open BB
open PySem.Calls
abbrev cL(z:List (Int×Nat×Z9)×Z9):X8:=.List (z.1.map cI) z.2
def yz(zs:List Int):TA:=λ_ H Q=>Q (zs.map q!) H
theorem vy{X:Cx}:∀(zs:List (Int×Nat×Z9)),PA X (zs.map cI) (yz (zs.map (·.1)))
 | []=>ab
 | z::zs=>by
   have h:PA X (cI z::zs.map cI) (aG (tC (.int z.1)) (yz (zs.map (·.1)))):=aa (X:=X) ai (vy zs) rfl;exact h
def wY:List (List Int)->TA
 | []=>cC
 |z::zs=>aG (yd (yz z)) (wY zs)
theorem xI{X:Cx}:∀(zs:List (List (Int×Nat×Z9)×Z9)),PA X (zs.map cL) (wY (zs.map λz=>z.1.map (·.1)))
 | []=>ab
 |z::zs=>aa (X:=X) (bx (vy z.1)) (xI zs) rfl
theorem abB(zs:List (List (Int×Nat×Z9)×Z9)):PE X (.List (zs.map cL) pos) (yd (wY (zs.map λz=>z.1.map (·.1)))):=bx (xI zs)
theorem oP{X:Cx}{i:Nat}{x:Xk}{p0 p1 p2 p3:Z9}{e:X8}{te:TE}(zs:List (List (Int×Nat×Z9)×Z9))(hN:X.N.Nodup)(hi:X.N[i]?=some x)(hx:Loc X.env.scope x)(hf:X.fn x=true\/X.env.scope.names.lookup x=some .local)(he:PE X e te)(hs:vM e) :
 PS X (.Assign [.Name x p0] (.Subscript (.List (zs.map cL) p1) e p2) p3) (xU (tOp (xo X.K) (yd (wY (zs.map λz=>z.1.map (·.1)))) te) (aq i)):=xy hN hi hx (aF bu (abB zs) he hs) rfl hf
theorem rH:∀(zs:List (List Int))(Z:St)(H:Hp)(Q:List V->Hp->Prop),(∀z∈zs,z.length<=1000)->(∀(as:List WS)(H':Hp),k! H H'->Xs (λz a=>H' a=some (.lst (z.map q!))) zs as->Q (as.map i!) H')->wY zs Z H Q
 | [],Z,H,Q,_,q=>q [] H (.refl _) .nil
 | z::zs,Z,H,Q,hz,q=>by
   have hl:=hz z (Xh ..);refine⟨di (by rw[WO];omega),λp hp=>?_⟩;refine gU hp λH1 s1 e1=>?_;refine rH zs Z H1 _ (λy hy=>hz y (Xf _ hy)) λas H' s2 h2=>?_;exact q (p::as) H' (s1.trans s2) (.cons (s2 _ _ e1) h2)
theorem lr{zs:List (List Int)}{Q:VK}(hz:∀z∈zs,z.length<=1000)(hl:zs.length<=1000)(q:∀(D:WS)(as:List WS)(H1:Hp),k! H H1->H1 D=some (.lst (as.map i!))->Xs (λz a=>H1 a=some (.lst (z.map q!))) zs as->te Z H1 λy H2=>xo K (.ref D) y H2 Q):tOp (xo K) (yd (wY zs)) te Z H Q:=by
 refine rH zs Z H _ hz λas H1 s1 h1=>⟨di (by rw[WO,<-W5 h1];omega),λp hp=>?_⟩;exact q p as _ (s1.trans (ae hp _)) ac (y! (λ_ _ e=>(ae hp _) _ _ e) h1)
end L2
namespace BB
open PySem L2
mutual
def Th.nh:Th->Nat
 |.knot n ks=>if(o! n ks).isHole=true then 1 else nhs ks
 |.call _ _=>0
def nhs:List Th->Nat
 | []=>0
 |t::ts=>t.nh+nhs ts
end
mutual
def Th.hg(g:Nat->Th):Th->Nat->Th
 |.knot n ks,i=>if(o! n ks).isHole=true then g i else .knot n (hgs g ks i)
 |.call s k,_=>.call s k
def hgs(g:Nat->Th):List Th->Nat->List Th
 | [],_=>[]
 |t::ts,i=>t.hg g i::hgs g ts (i+t.nh)
end
theorem vg(g:Nat->Th):∀(ts:List Th)(i:Nat),(hgs g ts i).length=ts.length
 | [],i=>by rw[hgs]
 |t::ts,i=>by rw[hgs,W3,W3,vg g ts]
theorem l5{n:Xk}{ks us:List Th}(hl:ks.length=us.length)(hh:(o! n ks).isHole=false)(h:aP ks us=true):(o! n ks).lies (.knot n us)=true:=by
 rw[w!,fL hh hl,show(o! n us).kids=us from rfl,h,Bool.or_comm];rfl
theorem fI{f t:Th}(h:f.isHole=true):f.lies t=true:=by rw[qw h];exact i7 _
mutual
theorem gd(g:Nat->Th):∀(f:Th)(i:Nat),f.noCall->f.lies (f.hg g i)=true
 | .knot n ks,i,h=>by
   cases hh:(o! n ks).isHole with
   |true=>exact fI hh
   | false =>
     rw[Th.hg,a! (by rw[hh];exact W8)];exact l5 (vg ..).symm hh (r6 g ks i h)
 |.call s k,i,h=>by rw[u!]at h;exact h.elim
theorem r6(g:Nat->Th):∀(fs:List Th)(i:Nat),aN fs->aP fs (hgs g fs i)=true
 | [],i,h=>by rw[aP]
 | f::fs,i,h=>by
   rw[aN]at h;rw[hgs,aP,gd g f i h.1,r6 g fs _ h.2];rfl
end
mutual
theorem mM:∀(pre:List Int)(f t:Th),f.lies t=true->(f.hw pre t).length=f.nh
 | pre,.knot n ks,t,h=>by
   rcases bL h with hh|⟨n',Fj,us,e1,rfl,e3,hh,_,hl⟩
   .rw[eS hh,Th.nh,b! hh];rfl
   .cases e1;rw[Th.hw,Th.nh,a! (by rw[hh];exact W8),a! (by rw[hh];exact W8)];exact yi pre 0 ks us e3 hl
 |pre,.call s k,t,h=>by rw[w!]at h;cases h
theorem yi:∀(pre:List Int)(i:Int)(ks us:List Th),ks.length=us.length->aP ks us=true->(hws pre i ks us).length=nhs ks
 |pre,i,[],us,_,_=>by rw[hws,nhs];rfl
 |pre,i,k::ks,[],e,_=>by simp at e
 | pre,i,k::ks,u::us,e,h=>by
   rw[bd,XY]at h;rw[hws,Xg,nhs,mM _ k u h.1,yi pre (i+1) ks us (by simpa using e) h.2]
end
mutual
theorem za(g:Nat->Th):∀(pre:List Int)(f:Th)(i:Nat),f.noCall->(f.hw pre (f.hg g i)).map (·.2)=(List.range' i f.nh).map g
 | pre,.knot n ks,i,h=>by
   cases hh:(o! n ks).isHole with
   | true =>
     rw[eS hh,Th.hg,Th.nh,b! hh,b! hh];rfl
   | false =>
     rw[Th.hg,Th.nh,a! (by rw[hh];exact W8),a! (by rw[hh];exact W8),Th.hw,a! (by rw[hh];exact W8)];exact yf g pre 0 ks i h
 |pre,.call s k,i,h=>by rw[u!]at h;exact h.elim
theorem yf(g:Nat->Th):∀(pre:List Int)(c:Int)(fs:List Th)(i:Nat),aN fs->(hws pre c fs (hgs g fs i)).map (·.2)=(List.range' i (nhs fs)).map g
 |pre,c,[],i,h=>by rw[hws,nhs];rfl
 | pre,c,f::fs,i,h=>by
   rw[aN]at h;rw[hgs,hws,nhs,Xc,za g _ f i h.1,yf g pre (c+1) fs (i+f.nh) h.2,<-Xc,List.range'_append_1]
end
mutual
theorem wf(g:Nat->Th)(H:Int->Int->Th):∀(pre:List Int)(f o:Th)(i:Nat),f.noCall->f.lies o=true->(∀(j:Nat)x,(f.hw pre o)[j]?=some x->(g (i+j)).fill H=x.2)->(f.hg g i).fill H=o
 | pre,.knot n ks,o,i,hc,h,hx=>by
   rcases bL h with hh|⟨n',Fj,us,e1,rfl,e3,hh,_,hl⟩
   .rw[Th.hg,b! hh];exact hx 0 (pre,o) (by rw[eS hh];rfl)
   .cases e1;rw[Th.hg,a! (by rw[hh];exact W8),v!,tS g H pre 0 ks us i hc e3 hl λj x hj=>hx j x (by rw[Th.hw,a! (by rw[hh];exact W8)];exact hj)]
 |pre,.call s k,o,i,hc,_,_=>by rw[u!]at hc;exact hc.elim
theorem tS(g:Nat->Th)(H:Int->Int->Th):∀(pre:List Int)(c:Int)(ks us:List Th)(i:Nat),aN ks->ks.length=us.length->aP ks us=true->(∀(j:Nat)x,(hws pre c ks us)[j]?=some x->(g (i+j)).fill H=x.2)->fills H (hgs g ks i)=us
 | pre,c,[],us,i,_,e,_,_=>by
   rw[hgs,fills];exact(X6.mp e.symm).symm
 |pre,c,k::ks,[],i,_,e,_,_=>by simp at e
 | pre,c,k::ks,u::us,i,hc,e,h,hx=>by
   rw[bd,XY]at h;rw[aN]at hc;have hn:=mM (pre++[c]) k u h.1;rw[hgs,fills,wf g H (pre++[c]) k u i hc.1 h.1 λj x hj=>hx j x ?_,tS g H pre (c+1) ks us (i+k.nh) hc.2 (by simpa using e) h.2 λj x hj=>?_]
   .rw[Z3];refine hx (k.nh+j) x ?_;rw[hws,Zc (by omega),hn,Nat.add_sub_cancel_left];exact hj
   .rw[hws,Yw (glE hj)];exact hj
end
mutual
theorem vI(H:Int->Int->Th):∀(pre:List Int)(f t:Th),f.lies t=true->f.hw pre (t.fill H)=(f.hw pre t).map λx=>(x.1,x.2.fill H)
 | pre,.knot n ks,t,h=>by
   rcases bL h with hh|⟨n',Fj,us,e1,rfl,e3,hh,_,hl⟩
   .rw[eS hh,eS hh];rfl
   .cases e1;rw[v!,Th.hw,Th.hw,a! (by rw[hh];exact W8),a! (by rw[hh];exact W8)];exact tQ H pre 0 ks us e3 hl
 |pre,.call s k,t,h=>by rw[w!]at h;cases h
theorem tQ(H:Int->Int->Th):∀(pre:List Int)(i:Int)(ks us:List Th),ks.length=us.length->aP ks us=true->hws pre i ks (fills H us)=(hws pre i ks us).map λx=>(x.1,x.2.fill H)
 |pre,i,[],us,_,_=>by rw[hws,hws];rfl
 |pre,i,k::ks,[],e,_=>by simp at e
 | pre,i,k::ks,u::us,e,h=>by
   rw[bd,XY]at h;rw[fills,hws,hws,Xc,vI H _ k u h.1,tQ H pre (i+1) ks us (by simpa using e) h.2]
end
mutual
theorem pJ(H:Int->Int->Th):∀(f t:Th),f.lies t=true->f.lies (t.fill H)=true
 | .knot n ks,t,h=>by
   rcases bL h with hh|⟨n',Fj,us,e1,rfl,e3,hh,_,hl⟩
   .exact fI hh
   .cases e1;rw[v!];exact l5 (by rw[db,WO];exact e3) hh (m7 H ks us hl)
 |.call s k,t,h=>by rw[w!]at h;cases h
theorem m7(H:Int->Int->Th):∀(ks us:List Th),aP ks us=true->aP ks (fills H us)=true
 | [],us,_=>by rw[aP]
 |k::ks,[],_=>by rw[fills,aP]
 | k::ks,u::us,h=>by
   rw[bd,XY]at h;rw[fills,bd,pJ H k u h.1,m7 H ks us h.2];rfl
end
mutual
theorem mY:∀(f a b:Th),f.lies a=true->a.lies b=true->f.lies b=true
 | .knot n ks,a,b,h,g=>by
   rcases bL h with hh|⟨n',Fj,us,e1,rfl,e3,hh,_,hl⟩
   .exact fI hh
   .cases e1;rcases bL g with gh|⟨n',U6,vs,e1,rfl,e4,gh,_,gl⟩
    .rw[N!,decide_eq_true_iff]at gh;rw[N!,decide_eq_false_iff_not]at hh;exact g! ⟨gh.1,X6.mp (by rw[e3,gh.2];rfl)⟩ hh
    .cases e1;exact l5 (e3.trans e4) hh (lv ks us vs e3 e4 hl gl)
 |.call s k,a,b,h,g=>by rw[w!]at h;cases h
theorem lv:∀(fs as bs:List Th),fs.length=as.length->as.length=bs.length->aP fs as=true->aP as bs=true->aP fs bs=true
 | [],as,bs,_,_,_,_=>by rw[aP]
 |f::fs,[],bs,e,_,_,_=>by simp at e
 |f::fs,a::as,[],_,e,_,_=>by simp at e
 | f::fs,a::as,b::bs,e1,e2,h,g=>by
   rw[bd,XY]at h g;rw[bd,mY f a b h.1 g.1,lv fs as bs (by simpa using e1) (by simpa using e2) h.2 g.2];rfl
end
mutual
theorem oX{A B:Int->Int->Th}(JS:∀s k,0<=s->s<S->0<=k->k<C->(A s k).lies (B s k)=true):∀(p f:Th),p.FitS Ez S C->f.lies (p.fill A)=true->f.lies (p.fill B)=true
 | .call s k,f,hp,h=>by
   rw[A!]at hp;rw[v!]at h |-;exact mY _ _ _ h (JS s k hp.1 hp.2.1 hp.2.2.1 hp.2.2.2)
 | .knot m ps,f,hp,h=>by
   rw[A!]at hp;rw[v!]at h |-;rcases bL h with hh|⟨n',ks,us,rfl,e2,e3,hh,_,hl⟩
   .exact fI hh
   .cases e2;exact l5 (by rw[e3,db,db,WO,WO]) hh (n6 JS ps ks hp.2 hl)
theorem n6{A B:Int->Int->Th}(JS:∀s k,0<=s->s<S->0<=k->k<C->(A s k).lies (B s k)=true):∀(ps fs:List Th),FitSs Ez S C ps->aP fs (fills A ps)=true->aP fs (fills B ps)=true
 | [],fs,hp,h=>by rw[fills]at h |-;exact h
 |p::ps,[],hp,h=>by rw[aP]
 | p::ps,f::fs,hp,h=>by
   rw[FitSs]at hp;rw[fills,bd,XY]at h;rw[fills,bd,oX JS p f hp.1 h.1,n6 JS ps fs hp.2 h.2];rfl
end
mutual
theorem xF:∀(pre:List Int)(f t:Th),∀x∈f.hw pre t,∃r,x.1=pre++r/\t.sub r=some x.2
 | pre,.knot n ks,t,x,hx=>by
   rw[Th.hw]at hx;by_cases hh:(o! n ks).isHole=true
   .rw[b! hh]at hx;rw[W7.mp hx];exact⟨[],(XA _).symm,fW t⟩
   .rw[a! hh]at hx;obtain⟨j,u,r,h1,h2,h3⟩:=ve pre 0 ks t.kids x hx;rw[YA]at h2;exact⟨_,h2,by rw[rZ (Int.natCast_nonneg j) (by rw[XM];exact h1)];exact h3⟩
 |pre,.call s k,t,x,hx=>by rw[Th.hw]at hx;cases hx
theorem ve:∀(pre:List Int)(i:Int)(ks us:List Th),∀x∈hws pre i ks us,∃(j:Nat)(u:Th)(r:List Int),us[j]?=some u/\x.1=pre++((i+(j:Int))::r)/\u.sub r=some x.2
 |pre,i,[],us,x,hx=>by rw[hws]at hx;cases hx
 |pre,i,k::ks,[],x,hx=>by rw[hws]at hx;cases hx
 | pre,i,k::ks,u::us,x,hx=>by
   rw[hws]at hx;rcases Xq.mp hx with hx|hx
   .obtain⟨r,h1,h2⟩:=xF (pre++[i]) k u x hx;exact⟨0,u,r,rfl,by rw[h1,XS];simp,h2⟩
   .obtain⟨j,v,r,h1,h2,h3⟩:=ve pre (i+1) ks us x hx;exact⟨j+1,v,r,by simpa using h1,by rw[h2,show i+((j+1:Nat):Int)=i+1+(j:Int)by omega],h3⟩
end
theorem wc:∀{ts:List Th}{t:Th},t∈ts->t.kn<=kns ts/\cnT t<=cF ts
 | u::ts,t,h=>by
   rw[kns,cF];rcases W9.mp h with rfl|h
   .omega
   .have:=wc h;omega
theorem pU:∀{r:List Int}{t u:Th},t.sub r=some u->Small t->Small u
 | [],t,u,h,hs=>by
   rw[fW]at h;cases h;exact hs
 | i::r,t,u,h,hs=>by
   obtain⟨h0,w,hw,h⟩:=qm h;have hm:=WU hw;have h1:=wc hm;have h2:=aaZ t;have h3:=aaF t;have h4:=t.tall_eq;have h5:=bX hm;obtain⟨a,b,c⟩:=hs;exact pU h ⟨by omega,by omega,by omega⟩
def hgF(F:Nat->Th)(l k:Int):Th:=(F l.toNat).hg (λj=>.call (enc l (j:Nat)) k) 0
mutual
theorem wd{g:Nat->Th}(hg:∀j,(g j).size<=1/\(g j).tall<=1):∀(f:Th)(i:Nat),(f.hg g i).size<=f.size/\(f.hg g i).tall<=f.tall
 | .knot n ks,i=>by
   rw[Th.hg];by_cases hh:(o! n ks).isHole=true
   .rw[b! hh];have:=hg i;have:=(o! n ks).size_pos;rw[r!];omega
   .rw[a! hh,p!,p!,r!,r!];have:=rL hg ks i;omega
 |.call s k,i=>⟨WY _,WY _⟩
theorem rL{g:Nat->Th}(hg:∀j,(g j).size<=1/\(g j).tall<=1):∀(fs:List Th)(i:Nat),aw (hgs g fs i)<=aw fs/\aC (hgs g fs i)<=aC fs
 | [],i=>⟨WY _,WY _⟩
 | f::fs,i=>by
   rw[hgs,aw,aw,aC,aC];have h1:=wd hg f i;have h2:=rL hg fs (i+f.nh);omega
end
theorem nH(F:Nat->Th)(l k:Int):(hgF F l k).size<=(F l.toNat).size/\(hgF F l k).tall<=(F l.toNat).tall:=wd (λj=>by rw[p!,r!];decide) _ _
mutual
theorem qt(f:Int->Int->Th):∀t:Th,t.size<=(t.fill f).size
 | .call s k=>by
   have:=(f s k).size_pos;rw[v!,p!];omega
 | .knot n ks=>by
   have:=rQ f ks;rw[v!,p!,p!];omega
theorem rQ(f:Int->Int->Th):∀ts:List Th,aw ts<=aw (fills f ts)
 | []=>by rw[fills];exact WY _
 | t::ts=>by
   have h1:=qt f t;have h2:=rQ f ts;rw[fills,aw,aw];omega
end
def eaP(F:Nat->Th)(p:Th):Th:=p.fill (hgF F)
def eaU(F:Nat->Th)(x:Int)(p:Th):Th:=(((F (x / 1000).toNat).hw [] (eaP F p))[(x%1000).toNat]?.map (·.2)).getD hole
def eaR(F:Nat->Th)(rows:List (List Th))(x:Int):List Th:=(rowOf rows (x / 1000)).map (eaU F x)
structure EaOk(ins outs:List (Xk×Int))(F:Nat->Th)(head:Th)(rows:List (List Th)):Prop where
 gi:cS ins
 fit:FitB ins outs (rows.length:Nat) rows
 hd:head.FitS outs (rows.length:Nat) 1
 fr:∀s,s<rows.length->(F s).noCall/\(F s).size<=200/\(F s).tall<=100
 clo:∀(s:Nat)(row:List Th)(p:Th),rows[s]?=some row->p∈row->(F s).lies (p.fill λl _=>F l.toNat)=true
 smH:Small (eaP F head)
 smR:∀row∈rows,∀p∈row,Small (eaP F p)
 many:((XG rows.length).map λs=>(F s).nh).sum<=20
def i6(F:Nat->Th)(N:Nat)(x:Int):Prop:=0<=x / 1000/\(x / 1000).toNat<N/\(x%1000).toNat<(F (x / 1000).toNat).nh
section
variable{F:Nat->Th}
theorem xl:∀{l:List Nat}{s:Nat}(f:Nat->Nat),s∈l->f s<=(l.map f).sum
 | x::l,s,f,h=>by
   rw[XB,List.sum_cons];rcases W9.mp h with rfl|h
   .omega
   .have:=xl f h;omega
theorem EaOk.nh(J:EaOk ins outs F head rows){s:Nat}(hs:s<rows.length):(F s).nh<=20:=Xv (xl (λs=>(F s).nh) (YY.mpr hs)) J.many
theorem p9{l:Int}(hj:j<1000):enc l (j:Nat) / 1000=l/\(enc l (j:Nat)%1000).toNat=j:=by
 unfold enc;omega
mutual
theorem aa0{g:Nat->Th}{q:Int->Prop}:∀(f:Th)(i:Nat),f.noCall->(∀j,i<=j->j<i+f.nh->∀x∈stT (g j),q x)->∀x∈stT (f.hg g i),q x
 | .knot n ks,i,h,hq,x,hx=>by
   rw[Th.hg]at hx;rw[Th.nh]at hq;by_cases hh:(o! n ks).isHole=true
   .rw[b! hh]at hx hq;exact hq i (WY _) (by omega) x hx
   .rw[a! hh]at hx hq;rw[gW]at hx;exact yx ks i h hq x hx
 |.call s k,i,h,_,x,hx=>by rw[u!]at h;exact h.elim
theorem yx{g:Nat->Th}{q:Int->Prop}:∀(fs:List Th)(i:Nat),aN fs->(∀j,i<=j->j<i+nhs fs->∀x∈stT (g j),q x)->∀x∈ck (hgs g fs i),q x
 | [],i,h,_,x,hx=>by rw[hgs]at hx;cases hx
 | f::fs,i,h,hq,x,hx=>by
   rw[aN]at h;rw[nhs]at hq;rw[hgs]at hx;have Ba:x∈stT (f.hg g i)++ck (hgs g fs (i+f.nh)):=hx;rcases Xq.mp Ba with hx|hx
   .exact aa0 f i h.1 (λj h1 h2=>hq j h1 (by omega)) x hx
   .exact yx fs _ h.2 (λj h1 h2=>hq j (by omega) (by omega)) x hx
end
theorem EaOk.st(J:EaOk ins outs F head rows)(hp:p.FitS outs (rows.length:Nat) C):∀x∈stT (eaP F p),i6 F rows.length x:=by
 refine v9 (hgF F) (λs c h0 h1 _ _ x hx=>?_) p hp;have hs:s.toNat<rows.length:=by omega
 have hn:=J.nh hs;refine aa0 (F s.toNat) 0 (J.fr _ hs).1 (λj _ hj y hy=>?_) x hx;rw[nN,W7]at hy;obtain⟨e1,e2⟩:=p9 (l:=s) (j:=j) (by omega);rw[hy];exact⟨by rw[e1];exact h0,by rw[e1];exact hs,by rw[e1,e2];omega⟩
theorem EaOk.row(J:EaOk ins outs F head rows){x:Int}(hx:i6 F rows.length x):∃row,rows[(x / 1000).toNat]?=some row/\rowOf rows (x / 1000)=row/\row.length=ins.length/\∀p∈row,∃C,p.FitS outs (rows.length:Nat) C/\C<=3:=by
 obtain⟨row,h1,h2,h3,_⟩:=oU J.fit hx.1 (by have:=hx.2.1;omega);refine⟨row,h1,h2,h3,λp hp=>?_⟩;obtain⟨j,hj⟩:=Xp.mp hp;obtain⟨k,hk⟩:∃k,ins[j]?=some k:=⟨_,WR (by have:=(glE hj);omega)⟩;exact⟨k.2,(J.fit.row row (WU h1)).2 j p k hj hk,(J.gi.num k (WU hk)).2⟩
theorem EaOk.lies(J:EaOk ins outs F head rows){s:Nat}{row:List Th}(hr:rows[s]?=some row)(hp:p∈row)(hf:p.FitS outs (rows.length:Nat) C):(F s).lies (eaP F p)=true:=by
 refine oX (λl k h0 h1 _ _=>?_) p (F s) hf (J.clo s row p hr hp);exact gd _ _ _ (J.fr _ (by omega)).1
theorem EaOk.at(J:EaOk ins outs F head rows){x:Int}(hx:i6 F rows.length x){row:List Th}(hr:rows[(x / 1000).toNat]?=some row)(hp:p∈row):∃pl,(F (x / 1000).toNat).hw [] (eaP F p)≠[]/\((F (x / 1000).toNat).hw [] (eaP F p))[(x%1000).toNat]?=some (pl,eaU F x p)/\(eaP F p).sub pl=some (eaU F x p)/\Small (eaU F x p):=by
 obtain⟨BO,BN,_,_,hf⟩:=J.row hx;rw[hr]at BN;cases BN;obtain⟨C,hC,_⟩:=hf p hp;have hl:=J.lies hr hp hC;have hn:=mM [] _ _ hl;have Am:(x%1000).toNat<((F (x / 1000).toNat).hw [] (eaP F p)).length:=by rw[hn];exact hx.2.2
 obtain⟨y,hy⟩:∃y,((F (x / 1000).toNat).hw [] (eaP F p))[(x%1000).toNat]?=some y:=⟨_,WR Am⟩
 have e:eaU F x p=y.2:=by
  unfold eaU;rw[hy];rfl
 obtain⟨r,h1,h2⟩:=xF [] _ _ y (WU hy);rw[Zp]at h1;rw[<-h1]at h2;refine⟨y.1,List.ne_nil_of_length_pos (by omega),by rw[hy,e],by rw[e];exact h2,?_⟩;rw[e];exact pU h2 (J.smR row (WU hr) p hp)
theorem xT:∀{r:List Int}{t u:Th},t.sub r=some u->∀x∈stT u,x∈stT t
 | [],t,u,h,x,hx=>by
   rw[fW]at h;cases h;exact hx
 | i::r,t,u,h,x,hx=>by
   obtain⟨h0,w,hw,h⟩:=qm h;have:=xT h x hx;cases t with
   |call s k=>cases hw
   |knot n ks=>rw[gW];exact rN (WU hw) this
theorem EaOk.stR(J:EaOk ins outs F head rows){x:Int}(hx:i6 F rows.length x):∀y∈ck (eaR F rows x),i6 F rows.length y:=λy hy=>by
 obtain⟨t,ht,hy⟩:=List.mem_flatMap.mp hy;obtain⟨p,hp,rfl⟩:=XD.mp ht;obtain⟨row,hr,e,_,hf⟩:=J.row hx;rw[e]at hp;obtain⟨pl,_,_,h3,_⟩:=J.at hx hr hp;obtain⟨C,hC,_⟩:=hf p hp;exact J.st hC y (xT h3 y hy)
theorem EaOk.met(J:EaOk ins outs F head rows):∀x∈cu (eaR F rows) (eaP F head),i6 F rows.length x :=
 xq _ (i6 F rows.length) (λs hs x hx=>J.stR hs x hx) _ _ _ λx hx=>(eE.mp hx).elim (λz=>by cases z) (J.st J.hd x)
def eaA(F:Nat->Th)(N:Nat):List Int:=(XG N).flatMap λs=>(XG (F s).nh).map λj=>enc (s:Nat) (j:Nat)
theorem yQ[DecidableEq α]:∀{l m:List α},l.Nodup->(∀x∈l,x∈m)->l.length<=m.length
 | [],m,_,_=>Xi _
 | a::l,m,h,hs=>by
   have ha:=hs a (Xh ..);have h1:=yQ (l:=l) (m:=m.erase a) (ZO.mp h).2 λx hx=>(List.mem_erase_of_ne (λz=>(ZO.mp h).1 (by rw[<-z];exact hx))).mpr (hs x (Xf _ hx));rw[List.length_erase_of_mem ha]at h1;have:=List.length_pos_of_mem ha;rw[W3];omega
theorem EaOk.len(J:EaOk ins outs F head rows):(cu (eaR F rows) (eaP F head)).length<=20:=by
 have h:=yQ (m:=eaA F rows.length) (zk _ _) λx hx=>by
  obtain⟨h0,h1,h2⟩:=J.met x hx;refine List.mem_flatMap.mpr ⟨(x / 1000).toNat,YY.mpr h1,XD.mpr ⟨(x%1000).toNat,YY.mpr h2,?_⟩⟩;unfold enc;omega
 refine Xv h (Xv (Nat.le_of_eq ?_) J.many);unfold eaA;rw[List.length_flatMap];congr 1;exact List.map_congr_left λs _=>by rw[WO,Xo]
theorem EaOk.small(J:EaOk ins outs F head rows){x:Int}(hx:i6 F rows.length x):(eaR F rows x).length<=8/\∀t∈eaR F rows x,Small t:=by
 obtain⟨row,hr,e,hl,_⟩:=J.row hx;unfold eaR;rw[e];refine⟨by rw[WO,hl];exact J.gi.le,λt ht=>?_⟩;obtain⟨p,hp,rfl⟩:=XD.mp ht;obtain⟨_,_,_,_,h⟩:=J.at hx hr hp;exact h
end
end BB
namespace L2
open PySem
theorem acS{y z u:Xk}{e:WS}(h1:X.env.cells.lookup y=some c)(h2:X.fn y=true)(h3:X.env.kindOf y=some .cell)(g1:X.env.cells.lookup z=some d)(g2:X.fn z=true)(g3:X.env.kindOf z=some .cell)(k1:X.env.cells.lookup u=some e)(k2:X.fn u=true)(k3:X.env.kindOf u=some .cell):jc X [(y,c),(z,d),(u,e)]:=by
 have h:=acL h1 h2 h3 g1 g2 g3;have k:=ac8 k1 k2 k3;have hm:∀{p:Xk×WS},p∈[(y,c),(z,d),(u,e)]->p∈[(y,c),(z,d)]\/p∈[(u,e)]:=λhp=>Xq.mp (by exact hp);exact⟨λa b hp=>(hm hp).elim (h.1 a b) (k.1 a b),λa b hp=>(hm hp).elim (h.2 a b) (k.2 a b),λa b hp=>(hm hp).elim (h.3 a b) (k.3 a b)⟩
theorem abo(nd:(cl.map (·.2)).Nodup){y:Xk}(h1:cl.lookup x=some c)(h2:cl.lookup y=some c):x=y:=by
 obtain⟨i,hi⟩:=Xp.mp (Yk h1);obtain⟨j,hj⟩:=Xp.mp (Yk h2);have e:(cl.map (·.2))[i]?=(cl.map (·.2))[j]?:=by rw[W0,W0,hi,hj];rfl
 have:=(List.getElem?_inj (by rw[WO];exact(glE hi)) nd).mp e;subst this;rw[hi]at hj;cases hj;rfl
theorem qZ{S:List WS}(hx:Exts S H)(e:H b=some o)(hn:∀φ,o≠.ext φ):fgt S H b=some o:=by
 rw[bO λz=>?_]
 .exact e
 .obtain⟨φ,h⟩:=hx b z;rw[h]at e;cases e;exact hn φ rfl
end L2
namespace BB
open PySem L2
mutual
def Th.lf:Th->Nat
 |.knot _ ks=>max 1 (lfs ks)
 |.call _ _=>1
def lfs:List Th->Nat
 | []=>0
 |t::ts=>t.lf+lfs ts
end
def szB(W:Nat):Nat->Nat
 |0=>1
 |n+1=>1+W * szB W n
theorem u5(W n:Nat):1<=szB W n:=by cases n <;> unfold szB <;> omega
structure PB(outs:List (Xk×Int))(S k:Int)(W d:Nat)(t:Th):Prop where
 fit:t.FitS outs S k
 tall:t.tall<=d+1
 lf:t.lf<=W ^ d
 sz:t.size<=szB W d
theorem v6:∀{ts:List Th},(∀t∈ts,t.lf<=B)->lfs ts<=ts.length * B
 | [],_=>Xi _
 | t::ts,h=>by
   have h1:=h t (Xh ..);have h2:=v6 (ts:=ts) λu hu=>h u (Xf _ hu);rw[lfs,W3,Nat.succ_mul];omega
theorem pD:∀{ts:List Th},(∀t∈ts,t.size<=B)->aw ts<=ts.length * B
 | [],_=>Xi _
 | t::ts,h=>by
   have h1:=h t (Xh ..);have h2:=pD (ts:=ts) λu hu=>h u (Xf _ hu);rw[aw,W3,Nat.succ_mul];omega
theorem PB.call{k s c:Int}{d:Nat}(hW:1<=W)(h:(B! s c).FitS outs S k):PB outs S k W d (.call s c) :=
 ⟨h,by rw[r!];omega,by rw[Th.lf];exact Nat.pow_pos hW,by rw[p!];exact u5 _ _⟩
theorem PB.over{k:Int}{d:Nat}(hW:1<=W){n:Xk}(hm:(n,(ts.length:Int))∈outs)(hl:ts.length<=W)(h:∀t∈ts,PB outs S k W d t):PB outs S k W (d+1) (.knot n ts):=by
 have hp:1<=W ^ d:=Nat.pow_pos hW;have h1:=v6 λt ht=>(h t ht).lf;have h2:=pD λt ht=>(h t ht).sz;have h3:ts.length * W ^ d<=W * W ^ d:=Y4 _ hl;have h4:ts.length * szB W d<=W * szB W d:=Y4 _ hl;have h5:1 * 1<=W * W ^ d:=Nat.mul_le_mul hW hp;have h6:=kI λt ht=>(h t ht).tall;refine⟨by rw[A!];exact⟨hm,FitSs.of λt ht=>(h t ht).fit⟩,by rw[r!];omega,?_,?_⟩
 .rw[Th.lf,Nat.pow_succ,Nat.mul_comm];omega
 .rw[p!,szB];omega
theorem PB.leaf{k:Int}(d:Nat)(hW:1<=W){n:Xk}(hm:(n,(0:Int))∈outs):PB outs S k W d (.knot n []) :=
 ⟨by rw[A!];exact⟨hm,by rw[FitSs];trivial⟩,by rw[r!,aC];omega,by rw[Th.lf,lfs];exact Nat.pow_pos hW,by rw[p!,aw];exact u5 _ _⟩
theorem abF(hW:1<=W)(n:Nat):szB W n<=szB W (n+1):=by
 rw[show szB W (n+1)=1+W * szB W n from rfl];have:1 * szB W n<=W * szB W n:=Y4 _ hW;omega
mutual
theorem qA{ks:List (Xk×Int)}{C':Int}(hS:S<=S')(hC:C<=C'):∀t:Th,t.FitS ks S C->t.FitS ks S' C'
 |.call s k,h=>by rw[A!]at h |-;omega
 |.knot n ts,h=>by rw[A!]at h |-;exact⟨h.1,sX hS hC ts h.2⟩
theorem sX{ks:List (Xk×Int)}{C':Int}(hS:S<=S')(hC:C<=C'):∀ts:List Th,FitSs ks S C ts->FitSs ks S' C' ts
 | [],_=>by rw[FitSs];trivial
 |t::ts,h=>by rw[FitSs]at h |-;exact⟨qA hS hC t h.1,sX hS hC ts h.2⟩
end
theorem PB.up{k k':Int}{d:Nat}{t:Th}(hW:1<=W)(hS:S<=S')(hk:k<=k')(h:PB outs S k W d t):PB outs S' k' W (d+1) t :=
 ⟨qA hS hk t h.fit,Nat.le_succ_of_le h.tall,Xv h.lf (Nat.pow_le_pow_right hW (Nat.le_succ _)),Xv h.sz (abF hW _)⟩
theorem PB.wide{k k':Int}{d:Nat}{t:Th}(hS:S<=S')(hk:k<=k')(h:PB outs S k W d t):PB outs S' k' W d t :=
 ⟨qA hS hk t h.fit,h.tall,h.lf,h.sz⟩
structure Drw(ins outs:List (Xk×Int))(W D:Nat)(head:Th)(rows:List (List Th)):Prop where
 gi:cS ins
 go:cS outs
 w1:1<=W
 hd:PB outs (rows.length:Nat) 1 W D head
 row:∀row∈rows,row.length=ins.length/\∀(j:Nat)(p:Th)(k:Xk×Int),row[j]?=some p->ins[j]?=some k->PB outs (rows.length:Nat) k.2 W D p
 le:rows.length<=5
 lim:D<=3/\W ^ D<=9/\szB W D<=15/\rows.length * W ^ D<=20
section
variable{D:Nat}
theorem Drw.fit(h:Drw ins outs W D head rows):FitB ins outs (rows.length:Nat) rows:=⟨rfl,λrow hr=>⟨(h.row row hr).1,λj p k hp hk=>((h.row row hr).2 j p k hp hk).fit⟩⟩
theorem Drw.pat(h:Drw ins outs W D head rows){row:List Th}(hr:row∈rows)(hp:p∈row):∃C,C<=3/\PB outs (rows.length:Nat) C W D p:=by
 obtain⟨j,hj⟩:=Xp.mp hp;obtain⟨hl,hf⟩:=h.row row hr;obtain⟨k,hk⟩:∃k,ins[j]?=some k:=⟨_,WR (by have:=(glE hj);omega)⟩;exact⟨k.2,(h.gi.num k (WU hk)).2,hf j p k hj hk⟩
mutual
theorem yB:∀(n:Nat)(l r:Th),l.size<=n->(l.com r).lf<=l.lf
 |0,l,r,h=>by have:=l.size_pos;omega
 | n+1,l,r,h=>by
   rw[kQ];have hl:1<=l.lf:=by cases l <;> rw[Th.lf] <;> omega
   by_cases hs:aE l r=true
   .rw[b! hs];obtain⟨m,ks,us,rfl,rfl,e,_⟩:=bz hs;rw[p!]at h;have:=vx n ks us (by omega);show(o! m ((ks.zip us).map λp=>p.1.com p.2)).lf<=_;rw[Th.lf,Th.lf];omega
   .rw[a! hs,hole,Th.lf,lfs];omega
theorem vx:∀(n:Nat)(ks us:List Th),aw ks<=n->lfs ((ks.zip us).map λp=>p.1.com p.2)<=lfs ks
 |n,[],us,h=>by rw[List.zip_nil_left];exact WY _
 |n,k::ks,[],h=>by rw[List.zip_nil_right];exact Xi _
 | n,k::ks,u::us,h=>by
   rw[aw]at h;have h1:=yB n k u (by omega);have h2:=vx n ks us (by omega);rw[ZC,XB,lfs,lfs];show(k.com u).lf+_<=_;omega
end
theorem xE(mk:Int->Th):∀(row:List Th)(m:Th),(frF mk m row).lf<=m.lf
 | [],m=>WY _
 |p::row,m=>Xv (xE mk row _) (yB _ m _ (WY _))
mutual
theorem zd(D:List Int->Bool):∀(t:Th)(pre:List Int),(t.cut D pre).lf<=t.lf/\(t.cut D pre).tall<=t.tall/\(t.cut D pre).noCall
 | .call a b,pre=>by
   rw[Th.cut,Th.lf,r!,hole,Th.lf,r!,u!,lfs,aC,aN];exact⟨WY _,WY _,trivial⟩
 | .knot n ks,pre=>by
   rw[Th.cut];obtain⟨h1,h2,h3⟩:=vY D ks pre 0;split
   .rw[hole,Th.lf,r!,Th.lf,r!,u!,lfs,aC,aN];exact⟨by omega,by omega,trivial⟩
   .rw[Th.lf,r!,Th.lf,r!,u!];exact⟨by omega,by omega,h3⟩
theorem vY(D:List Int->Bool):∀(ts:List Th)(pre:List Int)(i:Int),lfs (cp D pre i ts)<=lfs ts/\aC (cp D pre i ts)<=aC ts/\aN (cp D pre i ts)
 | [],pre,i=>by rw[cp,aN];exact⟨WY _,WY _,trivial⟩
 | t::ts,pre,i=>by
   obtain⟨h1,h2,h3⟩:=zd D t (pre++[i]);obtain⟨g1,g2,g3⟩:=vY D ts pre (i+1);rw[cp,lfs,lfs,aC,aC,aN];exact⟨by omega,by omega,h3,g3⟩
end
mutual
theorem xi:∀t:Th,t.nh<=t.lf
 |.call a b=>Xi _
 | .knot n ks=>by
   rw[Th.nh,Th.lf];have:=x8 ks;split <;> omega
theorem x8:∀ts:List Th,nhs ts<=lfs ts
 | []=>WY _
 | t::ts=>by
   have h1:=xi t;have h2:=x8 ts;rw[nhs,lfs];omega
end
mutual
theorem aa1:∀t:Th,cnT t<=t.lf
 |.call a b=>WY _
 | .knot n ks=>by
   rw[cnT,Th.lf];have:=yW ks;omega
theorem yW:∀ts:List Th,cF ts<=lfs ts
 | []=>WY _
 | t::ts=>by
   have h1:=aa1 t;have h2:=yW ts;rw[cF,lfs];omega
end
mutual
theorem vZ(f:Int->Int->Th)(hf:∀s k,0<=s->s<S->0<=k->k<C->cnT (f s k)<=m):∀t:Th,t.FitS Ez S C->cnT (t.fill f)<=cnT t * m
 | .call s k,h=>by
   rw[A!]at h;rw[v!,cnT,Nat.one_mul];exact hf s k h.1 h.2.1 h.2.2.1 h.2.2.2
 | .knot n ts,h=>by
   rw[A!]at h;rw[v!,cnT,cnT];exact rX f hf ts h.2
theorem rX(f:Int->Int->Th)(hf:∀s k,0<=s->s<S->0<=k->k<C->cnT (f s k)<=m):∀ts:List Th,FitSs Ez S C ts->cF (fills f ts)<=cF ts * m
 | [],_=>Xi _
 | t::ts,h=>by
   rw[FitSs]at h;have h1:=vZ f hf t h.1;have h2:=rX f hf ts h.2;rw[fills,cF,cF,Nat.add_mul];omega
end
mutual
theorem vn(f:Int->Int->Th){l:Nat}(hm:1<=m)(hf:∀s k,0<=s->s<S->0<=k->k<C->(f s k).size<=m/\(f s k).tall<=l+1):∀t:Th,t.FitS Ez S C->(t.fill f).size<=t.size * m/\(t.fill f).tall<=t.tall+l
 | .call s k,h=>by
   rw[A!]at h;have:=hf s k h.1 h.2.1 h.2.2.1 h.2.2.2;rw[v!,p!,r!];omega
 | .knot n ts,h=>by
   rw[A!]at h;have:=qY f hm hf ts h.2;rw[v!,p!,r!,p!,r!,Nat.add_mul];omega
theorem qY(f:Int->Int->Th){l:Nat}(hm:1<=m)(hf:∀s k,0<=s->s<S->0<=k->k<C->(f s k).size<=m/\(f s k).tall<=l+1):∀ts:List Th,FitSs Ez S C ts->aw (fills f ts)<=aw ts * m/\aC (fills f ts)<=aC ts+l
 | [],_=>⟨Xi _,Xi _⟩
 | t::ts,h=>by
   rw[FitSs]at h;have h1:=vn f hm hf t h.1;have h2:=qY f hm hf ts h.2;rw[fills,aw,aw,aC,aC,Nat.add_mul];omega
end
mutual
theorem aaG{g:Nat->Th}(hg:∀j,cnT (g j)<=1):∀(f:Th)(i:Nat),f.noCall->cnT (f.hg g i)<=f.nh
 | .knot n ks,i,h=>by
   rw[Th.hg,Th.nh];split
   .exact hg i
   .rw[cnT];exact zi hg ks i h
 |.call s k,i,h=>by rw[u!]at h;exact h.elim
theorem zi{g:Nat->Th}(hg:∀j,cnT (g j)<=1):∀(fs:List Th)(i:Nat),aN fs->cF (hgs g fs i)<=nhs fs
 | [],i,_=>Xi _
 | f::fs,i,h=>by
   rw[aN]at h;have h1:=aaG hg f i h.1;have h2:=zi hg fs (i+f.nh) h.2;rw[hgs,cF,nhs];omega
end
theorem Drw.small(h:Drw ins outs W D head rows){F:Nat->Th}(hF:∀s,s<rows.length->(F s).noCall/\(F s).lf<=W ^ D/\(F s).size<=15/\(F s).tall<=4)(hp:PB outs (rows.length:Nat) C W D p):Small (eaP F p):=by
 obtain⟨l1,l2,l3,_⟩:=h.lim;have hc:=vZ (hgF F) (m:=9) (λs k h0 h1 _ _=>?_) p hp.fit
 .have hz:=vn (hgF F) (m:=15) (l:=3) (by decide) (λs k h0 h1 _ _=>?_) p hp.fit
  .have z1:=qb (p.fill (hgF F));have z2:p.size * 15<=15 * 15:=Y4 _ (Xv hp.sz l3);have z3:=hp.tall;have z4:cnT p * 9<=9 * 9:=Y4 _ (Xv (aa1 p) (Xv hp.lf l2));exact⟨by show(p.fill (hgF F)).tall<=20;omega,by show(p.fill (hgF F)).kn<=400;omega,by show cnT (p.fill (hgF F))<=200;omega⟩
  .have hs:=hF s.toNat (by omega);have:=nH F s k;omega
 .have hs:=hF s.toNat (by omega);have:=aaG (g:=λj=>B! (enc s (j:Nat)) k) (λj=>WY _) (F s.toNat) 0 hs.1;have:=xi (F s.toNat);show cnT ((F s.toNat).hg _ 0)<=9;omega
theorem Drw.many(h:Drw ins outs W D head rows){F:Nat->Th}(hF:∀s,s<rows.length->(F s).lf<=W ^ D):((XG rows.length).map λs=>(F s).nh).sum<=20:=by
 refine Xv ?_ h.lim.2.2.2
 have:∀(l:List Nat),(∀s∈l,(F s).nh<=W ^ D)->(l.map λs=>(F s).nh).sum<=l.length * W ^ D:=λl=>by
  induction l with
  |nil=>intro _;exact Xi _
  | cons x l ih =>
    intro hl;have h1:=hl x (Xh ..);have h2:=ih λs hs=>hl s (Xf _ hs);rw[XB,List.sum_cons,W3,Nat.succ_mul];omega
 have h2:=this (XG rows.length) λs hs=>Xv (xi _) (hF s (YY.mp hs));rw[Xo]at h2;exact h2
end
theorem gw{kr:WS}{B3:List WS}{ks:List (Xk×Int)}(p:Xk×Int->Bool)(e:H kr=some (.tup (B3.map i!)))(C2:KsAt H ks B3)(hl:ks.length<=1000)
 (EV:∀(z:Xk×Int)(ka:WS)(H2:Hp)(R:Bool->Hp->Prop),k! H H2->KAt H2 z ka->R (p z) H2->tt ((cσ js Z).set 0 (some (.ref ka))) H2 R)
 (Jm:∀(ka:WS)(H2:Hp)(R:VK),R (.ref ka) H2->te ((cσ js Z).set 0 (some (.ref ka))) H2 R)
 (q:∀(D:WS)(bs:List ((Xk×Int)×WS))(H':Hp),H D=none->H'=upd H D (.lst (bs.map λz=>i! z.2))->((∃k∈ks,p k=true)->1<=bs.length)->bs.length<=ks.length->(∀z∈bs,z.1∈ks/\p z.1=true/\KAt H z.1 z.2)->fin D H') :
 ∀D,H D=none->∃(n:Nat)(W:Nat->Hp->Prop),W 0 (upd H D (.lst []))/\gX js (aq 0) tt te Z (Itt K kr) D n W λH'=>fin D H':=by
 have CN:ks.length=B3.length:=W5 C2;have N':(ks.zip B3).length=ks.length:=by rw[List.length_zip];omega
 have Ip:∀(i:Nat)(x:V)(z:(Xk×Int)×WS),(B3.map i!)[i]?=some x->(ks.zip B3)[i]?=some z->x=.ref z.2:=λi x z hx hz=>by
  obtain⟨ka,rfl,CQ⟩:=aR hx;obtain⟨h1,h2⟩:=Zf.mp hz;rw[CQ]at h2;cases h2;rfl
 refine r9 (ks.zip B3) (λz=>p z.1) (λz=>.ref z.2) (n! e) (by rw[N',WO];exact CN) (by rw[WO];omega) (λi x z H2 R hx hz sm r=>?_) (λi x z H2 R hx hz _ sm r=>?_) (λD hD=>?_)
 .rw[Ip i x z hx hz];have:=(om C2 z (WU hz)).2;exact EV z.1 z.2 H2 R sm (sm _ _ this) r
 .rw[Ip i x z hx hz];exact Jm z.2 H2 R r
 .refine q D _ _ hD rfl ?_ ?_ ?_
  .rintro⟨k,hk,Va⟩;obtain⟨i,hi,rfl⟩:=List.getElem_of_mem hk;have hz:(ks.zip B3)[i]'(by omega)∈(ks.zip B3).filter λz=>p z.1:=Zq.mpr ⟨List.getElem_mem _,by rw[List.getElem_zip];exact Va⟩;exact List.length_pos_of_mem hz
  .exact Xv (ZG _ _) (by omega)
  .intro z hz;obtain⟨h1,h2⟩:=Zq.mp hz;obtain⟨h3,h4⟩:=om C2 z h1;exact⟨h3,h2,h4⟩
mutual
def Th.AllC(q:Int->Int->Prop):Th->Prop
 |.knot _ ks=>fu q ks
 |.call s k=>q s k
def fu(q:Int->Int->Prop):List Th->Prop
 | []=>True
 |t::ts=>t.AllC q/\fu q ts
end
theorem kN{q:Int->Int->Prop}:∀{ts:List Th}{t:Th},fu q ts->t∈ts->t.AllC q
 | u::ts,t,h,hm=>by
   rw[fu]at h;rcases W9.mp hm with rfl|hm
   .exact h.1
   .exact kN h.2 hm
mutual
theorem hV{ks:List (Xk×Int)}:∀t:Th,t.FitS ks S C->t.AllC λs k=>0<=s/\s<S/\0<=k/\k<C
 |.call s k,h=>h
 |.knot n ts,h=>by rw[A!]at h;exact nQ ts h.2
theorem nQ{ks:List (Xk×Int)}:∀ts:List Th,FitSs ks S C ts->fu (λs k=>0<=s/\s<S/\0<=k/\k<C) ts
 | [],_=>trivial
 |t::ts,h=>by rw[FitSs]at h;exact⟨hV t h.1,nQ ts h.2⟩
end
mutual
theorem j4{q r:Int->Int->Prop}(f:Int->Int->Th)(hf:∀s k,q s k->(f s k).AllC r):∀t:Th,t.AllC q->(t.fill f).AllC r
 |.call s k,h=>hf s k h
 |.knot n ts,h=>nL f hf ts h
theorem nL{q r:Int->Int->Prop}(f:Int->Int->Th)(hf:∀s k,q s k->(f s k).AllC r):∀ts:List Th,fu q ts->fu r (fills f ts)
 | [],_=>trivial
 |t::ts,h=>⟨j4 f hf t h.1,nL f hf ts h.2⟩
end
mutual
theorem vV{r:Int->Int->Prop}{g:Nat->Th}:∀(f:Th)(i:Nat),f.noCall->(∀j,i<=j->j<i+f.nh->(g j).AllC r)->(f.hg g i).AllC r
 | .knot n ks,i,h,hg=>by
   rw[Th.hg];rw[Th.nh]at hg;split
   .rename_i hh
    rw[b! hh]at hg;exact hg i (WY _) (Nat.lt_succ_self _)
   .rename_i hh
    rw[a! hh]at hg;exact sH ks i h hg
 |.call s k,i,h,_=>by rw[u!]at h;exact h.elim
theorem sH{r:Int->Int->Prop}{g:Nat->Th}:∀(fs:List Th)(i:Nat),aN fs->(∀j,i<=j->j<i+nhs fs->(g j).AllC r)->fu r (hgs g fs i)
 | [],i,_,_=>trivial
 | f::fs,i,h,hg=>by
   rw[aN]at h;rw[nhs]at hg;exact⟨vV f i h.1 λj h1 h2=>hg j h1 (by omega),sH fs _ h.2 λj h1 h2=>hg j (by omega) (by omega)⟩
end
theorem tI{q:Int->Int->Prop}:∀{r:List Int}{t u:Th},t.sub r=some u->t.AllC q->u.AllC q
 | [],t,u,h,hq=>by
   rw[fW]at h;cases h;exact hq
 | i::r,t,u,h,hq=>by
   obtain⟨h0,w,hw,h⟩:=qm h;refine tI h ?_;cases t with
   |call s k=>cases hw
   |knot n ks=>exact kN hq (WU hw)
theorem ie{pat:Int->Xk->Th}{k:Int}{u:Th}(h:ts[k.toNat]?=some u)(s:Int):fD (cX pat ts) s k=eB pat u s:=by
 unfold fD;rw[ku,ZP,W0,h];rfl
mutual
theorem gz{q:Int->Int->Prop}{f g:Int->Int->Th}(JT:∀s k,q s k->f s k=g s k):∀t:Th,t.AllC q->t.fill f=t.fill g
 |.call s k,h=>by rw[v!,v!];exact JT s k h
 |.knot n ts,h=>by rw[v!,v!,jk JT ts h]
theorem jk{q:Int->Int->Prop}{f g:Int->Int->Th}(JT:∀s k,q s k->f s k=g s k):∀ts:List Th,fu q ts->fills f ts=fills g ts
 | [],_=>by rw[fills,fills]
 |t::ts,h=>by rw[fills,fills,gz JT t h.1,jk JT ts h.2]
end
theorem ip{ks:List (Xk×Int)}:∀{ts:List Th}{t:Th},Fits ks ts->t∈ts->t.Fit ks
 | u::ts,t,h,hm=>by
   rw[Fits]at h;rcases W9.mp hm with rfl|hm
   .exact h.1
   .exact ip h.2 hm
mutual
theorem jf{q:Int->Int->Prop}{r:Int->Prop}:∀p:Th,p.AllC q->(∀y∈stT p,r y)->p.AllC λy k=>r y/\q y k
 |.call s k,h,hr=>⟨hr s (by rw[nN];exact List.mem_singleton_self _),h⟩
 |.knot n ts,h,hr=>o7 ts h (by rw[gW]at hr;exact hr)
theorem o7{q:Int->Int->Prop}{r:Int->Prop}:∀ts:List Th,fu q ts->(∀y∈ck ts,r y)->fu (λy k=>r y/\q y k) ts
 | [],_,_=>trivial
 |t::ts,h,hr=>⟨jf t h.1 λy hy=>hr y (XH _ hy),o7 ts h.2 λy hy=>hr y (XC _ hy)⟩
end
mutual
theorem kl{q r:Int->Int->Prop}(h:∀s k,q s k->r s k):∀p:Th,p.AllC q->p.AllC r
 |.call s k,hq=>h s k hq
 |.knot n ts,hq=>mn h ts hq
theorem mn{q r:Int->Int->Prop}(h:∀s k,q s k->r s k):∀ts:List Th,fu q ts->fu r ts
 | [],_=>trivial
 |t::ts,hq=>⟨kl h t hq.1,mn h ts hq.2⟩
end
theorem uw(hB:1<=B)(h:∀row∈rows,∀p∈row,p.tall<=B)(s:Int)(n:Xk):(bM ins rows s n).tall<=B:=by
 unfold bM rowOf;rw[ZP,ZP];cases hr:rows[s.toNat]? with
 |none=>rw[Option.getD_none,List.getElem?_nil,Option.getD_none,r!,aC];omega
 | some row =>
   rw[Option.getD_some];cases hp:row[(ins.map (·.1)).idxOf n]? with
   |none=>rw[Option.getD_none,r!,aC];omega
   |some p=>exact h row (WU hr) p (WU hp)
mutual
theorem wN{pat:Int->Xk->Th}(h:∀s n,(pat s n).tall<=B):∀(t:Th)(s:Int),(eB pat t s).tall<=1+B * t.tall
 |.call l k,s=>by rw[eB,r!];omega
 | .knot n ts,s=>by
   have h1:=iP (fD (cX pat ts)) (m:=B * aC ts) (λs c=>by
    unfold fD;rw[ZP];cases hf:(cX pat ts)[c.toNat]? with
    |none=>rw[Option.getD_none,r!,aC];omega
    | some f =>
      have:=i9 h ts f (WU hf) s;rw[Option.getD_some];omega) (pat s n)
   have h2:=h s n;rw[eB,r!,Nat.mul_add,Nat.mul_one];omega
theorem i9{pat:Int->Xk->Th}(h:∀s n,(pat s n).tall<=B):∀(ts:List Th),∀f∈cX pat ts,∀s,(f s).tall<=1+B * aC ts
 | [],f,hf,s=>by rw[cX]at hf;cases hf
 | t::ts,f,hf,s=>by
   rw[cX]at hf;rw[aC];have hm:B * t.tall<=B * max t.tall (aC ts):=Nat.mul_le_mul_left _ (Nat.le_max_left ..);have Iy:B * aC ts<=B * max t.tall (aC ts):=Nat.mul_le_mul_left _ (Nat.le_max_right ..);rcases W9.mp hf with rfl|hf
   .have:=wN h t s;omega
   .have:=i9 h ts f hf s;omega
end
def qT(ins:List (Xk×Int))(F:Nat->Th)(rows:List (List Th))(x:Int)(n:Xk):Th:=eaU F x (bM ins rows (x / 1000) n)
section
variable{F:Nat->Th}
theorem FitB.pat(g:cS ins)(h:FitB ins outs S rows){s:Int}(h0:0<=s)(h1:s<S){n:Xk}{m:Int}(hm:(n,m)∈ins):∃(j:Nat)(row:List Th)(p:Th),rows[s.toNat]?=some row/\ins[j]?=some (n,m)/\row[j]?=some p/\bM ins rows s n=p/\p.FitS outs S m:=by
 obtain⟨j,hj⟩:=Xp.mp hm;have hl:=h.len;obtain⟨row,hr⟩:∃row,rows[s.toNat]?=some row:=⟨_,WR (by omega)⟩;obtain⟨h3,h4⟩:=h.row row (WU hr);obtain⟨p,hp⟩:∃p,row[j]?=some p:=⟨_,WR (by have:=(glE hj);omega)⟩;exact⟨j,row,p,hr,hj,hp,n8 g hr hj hp,h4 j p _ hp hj⟩
theorem EaOk.filled(J:EaOk ins outs F head rows)(h1:∀t∈ts,∀s:Int,0<=s->s<(rows.length:Nat)->(F s.toNat).lies (eB (bM ins rows) t s)=true)
 (h2:∀t∈ts,∀x,i6 F rows.length x->∃pl,((F (x / 1000).toNat).hw [] (eB (bM ins rows) t (x / 1000)))[(x%1000).toNat]?=some (pl,eB (qT ins F rows) t x)) (hp:p.FitS outs (rows.length:Nat) C) (hC:C<=(ts.length:Int)) :
 (eaP F p).fill (fD (cX (qT ins F rows) ts))=p.fill (fD (cX (bM ins rows) ts)):=by
 unfold eaP;rw[kc];refine lI p hp λs k h0 hs k0 hk=>?_;have Hk:s.toNat<rows.length:=by omega
 obtain⟨u,hu⟩:∃u,ts[k.toNat]?=some u:=⟨_,WR (by omega)⟩;have hm:=WU hu;rw[ie hu];have hl:=h1 u hm s h0 hs;refine wf _ _ [] _ _ 0 (J.fr _ Hk).1 hl λj y hy=>?_;have Ep:=(glE hy);rw[mM [] _ _ hl]at Ep;have hn:=J.nh Hk;obtain⟨e1,e2⟩:=p9 (l:=s) (j:=j) (by omega);rw[Nat.zero_add,v!,ie hu];obtain⟨pl,AS⟩:=h2 u hm (enc s (j:Nat)) ⟨by rw[e1];exact h0,by rw[e1];exact Hk,by rw[e1,e2];exact Ep⟩;rw[e1,e2,hy]at AS;rw[Xm AS]
theorem EaOk.run(J:EaOk ins outs F head rows):∀(n:Nat)(t:Th),t.size<=n->t.Fit ins->(∀s:Int,0<=s->s<(rows.length:Nat)->(F s.toNat).lies (eB (bM ins rows) t s)=true)/\∀x,i6 F rows.length x->∃pl,((F (x / 1000).toNat).hw [] (eB (bM ins rows) t (x / 1000)))[(x%1000).toNat]?=some (pl,eB (qT ins F rows) t x)
 |0,t,h,_=>by have:=t.size_pos;omega
 |n+1,.call a b,_,h=>by rw[Th.Fit]at h;exact h.elim
 | n+1,.knot m ts,hn,h=>by
   rw[Th.Fit]at h;rw[p!]at hn;have ih:∀t∈ts,_:=λt ht=>EaOk.run J n t (by have:=bg ht;omega) (ip h.2 ht)
   have key:∀s:Int,0<=s->s<(rows.length:Nat)->∃(row:List Th)(p:Th),rows[s.toNat]?=some row/\p∈row/\bM ins rows s m=p/\(F s.toNat).lies (eaP F p)=true/\eB (bM ins rows) (.knot m ts) s=(eaP F p).fill (fD (cX (qT ins F rows) ts)):=λs h0 h1=>by
    obtain⟨j,row,p,hr,hj,hp,e,hf⟩:=J.fit.pat J.gi h0 h1 h.1;refine⟨row,p,hr,WU hp,e,J.lies hr (WU hp) hf,?_⟩;rw[J.filled (λt ht=>(ih t ht).1) (λt ht=>(ih t ht).2) hf (Zw _),eB,e]
   refine⟨λs h0 h1=>?_,λx hx=>?_⟩
   .obtain⟨row,p,_,_,_,hl,e⟩:=key s h0 h1;rw[e];exact pJ _ _ _ hl
   .obtain⟨row,p,hr,hp,e1,hl,e⟩:=key (x / 1000) hx.1 (by have:=hx.2.1;omega);obtain⟨pl,_,h2,_,_⟩:=J.at hx hr hp;refine⟨pl,?_⟩;rw[e,vI _ [] _ _ hl,W0,h2,eB];unfold qT;rw[e1];rfl
theorem EaOk.hdE(J:EaOk ins outs F head rows){t:Th}(ht:t.Fit ins):made (qT ins F rows) (eaP F head) (sol t)=made (bM ins rows) head (sol t):=by
 refine J.filled (ts:=[t]) (λu hu=>?_) (λu hu=>?_) J.hd (Zw _)
 .rw[W7.mp hu];exact(J.run _ t (WY _) ht).1
 .rw[W7.mp hu];exact(J.run _ t (WY _) ht).2
theorem EaOk.allC(J:EaOk ins outs F head rows)(hp:p.FitS outs (rows.length:Nat) C):(eaP F p).AllC λx k=>i6 F rows.length x/\0<=k/\k<C:=by
 refine j4 (hgF F) (λs c h=>?_) p (hV p hp);have hs:s.toNat<rows.length:=by omega
 have hn:=J.nh hs;refine vV (F s.toNat) 0 (J.fr _ hs).1 λj _ hj=>?_;obtain⟨e1,e2⟩:=p9 (l:=s) (j:=j) (by omega);exact⟨⟨by rw[e1];exact h.1,by rw[e1];exact hs,by rw[e1,e2];omega⟩,h.2.2.1,h.2.2.2⟩
def eaB(F:Nat->Th)(rows:List (List Th))(M:List Int):List (List Th):=M.map λx=>(eaR F rows x).map (ren (idx M))
structure RunOk(ins:List (Xk×Int))(rows:List (List Th)):Prop where
 gi:cS ins
 row:∀row∈rows,row.length=ins.length/\∀(j:Nat)(p:Th)(k:Xk×Int),row[j]?=some p->ins[j]?=some k->(p.AllC λs c=>0<=s/\s<(rows.length:Nat)/\0<=c/\c<k.2)/\p.tall<=20/\p.size<=600
theorem RunOk.pat(h:RunOk ins rows){s:Int}(h0:0<=s)(h1:s<(rows.length:Nat)){n:Xk}{m:Int}(hm:(n,m)∈ins):∃(j:Nat)(row:List Th)(p:Th),rows[s.toNat]?=some row/\ins[j]?=some (n,m)/\row[j]?=some p/\bM ins rows s n=p/\(p.AllC λs c=>0<=s/\s<(rows.length:Nat)/\0<=c/\c<m)/\p.tall<=20/\p.size<=600:=by
 obtain⟨j,hj⟩:=Xp.mp hm;obtain⟨row,hr⟩:∃row,rows[s.toNat]?=some row:=⟨_,WR (by omega)⟩;obtain⟨h3,h4⟩:=h.row row (WU hr);obtain⟨p,hp⟩:∃p,row[j]?=some p:=⟨_,WR (by have:=(glE hj);omega)⟩;exact⟨j,row,p,hr,hj,hp,n8 h.gi hr hj hp,h4 j p _ hp hj⟩
theorem Drw.run{D:Nat}(h:Drw ins outs W D head rows):RunOk ins rows:=⟨h.gi,λrow hr=>⟨(h.row row hr).1,λj p k hp hk=>by
 have hb:=(h.row row hr).2 j p k hp hk;have l:=h.lim;exact⟨hV p hb.fit,Xv hb.tall (by omega),Xv hb.sz (by omega)⟩⟩⟩
theorem sh{q:Int->Int->Prop}{g:Int->Int}(h:p.AllC λs k=>q (g s) k):(ren g p).AllC q:=j4 _ (λ_ _ h=>h) p h
section
variable{M:List Int}(J:EaOk ins outs F head rows)(hM:M=cu (eaR F rows) (eaP F head))
include J hM
theorem rT:∀x∈stT (eaP F head),x∈M:=λx hx=>by
 rw[hM];exact(jM _ _ _ _).subset (eE.mpr (.inr hx))
theorem zJ:∀x∈M,∀y∈ck (eaR F rows x),y∈M:=by
 rw[hM];exact xC J.len
theorem zh:∀x∈M,i6 F rows.length x:=by
 rw[hM];exact J.met
theorem xp{x:Int}(hx:i6 F rows.length x){n:Xk}{m:Int}(hm:(n,m)∈ins):∃(j:Nat)(row:List Th)(p:Th),rows[(x / 1000).toNat]?=some row/\ins[j]?=some (n,m)/\row[j]?=some p/\p∈row/\qT ins F rows x n=eaU F x p/\(eaR F rows x)[j]?=some (eaU F x p)/\(eaU F x p).AllC (λy k=>i6 F rows.length y/\0<=k/\k<m)/\Small (eaU F x p):=by
 obtain⟨j,row,p,hr,hj,hp,e,hf⟩:=J.fit.pat J.gi hx.1 (by have:=hx.2.1;omega) hm;have RT:=WU hp;obtain⟨pl,_,_,h3,h4⟩:=J.at hx hr RT;obtain⟨BO,BN,e',_⟩:=J.row hx;rw[hr]at BN;cases BN;exact⟨j,row,p,hr,hj,hp,RT,by unfold qT;rw[e],by unfold eaR;rw[e',W0,hp];rfl,tI h3 (J.allC hf),h4⟩
theorem vQ:(eaB F rows M).length=M.length:=by unfold eaB;rw[WO]
theorem aaM{x:Int}(hx:x∈M){q:Int->Int->Prop}(hp:(eaR F rows x)[j]?=some p)(h:p.AllC q):p.AllC λy k=>y∈M/\q y k:=by
 refine jf p h λy hy=>zJ J hM x hx y (rN (WU hp) hy)
theorem abn:RunOk ins (eaB F rows M):=by
 refine⟨J.gi,λBO BN=>?_⟩;obtain⟨x,hx,rfl⟩:=XD.mp BN;have Bz:=zh J hM x hx;obtain⟨row,hr,e,hl,_⟩:=J.row Bz;refine⟨by rw[WO];unfold eaR;rw[WO,e,hl],λj p k hp hk=>?_⟩;obtain⟨j',Vc,p2,Gi,JE,Bm,_,_,h3,h4,h5⟩:=xp J hM Bz (n:=k.1) (m:=k.2) (WU hk);obtain rfl:j'=j:=J.gi.nd j' j _ _ JE hk rfl;rw[W0,h3]at hp;cases hp;rw[vQ J hM];obtain⟨r1,r2⟩:=ow (idx M) (eaU F x p2);refine⟨sh (kl (λy k h=>?_) _ (aaM J hM hx h3 h4)),by rw[r2];exact h5.tall,by rw[r1];exact h5.size⟩;obtain⟨i1,i2⟩:=ue h.1;exact⟨i1,i2,h.2.2.1,h.2.2.2⟩
theorem we:∀(n:Nat)(t:Th),t.size<=n->t.Fit ins->∀x∈M,eB (bM ins (eaB F rows M)) t (idx M x)=eB (qT ins F rows) t x
 |0,t,h,_=>by have:=t.size_pos;omega
 |n+1,.call a b,_,h=>by rw[Th.Fit]at h;exact h.elim
 | n+1,.knot m ts,hn,h=>λx hx=>by
   rw[Th.Fit]at h;rw[p!]at hn;have Bz:=zh J hM x hx;obtain⟨j,row,p,hr,hj,hp,_,e,h3,h4,_⟩:=xp J hM Bz h.1;obtain⟨i1,i2⟩:=ue hx;have hg:=aaa hx;have hb:(eaB F rows M)[(idx M x).toNat]?=some ((eaR F rows x).map (ren (idx M))):=by unfold eaB;rw[W0,hg];rfl
   rw[eB,eB,n8 J.gi hb hj (gmE h3),e,tK];refine gz (λy k hy=>?_) _ (aaM J hM hx h3 h4);obtain⟨u,hu⟩:∃u,ts[k.toNat]?=some u:=⟨_,WR (by omega)⟩;have hm:=WU hu;rw[ie hu,ie hu];exact we n u (by have:=bg hm;omega) (ip h.2 hm) y hy.1
theorem aaf{t:Th}(ht:t.Fit ins):made (bM ins (eaB F rows M)) (ren (idx M) (eaP F head)) (sol t)=made (bM ins rows) head (sol t):=by
 rw[<-J.hdE ht];unfold made;rw[tK];refine gz (λy k hy=>?_) _ (jf _ (J.allC J.hd) (rT J hM))
 have hu:(sol t).kids[k.toNat]?=some t:=by
  have:k=0:=by omega
  rw[this];rfl
 rw[ie hu,ie hu];exact we J hM _ t (WY _) ht y hy.1
end
end
end BB
namespace LAW
open PySem L2 BB
def top(i:Nat):Yz:=PySem.Challenge.pw_boughbook_k65_early_books_turn_alike.main.body.getD i (.Pass ⟨0,0,0,0⟩)
theorem scm{P:List Xk}(a:sc.kind=.function:=by rfl)(b:sc.isCoroutine=false:=by rfl)(c:sc.isGenerator=false:=by rfl)(d:N.Nodup:=by decide +kernel)(e:N.take P.length=P:=by rfl)(f:∀x∈P,sc.names.lookup x=some .local\/sc.names.lookup x=some .cell:=by decide +kernel)(g:∀y∈sc.names,y.2≠.free:=by decide +kernel):ao N P sc:=⟨a,b,c,d,e,f,g⟩
abbrev gS:Yz:=top 8
theorem qK:ao ["thing"] ["thing"] (ag gS):=scm
abbrev iT:Yz:=top 9
theorem sr:ao ["number","bound"] ["number","bound"] (ag iT):=scm
abbrev kg:Yz:=top 10
theorem uh:ao ["thing"] ["thing"] (ag kg):=scm
abbrev mr:Yz:=top 11
theorem hX:ao ["thing","met","ahead","part"] ["thing"] (ag mr):=scm
abbrev mx:Yz:=top 12
theorem dO:ao ["thing","met","ahead","place","part","kids"] ["thing"] (ag mx):=scm
abbrev p7:Yz:=top 13
theorem je:ao ["tops","done","top","many"] ["tops"] (ag p7):=scm
abbrev nX:Yz:=top 14
theorem wG:ao ["tree"] ["tree"] (ag nX):=scm
abbrev nG:Yz:=top 15
theorem pS:ao ["thing","number","kids"] ["thing","number"] (ag nG):=scm
abbrev kF:Yz:=top 16
theorem fH:ao ["tree","place","part","number"] ["tree","place"] (ag kF):=scm
abbrev j9:Yz:=top 19
theorem uO:ao ["thing"] ["thing"] (ag j9):=scm
abbrev kj:Yz:=top 20
theorem ud:ao ["thing"] ["thing"] (ag kj):=scm
abbrev jR:Yz:=top 21
theorem uA:ao ["thing"] ["thing"] (ag jR):=scm
abbrev gC:Yz:=top 22
theorem qC:ao ["call"] ["call"] (ag gC):=scm
abbrev iL:Yz:=top 23
theorem rJ:ao ["pattern"] ["pattern"] (ag iL):=scm
abbrev g9:Yz:=top 24
theorem pY:ao ["pattern"] ["pattern"] (ag g9):=scm
abbrev ja:Yz:=top 25
theorem tO:ao ["front"] ["front"] (ag ja):=scm
abbrev nI:Yz:=top 26
theorem pA:ao ["part","many"] ["part"] (ag nI):=scm
abbrev nM:Yz:=top 27
theorem kK:ao ["pattern","table","tops","part"] ["pattern","table"] (ag nM):=scm
abbrev iS:Yz:=top 28
theorem eT:ao ["pattern","names","table","state","kid"] ["pattern","names"] (ag iS):=scm
abbrev tZ:Yz:=top 29
theorem jb:ao ["front","parts","tops","used","part"] ["front","parts"] (ag tZ):=scm
abbrev iO:Yz:=top 30
theorem rF:ao ["one","two"] ["one","two"] (ag iO):=scm
abbrev eK:Yz:=top 31
theorem b8:ao ["one","two","met","ahead","left","right"] ["one","two"] (ag eK):=scm
abbrev og:Yz:=top 32
theorem ik:ao ["one","two","tops","left","right"] ["one","two"] (ag og):=scm
abbrev bT:Yz:=inClass (top 38) 0
theorem lQ:ao ["self"] ["self"] (ag bT):=scm
abbrev bH:Yz:=inClass (top 38) 1
theorem kh:ao ["self","part","row"] ["self","part","row"] (ag bH):=scm
abbrev iW:Yz:=top 39
theorem du:ao ["pattern","measure","ahead","part","row"] ["pattern"] (ag iW):=scm
abbrev nq:Yz:=top 40
theorem xg:ao ["book"] ["book"] (ag nq):=scm
abbrev j1:Yz:=top 41
theorem um:ao ["book"] ["book"] (ag j1):=scm
abbrev kb:Yz:=top 42
theorem ut:ao ["book"] ["book"] (ag kb):=scm
abbrev i0:Yz:=top 43
theorem tT:ao ["book"] ["book"] (ag i0):=scm
abbrev gE:Yz:=top 44
theorem qL:ao ["book"] ["book"] (ag gE):=scm
abbrev gb:Yz:=top 46
theorem oG:ao ["ins"] ["ins"] (ag gb):=scm
abbrev fS:Yz:=top 47
theorem fe:ao ["ins","kind","kids","name","many"] ["ins","kind","kids"] (ag fS):=scm
abbrev dE:Yz:=top 48
theorem bo:ao ["book","names","at","made","state","patterns","kid"] ["book"] (ag dE):=scm
abbrev fj:Yz:=top 49
theorem bB:ao ["book","state","made","partings","ins","front","kind","pattern","place"] ["book","state","made","partings"] (ag fj):=scm
abbrev gF:Yz:=top 50
theorem bI:ao ["book","state","front","links","parts","kind","pattern","place","lower","kid","inner"] ["book","state","front","links"] (ag gF):=scm
abbrev ol:Yz:=top 51
theorem cf:ao ["ins","links","partings","holes","at","one","two","state","place","kind","kid"] ["ins","links","partings"] (ag ol):=scm
abbrev g7:Yz:=top 52
theorem cx:ao ["front","state","partings","tops","ahead","place","part","kids"] ["front","state","partings"] (ag g7):=scm
abbrev dW:Yz:=top 53
theorem bv:ao ["book","made","partings","firsts","links","state","front"] ["book"] (ag dW):=scm
abbrev gH:Yz:=top 54
theorem f7:ao ["book","fronts","partings"] ["book"] (ag gH):=scm
abbrev kM:Yz:=top 56
theorem i5:ao ["pattern","numbers","thing","kid"] ["pattern","numbers"] (ag kM):=scm
abbrev iV:Yz:=top 57
theorem dA:ao ["ins","outs","head","patterns_of","numbers","fresh_head","rules","thing"] ["ins","outs","head","patterns_of"] (ag iV):=scm
abbrev ff:Yz:=top 59
theorem bR:ao ["fronts","table","state","front","kid","calls"] ["fronts"] (ag ff):=scm
abbrev jY:Yz:=top 60
theorem uy:ao ["pattern"] ["pattern"] (ag jY):=scm
abbrev bU:Yz:=top 61
theorem eR:ao ["book","fronts","table","patterns_of"] ["book"] (ag bU):=scm
abbrev eJ:Yz:=top 63
theorem lP:ao ["script","k"] ["script","k"] (ag eJ):=scm
abbrev ga:Yz:=top 64
theorem iE:ao ["cell","k","stir"] ["cell","k"] (ag ga):=scm
abbrev gK:Yz:=top 65
theorem jP:ao ["base","n","tail"] ["base","n"] (ag gK):=scm
abbrev fR:Yz:=top 66
theorem oE:ao ["base","menu"] ["base","menu"] (ag fR):=scm
abbrev eC:Yz:=top 67
theorem cH:ao ["cell","deep","outs","states","kids","some","kind","parts"] ["cell","deep","outs","states","kids"] (ag eC):=scm
abbrev cg:Yz:=top 68
theorem cr:ao ["seed","cell","deep","outs","states","kids","some","kind","parts","j"] ["seed","cell","deep","outs","states","kids"] (ag cg):=scm
abbrev fQ:Yz:=top 69
theorem dl:ao ["script","many","cells","k","more"] ["script","many"] (ag fQ):=scm
abbrev gv:Yz:=top 70
theorem aJ:ao ["script","first","menu","ins","outs","states","deep","cells","rules","s","seed","row","j"] ["script"] (ag gv):=scm
abbrev gM:Yz:=top 71
theorem fO:ao ["cell","deep","ins","some","kind"] ["cell","deep","ins"] (ag gM):=scm
abbrev j0:Yz:=top 72
theorem ou:ao ["book","state","tree","at"] ["book","state","tree"] (ag j0):=scm
abbrev i8:Yz:=top 73
theorem sI:ao ["book","pattern","kids"] ["book","pattern","kids"] (ag i8):=scm
abbrev jn:Yz:=top 74
theorem m3:ao ["script","book","found","cell","tree"] ["script"] (ag jn):=scm
structure FX(K:WQ)(mg:Xk->Option WV)(n:Xk)(s:Yz)(ps:List Xk) where
 f:WS
 d:Zl
 F:Fun K n n s f d
 b:Binds K d ps []
 m:mg n=some (.ref f)
section
open PySem.W
variable{K:Frag}{n:Xk}{st:Yz}{kV dc pm cd ct:WV}{an:Option WS}{sl:Array (Option WV)}(X:K.In h)(G:h.Ns Xr mg)
noncomputable def fx1{p0:Xk}(a:nsIn K Xr n=some (some (.ref f)):=by k_is)(l:K.lookup f=some ⟨oc,od,.func (fnOf n n (bp st) (be st) (ag st) .none kV dc pm an cd ct),sl⟩:=by k_is)(c:codeIn K cd n=true:=by k_is)(k:keepIn K (.ref f)=true:=by k_is)(hb:∀(kV dc pm:WV)(an:Option WS)(cd ct u0:WV),bindArgs (fnOf n n (bp st) (be st) (ag st) .none kV dc pm an cd ct) ⟨[u0],[]⟩=pure [(p0,u0)]:=by intros;rfl):FX K mg n st [p0] :=
 ⟨f,_,cJ l c k,(cJ l c k).binds λa b c d e f us hl=>by obtain⟨u0,rfl⟩:=us1 hl;exact hb a b c d e f u0,mg_of X G a⟩
noncomputable def fx2{p0 p1:Xk}(a:nsIn K Xr n=some (some (.ref f)):=by k_is)(l:K.lookup f=some ⟨oc,od,.func (fnOf n n (bp st) (be st) (ag st) .none kV dc pm an cd ct),sl⟩:=by k_is)(c:codeIn K cd n=true:=by k_is)(k:keepIn K (.ref f)=true:=by k_is)(hb:∀(kV dc pm:WV)(an:Option WS)(cd ct u0 u1:WV),bindArgs (fnOf n n (bp st) (be st) (ag st) .none kV dc pm an cd ct) ⟨[u0,u1],[]⟩=pure [(p0,u0),(p1,u1)]:=by intros;rfl):FX K mg n st [p0,p1] :=
 ⟨f,_,cJ l c k,(cJ l c k).binds λa b c d e f us hl=>by obtain⟨u0,u1,rfl⟩:=us2 hl;exact hb a b c d e f u0 u1,mg_of X G a⟩
noncomputable def fx3{p0 p1 p2:Xk}(a:nsIn K Xr n=some (some (.ref f)):=by k_is)(l:K.lookup f=some ⟨oc,od,.func (fnOf n n (bp st) (be st) (ag st) .none kV dc pm an cd ct),sl⟩:=by k_is)(c:codeIn K cd n=true:=by k_is)(k:keepIn K (.ref f)=true:=by k_is)(hb:∀(kV dc pm:WV)(an:Option WS)(cd ct u0 u1 u2:WV),bindArgs (fnOf n n (bp st) (be st) (ag st) .none kV dc pm an cd ct) ⟨[u0,u1,u2],[]⟩=pure [(p0,u0),(p1,u1),(p2,u2)]:=by intros;rfl):FX K mg n st [p0,p1,p2] :=
 ⟨f,_,cJ l c k,(cJ l c k).binds λa b c d e f us hl=>by obtain⟨u0,u1,u2,rfl⟩:=us3 hl;exact hb a b c d e f u0 u1 u2,mg_of X G a⟩
noncomputable def fx4{p0 p1 p2 p3:Xk}(a:nsIn K Xr n=some (some (.ref f)):=by k_is)(l:K.lookup f=some ⟨oc,od,.func (fnOf n n (bp st) (be st) (ag st) .none kV dc pm an cd ct),sl⟩:=by k_is)(c:codeIn K cd n=true:=by k_is)(k:keepIn K (.ref f)=true:=by k_is)(hb:∀(kV dc pm:WV)(an:Option WS)(cd ct u0 u1 u2 u3:WV),bindArgs (fnOf n n (bp st) (be st) (ag st) .none kV dc pm an cd ct) ⟨[u0,u1,u2,u3],[]⟩=pure [(p0,u0),(p1,u1),(p2,u2),(p3,u3)]:=by intros;rfl):FX K mg n st [p0,p1,p2,p3] :=
 ⟨f,_,cJ l c k,(cJ l c k).binds λa b c d e f us hl=>by obtain⟨u0,u1,u2,u3,rfl⟩:=us4 hl;exact hb a b c d e f u0 u1 u2 u3,mg_of X G a⟩
noncomputable def fx5{p0 p1 p2 p3 p4:Xk}(a:nsIn K Xr n=some (some (.ref f)):=by k_is)(l:K.lookup f=some ⟨oc,od,.func (fnOf n n (bp st) (be st) (ag st) .none kV dc pm an cd ct),sl⟩:=by k_is)(c:codeIn K cd n=true:=by k_is)(k:keepIn K (.ref f)=true:=by k_is)(hb:∀(kV dc pm:WV)(an:Option WS)(cd ct u0 u1 u2 u3 u4:WV),bindArgs (fnOf n n (bp st) (be st) (ag st) .none kV dc pm an cd ct) ⟨[u0,u1,u2,u3,u4],[]⟩=pure [(p0,u0),(p1,u1),(p2,u2),(p3,u3),(p4,u4)]:=by intros;rfl):FX K mg n st [p0,p1,p2,p3,p4] :=
 ⟨f,_,cJ l c k,(cJ l c k).binds λa b c d e f us hl=>by obtain⟨u0,u1,u2,u3,u4,rfl⟩:=us5 hl;exact hb a b c d e f u0 u1 u2 u3 u4,mg_of X G a⟩
end
theorem pcF{kk k:Nat}{n:Xk}{st:Yz}{t:TA}{p:Z9}(g:FX X.K X.mg n st ps)(F:aO X.prog X.w X.K X.mg X.base CX0 k g.f g.d ps sp)(hr:Room kk X.A)(ha:PA X (e::es) t)(hle:k<=kk:=by first|decide|omega)(hg:Gl X n:=by rfl)(DK:(n == ("__debug__":Xk))=false:=by decide)(he:XE (e::es) X.env=(false,Y3 e X.env)::XE es X.env:=by rfl)(AS:(Z4 pos (XE es X.env)).any (·.1)=false:=by rfl):PE X (.Call (.Name n p) (e::es) [] pos) (cO sp [] E0 t) :=
 eO F (hr.mono hle) hg g.m g.F.kp g.b .nil gx ha DK he AS
structure TX(K:WQ)(mg:Xk->Option WV) where
 c_CALL_SIGN:∃tk,mg "CALL_SIGN"=some (.str (WT "?") tk)
 c_MOST_KIDS:∃tk,mg "MOST_KIDS"=some (.int (3) tk)
 a_HOLE:WS
 c_HOLE:mg "HOLE"=some (.ref a_HOLE)
 q_HOLE:∀H:Hp,SqT K H a_HOLE [.str (WT "*")]
 c_MOST_STATES:∃tk,mg "MOST_STATES"=some (.int (20) tk)
 c_MOST_ROWS:∃tk,mg "MOST_ROWS"=some (.int (20) tk)
 c_MOST_KNOTS:∃tk,mg "MOST_KNOTS"=some (.int (400) tk)
 c_MOST_CALLS:∃tk,mg "MOST_CALLS"=some (.int (200) tk)
 g_is_number:FX K mg "is_number" gS ["thing"]
 g_is_below:FX K mg "is_below" iT ["number","bound"]
 g_kids_of:FX K mg "kids_of" kg ["thing"]
 g_walked:FX K mg "walked" mr ["thing"]
 g_placed:FX K mg "placed" mx ["thing"]
 g_built:FX K mg "built" p7 ["tops"]
 g_places:FX K mg "places" nX ["tree"]
 g_kid_at:FX K mg "kid_at" nG ["thing","number"]
 g_knot_at:FX K mg "knot_at" kF ["tree","place"]
 g_is_call:FX K mg "is_call" j9 ["thing"]
 g_is_hole:FX K mg "is_hole" kj ["thing"]
 g_is_knot:FX K mg "is_knot" jR ["thing"]
 g_called_by:FX K mg "called_by" gC ["call"]
 g_calls_in:FX K mg "calls_in" iL ["pattern"]
 g_called_in:FX K mg "called_in" g9 ["pattern"]
 g_holes_in:FX K mg "holes_in" ja ["front"]
 g_top_of:FX K mg "top_of" nI ["part"]
 g_filled:FX K mg "filled" nM ["pattern","table"]
 g_restated:FX K mg "restated" iS ["pattern","names"]
 g_hung:FX K mg "hung" tZ ["front","parts"]
 g_same_top:FX K mg "same_top" iO ["one","two"]
 g_side_by_side:FX K mg "side_by_side" eK ["one","two"]
 g_common:FX K mg "common" og ["one","two"]
 f_Measure_init:WS
 d_Measure_init:Zl
 F_Measure_init:Fun K "__init__" "Measure.__init__" bT f_Measure_init d_Measure_init
 b_Measure_init:Binds K d_Measure_init ["self"] []
 f_Measure_takes:WS
 d_Measure_takes:Zl
 F_Measure_takes:Fun K "takes" "Measure.takes" bH f_Measure_takes d_Measure_takes
 b_Measure_takes:Binds K d_Measure_takes ["self","part","row"] []
 g_is_small:FX K mg "is_small" iW ["pattern"]
 g_ins_of:FX K mg "ins_of" nq ["book"]
 g_outs_of:FX K mg "outs_of" j1 ["book"]
 g_head_of:FX K mg "head_of" kb ["book"]
 g_rules_of:FX K mg "rules_of" i0 ["book"]
 g_states_of:FX K mg "states_of" gE ["book"]
 g_small_tree:FX K mg "small_tree" gb ["ins"]
 g_knot_above:FX K mg "knot_above" fS ["ins","kind","kids"]
 g_first_makings:FX K mg "first_makings" dE ["book"]
 g_first_front:FX K mg "first_front" fj ["book","state","made","partings"]
 g_put_links:FX K mg "put_links" gF ["book","state","front","links"]
 g_spread:FX K mg "spread" ol ["ins","links","partings"]
 g_cut_front:FX K mg "cut_front" g7 ["front","state","partings"]
 g_found_fronts:FX K mg "found_fronts" dW ["book"]
 g_fronts_of:FX K mg "fronts_of" gH ["book"]
 g_renamed:FX K mg "renamed" kM ["pattern","numbers"]
 g_numbered:FX K mg "numbered" iV ["ins","outs","head","patterns_of"]
 g_early_table:FX K mg "early_table" ff ["fronts"]
 g_checked:FX K mg "checked" jY ["pattern"]
 g_earliest:FX K mg "earliest" bU ["book"]
 tc_earliest:WS
 tp_earliest:WS
 th_earliest:g_earliest.d.code=.ref tc_earliest
 g__law_cell_at:FX K mg "_law_cell_at" eJ ["script","k"]
 g__law_mixed:FX K mg "_law_mixed" ga ["cell","k"]
 g__law_name:FX K mg "_law_name" gK ["base","n"]
 g__law_kinds:FX K mg "_law_kinds" fR ["base","menu"]
 g__law_pattern:FX K mg "_law_pattern" eC ["cell","deep","outs","states","kids"]
 g__law_capped:FX K mg "_law_capped" cg ["seed","cell","deep","outs","states","kids"]
 g__law_cells:FX K mg "_law_cells" fQ ["script","many"]
 g__law_book:FX K mg "_law_book" gv ["script"]
 g__law_tree:FX K mg "_law_tree" gM ["cell","deep","ins"]
 g__law_by:FX K mg "_law_by" j0 ["book","state","tree"]
 g__law_put:FX K mg "_law_put" i8 ["book","pattern","kids"]
 g_law:FX K mg "law" jn ["script"]
 e_Measure:WS
 x_Measure:mg "Measure"=some (.ref e_Measure)
 cl_Measure:Cls K e_Measure
 mk_Measure:Mk K e_Measure f_Measure_init
 na_Measure_met_knots:NoAttr K e_Measure "met_knots"
 na_Measure_met_calls:NoAttr K e_Measure "met_calls"
 me_Measure_takes:Meth K e_Measure "takes" f_Measure_takes
 n_bool:mg "bool"=none
 n_dict:mg "dict"=none
 n_enumerate:mg "enumerate"=none
 n_int:mg "int"=none
 n_isinstance:mg "isinstance"=none
 n_len:mg "len"=none
 n_list:mg "list"=none
 n_max:mg "max"=none
 n_min:mg "min"=none
 n_range:mg "range"=none
 n_reversed:mg "reversed"=none
 n_tuple:mg "tuple"=none
 n_zip:mg "zip"=none
theorem zC:([WT "number",WT "kid",WT "place"]:List Xk).Nodup:=by decide +kernel
theorem adp:([WT "number",WT "done"]:List Xk).Nodup:=by decide +kernel
theorem aci:([WT "place",WT "knot"]:List Xk).Nodup:=by decide +kernel
theorem aao:([WT "place",WT "part"]:List Xk).Nodup:=by decide +kernel
theorem zT:([WT "name",WT "many"]:List Xk).Nodup:=by decide +kernel
theorem ac7:([WT "kid",WT "kids",WT "ins"]:List Xk).Nodup:=by decide +kernel
theorem adm:([WT "state",WT "book",WT "made",WT "partings"]:List Xk).Nodup:=by decide +kernel
theorem ace:([WT "state",WT "front",WT "partings"]:List Xk).Nodup:=by decide +kernel
theorem ac5:([WT "kid",WT "row"]:List Xk).Nodup:=by decide +kernel
theorem adh:([WT "part"]:List Xk).Nodup:=by decide +kernel
theorem ab1:([WT "pattern",WT "numbers"]:List Xk).Nodup:=by decide +kernel
theorem acE:([WT "hole",WT "kid",WT "state"]:List Xk).Nodup:=by decide +kernel
theorem ack:([WT "pattern",WT "place",WT "table"]:List Xk).Nodup:=by decide +kernel
theorem acy:([WT "n",WT "base",WT "menu"]:List Xk).Nodup:=by decide +kernel
theorem aaR:([WT "kind",WT "deep"]:List Xk).Nodup:=by decide +kernel
theorem abZ:([WT "j",WT "outs",WT "states",WT "kids",WT "cell",WT "deep"]:List Xk).Nodup:=by decide +kernel
theorem ab8:([WT "kind",WT "seed"]:List Xk).Nodup:=by decide +kernel
theorem acB:([WT "k"]:List Xk).Nodup:=by decide +kernel
theorem acF:([WT "j",WT "ins",WT "cell",WT "deep"]:List Xk).Nodup:=by decide +kernel
theorem ab4:([WT "kind"]:List Xk).Nodup:=by decide +kernel
theorem acH:([WT "part",WT "book",WT "kids"]:List Xk).Nodup:=by decide +kernel
section
variable(T:TX K mg)
inductive lg(K:WQ)(vs:List V)(H:Hp)(Q:VK)(_E:XK):Prop
 |mk {rq:Rep} (a:WS) (t:Th) (An:vs=[.ref a]) (Ao:AtK rq K H t a) (Au:∀(r:WS)(as:List WS)(H':Hp),k! H H'->H' r=some (.tup (as.map i!))->AtsK rq K H' t.kids as->Q (.ref r) H'):lg K vs H Q _E
def uJ(K:WQ):Sp:=lg K
theorem d4:aO P w K mg base CX0 1 T.g_kids_of.f T.g_kids_of.d ["thing"] (uJ K):=by
 refine T.g_kids_of.F.okA uh λAi A outer s H vs Q E hr h=>?_;obtain@⟨rq,a,t,rfl,hA,k⟩:=h
 refine⟨_,(ad (cB (bn fA (aF aL (pv 0) ai (λ_ _=>rfl)) (cz (v:=.str (WT "?")) rfl T.c_CALL_SIGN.choose_spec ⟨_,rfl⟩) (bc _)) (af (az (aD ab))) bN)
  (af (az (cR iU (pv 0) (dk ai) dM)))),?_⟩
 try dsimp only[AA,Ae]
 cases t with
 | knot n ks =>
   rw[AtK]at hA;refine hid λZZ kZ=>?_;obtain⟨hn,as,h1,h2⟩:=hA;refine kZ ?_;refine⟨_,rfl,a,_,0,.str n,rfl,rfl,h1.sq,at0,rfl,_,rfl,?_⟩;refine cT (λc=>g! (e! c) (λz=>hn (V.str.inj z))) (λ_=>?_);refine⟨_,rfl,1,rfl,a,_,rfl,h1.sq,?_,λr hr=>?_⟩
   .intro z;have:=z.1;simp[z!]at this
   .rw[fF];exact k r as _ (ae hr _) ac (h2.mono (dD hr))
 | call sn kn =>
   rw[AtK]at hA;obtain⟨v,hA,_⟩:=hA;refine⟨_,rfl,a,_,0,.str q,rfl,rfl,hA.sq,at0,rfl,_,rfl,?_⟩;refine cT (λ_=>?_) (λc=>g! (d! rfl) c);refine⟨by show 0<=Xe;decide,λr hr=>?_⟩;exact k r [] _ (ae hr _) ac .nil
inductive nv(K:WQ)(vs:List V)(H:Hp)(Q:VK)(_E:XK):Prop
 |mk {rq:Rep} (a:WS) (t:Th) (An:vs=[.ref a]) (Ao:AtK rq K H t a) (Au:t.size<=100000) (AD:∀(r:WS)(as:List WS)(H':Hp),k! H H'->H r=none->H' r=some (.lst (as.map i!))->AtsK rq K H' t.walk as->Q (.ref r) H'):nv K vs H Q _E
def wk(K:WQ):Sp:=nv K
theorem jS:aO P w K mg base CX0 2 T.g_walked.f T.g_walked.d ["thing"] (wk K):=by
 refine T.g_walked.F.okA hX λAi A outer s H vs Q E hr h=>?_;obtain@⟨rq,a,t,rfl,hA,hsz,k⟩:=h
 refine⟨_,(ad (au 1 hX.nd (bx ab))
  (ad (au 2 hX.nd (bx (aa (pv 0) ab)))
  (ad (eF Xz (bq (pv 2) (λ_=>rfl)) (ad (au 3 hX.nd (kJ Xd ZF ZE jZ (pv 2)))
  (ad (aU (bS Xd Xx Xw aS (pv 1) (aa (pv 3) ab)))
  (af (aU (bS Xd Z1 Z0 uB (pv 2) (aa (vB abe (pcF T.g_kids_of (d4 T) hr (aa (pv 3) ab))) ab)))))))
  (af (az (pv 1)))))),?_⟩
 try dsimp only[AA,Ae]
 refine⟨by show 0<=Xe;decide,λmt Cu=>?_⟩;refine⟨_,rfl,by show 1<=Xe;decide,λah BG=>?_⟩;have Cb:H ah=none:=(ae Cu _).free BG;have Av:ah≠mt:=λz=>by rw[z,ac]at BG;cases BG
 refine⟨λm Z H2=>Ex5 λ(ms as:List WS)(Ms As:List Th)(p:Option V)=>An8 (Z=[some (.ref a),some (.ref mt),some (.ref ah),p]) (k! H H2) (H2 mt=some (.lst (ms.map i!))) (H2 ah=some (.lst (as.map i!))) (AtsK rq K H2 Ms ms) (AtsK rq K H2 As as) (Ms++walks As.reverse=t.walk) (m=aw As),⟨_,[],[a],[],[t],none,rfl,?_,?_,?_,.nil,.cons (hA.mono ?_) .nil,?_,rfl⟩,?_⟩
 .exact am (ae Cu _) Cb
 .rw[aj Av.symm,ac];rfl
 .rw[ac];rfl
 .exact j! (am (ae Cu _) Cb)
 .simp[walks]
 rintro m Z H2 ⟨ms,as,Ms,As,p,rfl,sm,e1,e2,a1,a2,hw,rfl⟩
 have hlen:ms.length+aw As<=100000:=by
  have h1:=h! ZX hw;rw[Xg,jT,L!,<-a1.length]at h1;have h2:=pf As;omega
 refine⟨_,rfl,_,.inl ⟨_,l! e2,rfl⟩,?_⟩;refine cT (λc=>?_) (λc=>?_)
 ·-- a part is taken off
  refine⟨λAb H'=>∃m',m'<aw As/\Ex5 λ(ms as:List WS)(Ms As:List Th)(p:Option V)=>An8 (Ab=[some (.ref a),some (.ref mt),some (.ref ah),p]) (k! H H') (H' mt=some (.lst (ms.map i!))) (H' ah=some (.lst (as.map i!))) (AtsK rq K H' Ms ms) (AtsK rq K H' As as) (Ms++walks As.reverse=t.walk) (m'=aw As),λAb H' h=>h,?_⟩;have Bg:as≠[]:=by intro z;subst z;simp at c
  obtain⟨Ax,b,rfl⟩:∃Ax b,as=Ax++[b]:=⟨as.dropLast,as.getLast Bg,(Y2 Bg).symm⟩;obtain⟨Us,x,rfl,a3,a4⟩:=a2.snoc_inv;have hs:aw (Us++[x])=aw Us+x.size:=by rw[bJ,aw,aw];omega
  have Fp:=x.size_eq;rw[hs]at hlen;refine⟨_,rfl,.inl ⟨rfl,_,l! e2⟩,ah,_,.ref b,rfl,rfl,e2,by simp,?_⟩;have d1:((Ax++[b]).map i!).dropLast=Ax.map i!:=by simp
  rw[d1];refine⟨_,rfl,.inl ⟨rfl,_,l! (by rw[aj Av.symm];exact e1)⟩,_,rfl,mt,_,.ref b,rfl,rfl,by rw[aj Av.symm];exact e1,lbE (by omega),?_⟩;have k1:KT H2 (upd (upd H2 ah (.lst (Ax.map i!))) mt (.lst (ms.map i!++[.ref b]))):=(aK e2).trans (aK (xs:=ms.map i!) (by rw[aj Av.symm];exact e1));refine⟨_,rfl,.inl ⟨rfl,_,l! (by rw[aj Av,ac])⟩,_,rfl,b,x,rfl,a4.mono k1,λr ks H3 s3 e3 a5=>?_⟩;refine⟨r,_,rfl,n! e3,λl hl=>?_⟩;have l1:l≠ah:=λz=>by rw[z,s3 ah _ (by rw[aj Av,ac])]at hl;cases hl
  have l2:l≠mt:=λz=>by rw[z,s3 mt _ ac]at hl;cases hl
  refine⟨ah,l,_,_,rfl,rfl,by rw[aj l1.symm];exact s3 ah _ (by rw[aj Av,ac]),n! ac,ZV (bQ ?_),?_⟩
  .have q1:=a3.length;have q2:=a5.length;have q3:=cw Us;have q4:=cw x.kids;rw[WO,Yt,WO];omega
  .have k2:KT H2 (upd (upd H3 l (.tup (ks.map i!).reverse)) ah (.lst (Ax.map i!++(ks.map i!).reverse))) :=
    k1.trans ((j! s3).trans ((dD hl).trans (aK (xs:=Ax.map i!) (by rw[aj l1.symm];exact s3 ah _ (by rw[aj Av,ac])))))
   have k3:KT H3 (upd (upd H3 l (.tup (ks.map i!).reverse)) ah (.lst (Ax.map i!++(ks.map i!).reverse))) :=
    (dD hl).trans (aK (xs:=Ax.map i!) (by rw[aj l1.symm];exact s3 ah _ (by rw[aj Av,ac])))
   refine⟨aw (Us++x.kids.reverse),?_,ms++[b],Ax++ks.reverse,Ms++[x],Us++x.kids.reverse,some (.ref b),rfl,?_,?_,?_,?_,?_,?_,rfl⟩
   .rw[bJ,pf,hs];omega
   .have s4:k! H (upd (upd H2 ah (.lst (Ax.map i!))) mt (.lst (ms.map i!++[.ref b]))):=am (am sm Cb) Cu;have nl:H l=none:=s4.free (s3.free hl);exact am (am (s4.trans s3) nl) Cb
   .rw[aj Av.symm,aj l2.symm,s3 mt _ ac,Xc];rfl
   .rw[ac,Xc,List.map_reverse]
   .exact(a1.mono k2).append (.cons (a4.mono k2) .nil)
   .exact(a3.mono k2).append (a5.mono k3).reverse
   .rw[<-hw,XS,YC,YC,Y5,jI];show Ms++([x]++(walks x.kids++walks Us.reverse))=Ms++walks (x::Us.reverse);rw[walks,x.walk_eq];rfl
 .have hz:as=[]:=by
   cases as with
   |nil=>rfl
   |cons y ys=>simp at c
  subst hz;have EA:As=[]:=X6.mp a2.length.symm;subst EA;refine⟨_,rfl,k mt ms H2 sm Cu e1 ?_⟩;have EX:Ms=t.walk:=by simpa[walks]using hw
  rw[<-EX];exact a1
inductive nO(K:WQ)(vs:List V)(H:Hp)(Q:VK)(_E:XK):Prop
 |mk (a:WS) (t:Th) (An:vs=[.ref a]) (Ao:AtK .i K H t a) (Au:t.size<=100000) (AD:t.tall<=100000) (AR:∀(r:WS)(as:List WS)(H':Hp),k! H H'->H r=none->H' r=some (.lst (as.map i!))->PsAtK K H' (t.pl []) as->Q (.ref r) H'):nO K vs H Q _E
def xc(K:WQ):Sp:=nO K
theorem io:aO P w K mg base CX0 2 T.g_placed.f T.g_placed.d ["thing"] (xc K):=by
 refine T.g_placed.F.okA dO λAi A outer s H vs Q E hr h=>?_;obtain⟨a,t,rfl,hA,hsz,AB,k⟩:=h
 refine⟨_,(ad (au 1 dO.nd (bx ab))
  (ad (au 2 dO.nd (bx (aa (aD (aa (aD ab) (aa (pv 0) ab))) ab)))
  (ad (eF Xz (bq (pv 2) (λ_=>rfl)) (ad (fg (kJ Xd ZF ZE jZ (pv 2)) (bj rfl (ak (pgN 3 dO.nd) (ak (pgN 4 dO.nd) aT))))
  (ad (aU (bS Xd Xx Xw aS (pv 1) (aa (aD (aa (pv 3) (aa (pv 4) ab))) ab)))
  (ad (dq (i:=5) (N:=[WT "number",WT "kid",WT "place"]) (js:=[none,none,some 3]) (g:=(oJ K 2 (cW (aq 0) (cW (aq 1) oM)))) (tt:=bw) (te:=(lM (aG (tOp (rG K) (aX 2) (lM (aG (aX 0) cC))) (aG (aX 1) cC)))) dO.nd rfl (Or.inl rfl) rfl (bY rfl (by decide +kernel) (by decide +kernel) rfl rfl rfl) (pV rfl T.n_enumerate (pcF T.g_kids_of (d4 T) hr (aa (pv 4) ab))) (λ_ _ _ _ _ _=>(bj rfl (ak (pgN 0 zC) (ak (pgN 1 zC) aT)))) (gG (bP aY (aI rfl) (bP aY (aI rfl) gN))) (λ_ _ _ _ _ _=>bF) (λ_ _ _ _ _ _=>(aD (aa (aB dN (pv 2) (aD (aa (pv 0) ab))) (aa (pv 1) ab)))))
  (af (aU (bS Xd Z1 Z0 ig (pv 2) (aa (vB zr (pv 5)) ab))))))))
  (af (az (pv 1)))))),?_⟩
 try dsimp only[AA,Ae]
 refine⟨lnE rfl,λmt Cu=>?_⟩;have s1:k! H (upd H mt (.lst [])):=ae Cu _;have Hm:(upd H mt (.lst [])) mt=some (.lst []):=ac;generalize upd H mt (.lst [])=H1 at s1 Hm |-;refine⟨lnE rfl,λp0 Fq=>?_⟩;refine⟨_,rfl,lnE rfl,λp1 DB=>?_⟩;refine⟨lnE rfl,λah BG=>?_⟩;have s2:k! H1 (upd (upd H1 p0 (.tup [])) p1 (.tup [.ref p0,.ref a])):=(ae Fq _).trans (ae DB _);have e1:(upd (upd H1 p0 (.tup [])) p1 (.tup [.ref p0,.ref a])) p1=some (.tup [.ref p0,.ref a]):=ac;have e0:(upd (upd H1 p0 (.tup [])) p1 (.tup [.ref p0,.ref a])) p0=some (.tup []):=ae DB _ _ _ ac;generalize(upd (upd H1 p0 (.tup [])) p1 (.tup [.ref p0,.ref a]))=H2 at s2 e1 e0 BG |-;have Dn:H1 ah=none:=s2.free BG;have Cb:H ah=none:=s1.free Dn;have Av:ah≠mt:=λz=>by rw[z,Hm]at Dn;cases Dn
 refine⟨λm Z H3=>Ex7 λ(ms as:List WS)(Ms As:List (List Int×Th))(c3 c4 c5:Option V)=>An9 (Z=[some (.ref a),some (.ref mt),some (.ref ah),c3,c4,c5]) (k! H H3) (H3 mt=some (.lst (ms.map i!))) (H3 ah=some (.lst (as.map i!))) (PsAtK K H3 Ms ms) (PsAtK K H3 As as) (Ms++plP As.reverse=t.pl []) ((∀p∈As,p.1.length+p.2.tall<=100000)) (m=szP As),⟨_,[],[p1],[],[([],t)],none,none,none,rfl,?_,?_,?_,.nil,.cons ⟨p0,a,?_,?_,?_⟩ .nil,?_,?_,rfl⟩,?_⟩
 .exact am (s1.trans s2) Cb
 .rw[aj Av.symm];exact s2 _ _ Hm
 .rw[ac];rfl
 .exact ae BG _ _ _ e1
 .exact ae BG _ _ _ e0
 .exact hA.mono (j! (am (s1.trans s2) Cb))
 .simp[plP]
 .intro p hp;rw[W7]at hp;subst hp;simpa using AB
 rintro m Z H3 ⟨ms,as,Ms,As,c3,c4,c5,rfl,sm,em,ea,a1,a2,hw,hb,rfl⟩
 have hlen:ms.length+szP As<=100000:=by
  have h1:=h! ZX hw;rw[Xg,wg,D!,lZ]at h1;have h2:=W5 a1;omega
 refine⟨_,rfl,_,.inl ⟨_,l! ea,rfl⟩,?_⟩;refine cT (λc=>?_) (λc=>?_)
 .refine⟨λAb H'=>∃m',m'<szP As/\Ex7 λ(ms as:List WS)(Ms As:List (List Int×Th))(c3 c4 c5:Option V)=>An9 (Ab=[some (.ref a),some (.ref mt),some (.ref ah),c3,c4,c5]) (k! H H') (H' mt=some (.lst (ms.map i!))) (H' ah=some (.lst (as.map i!))) (PsAtK K H' Ms ms) (PsAtK K H' As as) (Ms++plP As.reverse=t.pl []) ((∀p∈As,p.1.length+p.2.tall<=100000)) (m'=szP As),λAb H' h=>h,?_⟩;have Bg:as≠[]:=by intro z;subst z;simp at c
  refine hid λZZ kZ=>?_;obtain⟨Ax,b,rfl⟩:∃Ax b,as=Ax++[b]:=⟨as.dropLast,as.getLast Bg,(Y2 Bg).symm⟩;obtain⟨Us,⟨pre,x⟩,rfl,a3,pa,ta,eb,BY,CS⟩:=P2.snoc_inv a2;refine kZ ?_;have JU:szP (Us++[(pre,x)])=szP Us+x.size:=by rw[cK,szP,szP];rfl
  have Fp:=x.size_eq;rw[JU]at hlen;have Mc:=hb (pre,x) (by simp);simp only at Mc BY CS;refine⟨_,rfl,.inl ⟨rfl,_,l! ea⟩,ah,_,.ref b,rfl,rfl,ea,by simp,?_⟩;have d1:((Ax++[b]).map i!).dropLast=Ax.map i!:=by simp
  rw[d1];have k1:KT H3 (upd H3 ah (.lst (Ax.map i!))):=aK ea;have Gj:k! H (upd H3 ah (.lst (Ax.map i!))):=am sm Cb;have DC:(upd H3 ah (.lst (Ax.map i!))) mt=some (.lst (ms.map i!)):=by rw[aj Av.symm];exact em
  have Hn:(upd H3 ah (.lst (Ax.map i!))) ah=some (.lst (Ax.map i!)):=ac;generalize(upd H3 ah (.lst (Ax.map i!)))=H4 at k1 Gj DC Hn |-;refine⟨b,_,rfl,n! (k1 _ _ eb),rfl,_,_,rfl,_,_,rfl,rfl,?_⟩
  refine⟨_,rfl,.inl ⟨rfl,_,l! DC⟩,_,rfl,_,rfl,lnE rfl,λpr Bz=>?_⟩;have Oa:mt≠pr:=ax DC Bz;refine⟨mt,_,_,rfl,rfl,ae Bz _ _ _ DC,lbE (by omega),?_⟩;have Ob:(upd H4 pr (.tup [.ref pa,.ref ta])) mt=some (.lst (ms.map i!)):=ae Bz _ _ _ DC;have k2:KT H4 (upd (upd H4 pr (.tup [.ref pa,.ref ta])) mt (.lst (ms.map i!++[.ref pr]))):=(dD Bz).trans (aK Ob);have Oc:k! H (upd (upd H4 pr (.tup [.ref pa,.ref ta])) mt (.lst (ms.map i!++[.ref pr]))):=am (am Gj (Gj.free Bz)) Cu;have RU:(upd (upd H4 pr (.tup [.ref pa,.ref ta])) mt (.lst (ms.map i!++[.ref pr]))) mt=some (.lst ((ms++[pr]).map i!)):=uAE;have RV:(upd (upd H4 pr (.tup [.ref pa,.ref ta])) mt (.lst (ms.map i!++[.ref pr]))) ah=some (.lst (Ax.map i!)):=by rw[aj Av,aj (ax Hn Bz)];exact Hn
  have Iz:(upd (upd H4 pr (.tup [.ref pa,.ref ta])) mt (.lst (ms.map i!++[.ref pr]))) pr=some (.tup [.ref pa,.ref ta]):=by rw[aj Oa.symm,ac]
  generalize(upd (upd H4 pr (.tup [.ref pa,.ref ta])) mt (.lst (ms.map i!++[.ref pr])))=H5 at k2 Oc RU RV Iz |-;have IC:KT H3 H5:=k1.trans k2;have Od:=IC _ _ BY
  refine⟨_,rfl,ta,x,rfl,CS.mono IC,λr ks H6 s6 er C2=>⟨r,rfl,⟨_,n! er⟩,?_⟩⟩;have CN:ks.length=x.kids.length:=C2.length;have JV:=cw x.kids;intro D hD;have Oe:=s6 _ _ Od;refine⟨ks.length,λj H7=>An3 (j<=ks.length) (k! H6 H7) (Ex1 λ(bs:List WS)=>An2 (H7 D=some (.lst (bs.map i!))) (PsAtK K H7 ((cV pre 0 x.kids).take j) bs)),⟨Xi _,ae hD _,[],ac,.nil⟩,?_⟩;rintro j H7 ⟨hj,s7,bs,eD,Ar⟩;by_cases Cc:j=ks.length
  .left;refine⟨⟨_,n! (s7 _ _ er),by rw[WO];exact Cc.symm⟩,?_⟩;have Aa:(cV pre 0 x.kids).take j=cV pre 0 x.kids:=by rw[Cc,CN,<-gA pre 0 x.kids,YR]
   rw[Aa]at Ar;have Of:=s7 _ _ (s6 _ _ RV);have JW:=s7 _ _ (s6 _ _ RU)
   have Bi:bs.length=x.kids.length:=by
    have:=W5 Ar;rw[gA]at this;exact this.symm
   refine⟨_,rfl,.inl ⟨rfl,_,l! Of⟩,_,rfl,D,_,rfl,l! eD,λl hl=>?_⟩;have Ff:ah≠l:=ax Of hl;have DS:mt≠l:=ax JW hl;have JX:(upd H7 l (.lst (bs.map i!).reverse)) ah=some (.lst (Ax.map i!)):=by rw[aj Ff];exact Of
   have q3:Ax.length=Us.length:=(W5 a3).symm;have q4:=qu Us;refine⟨ah,l,_,_,rfl,rfl,JX,ac,di ?_,?_⟩
   .rw[WO,Yt,WO];omega
   have k8:KT H7 (upd (upd H7 l (.lst (bs.map i!).reverse)) ah (.lst (Ax.map i!++(bs.map i!).reverse))):=(dD hl).trans (aK JX);have Gk:KT H3 (upd (upd H7 l (.lst (bs.map i!).reverse)) ah (.lst (Ax.map i!++(bs.map i!).reverse))):=IC.trans ((j! (s6.trans s7)).trans k8);refine⟨szP (Us++(cV pre 0 x.kids).reverse),?_,ms++[pr],Ax++bs.reverse,Ms++[(pre,x)],Us++(cV pre 0 x.kids).reverse,_,_,_,rfl,?_,?_,?_,?_,?_,?_,?_,rfl⟩
   .rw[cK,lZ,jg,JU];omega
   .exact am (am ((Oc.trans s6).trans s7) ((Oc.trans s6).trans s7 |>.free hl)) Cb
   .rw[aj Av.symm,aj DS];exact JW
   .rw[ac,Xc,List.map_reverse]
   .exact t! (a1.mono Gk) (.cons ⟨pa,ta,k8 _ _ (s7 _ _ (s6 _ _ Iz)),Gk _ _ BY,CS.mono Gk⟩ .nil)
   .exact t! (J! Gk a3) (P2.reverse (J! k8 Ar))
   .rw[<-hw,XS,YC,YC,Y5,mZ,rR];show Ms++([(pre,x)]++(pls pre 0 x.kids++plP Us.reverse))=Ms++plP ((pre,x)::Us.reverse);rw[plP,x.pl_eq pre];rfl
   .intro p hp;rcases Xq.mp hp with hp|hp
    .exact hb p (XH _ hp)
    .obtain⟨g1,g2⟩:=ni pre 0 x.kids p (List.mem_reverse.mp hp);have:=qO g2;omega
  .right;have Ay:j<ks.length:=by omega
   refine⟨Ay,⟨_,.ref ks[j],n! (s7 _ _ er),by rw[W0,WR Ay];rfl⟩,?_⟩;rintro y H8 ⟨p,v,hp,rfl,rfl,hv⟩;have BE:=hv _ (n! (s7 _ _ er));obtain⟨kd,rfl,Fm⟩:=aR BE;obtain⟨tk,AU,Og⟩:=C2.get Fm;have s8:k! H7 (upd H7 p (.tup [.int (j:Nat),.ref kd])):=ae hp _;refine⟨p,_,rfl,n! ac,rfl,_,_,rfl,_,_,rfl,rfl,?_⟩;generalize(upd H7 p (.tup [.int (j:Nat),.ref kd]))=H8 at s8 |-;refine⟨_,rfl,_,rfl,lnE rfl,λn1 Gm=>?_⟩;refine gU Gm λH9 s9 e9=>?_;refine pX (s9 _ _ (s8 _ _ (s7 _ _ Oe))) e9 (by rw[WO];show pre.length+1<=1000000;omega) λn2 BK A8 JY=>?_;refine⟨_,rfl,lnE rfl,λn3 Gn=>?_⟩;have B9:k! H7 (upd BK n3 (.tup [.ref n2,.ref kd])):=(s8.trans (s9.trans A8)).trans (ae Gn _);have JZ:=B9 _ _ eD;refine⟨_,JZ,bQ ?_,Ay,?_,bs++[n3],?_,?_⟩
   .have:=W5 Ar;rw[XO]at this;rw[WO];omega
   .exact am (s7.trans B9) hD
   .rw[ac,Xc];rfl
   .have Md:KT (upd BK n3 (.tup [.ref n2,.ref kd])) (upd (upd BK n3 (.tup [.ref n2,.ref kd])) D (.lst (bs.map i!++[.ref n3]))):=aK JZ;rw[Yi,nC pre 0 x.kids j tk AU];refine t! (J! ((j! B9).trans Md) Ar) (.cons ⟨n2,kd,Md _ _ ac,Md _ _ (ae Gn _ _ _ ?_),?_⟩ .nil)
    .rw[JY,Xc,YA];rfl
    .exact Og.mono ((j! (s7.trans B9)).trans Md)
 .have hz:as=[]:=by
   cases as with
   |nil=>rfl
   |cons y ys=>simp at c
  subst hz;have EA:As=[]:=X6.mp (W5 a2);subst EA;refine⟨_,rfl,k mt ms H3 sm Cu em ?_⟩;have EX:Ms=t.pl []:=by simpa[plP]using hw
  rw[<-EX];exact a1
inductive oW(K:WQ)(vs:List V)(H:Hp)(Q:VK)(_E:XK):Prop
 |mk {rq:Rep} (l:WS) (as:List WS) (tops:List Top) (u:Th) (An:vs=[.ref l]) (Ao:H l=some (.lst (as.map i!))) (Au:Xs (TopAtK rq K H) tops as) (AD:tops.length<=100000) (AR:TopsOk tops) (BX:(∀t,Top.th t∈tops->t.size<=100000)) (D5:bl tops=[u]) (Eh:∀(r:WS)(H':Hp),k! H H'->AtK rq K H' u r->Q (.ref r) H'):oW K vs H Q _E
def xN(K:WQ):Sp:=oW K
theorem jJ:aO P w K mg base CX0 1 T.g_built.f T.g_built.d ["tops"] (xN K):=by
 refine T.g_built.F.okA je λAi A outer s H vs Q E hr h=>?_;obtain@⟨rq,l,as,tops,u,rfl,el,hT,hlen,hok,Oh,hu,k⟩:=h
 refine⟨_,(ad (au 1 je.nd (bx ab))
  (ad (bE Xz rfl (abD rfl T.n_reversed (pv 0)) (bj rfl (ak (pgN 2 je.nd) (ak (pgN 3 je.nd) aT))) (af (cB (bn pc (pv 3) ai (bc _)) (af (aU (bS Xd Xx Xw aS (pv 1) (aa (aB dN (pv 2) (bh ba rfl T.n_tuple Yg (aa (bW (N:=[WT "number",WT "done"]) (js:=[none,some 1]) (g:=(aq 0)) (tt:=bw) (te:=(acx K "list" (acs) (aX 1))) rfl (bY rfl (by decide +kernel) (by decide +kernel) rfl rfl rfl) (bA rfl T.n_range (aa (pv 3) ab)) (λ_ _ _ _ _ _=>(pgN 0 adp)) (aI rfl) (λ_ _ _ _ _ _=>bF) (λ_ _ _ _ _ _=>(kJ Xd ZF ZE jZ (pv 1)))) ab))) ab)))) (af (aU (bS Xd Xx Xw aS (pv 1) (aa (pv 2) ab)))))))
  (af (az (aF bu (pv 1) ai (λ_ _=>rfl)))))),?_⟩
 try dsimp only[AA,Ae]
 have Bb:tops.length=as.length:=W5 hT;refine⟨lnE rfl,λdn Me=>?_⟩;refine⟨_,rfl,l,_,rfl,l! (ae Me _ _ _ el),?_⟩
 refine aam (K:=K) (a:=l) (xs:=as.map i!) (λi Z H2=>Ex3 λc2 c3 ds=>An4 (Z=[some (.ref l),some (.ref dn),c2,c3]) (k! H H2) (H2 dn=some (.lst (ds.map i!))) (AtsK rq K H2 (bl (tops.drop (tops.length - i))).reverse ds))
  ⟨none,none,[],rfl,ae Me _,ac,by rw[Nat.sub_zero,List.drop_length];exact .nil⟩ (λi Z H2 _⟨_,_,_,_,s2,_,_⟩=>l! (s2 _ _ el)) ?_ ?_
 .rintro i y Z H2 hi hy ⟨c2,c3,ds,rfl,s2,Fs,Bq⟩;rw[WO,<-Bb]at hi hy;obtain⟨pr,rfl,Bz⟩:=aR hy;obtain⟨x,hx,Oi⟩:=C! hT Bz;have J0:=Oi.mono (j! s2);have hn:tops.length - 1 - i<tops.length:=by omega
  have Mf:tops.drop (tops.length - 1 - i)=x::tops.drop (tops.length - i):=by
   rw[List.drop_eq_getElem_cons hn,show tops.length - 1 - i+1=tops.length - i by omega];congr 1;rw[WR hn]at hx;exact Xm hx
  have Ft:=hok.drop (tops.length - 1 - i);rw[Mf]at Ft;have Gp:tops.length - (i+1)=tops.length - 1 - i:=by omega
  have NB:(bl (tops.drop (tops.length - i))).length<=100000:=by
   have:=uk (tops.drop (tops.length - i));rw[List.length_drop]at this;omega
  generalize tops.drop (tops.length - i)=S at Mf Bq Ft NB;refine hid λZZ kZ=>?_
  obtain⟨ta,m,xs,Iz,eta,hm,hxl,B2⟩:∃(ta:WS)(m:Nat)(xs:List V),H2 pr=some (.tup [.ref ta,.int (m:Nat)])/\TK K H2 ta xs/\m<=(bl S).length/\xs.length<=200000/\∀(H':Hp)(p:WS)(ks:List WS),KT H2 H'->AtsK rq K H' ((bl S).take m) ks->TK K H' p (xs++ks.map i!)->∃u',bl (x::S)=u'::(bl S).drop m/\AtK rq K H' u' p:=by
   cases x with
   | nm n m =>
     rw[TopsOk]at Ft;obtain⟨ta,h1,h2,h3⟩:=J0;refine⟨ta,m,_,h1,h3,Ft.1,(by show 1<=200000;decide),λH' p ks kt hk hp=>⟨_,by rw[bl],?_⟩⟩;rw[AtK];exact⟨h2,ks,hp,hk⟩
   | th t =>
     obtain⟨ta,h1,h2⟩:=J0;obtain⟨xs,h3,hw,h4⟩:=h2.whole;have AJ:=Oh t (WU hx);refine⟨ta,0,_,h1,h3,Xi _,by omega,λH' p ks kt hk hp=>⟨t,by rw[bl,List.drop_zero],?_⟩⟩;rw[List.take_zero,AtsK]at hk;subst hk;rw[Zb,XA]at hp;exact h4 _ _ kt hp
  refine kZ ?_;refine⟨pr,_,rfl,n! Iz,rfl,_,_,rfl,_,_,rfl,rfl,?_⟩;have Oj:=Bq.length;rw[Yt]at Oj;refine ce (λb H'=>An2 (H'=H2) (b=decide ((0:Int)<(m:Int)))) (λkk AW=>?_) (λH' hb=>?_) (λH' hb=>?_)
  .exact⟨_,rfl,_,_,rfl,rfl,_,rfl,AW _ _ ⟨rfl,rfl⟩⟩
  rotate_left
  .obtain⟨rfl,hb⟩:=hb
   have Vd:m=0:=by
    have:=of_decide_eq_false hb.symm;omega
   subst Vd;obtain⟨u',Ca,Cd⟩:=B2 H' ta [] (j! (.refl _)) (by rw[List.take_zero];exact .nil) (by rw[Zb,XA];exact eta);refine⟨_,rfl,.inl ⟨rfl,_,l! Fs⟩,_,rfl,dn,_,_,rfl,rfl,Fs,lbE (by omega),?_⟩;have k6:KT H' (upd H' dn (.lst (ds.map i!++[.ref ta]))):=aK Fs;refine⟨_,_,ds++[ta],rfl,?_,uAE,?_⟩
   .intro b o e;rw[aj (ax e Me)];exact s2 b o e
   .rw[Gp,Mf,Ca,X9];rw[List.drop_zero];exact(Bq.mono k6).append (.cons (Cd.mono k6) .nil)
  obtain⟨rfl,hb⟩:=hb;refine⟨_,rfl,.inl ⟨rfl,_,l! Fs⟩,_,rfl,?_⟩;refine⟨_,rfl,(m:Int),rfl,by omega,by omega,λD hD=>?_⟩;have Ol:D≠dn:=λz=>by rw[z,Fs]at hD;cases hD
  have Cu:((m:Nat):Int).toNat=m:=XM m
  refine⟨m,λj H3=>An3 (j<=m) ((∀b o,H' b=some o->b≠dn->H3 b=some o)) (Ex2 λ(Fu ks:List WS)=>An4 (H3 dn=some (.lst (Fu.map i!))) (H3 D=some (.lst (ks.map i!))) (AtsK rq K H3 ((bl S).drop j).reverse Fu) (AtsK rq K H3 ((bl S).take j) ks)),
   ⟨Xi _,λb o e hb=>?_,ds,[],?_,?_,?_,?_⟩,?_⟩
  .rw[aj (ax e hD)];exact e
  .rw[aj Ol.symm];exact Fs
  .rw[ac];rfl
  .rw[List.drop_zero];exact Bq.mono (dD hD)
  .rw[List.take_zero];exact .nil
  rintro j H3 ⟨hj,kp,Fu,ks,ed,eD,J1,hd2⟩;by_cases RW:j=m
  .left;refine⟨(by show((m:Nat):Int).toNat<=j;rw[Cu,RW];exact WY _),?_⟩;subst RW;have J2:KT H' H3:=λb xs' e=>kp b _ e (ej e Fs (by intro z;cases z));refine⟨D,_,rfl,.inl ⟨l! eD,λtp B4=>?_⟩⟩;refine gU B4 λH4 s4 e4=>?_;have CN:=hd2.length;refine acY ((eta.mono J2).mono (j! s4)) (.of e4) (by rw[WO,CN,XO];omega) λp H5 s5 e5=>?_;have EZ:=s4.trans s5;have RX:=EZ _ _ ed;have Fv:=J2.trans (j! EZ);obtain⟨u',Ca,Cd⟩:=B2 H5 p ks Fv (hd2.mono (j! EZ)) e5;have Fl:=J1.length;rw[Yt,List.length_drop]at Fl;refine⟨dn,_,_,rfl,rfl,RX,lbE (by omega),?_⟩;have k6:KT H5 (upd H5 dn (.lst (Fu.map i!++[.ref p]))):=aK RX;refine⟨_,_,Fu++[p],rfl,?_,uAE,?_⟩
   .intro b o e;have hb:b≠dn:=ax e Me;rw[aj hb];exact EZ _ _ (kp b o (s2 b o e) hb)
   .rw[Gp,Mf,Ca,X9];exact(J1.mono ((j! EZ).trans k6)).append (.cons (Cd.mono k6) .nil)
  .right;have Ay:j<m:=by omega
   refine⟨Ay,(by show j<((m:Nat):Int).toNat;rw[Cu];exact Ay),?_⟩;rintro x' H4 ⟨e1,e2⟩;have Cq:H4=H3:=e1;subst Cq;have RY:j<(bl S).length:=by omega
   have Ve:(bl S).drop j=(bl S)[j]::(bl S).drop (j+1):=List.drop_eq_getElem_cons RY;rw[Ve,X9]at J1
   have Av:Fu≠[]:=by
    intro z;subst z;have:=J1.length;rw[Xg]at this;simp at this
   refine hid λZZ kZ=>?_;obtain⟨Ho,b,rfl⟩:∃Ho b,Fu=Ho++[b]:=⟨Fu.dropLast,Fu.getLast Av,(Y2 Av).symm⟩;obtain⟨Us,x2,e3,hU,AF⟩:=J1.snoc_inv;have e4:=List.append_inj' e3 rfl;obtain⟨e5,e6⟩:=e4;refine kZ ?_;cases e6;subst e5;refine⟨_,rfl,.inl ⟨rfl,_,l! ed⟩,dn,_,.ref b,rfl,rfl,ed,by simp,?_⟩;have d1:((Ho++[b]).map i!).dropLast=Ho.map i!:=by simp
   rw[d1];have ID:(upd H4 dn (.lst (Ho.map i!))) D=some (.lst (ks.map i!)):=by rw[aj Ol];exact eD
   have k5:KT H4 (upd (upd H4 dn (.lst (Ho.map i!))) D (.lst (ks.map i!++[.ref b]))):=(aK ed).trans (aK ID);refine⟨_,ID,bQ (by rw[WO,hd2.length,XO];omega),Ay,λb' o e AJ=>?_,Ho,ks++[b],?_,?_,hU.mono k5,?_⟩
   .rw[aj (ax e hD),aj AJ];exact kp b' o e AJ
   .rw[aj Ol.symm,ac]
   .rw[ac,Xc];rfl
   .rw[Yi,WR RY];exact(hd2.mono k5).append (.cons (AF.mono k5) .nil)
 .rintro Z H2 ⟨c2,c3,ds,rfl,s2,Fs,Bq⟩;rw[WO,<-Bb,Nat.sub_self,List.drop_zero,hu]at Bq;have J3:AtsK rq K H2 [u] ds:=Bq;rw[AtsK]at J3;obtain⟨b,r,rfl,hb,Gi⟩:=J3;exact⟨_,rfl,dn,_,0,.ref b,rfl,rfl,l! Fs,at0,k b H2 s2 hb⟩
inductive mK(K:WQ)(vs:List V)(H:Hp)(Q:VK)(_E:XK):Prop
 |mk (a:WS) (t:Th) (An:vs=[.ref a]) (Ao:AtK .i K H t a) (Au:t.size<=100000) (AD:t.tall<=100000) (AR:∀(r:WS)(ps:List WS)(H':Hp),k! H H'->H r=none->H' r=some (.lst (ps.map i!))->Xs (λ(p:List Int×Th)b=>H' b=some (.tup (p.1.map q!))) (t.pl []) ps->Q (.ref r) H'):mK K vs H Q _E
def wn(K:WQ):Sp:=mK K
theorem wL:aO P w K mg base CX0 3 T.g_places.f T.g_places.d ["tree"] (wn K):=by
 refine T.g_places.F.okA wG λAi A outer s H vs Q E hr h=>?_;obtain⟨a,t,rfl,hA,hsz,AB,k⟩:=h;refine⟨_,(af (az (bW (N:=[WT "place",WT "knot"]) (js:=[none,none]) (g:=(oJ K 2 (cW (aq 0) (cW (aq 1) oM)))) (tt:=bw) (te:=(aX 0)) rfl (bY rfl (by decide +kernel) (by decide +kernel) rfl rfl rfl) (cj (pcF T.g_placed (io T) hr (aa (pv 0) ab))) (λ_ _ _ _ _ _=>(bj rfl (ak (pgN 0 aci) (ak (pgN 1 aci) aT)))) (gG (bP aY (aI rfl) (bP aY (aI rfl) gN))) (λ_ _ _ _ _ _=>bF) (λ_ _ _ _ _ _=>(pv 0))))),?_⟩
 try dsimp only[AA,Ae]
 refine⟨_,rfl,a,t,rfl,hA,hsz,AB,λr as H1 s1 nr er Bu=>⟨r,rfl,⟨_,l! er⟩,?_⟩⟩;have Bb:(t.pl []).length=as.length:=W5 Bu;rw[D!]at Bb;refine hid λZZ kZ=>?_;obtain⟨bs,Co,AF,Om⟩:=pM Bu;refine kZ ?_;refine iA bs (λ_=>true) i! (l! er) (by rw[WO];exact AF) (by rw[WO];omega) (λi x z H2 R R0 hx hz sm g1 g2=>?_) (λD hD=>?_)
 .obtain⟨a',ta,rfl,ea⟩:=Om i x z hx hz;refine⟨a',_,rfl,n! (sm _ _ ea),rfl,_,_,rfl,_,_,rfl,rfl,?_⟩;refine wC (B:=R0 H2) ?_;exact⟨_,rfl,g1 rfl⟩
 .rw[filter_tt];exact k D bs _ (s1.trans (ae hD _)) (s1.free hD) ac (y! (λ_ _ e=>ae hD _ _ _ e) Co)
inductive lm(K:WQ)(vs:List V)(H:Hp)(Q:VK)(_E:XK):Prop
 |mk {rq:Rep} (a:WS) (t:Th) (An:vs=[.ref a]) (Ao:AtK rq K H t a) (Au:Q (.bl t.isCall) H):lm K vs H Q _E
def iK(K:WQ):Sp:=lm K
theorem eM:aO P w K mg base CX0 1 T.g_is_call.f T.g_is_call.d ["thing"] (iK K):=by
 refine T.g_is_call.F.okA uO λAi A outer s H vs Q E hr h=>?_;obtain@⟨rq,a,t,rfl,hA,k⟩:=h;refine⟨_,(af (az (dH fA (aF aL (pv 0) ai (λ_ _=>rfl)) (cz (v:=.str (WT "?")) rfl T.c_CALL_SIGN.choose_spec ⟨_,rfl⟩) (bc _)))),?_⟩
 try dsimp only[AA,Ae]
 cases t with
 | knot n ks =>
   rw[AtK]at hA;refine hid λZZ kZ=>?_;obtain⟨hn,as,h1,h2⟩:=hA;refine kZ ?_;refine⟨_,rfl,a,_,0,.str n,rfl,rfl,h1.sq,at0,rfl,?_⟩;have e:decide (K! n=K! (WT "?"))=false:=c! (λz=>hn (V.str.inj z));rw[e];exact k
 | call sn kn =>
   rw[AtK]at hA;obtain⟨v,hA,_⟩:=hA;refine⟨_,rfl,a,_,0,.str q,rfl,rfl,hA.sq,at0,rfl,?_⟩;have e:decide (K! q=K! (WT "?"))=true:=d! rfl;rw[e];exact k
inductive lw(K:WQ)(vs:List V)(H:Hp)(Q:VK)(_E:XK):Prop
 |mk (a:WS) (t:Th) (An:vs=[.ref a]) (Ao:AtK .i K H t a) (Au:t.tall<=150) (AD:Q (.bl t.isHole) H):lw K vs H Q _E
def ny(K:WQ):Sp:=lw K
theorem fV:aO P w K mg base CX0 1 T.g_is_hole.f T.g_is_hole.d ["thing"] (ny K):=by
 refine T.g_is_hole.F.okA ud λAi A outer s H vs Q E hr h=>?_;obtain⟨a,t,rfl,hA,AB,k⟩:=h;refine⟨_,(af (az (dH (zn (B:=150) (jE hr)) (pv 0) (cz (v:=.ref T.a_HOLE) rfl T.c_HOLE rfl) (bc _)))),?_⟩
 try dsimp only[AA,Ae]
 refine⟨_,rfl,?_⟩;exact zI hA (TK.const T.q_HOLE) AB k
inductive lb(K:WQ)(vs:List V)(H:Hp)(Q:VK)(_E:XK):Prop
 |mk (a:WS) (t:Th) (An:vs=[.ref a]) (Ao:AtK .i K H t a) (Au:t.tall<=150) (AD:Q (.bl t.isKnot) H):lb K vs H Q _E
def uG(K:WQ):Sp:=lb K
theorem ui:aO P w K mg base CX0 2 T.g_is_knot.f T.g_is_knot.d ["thing"] (uG K):=by
 refine T.g_is_knot.F.okA uA λAi A outer s H vs Q E hr h=>?_;obtain⟨a,t,rfl,hA,AB,k⟩:=h;refine⟨_,(af (az (gD (uN (pcF T.g_is_call (eM T) hr (aa (pv 0) ab))) (kC (uN (pcF T.g_is_hole (fV T) hr (aa (pv 0) ab))))))),?_⟩
 try dsimp only[AA,Ae]
 refine⟨_,rfl,a,t,rfl,hA,_,rfl,_,rfl,?_⟩;refine cT (λc=>?_) (λc=>?_)
 .refine⟨_,rfl,a,t,rfl,hA,AB,_,rfl,?_⟩;have e:t.isKnot=!t.isHole:=by unfold Th.isKnot;rw[c];rfl
  rw[e]at k;exact k
 .have e:t.isKnot=false:=by unfold Th.isKnot;rw[Yj.mpr c];rfl
  rw[e]at k;exact k
inductive iF(K:WQ)(vs:List V)(H:Hp)(Q:VK)(_E:XK):Prop
 |mk {rq:Rep} (a:WS) (sn kn:Int) (An:vs=[.ref a]) (Ao:AtK rq K H (.call sn kn) a) (Au:∀p v,StV rq H sn v->H p=none->Q (.ref p) (upd H p (.tup [v,.int kn]))):iF K vs H Q _E
def fU(K:WQ):Sp:=iF K
theorem fK:aO P w K mg base CX0 1 T.g_called_by.f T.g_called_by.d ["call"] (fU K):=by
 refine T.g_called_by.F.okA qC λAi A outer s H vs Q E hr h=>?_;obtain@⟨rq,a,sn,kn,rfl,hA,k⟩:=h;refine⟨_,(af (az (aD (aa (aF aL (pv 0) ai (λ_ _=>rfl)) (aa (aF aL (pv 0) ai (λ_ _=>rfl)) ab))))),?_⟩
 try dsimp only[AA,Ae]
 rw[AtK]at hA;obtain⟨v,hA,hv⟩:=hA;exact⟨_,rfl,a,_,1,_,rfl,rfl,hA.sq,at1,_,rfl,a,_,2,_,rfl,rfl,hA.sq,at2,lnE rfl,λp hp=>k p v hv hp⟩
inductive jK(K:WQ)(vs:List V)(H:Hp)(Q:VK)(_E:XK):Prop
 |mk (a:WS) (t:Th) (An:vs=[.ref a]) (Ao:AtK .i K H t a) (Au:t.size<=100000) (AD:t.tall<=100000) (AR:∀(r:WS)(as:List WS)(H':Hp),k! H H'->H r=none->H' r=some (.lst (as.map i!))->CsAt H' (callsOf (t.pl [])) as->Q (.ref r) H'):jK K vs H Q _E
def rP(K:WQ):Sp:=jK K
theorem tR:aO P w K mg base CX0 3 T.g_calls_in.f T.g_calls_in.d ["pattern"] (rP K):=by
 refine T.g_calls_in.F.okA rJ λAi A outer s H vs Q E hr h=>?_;obtain⟨a,t,rfl,hA,hsz,AB,k⟩:=h;refine⟨_,(af (az (bW (N:=[WT "place",WT "part"]) (js:=[none,none]) (g:=(oJ K 2 (cW (aq 0) (cW (aq 1) oM)))) (tt:=(λZ H Q=>(cO (iK K) [] E0 (aG (aX 1) cC)) Z H λx H1=>∃k,yL K x H1 k/\Q k H1)) (te:=(lM (aG (aX 0) (aG (cO (fU K) [] E0 (aG (aX 1) cC)) cC)))) rfl (bY rfl (by decide +kernel) (by decide +kernel) rfl rfl rfl) (cj (pcF T.g_placed (io T) hr (aa (pv 0) ab))) (λ_ _ _ _ _ _=>(bj rfl (ak (pgN 0 aao) (ak (pgN 1 aao) aT)))) (gG (bP aY (aI rfl) (bP aY (aI rfl) gN))) (λ_ _ _ _ _ _=>fP (bq (pcF T.g_is_call (eM T) hr (aa (pv 1) ab)) (λ_=>rfl))) (λ_ _ _ _ _ _=>(aD (aa (pv 0) (aa (pcF T.g_called_by (fK T) hr (aa (pv 1) ab)) ab))))))),?_⟩
 try dsimp only[AA,Ae]
 refine⟨_,rfl,a,t,rfl,hA,hsz,AB,λr as H1 s1 nr er Bu=>⟨r,rfl,⟨_,l! er⟩,?_⟩⟩;have Bb:(t.pl []).length=as.length:=W5 Bu;have AS:=D! [] t;intro D hD;refine⟨as.length,λj H2=>An3 (j<=as.length) (k! H1 H2) (Ex1 λ(bs:List WS)=>An2 (H2 D=some (.lst (bs.map i!))) (CsAt H2 (callsOf ((t.pl []).take j)) bs)),⟨Xi _,ae hD _,[],ac,.nil⟩,?_⟩;rintro j H2 ⟨hj,s2,bs,eD,Ar⟩;by_cases Cc:j=as.length
 .left;refine⟨⟨_,l! (s2 _ _ er),by rw[WO,Cc];exact WY _⟩,?_⟩;have Aa:(t.pl []).take j=t.pl []:=by rw[Cc,<-Bb,YR]
  rw[Aa]at Ar;exact k D bs H2 (s1.trans s2) (s1.free hD) eD Ar
 .right;have Ay:j<as.length:=by omega
  refine⟨Ay,⟨_,.ref as[j],l! (s2 _ _ er),by rw[W0,WR Ay];rfl⟩,?_⟩;rintro y H3 ⟨rfl,hv⟩;have BE:=hv _ (l! (s2 _ _ er));refine hid λZZ kZ=>?_;obtain⟨pr,rfl,Bz⟩:=aR BE;obtain⟨⟨p,u⟩,Oo,pa,ta,e1,e2,e3⟩:=C! (Bu.mono (j! s2)) Bz;refine kZ ?_;simp only at e2 e3;have AU:(t.pl []).take (j+1)=(t.pl []).take j++[(p,u)]:=by rw[Yi,Oo];rfl
  have Bi:bs.length<=j:=by
   have g1:=W5 Ar;have g2:=lp ((t.pl []).take j);rw[XO]at g2;omega
  refine⟨pr,_,rfl,n! e1,rfl,_,_,rfl,_,_,rfl,rfl,?_⟩;refine⟨_,rfl,ta,u,rfl,e3,_,rfl,?_⟩;cases u with
  | knot n ks =>
    refine zS ⟨Ay,s2,bs,eD,?_⟩;rw[AU,dU];show CsAt H3 (callsOf ((t.pl []).take j)++[]) bs;rw[XA];exact Ar
  | call sn kn =>
    refine wC ?_;refine⟨_,rfl,_,rfl,ta,sn,kn,rfl,e3,λca v hv DD=>⟨lnE rfl,λn3 Gn=>?_⟩⟩;cases(show v=.int sn from hv);have s4:k! H3 (upd (upd H3 ca (.tup [.int sn,.int kn])) n3 (.tup [.ref pa,.ref ca])):=(ae DD _).trans (ae Gn _);have DE:=s4 _ _ eD;refine⟨_,DE,lbE (by omega),Ay,am (s2.trans s4) hD,bs++[n3],?_,?_⟩
    .rw[ac,Xc];rfl
    .have k5:KT (upd (upd H3 ca (.tup [.int sn,.int kn])) n3 (.tup [.ref pa,.ref ca])) (upd (upd (upd H3 ca (.tup [.int sn,.int kn])) n3 (.tup [.ref pa,.ref ca])) D (.lst (bs.map i!++[.ref n3]))):=aK DE;rw[AU,dU];exact t! (CsAt.mono ((j! s4).trans k5) Ar) (.cons ⟨pa,ca,k5 _ _ ac,k5 _ _ (s4 _ _ e2),k5 _ _ (ae Gn _ _ _ ac)⟩ .nil)
inductive jj(K:WQ)(vs:List V)(H:Hp)(Q:VK)(_E:XK):Prop
 |mk (a:WS) (t:Th) (An:vs=[.ref a]) (Ao:AtK .i K H t a) (Au:t.size<=100000) (AD:t.tall<=150) (AR:∀(r:WS)(ps:List WS)(H':Hp),k! H H'->H' r=some (.lst (ps.map i!))->Xs (λ(p:List Int)b=>H' b=some (.tup (p.map q!))) (((t.pl []).filter λp=>p.2.isHole).map (·.1)) ps->Q (.ref r) H'):jj K vs H Q _E
def sD(K:WQ):Sp:=jj K
theorem gO:aO P w K mg base CX0 3 T.g_holes_in.f T.g_holes_in.d ["front"] (sD K):=by
 refine T.g_holes_in.F.okA tO λAi A outer s H vs Q E hr h=>?_;obtain⟨a,t,rfl,hA,hsz,AB,k⟩:=h;refine⟨_,(af (az (bW (N:=[WT "place",WT "part"]) (js:=[none,none]) (g:=(oJ K 2 (cW (aq 0) (cW (aq 1) oM)))) (tt:=(λZ H Q=>(cO (ny K) [] E0 (aG (aX 1) cC)) Z H λx H1=>∃k,yL K x H1 k/\Q k H1)) (te:=(aX 0)) rfl (bY rfl (by decide +kernel) (by decide +kernel) rfl rfl rfl) (cj (pcF T.g_placed (io T) hr (aa (pv 0) ab))) (λ_ _ _ _ _ _=>(bj rfl (ak (pgN 0 aao) (ak (pgN 1 aao) aT)))) (gG (bP aY (aI rfl) (bP aY (aI rfl) gN))) (λ_ _ _ _ _ _=>fP (bq (pcF T.g_is_hole (fV T) hr (aa (pv 1) ab)) (λ_=>rfl))) (λ_ _ _ _ _ _=>(pv 0))))),?_⟩
 try dsimp only[AA,Ae]
 refine⟨_,rfl,a,t,rfl,hA,hsz,by omega,λr as H1 s1 nr er Bu=>⟨r,rfl,⟨_,l! er⟩,?_⟩⟩;have Bb:(t.pl []).length=as.length:=W5 Bu;have AS:=D! [] t;obtain⟨bs,Co,AF⟩:=pick (G:=λ(p:List Int×Th)a b=>∃ta,H1 a=some (.tup [.ref b,.ref ta])/\H1 b=some (.tup (p.1.map q!))/\AtK .i K H1 p.2 ta) (λp a⟨pa,ta,h1,h2,h3⟩=>⟨pa,ta,h1,h2,h3⟩) Bu;refine iA ((t.pl []).zip bs) (λz=>z.1.2.isHole) (λz=>i! z.2) (l! er) (by rw[WO,List.length_zip];omega) (by rw[WO];omega) (λi x z H2 R R0 hx hz sm g1 g2=>?_) (λD hD=>?_)
 .rw[Zf]at hz;refine hid λZZ kZ=>?_;obtain⟨a',rfl,DN⟩:=aR hx;obtain⟨ta,f1,f2,f3⟩:=AF i _ _ _ hz.1 DN hz.2;obtain⟨_,_,_,hm3,_⟩:=xh t [] z.1.1 z.1.2 (WU hz.1);refine kZ ?_;refine⟨a',_,rfl,n! (sm _ _ f1),rfl,_,_,rfl,_,_,rfl,rfl,?_⟩;refine⟨_,rfl,ta,z.1.2,rfl,f3.mono (j! sm),by omega,_,rfl,?_⟩;refine cT (λc=>?_) (λc=>?_)
  .exact⟨_,rfl,g1 c⟩
  .exact g2 (Yj.mpr c)
 .refine k D ((((t.pl []).zip bs).filter λz=>z.1.2.isHole).map (·.2)) _ (s1.trans (ae hD _)) (by rw[ac,Y1];rfl) ?_;refine P2.mapl (·.1) (uZ (xs:=t.pl []) (cs:=bs) (λp:List Int×Th=>p.2.isHole) (by omega) λi x c e1 e2=>?_);refine hid λZZ kZ=>?_;obtain⟨a',DN⟩:∃a',as[i]?=some a':=⟨_,WR (by have:=(glE e2);omega)⟩;obtain⟨ta,f1,f2,f3⟩:=AF i _ _ _ e1 DN e2;refine kZ ?_;exact ae hD _ _ _ f2
inductive oz(K:WQ)(vs:List V)(H:Hp)(Q:VK)(_E:XK):Prop
 |mk {rq:Rep} (a:WS) (n:Xk) (ks:List Th) (An:vs=[.ref a]) (Ao:AtK rq K H (.knot n ks) a) (Au:∀(r:WS)(H':Hp),k! H H'->TopAtK rq K H' (.nm n ks.length) r->Q (.ref r) H'):oz K vs H Q _E
def wz(K:WQ):Sp:=oz K
theorem jV:aO P w K mg base CX0 2 T.g_top_of.f T.g_top_of.d ["part"] (wz K):=by
 refine T.g_top_of.F.okA pA λAi A outer s H vs Q E hr h=>?_;obtain@⟨rq,a,n,ks,rfl,hA,k⟩:=h
 refine⟨_,(ad (au 1 pA.nd (aH aA rfl T.n_len XT (aa (pcF T.g_kids_of (d4 T) hr (aa (pv 0) ab)) ab)))
  (af (az (aD (aa (cR vC (pv 0) dM (dk (aB qi (aH aA rfl T.n_len XT (aa (pv 0) ab)) (pv 1)))) (aa (pv 1) ab)))))),?_⟩
 try dsimp only[AA,Ae]
 refine⟨_,rfl,a,.knot n ks,rfl,hA,λr as H1 s1 er C2=>⟨r,_,rfl,.inr (n! er),?_⟩⟩;rw[AtK]at hA;refine hid λZZ kZ=>?_;obtain⟨hn,ka,ea,CQ⟩:=hA;refine kZ ?_;have CN:ka.length=ks.length:=CQ.length;have Bb:as.length=ks.length:=C2.length;refine⟨_,rfl,_,rfl,a,_,rfl,.inr ((ea.mono (j! s1)).sq),_,rfl,_,_,rfl,rfl,_,rfl,a,_,rfl,ea.mono (j! s1),λp H2 s2 e2=>?_⟩
 have e1:((K! n::ka.map i!).length:Int) - ((as.map i!).length:Int)=1:=by
  rw[W3,WO,WO,CN,Bb];omega
 have e3:TK K H2 p [.str n]:=by
  have Cq:TK K H2 p (gB (K! n::ka.map i!) none (some (((K! n::ka.map i!).length:Int) - ((as.map i!).length:Int)))):=e2;rw[e1,vN]at Cq;exact Cq
 refine⟨_,rfl,lnE rfl,λl hl=>?_⟩;refine k l _ (s1.trans (s2.trans (ae hl _))) ⟨p,?_,hn,e3.mono (dD hl)⟩;rw[ac,WO,Bb]
inductive mj(P:W6)(w:Xj)(K:WQ)(vs:List V)(H:Hp)(Q:VK)(_E:XK):Prop
 |mk {rq:Rep} (rs:Rep) (a ta:WS) (t:Th) (f:Int->Int->Th) (An:vs=[.ref a,.ref ta]) (Ao:AtK rq K H t a) (Au:t.size<=100000) (AD:(∀s k,B! s k∈t.walk->∃v,AtK rs K H (f s k) v/\(f s k).size<=100000/\∀(H2:Hp)(ca:WS)(sv:V),k! H H2->StV rq H2 s sv->H2 ca=some (.tup [sv,.int k])->abu P w H2 ta (.ref ca) (.ref v))) (AR:∀(r:WS)(H':Hp),k! H H'->AtK rs K H' (t.fill f) r->Q (.ref r) H'):mj P w K vs H Q _E
def oY(P:W6)(w:Xj)(K:WQ):Sp:=mj P w K
theorem ij:aO P w K mg base CX0 3 T.g_filled.f T.g_filled.d ["pattern","table"] (oY P w K):=by
 refine T.g_filled.F.okA kK λAi A outer s H vs Q E hr h=>?_;obtain@⟨rq,rs,a,ta,t,f,rfl,hA,hsz,Fw,k⟩:=h
 refine⟨_,(ad (au 2 kK.nd (bx ab))
  (ad (bE Xz rfl (cj (pcF T.g_walked (jS T) hr (aa (pv 0) ab))) (pgN 3 kK.nd) (af (cB (bq (pcF T.g_is_call (eM T) hr (aa (pv 3) ab)) (λ_=>rfl)) (af (aU (bS Xd Xx Xw aS (pv 2) (aa (aD (aa (yv (fM hr) (pv 1) (pcF T.g_called_by (fK T) hr (aa (pv 3) ab)) (λ_ _=>rfl)) (aa ai ab))) ab)))) (af (aU (bS Xd Xx Xw aS (pv 2) (aa (pcF T.g_top_of (jV T) hr (aa (pv 3) ab)) ab)))))))
  (af (az (pcF T.g_built (jJ T) hr (aa (pv 2) ab)))))),?_⟩
 try dsimp only[AA,Ae]
 refine⟨lnE rfl,λtl AB=>?_⟩;refine⟨_,rfl,a,t,rfl,hA.mono (dD AB),hsz,λwl as H1 s1 J4 J5 hw=>?_⟩;have Ef:as.length=t.walk.length:=hw.length;have Vf:=L! t;have J6:k! H H1:=(ae AB _).trans s1;have Oq:wl≠tl:=λz=>by rw[z,ac]at J4;cases J4
 refine⟨wl,rfl,⟨_,l! J5⟩,?_⟩
 refine cD (K:=K) (a:=wl) (xs:=as.map i!) (λi Z H2=>Ex2 λc bs=>An6 (Z=[some (.ref a),some (.ref ta),some (.ref tl),c]) (k! H H2) (H2 wl=some (.lst (as.map i!))) (AtsK rq K H2 t.walk as) (H2 tl=some (.lst (bs.map i!))) (Xs (TopAtK rs K H2) ((t.walk.take i).map (eV f)) bs))
  ⟨none,[],rfl,J6,J5,hw,s1 _ _ ac,.nil⟩ (λi Z H2 _⟨_,_,_,_,e,_,_,_⟩=>l! e) ?_ ?_
 .rintro i x Z H2 hx ⟨c,bs,rfl,s2,EB,Hq,BP,Ar⟩;obtain⟨xa,rfl,J7⟩:=aR hx;obtain⟨tx,J8,IE⟩:=Hq.get J7;have Mg:tx∈t.walk:=WU J8;have AU:t.walk.take (i+1)=t.walk.take i++[tx]:=by rw[Yi,J8];rfl
  have Bi:bs.length<=100000:=by
   have:=W5 Ar;rw[WO,XO]at this;omega
  refine⟨_,rfl,xa,tx,rfl,IE,_,rfl,?_⟩
  have push:∀(H3:Hp)(p:WS),k! H2 H3->TopAtK rs K H3 (eV f tx) p->Ex2 λc Fx=>An6 (([some (.ref a),some (.ref ta),some (.ref tl),some (.ref xa)]:St)=[some (.ref a),some (.ref ta),some (.ref tl),c]) (k! H (upd H3 tl (.lst (bs.map i!++[.ref p])))) ((upd H3 tl (.lst (bs.map i!++[.ref p]))) wl=some (.lst (as.map i!))) (AtsK rq K (upd H3 tl (.lst (bs.map i!++[.ref p]))) t.walk as) ((upd H3 tl (.lst (bs.map i!++[.ref p]))) tl=some (.lst (Fx.map i!))) (Xs (TopAtK rs K (upd H3 tl (.lst (bs.map i!++[.ref p])))) ((t.walk.take (i+1)).map (eV f)) Fx):=by
   intro H3 p s3 hp;have k3:KT H3 (upd H3 tl (.lst (bs.map i!++[.ref p]))):=aK (s3 _ _ BP);refine⟨_,bs++[p],rfl,am (s2.trans s3) AB,by rw[aj Oq];exact s3 _ _ EB,Hq.mono ((j! s3).trans k3),uAE,?_⟩;rw[AU,Xc];exact t! (cZ ((j! s3).trans k3) Ar) (.cons (hp.mono k3) .nil)
  cases tx with
  | call sn kn =>
    refine wC ?_;refine hid λZZ kZ=>?_;obtain⟨v,Vg,_,Ot⟩:=Fw sn kn Mg;refine kZ ?_;refine⟨_,rfl,.inl ⟨rfl,_,l! BP⟩,_,rfl,_,rfl,xa,sn,kn,rfl,IE,λcb sv Ou Vh=>?_⟩;have s3:k! H2 (upd H2 cb (.tup [sv,.int kn])):=ae Vh _;refine⟨ta,.ref v,rfl,Ot _ cb sv (s2.trans s3) (Ou.mono (j! s3)) ac,lnE rfl,λp hp=>?_⟩;have s4:=s3.trans (ae hp (.tup [.ref v,.int 0]));refine⟨tl,_,_,rfl,rfl,s4 _ _ BP,lbE (by omega),?_⟩;exact push _ p s4 ⟨v,ac,Vg.mono (j! (s2.trans s4))⟩
  | knot nm us =>
    refine zS ?_;refine⟨_,rfl,.inl ⟨rfl,_,l! BP⟩,_,rfl,xa,nm,us,rfl,IE,λp H3 s3 hp=>?_⟩;refine⟨tl,_,_,rfl,rfl,s3 _ _ BP,lbE (by omega),?_⟩;exact push _ p s3 hp
 .rintro Z H2 ⟨c,bs,rfl,s2,EB,Hq,BP,Ar⟩;rw[WO,Ef,YR]at Ar;obtain⟨b1,b2⟩:=vq f t;refine⟨_,rfl,tl,bs,_,t.fill f,rfl,BP,Ar,by rw[WO];omega,b2,?_,b1,λr H3 s3 Fy=>k r H3 (s2.trans s3) Fy⟩;intro u hu;obtain⟨x,hx,e⟩:=XD.mp hu;cases x with
  |knot nm us=>cases e
  | call sn kn =>
    cases e;refine hid λZZ kZ=>?_;obtain⟨v,_,hz,_⟩:=Fw sn kn hx;refine kZ ?_;exact hz
theorem xG{ta ca:WS}{f':List (List Key×V)}{s k:Int}{sv:V}(e:H ta=some (.dT f'))(hv:aQ f' [Xn s,Xn k]=some v)(s2:k! H H2)(hs:StV .i H2 s sv)(hc:H2 ca=some (.tup [sv,.int k])):abu P w H2 ta (.ref ca) v:=by
 cases(show sv=.int s from hs);exact .inl (.inr ⟨f',[Xn s,Xn k],ca,.inl (s2 _ _ e),rfl,hc,hv.symm⟩)
inductive jD(K:WQ)(vs:List V)(H:Hp)(Q:VK)(_E:XK):Prop
 |mk (x y:WS) (l r:Th) (An:vs=[.ref x,.ref y]) (Ao:AtK .i K H l x) (Au:AtK .i K H r y) (AD:l.tall<=150) (AR:Q (.bl (aE l r)) H):jD K vs H Q _E
def tw(K:WQ):Sp:=jD K
theorem lc:aO P w K mg base CX0 3 T.g_same_top.f T.g_same_top.d ["one","two"] (tw K):=by
 refine T.g_same_top.F.okA rF λAi A outer s H vs Q E hr h=>?_;obtain⟨x,y,l,r,rfl,hx,hy,AB,k⟩:=h;refine⟨_,(af (az (gD (pcF T.g_is_knot (ui T) hr (aa (pv 0) ab)) (gD (dH fA (aF aL (pv 0) ai (λ_ _=>rfl)) (aF aL (pv 1) ai (λ_ _=>rfl)) (bc _)) (kC (dH fA (aH aA rfl T.n_len XT (aa (pv 0) ab)) (aH aA rfl T.n_len XT (aa (pv 1) ab)) (bc _))))))),?_⟩
 try dsimp only[AA,Ae]
 rw[tP hx r]at k;refine hid λZZ kZ=>?_;obtain⟨xr,ex,lx⟩:=hx.row;obtain⟨yr,ey,ly⟩:=hy.row;refine kZ ?_;refine⟨_,rfl,x,l,rfl,hx,AB,_,rfl,?_⟩;refine cT (λc=>?_) (λc=>?_)
 .rw[c]at k;refine⟨_,rfl,x,_,0,.str l.name,rfl,rfl,ex.sq,at0,_,rfl,y,_,0,.str r.name,rfl,rfl,ey.sq,at0,rfl,_,rfl,?_⟩;refine cT (λc2=>?_) (λc2=>?_)
  .have e2:l.name=r.name:=V.str.inj (e! c2);refine⟨_,rfl,x,_,rfl,.inr (ex.sq),_,rfl,y,_,rfl,.inr (ey.sq),rfl,?_⟩
   have e3:decide (q! ((K! l.name::xr).length:Nat)=q! ((K! r.name::yr).length:Nat))=decide (l.wid=r.wid):=by
    rw[W3,W3,lx,ly];by_cases e:l.wid=r.wid
    .rw[e];simp
    .rw[c! e,c!];intro z;exact e (by have:=V.int.inj z;omega)
   rw[e3];rw[d! e2]at k;exact k
  .have e2:l.name≠r.name:=λe=>c2 (d! (by rw[e]));rw[c! e2]at k;exact k
 .rw[Yj.mpr c]at k;exact k
inductive fo(K:WQ)(vs:List V)(H:Hp)(Q:VK)(_E:XK):Prop
 |mk (x y:WS) (l r:Th) (An:vs=[.ref x,.ref y]) (Ao:AtK .i K H l x) (Au:AtK .i K H r y) (AD:l.tall<=150) (AR:l.size<=100000) (BX:∀(m:WS)(as:List WS)(H':Hp),k! H H'->H m=none->H' m=some (.lst (as.map i!))->Xs (PPK K H') (l.sbs r) as->Q (.ref m) H'):fo K vs H Q _E
def lS(K:WQ):Sp:=fo K
theorem lN:aO P w K mg base CX0 4 T.g_side_by_side.f T.g_side_by_side.d ["one","two"] (lS K):=by
 refine T.g_side_by_side.F.okA b8 λAi A outer s H vs Q E hr h=>?_;obtain⟨x,y,l,r,rfl,hx,hy,AB,hsz,k⟩:=h
 refine⟨_,(ad (au 2 b8.nd (bx ab))
  (ad (au 3 b8.nd (bx (aa (aD (aa (pv 0) (aa (pv 1) ab))) ab)))
  (ad (eF Xz (bq (pv 3) (λ_=>rfl)) (ad (fg (kJ Xd ZF ZE jZ (pv 3)) (bj rfl (ak (pgN 4 b8.nd) (ak (pgN 5 b8.nd) aT))))
  (ad (aU (bS Xd Xx Xw aS (pv 2) (aa (aD (aa (pv 4) (aa (pv 5) ab))) ab)))
  (af (cB (bq (pcF T.g_same_top (lc T) hr (aa (pv 4) (aa (pv 5) ab))) (λ_=>rfl)) (af (aU (bS Xd Z1 Z0 ig (pv 3) (aa (mG rfl rfl T.n_list rfl T.n_reversed (uE rfl rfl T.n_list rfl T.n_zip (aa (cR iU (pv 4) (dk ai) dM) (aa (cR iU (pv 5) (dk ai) dM) ab)))) ab)))) bN)))))
  (af (az (pv 2)))))),?_⟩
 try dsimp only[AA,Ae]
 refine⟨by show 0<=Xe;decide,λmt Cu=>?_⟩;refine⟨_,rfl,_,rfl,by show 2<=Xe;decide,λt0 RZ=>⟨by show 1<=Xe;decide,λah BG=>?_⟩⟩;have s0:k! H (upd (upd H mt (.lst [])) t0 (.tup [.ref x,.ref y])):=(ae Cu _).trans (ae RZ _);have e0:(upd (upd H mt (.lst [])) t0 (.tup [.ref x,.ref y])) mt=some (.lst []):=ae RZ _ _ _ ac;have e1:(upd (upd H mt (.lst [])) t0 (.tup [.ref x,.ref y])) t0=some (.tup [.ref x,.ref y]):=ac;generalize(upd (upd H mt (.lst [])) t0 (.tup [.ref x,.ref y]))=H1 at s0 e0 e1 BG |-;have Cb:H ah=none:=s0.free BG;have Av:ah≠mt:=λz=>by rw[z,e0]at BG;cases BG
 refine⟨λm Z H2=>Ex6 λ(ms as:List WS)(Ms As:List (Th×Th))(p p':Option V)=>xm (Z=[some (.ref x),some (.ref y),some (.ref mt),some (.ref ah),p,p']) (k! H H2) (H2 mt=some (.lst (ms.map i!))) (H2 ah=some (.lst (as.map i!))) (Xs (PPK K H2) Ms ms) (Xs (PPK K H2) As as) (Ms++wks As.reverse=l.sbs r) ((∀p∈As,p.1.tall<=150)) (Ms.length+szL As<=100000) (m=szL As),⟨_,[],[t0],[],[(l,r)],none,none,rfl,?_,?_,?_,.nil,.cons ⟨x,y,?_,hx.mono ?_,hy.mono ?_⟩ .nil,?_,?_,?_,rfl⟩,?_⟩
 .exact am s0 Cb
 .rw[aj Av.symm];exact e0
 .rw[ac];rfl
 .rw[aj (ax e1 BG)];exact e1
 .exact j! (am s0 Cb)
 .exact j! (am s0 Cb)
 .show wks [(l,r)]=_;rw[wks,wks,XA]
 .intro p hp;rw[W7]at hp;subst hp;exact AB
 .show 0+(l.size+0)<=100000;omega
 rintro m Z H2 ⟨ms,as,Ms,As,p,p',rfl,sm,e1,e2,a1,a2,hw,CS,hlen,rfl⟩;have Vi:Ms.length=ms.length:=W5 a1;refine⟨_,rfl,_,.inl ⟨_,l! e2,rfl⟩,?_⟩;refine cT (λc=>?_) (λc=>?_)
 .refine⟨λAb H'=>∃m',m'<szL As/\Ex6 λ(ms as:List WS)(Ms As:List (Th×Th))(p p':Option V)=>xm (Ab=[some (.ref x),some (.ref y),some (.ref mt),some (.ref ah),p,p']) (k! H H') (H' mt=some (.lst (ms.map i!))) (H' ah=some (.lst (as.map i!))) (Xs (PPK K H') Ms ms) (Xs (PPK K H') As as) (Ms++wks As.reverse=l.sbs r) ((∀p∈As,p.1.tall<=150)) (Ms.length+szL As<=100000) (m'=szL As),λAb H' h=>h,?_⟩;have Bg:as≠[]:=by intro z;subst z;simp at c
  refine hid λZZ kZ=>?_;obtain⟨Ax,b,rfl⟩:∃Ax b,as=Ax++[b]:=⟨as.dropLast,as.getLast Bg,(Y2 Bg).symm⟩;obtain⟨Us,u,rfl,a3,u1,u2,a4,a5,a6⟩:=P2.snoc_inv a2;obtain⟨ul,ur⟩:=u;refine kZ ?_;simp only at a5 a6;have hs:szL (Us++[(ul,ur)])=szL Us+ul.size:=by rw[dX,szL,szL];rfl
  have Fp:=ul.size_eq;rw[hs]at hlen;have Ov:ul.tall<=150:=CS (ul,ur) (by simp);have R1:∀p∈Us,p.1.tall<=150:=λp hp=>CS p (by simp[hp]);refine⟨_,rfl,.inl ⟨rfl,_,l! e2⟩,ah,_,.ref b,rfl,rfl,e2,by simp,?_⟩;have d1:((Ax++[b]).map i!).dropLast=Ax.map i!:=by simp
  rw[d1];have k0:KT H2 (upd H2 ah (.lst (Ax.map i!))):=aK e2;have f1:(upd H2 ah (.lst (Ax.map i!))) mt=some (.lst (ms.map i!)):=by rw[aj Av.symm];exact e1
  have f2:(upd H2 ah (.lst (Ax.map i!))) ah=some (.lst (Ax.map i!)):=ac;have s3:k! H (upd H2 ah (.lst (Ax.map i!))):=am sm Cb;generalize(upd H2 ah (.lst (Ax.map i!)))=H3 at k0 f1 f2 s3 |-;refine⟨b,_,rfl,n! (k0 _ _ a4),rfl,_,_,rfl,_,_,rfl,rfl,?_⟩;refine⟨_,rfl,.inl ⟨rfl,_,l! f1⟩,_,rfl,_,rfl,by show 2<=Xe;decide,λt1 Vj=>?_⟩;refine gU Vj λH4 s4 e4=>?_;refine⟨mt,_,_,rfl,rfl,s4 _ _ f1,lbE (by omega),?_⟩;have k5:KT H4 (upd H4 mt (.lst (ms.map i!++[.ref t1]))):=aK (s4 _ _ f1);have g1:(upd H4 mt (.lst (ms.map i!++[.ref t1]))) mt=some (.lst ((ms++[t1]).map i!)):=uAE;have g2:(upd H4 mt (.lst (ms.map i!++[.ref t1]))) ah=some (.lst (Ax.map i!)):=by rw[aj Av];exact s4 _ _ f2
  have s5:k! H (upd H4 mt (.lst (ms.map i!++[.ref t1]))):=am (s3.trans s4) Cu;generalize(upd H4 mt (.lst (ms.map i!++[.ref t1])))=H5 at k5 g1 g2 s5 |-;have Fz:KT H2 H5:=(k0.trans (j! s4)).trans k5;have aM:Xs (PPK K H5) (Ms++[(ul,ur)]) (ms++[t1]):=t! (dS Fz a1) (.cons ⟨u1,u2,k5 _ _ e4,a5.mono Fz,a6.mono Fz⟩ .nil);refine⟨_,rfl,_,rfl,u1,u2,ul,ur,rfl,a5.mono Fz,a6.mono Fz,Ov,_,rfl,?_⟩
  have J9:Ms++((ul,ur)::((if aE ul ur=true then wks (ul.kids.zip ur.kids)else[])++wks Us.reverse))=l.sbs r:=by
   rw[<-hw,YC];show _=Ms++wks ((ul,ur)::Us.reverse);rw[y9]
  refine cT (λct=>?_) (λct=>?_)
  .refine hid λZZ kZ=>?_;obtain⟨n,ks,us,rfl,rfl,hku,hnh⟩:=bz ct;have R4:=a5.mono Fz;have R5:=a6.mono Fz;rw[AtK]at R4 R5;obtain⟨Gm,ka,ek,CQ⟩:=R4;obtain⟨IZ,ua,eu,DF⟩:=R5;refine kZ ?_;rw[b! ct]at J9;have hz:=jt ks us;refine⟨_,rfl,.inl ⟨rfl,_,l! g2⟩,_,rfl,1,rfl,u1,_,rfl,ek.sq,?_,λc1 R6=>?_⟩
   .intro z;have:=z.1;simp[z!]at this
   rw[fF];refine gU R6 λH6 s6 e6=>?_;refine⟨_,rfl,1,rfl,u2,_,rfl,(eu.mono (j! s6)).sq,?_,λc2 B8=>?_⟩
   .intro z;have:=z.1;simp[z!]at this
   rw[fF];refine gU B8 λH7 s7 e7=>?_;refine⟨c1,c2,_,_,rfl,n! (s7 _ _ e6),n! e7,λzl zs H8 s8 nzl Vk G0=>?_⟩;have DG:k! H5 H8:=s6.trans (s7.trans s8);have R7:Xs (PPK K H8) (ks.zip us) zs:=rE (CQ.mono (j! DG)) (DF.mono (j! DG)) G0;have N':(ks.zip us).length=zs.length:=W5 R7;have hzk:(ks.zip us).length<=szL (ks.zip us):=qo _;refine⟨true,zl,_,rfl,SqB.l (l! Vk),λrl D8=>?_⟩;have s9:k! H8 (upd H8 rl (.lst (zs.map i!).reverse)):=ae D8 _;have e9:(upd H8 rl (.lst (zs.map i!).reverse)) rl=some (.lst (zs.map i!).reverse):=ac;have nrl:H5 rl=none:=DG.free D8;generalize(upd H8 rl (.lst (zs.map i!).reverse))=H9 at s9 e9 |-;have D9:=DG.trans s9;have R8:Us.length=Ax.length:=W5 a3;have R9:=qo Us;refine⟨ah,rl,_,_,rfl,rfl,D9 _ _ g2,e9,ZV (bQ ?_),?_⟩
   .rw[WO,Yt,WO];simp only[M!]at Fp;omega
   have Sa:KT H9 (upd H9 ah (.lst (Ax.map i!++(zs.map i!).reverse))):=aK (D9 _ _ g2);have Sb:KT H5 (upd H9 ah (.lst (Ax.map i!++(zs.map i!).reverse))):=(j! D9).trans Sa;simp only[M!]at Fp J9;refine⟨szL (Us++(ks.zip us).reverse),?_,ms++[t1],Ax++zs.reverse,Ms++[(.knot n ks,.knot n us)],Us++(ks.zip us).reverse,_,_,rfl,?_,?_,?_,dS Sb aM,?_,?_,?_,?_,rfl⟩
   .rw[dX,wb,hs];omega
   .exact am (s5.trans D9) Cb
   .rw[aj Av.symm];exact D9 _ _ g1
   .rw[ac,Xc,List.map_reverse]
   .exact t! (dS (Fz.trans Sb) a3) (P2.reverse (dS ((j! s9).trans Sa) R7))
   .rw[YC,Y5,mW,<-J9,XS];rfl
   .intro p hp;rcases Xq.mp hp with hp|hp
    .exact R1 p hp
    .have BJ:=(List.of_mem_zip (List.mem_reverse.mp hp)).1;have:=bX BJ;rw[r!]at Ov;omega
   .rw[dX,wb,Xg];show Ms.length+1+_<=_;omega
  .rw[a! ct]at J9;refine⟨szL Us,?_,ms++[t1],Ax,Ms++[(ul,ur)],Us,_,_,rfl,s5,g1,g2,aM,dS Fz a3,?_,R1,?_,rfl⟩
   .rw[hs];omega
   .rw[<-J9,XS];rfl
   .rw[Xg];show Ms.length+1+_<=_;omega
 .have hz:as=[]:=by
   cases as with
   |nil=>rfl
   |cons y ys=>simp at c
  subst hz;have EA:As=[]:=X6.mp (W5 a2);subst EA;refine⟨_,rfl,k mt ms H2 sm Cu e1 ?_⟩
  have EX:Ms=l.sbs r:=by
   rw[<-hw,List.reverse_nil,wks,XA]
  rw[<-EX];exact a1
inductive mC(K:WQ)(vs:List V)(H:Hp)(Q:VK)(_E:XK):Prop
 |mk (x y:WS) (l r:Th) (An:vs=[.ref x,.ref y]) (Ao:AtK .i K H l x) (Au:AtK .i K H r y) (AD:l.tall<=150) (AR:l.size<=100000) (BX:∀(m:WS)(H':Hp),k! H H'->AtK .i K H' (l.com r) m->Q (.ref m) H'):mC K vs H Q _E
def wW(K:WQ):Sp:=mC K
theorem wO:aO P w K mg base CX0 5 T.g_common.f T.g_common.d ["one","two"] (wW K):=by
 refine T.g_common.F.okA ik λAi A outer s H vs Q E hr h=>?_;obtain⟨x,y,l,r,rfl,hx,hy,AB,hsz,k⟩:=h
 refine⟨_,(ad (au 2 ik.nd (bx ab))
  (ad (bE Xz rfl (cj (pcF T.g_side_by_side (lN T) hr (aa (pv 0) (aa (pv 1) ab)))) (bj rfl (ak (pgN 3 ik.nd) (ak (pgN 4 ik.nd) aT))) (af (cB (bq (pcF T.g_same_top (lc T) hr (aa (pv 3) (aa (pv 4) ab))) (λ_=>rfl)) (af (aU (bS Xd Xx Xw aS (pv 2) (aa (pcF T.g_top_of (jV T) hr (aa (pv 3) ab)) ab)))) (af (aU (bS Xd Xx Xw aS (pv 2) (aa (aD (aa (cz (v:=.ref T.a_HOLE) rfl T.c_HOLE rfl) (aa ai ab))) ab)))))))
  (af (az (pcF T.g_built (jJ T) hr (aa (pv 2) ab)))))),?_⟩
 try dsimp only[AA,Ae]
 refine⟨lnE rfl,λtl BQ=>?_⟩;refine⟨_,rfl,_,rfl,x,y,l,r,rfl,hx.mono (dD BQ),hy.mono (dD BQ),AB,hsz,λm as H1 s1 nm em hp=>⟨m,rfl,⟨_,l! em⟩,?_⟩⟩;have AS:(l.sbs r).length=as.length:=W5 hp;have Ow:=aax l r;have J6:k! H H1:=(ae BQ _).trans s1;have Cu:m≠tl:=λz=>by rw[z,ac]at nm;cases nm
 refine cD (K:=K) (a:=m) (xs:=as.map i!) (λi Z H2=>Ex3 λc c' bs=>An6 (Z=[some (.ref x),some (.ref y),some (.ref tl),c,c']) (k! H H2) (H2 m=some (.lst (as.map i!))) (Xs (PPK K H2) (l.sbs r) as) (H2 tl=some (.lst (bs.map i!))) (Xs (TopAtK .i K H2) (((l.sbs r).take i).map topC) bs)) ⟨none,none,[],rfl,J6,em,hp,s1 _ _ ac,.nil⟩ (λi Z H2 _⟨_,_,_,_,_,e,_,_,_⟩=>l! e) ?_ ?_
 .rintro i v Z H2 hv ⟨c,c',bs,rfl,s2,DC,Bm,BP,Ar⟩;refine hid λZZ kZ=>?_;obtain⟨b,rfl,hb⟩:=aR hv;obtain⟨⟨ul,ur⟩,hu,u1,u2,e1,e2,e3⟩:=C! Bm hb;refine kZ ?_;simp only at e2 e3;have hm:=vK (WU hu);simp only at hm;have AU:((l.sbs r).take (i+1)).map topC=((l.sbs r).take i).map topC++[topC (ul,ur)]:=by rw[Yi,hu,Xc];rfl
  have Bi:bs.length<=100000:=by
   have:=W5 Ar;rw[WO,XO]at this;omega
  refine⟨b,_,rfl,n! e1,rfl,_,_,rfl,_,_,rfl,rfl,?_⟩
  have push:∀(H3:Hp)(p:WS),k! H2 H3->TopAtK .i K H3 (topC (ul,ur)) p->Ex3 λc c' Fx=>An6 (([some (.ref x),some (.ref y),some (.ref tl),some (.ref u1),some (.ref u2)]:St)=[some (.ref x),some (.ref y),some (.ref tl),c,c']) (k! H (upd H3 tl (.lst (bs.map i!++[.ref p])))) ((upd H3 tl (.lst (bs.map i!++[.ref p]))) m=some (.lst (as.map i!))) (Xs (PPK K (upd H3 tl (.lst (bs.map i!++[.ref p])))) (l.sbs r) as) ((upd H3 tl (.lst (bs.map i!++[.ref p]))) tl=some (.lst (Fx.map i!))) (Xs (TopAtK .i K (upd H3 tl (.lst (bs.map i!++[.ref p])))) (((l.sbs r).take (i+1)).map topC) Fx):=by
   intro H3 p s3 J';have k3:KT H3 (upd H3 tl (.lst (bs.map i!++[.ref p]))):=aK (s3 _ _ BP);refine⟨_,_,bs++[p],rfl,am (s2.trans s3) BQ,by rw[aj Cu];exact s3 _ _ DC,dS ((j! s3).trans k3) Bm,uAE,?_⟩;rw[AU];exact t! (cZ ((j! s3).trans k3) Ar) (.cons (J'.mono k3) .nil)
  refine⟨_,rfl,_,rfl,u1,u2,ul,ur,rfl,e2,e3,by omega,_,rfl,?_⟩;refine cT (λct=>?_) (λct=>?_)
  .have ht:topC (ul,ur)=.nm ul.name ul.kids.length:=by unfold topC;rw[b! ct]
   obtain⟨n,ks,us,rfl,rfl,_,_⟩:=bz ct;refine⟨_,rfl,.inl ⟨rfl,_,l! BP⟩,_,rfl,u1,n,ks,rfl,e2,λp H3 s3 J'=>?_⟩;refine⟨tl,_,_,rfl,rfl,s3 _ _ BP,lbE (by omega),?_⟩;exact push _ p s3 (by rw[ht];exact J')
  .have ht:topC (ul,ur)=.th hole:=by unfold topC;rw[a! ct]
   refine⟨_,rfl,.inl ⟨rfl,_,l! BP⟩,lnE rfl,λp Vl=>?_⟩;have s3:k! H2 (upd H2 p (.tup [.ref T.a_HOLE,.int 0])):=ae Vl _;refine⟨tl,_,_,rfl,rfl,s3 _ _ BP,lbE (by omega),?_⟩;exact push _ p s3 (by rw[ht];exact⟨T.a_HOLE,ac,x9 (TK.const T.q_HOLE)⟩)
 .rintro Z H2 ⟨c,c',bs,rfl,s2,DC,Bm,BP,Ar⟩;rw[WO,<-AS,YR]at Ar;obtain⟨b1,b2⟩:=aby l r;refine⟨_,rfl,tl,bs,_,l.com r,rfl,BP,Ar,by rw[WO];omega,b2,?_,b1,λrr H3 s3 Fy=>k rr H3 (s2.trans s3) Fy⟩;intro u hu;obtain⟨p,BJ,e⟩:=XD.mp hu;unfold topC at e;split at e
  .cases e
  .cases e;rw[dR];omega
inductive np(vs:List V)(H:Hp)(Q:VK)(_E:XK):Prop
 |mk (b:WS) (v1 v2 v3 v4:V) (An:vs=[.ref b]) (Ao:H b=some (.tup [v1,v2,v3,v4])) (Au:Q v1 H):np  vs H Q _E
def wT:Sp:=np
inductive jQ(vs:List V)(H:Hp)(Q:VK)(_E:XK):Prop
 |mk (b:WS) (v1 v2 v3 v4:V) (An:vs=[.ref b]) (Ao:H b=some (.tup [v1,v2,v3,v4])) (Au:Q v4 H):jQ  vs H Q _E
def tL:Sp:=jQ
theorem dQ:aO P w K mg base CX0 1 T.g_ins_of.f T.g_ins_of.d ["book"] wT:=by
 refine T.g_ins_of.F.okA xg λAi A outer s H vs Q E hr h=>?_;obtain⟨b,v1,v2,v3,v4,rfl,e,q⟩:=h;refine⟨_,(af (az (aF aL (pv 0) ai (λ_ _=>rfl)))),?_⟩
 try dsimp only[AA,Ae]
 exact⟨_,rfl,b,_,0,v1,rfl,rfl,n! e,at0,q⟩
theorem dw:aO P w K mg base CX0 1 T.g_rules_of.f T.g_rules_of.d ["book"] tL:=by
 refine T.g_rules_of.F.okA tT λAi A outer s H vs Q E hr h=>?_;obtain⟨b,v1,v2,v3,v4,rfl,e,q⟩:=h;refine⟨_,(af (az (aF aL (pv 0) ai (λ_ _=>rfl)))),?_⟩
 try dsimp only[AA,Ae]
 exact⟨_,rfl,b,_,3,v4,rfl,rfl,n! e,cy (j:=3) rfl,q⟩
inductive ir(vs:List V)(H:Hp)(Q:VK)(_E:XK):Prop
 |mk (b:WS) (v1 v2 v3:V) (ra:WS) (xs:List V) (An:vs=[.ref b]) (Ao:H b=some (.tup [v1,v2,v3,.ref ra])) (Au:H ra=some (.tup xs)) (AD:Q (.int xs.length) H):ir  vs H Q _E
def qH:Sp:=ir
theorem qk:aO P w K mg base CX0 2 T.g_states_of.f T.g_states_of.d ["book"] qH:=by
 refine T.g_states_of.F.okA qL λAi A outer s H vs Q E hr h=>?_;obtain⟨b,v1,v2,v3,ra,xs,rfl,e,e2,q⟩:=h;refine⟨_,(af (az (aH aA rfl T.n_len XT (aa (pcF T.g_rules_of (dw T) hr (aa (pv 0) ab)) ab)))),?_⟩
 try dsimp only[AA,Ae]
 exact⟨_,rfl,b,_,_,_,_,rfl,e,ra,_,rfl,.inr (n! e2),q⟩
inductive g8(vs:List V)(H:Hp)(Q:VK)(_E:XK):Prop
 |mk (ia:WS) (Ag:List WS) (ins:List (Xk×Int)) (An:vs=[.ref ia]) (Ao:H ia=some (.tup (Ag.map i!))) (Au:KsAt H ins Ag) (AD:cS ins) (AR:∀(r:WS)(H':Hp),k! H H'->At H' (iY ins) r->Q (.ref r) H'):g8  vs H Q _E
def iy:Sp:=g8
theorem fk:aO P w K mg base CX0 1 T.g_small_tree.f T.g_small_tree.d ["ins"] iy:=by
 refine T.g_small_tree.F.okA oG λAi A outer s H vs Q E hr h=>?_;obtain⟨ia,Ag,ins,rfl,ei,E1,g,q⟩:=h;refine⟨_,(af (az (aF bu (bW (N:=[WT "name",WT "many"]) (js:=[none,none]) (g:=(oJ K 2 (cW (aq 0) (cW (aq 1) oM)))) (tt:=(kW (tOp (rEq) (aX 1) (tC (.int 0))))) (te:=(lM (aG (aX 0) cC))) rfl (bY rfl (by decide +kernel) (by decide +kernel) rfl rfl rfl) (eZ (pv 0)) (λ_ _ _ _ _ _=>(bj rfl (ak (pgN 0 zT) (ak (pgN 1 zT) aT)))) (gG (bP aY (aI rfl) (bP aY (aI rfl) gN))) (λ_ _ _ _ _ _=>fP (bn fA (pv 1) ai (bc _))) (λ_ _ _ _ _ _=>(aD (aa (pv 0) ab)))) ai (λ_ _=>rfl)))),?_⟩
 try dsimp only[AA,Ae]
 have Cr:ins.length=Ag.length:=W5 E1;have Mh:=g.le;refine⟨_,rfl,ia,rfl,⟨_,n! ei⟩,yS (F:=λH(k:Xk×Int)a=>At H (.knot k.1 []) a) (xs:=Ag.map i!) ins (λk=>decide (k.2=0)) (λH1 H2 z p kt h=>h.mono kt) (by rw[WO];exact Cr) (by rw[WO];omega) (λi Hx sx hi=>⟨_,_,n! (sx _ _ ei),WR hi⟩) (λHx sx=>⟨_,n! (sx _ _ ei),WY _⟩) (λi Hx x Hy sx hi hy=>⟨hy.1,hy.2 _ (n! (sx _ _ ei))⟩) (λi x z Hx R W' hx BR sx hR hW=>?_) (λD H1 as hD s1 eD C3=>?_)⟩
 .obtain⟨ka,rfl,CQ⟩:=aR hx;obtain⟨z',B1,ez⟩:=C! E1 CQ;rw[BR]at B1;cases B1;have Ox:Hx ka=some (.tup [.str z.1,.int z.2]):=sx _ _ ez;refine⟨ka,_,rfl,n! Ox,rfl,_,_,rfl,_,_,rfl,rfl,_,rfl,rfl,_,rfl,?_⟩;have hm:=WU BR;by_cases hc:z.2=0
  .rw[b! (d! (by rw[hc]))];refine⟨_,rfl,lnE rfl,λp hp=>hR (d! hc) _ p (ae hp _) ?_⟩;rw[At];exact⟨pe (g.low z hm).1,[],ac,.nil⟩
  .rw[a! (λz2=>hc (V.int.inj (e! z2)))];exact hW (c! hc) _ (.refl _)
 .refine hid λZZ kZ=>?_;obtain⟨k0,C0,Jx⟩:=uv g;obtain⟨r,Ka,hA⟩:=H! C3 (i:=0) C0;refine kZ ?_;exact⟨D,_,0,.ref r,rfl,rfl,l! eD,at_nonneg (Zw _) (by rw[W0];show Option.map i! as[0]?=_;rw[Ka];rfl),q r H1 s1 (by rw[j8 C0];exact hA)⟩
def aaB(H:Hp)(ins:List (Xk×Int))(f':List (Key×V))(us:List Th):Prop:=∀(i:Nat)(u:Th),us[i]?=some u->(∃a,aQ f' (Xn (i:Int))=some (.ref a)/\At H u a)\/(aQ f' (Xn (i:Int))=none/\u=iY ins)
inductive gI(vs:List V)(H:Hp)(Q:VK)(_E:XK):Prop
 |mk (ia ka da:WS) (Ag:List WS) (ins:List (Xk×Int)) (kd:Xk×Int) (f':List (Key×V)) (us:List Th) (An:vs=[.ref ia,.ref ka,.ref da]) (Ao:H ia=some (.tup (Ag.map i!))) (Au:KsAt H ins Ag) (AD:cS ins) (AR:KAt H kd ka) (BX:kd∈ins) (D5:H da=some (.dK f')) (Eh:us.length=kd.2.toNat) (Gq:aaB H ins f' us) (IF:∀(r:WS)(H':Hp),k! H H'->At H' (.knot kd.1 us) r->Q (.ref r) H'):gI  vs H Q _E
def oN:Sp:=gI
theorem fb:aO P w K mg base CX0 2 T.g_knot_above.f T.g_knot_above.d ["ins","kind","kids"] oN:=by
 refine T.g_knot_above.F.okA fe λAi A outer s H vs Q E hr h=>?_;obtain⟨ia,ka,da,Ag,ins,kd,f',us,rfl,ei,E1,g,ek,hm,ed,Oy,Fb,q⟩:=h
 refine⟨_,(ad (fg (pv 1) (bj rfl (ak (pgN 3 fe.nd) (ak (pgN 4 fe.nd) aT))))
  (af (az (aB dN (aD (aa (pv 3) ab)) (bh ba rfl T.n_tuple Yg (aa (bW (N:=[WT "kid",WT "kids",WT "ins"]) (js:=[none,some 2,some 0]) (g:=(aq 0)) (tt:=bw) (te:=(yA (aX 1) (aX 0) (cO iy [] E0 (aG (aX 2) cC)))) rfl (bY rfl (by decide +kernel) (by decide +kernel) rfl rfl rfl) (bA rfl T.n_range (aa (pv 4) ab)) (λ_ _ _ _ _ _=>(pgN 0 ac7)) (aI rfl) (λ_ _ _ _ _ _=>bF) (λ_ _ _ _ _ _=>(yX (lA hr) (pv 1) (pv 0) (pcF T.g_small_tree (fk T) hr (aa (pv 2) ab)) ⟨rfl,rfl,rfl,rfl⟩))) ab)))))),?_⟩
 try dsimp only[AA,Ae]
 have BS:=g.num kd hm;have Vm:H ka=some (.tup [.str kd.1,.int kd.2]):=ek;refine⟨_,rfl,ka,_,rfl,n! Vm,rfl,_,_,rfl,_,_,rfl,rfl,?_⟩;refine⟨_,rfl,lnE rfl,λp1 DB=>?_⟩;dsimp only;refine gU DB λH1 s1 e1=>?_;have hlen:us.length=((XG kd.2.toNat).map λi=>q! (i:Nat)).length:=by rw[Oy,WO,Xo]
 refine⟨_,rfl,kd.2,rfl,by omega,by omega,fN (F:=At) (xs:=(XG kd.2.toNat).map λi=>q! (i:Nat)) us (λH1 H2 z p kt h=>h.mono kt) hlen (by rw[WO,Xo];omega) (λi Hx sx hi=>by rw[WO,Xo]at hi;exact hi) (λHx sx=>by rw[WO,Xo];exact WY _) (λi Hx x Hy sx hi hy=>⟨hy.1,?_⟩) (λi y z Hx R W' hy BR sx hR=>?_) (λD H2 as hD s2 eD C3=>?_)⟩
 .rw[WO,Xo]at hi;rw[W0,X4 hi,hy.2];show some (q! ((i:Nat):Int))=some (q! (0+((i:Nat):Int)));rw[YA]
 .have hi:i<kd.2.toNat:=by have:=(glE BR);rwa [Oy]at this
  rw[W0,X4 hi]at hy;cases hy;have Mi:=s1.trans sx;have Sd:Hx da=some (.dK f'):=Mi _ _ ed;refine⟨_,rfl,da,rfl,.inl ⟨f',.inl Sd⟩,_,rfl,_,rfl,ia,Ag,ins,rfl,Mi _ _ ei,E1.mono (j! Mi),g,λr H3 s3 Fy=>?_⟩;refine⟨_,DGet.k (k:=Xn ((i:Nat):Int)) (s3 _ _ Sd),?_⟩;rcases Fb i z BR with⟨a,hv,ha⟩|⟨hv,rfl⟩
  .rw[hv];exact hR H3 a s3 (ha.mono (j! (Mi.trans s3)))
  .rw[hv];exact hR H3 r s3 Fy
 have Bb:=W5 C3;refine⟨D,_,rfl,.inl ⟨l! eD,λtp B4=>?_⟩⟩;refine gU B4 λH3 s3 e3=>?_;refine pX ((s2.trans s3) _ _ e1) e3 (by rw[WO];show 1+as.length<=1000000;omega) λp H4 s4 e4=>?_;refine q p H4 (s1.trans (s2.trans (s3.trans s4))) ?_;rw[At];exact⟨pe (g.low kd hm).1,as,e4,(iR C3).mono (j! (s3.trans s4))⟩
theorem y8{k:Nat}(hr:L2.Room k A):A.units+148+4<YM:=by
 have:=jE hr;omega
inductive eU(vs:List V)(H:Hp)(Q:VK)(_E:XK):Prop
 |mk (b:WS) (ins outs:List (Xk×Int)) (head:Th) (rows:List (List Th)) (An:vs=[.ref b]) (Ao:Bk H ins outs head rows b) (Au:cS ins) (AD:rows.length<=100) (AR:(∀row∈rows,row.length=ins.length)) (BX:∀(r:WS)(f':List (List Key×V))(H':Hp),k! H H'->H r=none->H' r=some (.dT f')->MkAt H' ins rows f'->Q (.ref r) H'):eU  vs H Q _E
def kD:Sp:=eU
def acG(H:Hp)(ins:List (Xk×Int))(rows:List (List Th))(f':List (List Key×V))(i j:Nat):Prop :=
 ∀(s k:Nat)(row:List Th)(p:Th),k<3->(s<i\/(s=i/\k<j))->rows[s]?=some row->row[cY ins]?=some p->∃a,aQ f' [Xn (s:Int),Xn (k:Int)]=some (.ref a)/\At H p a
theorem kE:aO P w K mg base CX0 2 T.g_first_makings.f T.g_first_makings.d ["book"] kD:=by
 refine T.g_first_makings.F.okA bo λAi A outer s H vs Q E hr h=>?_;obtain⟨b,ins,outs,head,rows,rfl,hB,g,D8,CT,q⟩:=h;refine hid λZZ kZ=>?_;obtain⟨ia,oa,ha,ra,Ag,AG,AM,hB⟩:=hB;refine kZ ?_
 refine⟨_,(ad (dq (i:=1) (N:=[WT "name",WT "many"]) (js:=[none,none]) (g:=(oJ K 2 (cW (aq 0) (cW (aq 1) oM)))) (tt:=bw) (te:=(lM (aG (aX 0) cC))) bo.nd rfl (Or.inl rfl) rfl (bY rfl (by decide +kernel) (by decide +kernel) rfl rfl rfl) (eZ (pcF T.g_ins_of (dQ T) hr (aa (pv 0) ab))) (λ_ _ _ _ _ _=>(bj rfl (ak (pgN 0 zT) (ak (pgN 1 zT) aT)))) (gG (bP aY (aI rfl) (bP aY (aI rfl) gN))) (λ_ _ _ _ _ _=>bF) (λ_ _ _ _ _ _=>(aD (aa (pv 0) ab))))
  (ad (au 2 bo.nd (bS Xd PySem.F.slot_list_index PySem.F.type_list_index (wj (B:=148) (y8 hr)) (pv 1) (aa (pcF T.g_small_tree (fk T) hr (aa (pcF T.g_ins_of (dQ T) hr (aa (pv 0) ab)) ab)) ab)))
  (ad (au 3 bo.nd nB)
  (ad (bE Xz rfl (pV rfl T.n_enumerate (pcF T.g_rules_of (dw T) hr (aa (pv 0) ab))) (bj rfl (ak (pgN 4 bo.nd) (ak (pgN 5 bo.nd) aT))) (af (bE Xz rfl (bA rfl T.n_range (aa (cz (v:=.int (3)) rfl T.c_MOST_KIDS.choose_spec ⟨_,rfl⟩) ab)) (pgN 6 bo.nd) (af (vc (lA hr) (pv 3) (aD (aa (pv 4) (aa (pv 6) ab))) (aF aL (pv 5) (pv 2) (λ_ _=>rfl)) rfl)))))
  (af (az (pv 3))))))),?_⟩
 try dsimp only[AA,Ae]
 have Cr:ins.length=Ag.length:=W5 hB.inK;have Hr:rows.length=AM.length:=W5 hB.rw;have Mh:=g.le;refine⟨_,rfl,b,_,_,_,_,rfl,hB.bk,ia,rfl,⟨_,n! hB.inE⟩,fN (F:=λH(k:Xk×Int)a=>At H (.knot k.1 []) a) (xs:=Ag.map i!) ins (λH1 H2 z p kt h=>h.mono kt) (by rw[WO];exact Cr) (by rw[WO];omega) (λi Hx sx hi=>⟨_,_,n! (sx _ _ hB.inE),WR hi⟩) (λHx sx=>⟨_,n! (sx _ _ hB.inE),WY _⟩) (λi Hx x Hy sx hi hy=>⟨hy.1,hy.2 _ (n! (sx _ _ hB.inE))⟩) (λi x z Hx R W' hx BR sx hR=>?_) (λD H1 as hD s1 eD C3=>?_)⟩
 .obtain⟨ka,rfl,CQ⟩:=aR hx;obtain⟨z',B1,ez⟩:=C! hB.inK CQ;rw[BR]at B1;cases B1;have Ox:Hx ka=some (.tup [.str z.1,.int z.2]):=sx _ _ ez;refine⟨ka,_,rfl,n! Ox,rfl,_,_,rfl,_,_,rfl,rfl,?_⟩;refine⟨_,rfl,lnE rfl,λp hp=>hR _ p (ae hp _) ?_⟩;rw[At];exact⟨pe (g.low z (WU BR)).1,[],ac,.nil⟩
 obtain⟨k0,C0,Jx⟩:=uv g;have hI:=jX C0;refine⟨_,rfl,.inl ⟨rfl,_,l! eD⟩,_,rfl,b,_,_,_,_,rfl,s1 _ _ hB.bk,ia,Ag,ins,rfl,s1 _ _ hB.inE,hB.inK.mono (j! s1),g,λst H2 s2 A7=>?_⟩;have Cv:=s1.trans s2;have EC:Ats H2 (ins.map λk=>o! k.1 []) as:=(rj C3).mono (j! s2);refine⟨D,.ref st,_,(iY ins).dv,dvs (ins.map λk=>o! k.1 []),cY ins,rfl,rfl,l! (s2 _ _ eD),A7.dv,EC.dvs,?_,?_,λi hi hz=>?_,?_,?_⟩
 .have h1:=jr (ins.map λk=>o! k.1 [])
  have h2:aC (ins.map λk=>o! k.1 [])<=1:=kI λu hu=>by
   obtain⟨k,_,rfl⟩:=XD.mp hu;rw[r!,aC];exact WY _
  omega
 .rw[uu,W0,hI,j8 C0];rfl
 .rw[uu,W0]at hz;cases Mj:ins[i]? with
  |none=>rw[Mj]at hz;cases hz
  | some k =>
    rw[Mj,j8 C0]at hz;have Se:(o! k.1 []).dv=(o! k0.1 []).dv:=Xm hz;rw[Th.dv,Th.dv]at Se;have Vn:=Dv.tup.inj Se;injection Vn with Vo _;injection Vo with Vp;have:=g.nd i (cY ins) k k0 Mj hI Vp;omega
 .rw[vW,WO];omega
 intro td Ht;dsimp only[aq];have s3:k! H2 (upd H2 td (.dT [])):=ae Ht _;have e3:(upd H2 td (.dT [])) td=some (.dT []):=ac;have Kb:H td=none:=Cv.free Ht;generalize(upd H2 td (.dT []))=H3 at s3 e3 |-;have D':=Cv.trans s3;refine⟨_,rfl,b,_,_,_,_,rfl,D' _ _ hB.bk,ra,rfl,⟨_,n! (D' _ _ hB.rl)⟩,?_⟩
 refine zc (K:=K) (a:=ra) (xs:=AM.map i!) (λi Z H4=>Ex4 λ(c4 c5 c6:Option V)(tk:List (List Key×V))=>An5 (Z=[some (.ref b),some (.ref D),some (.int (cY ins:Nat)),some (.ref td),c4,c5,c6]) (k! H H4) (H4 td=some (.dT tk)) (tk.length<=3 * i) (acG H4 ins rows tk i 0))
  ⟨none,none,none,[],rfl,D',e3,Xi _,λs k row p _ h=>by rcases h with h|⟨_,h⟩ <;> cases h⟩ (λi Z H4 _⟨_,_,_,_,_,s4,_,_,_⟩=>n! (s4 _ _ hB.rl)) ?_ ?_
 .rintro i x pr Z H4 hx Bz ⟨c4,c5,c6,tk,rfl,s4,Hu,hlen,Aa⟩;refine hid λZZ kZ=>?_;obtain⟨rwa,rfl,Oz⟩:=aR hx;obtain⟨row,Aj,Kc,Hv,Gr⟩:=C! hB.rw Oz;refine kZ ?_;have Vq:i<100:=by have:=(glE Aj);omega
  have Vr:=CT row (WU Aj);have FA:=Gr.length;have Vs:=(glE hI);refine gU Bz λH5 s5 e5=>?_;have IG:=s4.trans s5;refine⟨pr,_,rfl,n! e5,rfl,_,_,rfl,_,_,rfl,rfl,?_⟩;dsimp only[aq];refine⟨3,rfl,by decide,by decide,?_⟩
  refine dP (n:=3) (λj Z H6=>Ex2 λ(c6:Option V)(tk:List (List Key×V))=>An5 (Z=[some (.ref b),some (.ref D),some (.int (cY ins:Nat)),some (.ref td),some (.int ((i:Nat):Int)),some (.ref rwa),c6]) (k! H H6) (H6 td=some (.dT tk)) (tk.length<=3 * i+j) (acG H6 ins rows tk i j))
   ⟨_,tk,rfl,IG,s5 _ _ Hu,hlen,λs k row p hk h h1 h2=>by
    obtain⟨a,a1,a2⟩:=Aa s k row p hk h h1 h2;exact⟨a,a1,a2.mono (j! s5)⟩⟩ ?_ ?_
  .rintro j Z H6 hj ⟨c6,tk,rfl,s6,Kd,hlen,Aa⟩;refine hid λZZ kZ=>?_;obtain⟨pa,D7⟩:∃a,Kc[cY ins]?=some a:=⟨_,WR (by omega)⟩;obtain⟨p0,Fq,Dq⟩:=Gr.get D7;refine kZ ?_;refine⟨_,rfl,_,rfl,rwa,_,_,.ref pa,rfl,rfl,n! (s6 _ _ Hv),cy (gmE D7),_,rfl,_,rfl,_,rfl,lnE rfl,λkp CU=>?_⟩;refine gU CU λH7 s7 e7=>?_;have e7:H7 kp=some (.tup ([Xn ((i:Nat):Int),Xn (0+((j:Nat):Int))].map kV)):=e7;have Sf:=s7 _ _ Kd;refine⟨td,_,rfl,DPut.t Sf e7 (bQ (by omega)),?_⟩
   have E2:KT H7 (upd H7 td (.dT (putK tk [Xn ((i:Nat):Int),Xn (0+((j:Nat):Int))] (.ref pa)))):=λc ys ec=>by
    rw[aj (ej ec Sf (λz=>nomatch z))];exact ec
   refine⟨_,_,rfl,am (s6.trans s7) Kb,ac,?_,λs k BO p' hk h h1 h2=>?_⟩
   .have:=bt tk [Xn ((i:Nat):Int),Xn (0+((j:Nat):Int))] (i! pa);omega
   .rw[fB];by_cases AW:([Xn ((s:Nat):Int),Xn ((k:Nat):Int)]:List Key)=[Xn ((i:Nat):Int),Xn (0+((j:Nat):Int))]
    .rw[b! AW];injection AW with e1 e2;have Dh:((s:Nat):Int)=(i:Nat):=YV e1;have:s=i:=by omega
     subst this;rw[Aj]at h1;cases h1;rw[Fq]at h2;cases h2;exact⟨pa,rfl,Dq.mono ((j! (s6.trans s7)).trans E2)⟩
    .rw[a! AW]
     have Ml:s<i\/(s=i/\k<j):=by
      rcases h with h|⟨rfl,h⟩
      .exact .inl h
      .refine .inr ⟨rfl,?_⟩;by_cases Vt:k=j
       .exact g! (by rw[Vt,YA]) AW
       .omega
     obtain⟨a,a1,a2⟩:=Aa s k BO p' hk Ml h1 h2;exact⟨a,a1,a2.mono ((j! s7).trans E2)⟩
  .rintro Z H6 ⟨c6,tk,rfl,s6,Kd,hlen,Aa⟩;exact⟨_,_,_,tk,rfl,s6,Kd,by omega,λs k row p hk h h1 h2=>Aa s k row p hk (by rcases h with h|⟨_,h⟩;(· by_cases hs:s=i;exact .inr ⟨hs,hk⟩;exact .inl (by omega));exact g! h (ZN _)) h1 h2⟩
 .rintro Z H4 ⟨c4,c5,c6,tk,rfl,s4,Hu,hlen,Aa⟩;refine⟨_,rfl,q td tk H4 s4 Kb Hu λs k row p hk h1 h2=>Aa s k row p hk (.inl ?_) h1 h2⟩;rw[WO,<-Hr];exact(glE h1)
structure FrB(ins outs:List (Xk×Int))(rows:List (List Th)):Prop where
 gi:cS ins
 fit:FitB ins outs (rows.length:Nat) rows
 le:rows.length<=20
 sz:∀row∈rows,∀p∈row,p.size<=200/\p.tall<=100
theorem FrB.mkd(F:FrB ins outs rows){l:Int}(h0:0<=l)(h1:l<(rows.length:Nat)):∃row p,rows[l.toNat]?=some row/\row[cY ins]?=some p/\mkF ins rows l=p/\p.size<=200/\p.tall<=100/\p.FitS outs (rows.length:Nat) 0:=by
 refine hid λZZ kZ=>?_;obtain⟨k0,C0,Jx⟩:=uv F.gi;have hI:=jX C0;obtain⟨row,hr,er,hl,_⟩:=oU F.fit h0 h1;have Vs:=(glE hI);obtain⟨p,hp⟩:∃p,row[cY ins]?=some p:=⟨_,WR (by omega)⟩;have hm:=WU hr;obtain⟨z1,z2⟩:=F.sz row hm p (WU hp);refine kZ ?_;have hf:=(F.fit.row row hm).2 _ p k0 hp hI;rw[Jx]at hf;exact⟨row,p,hr,hp,by unfold mkF;rw[er,ZP,hp];rfl,z1,z2,hf⟩
inductive gr(P:W6)(w:Xj)(K:WQ)(vs:List V)(H:Hp)(Q:VK)(_E:XK):Prop
 |mk (b md pt:WS) (s:Nat) (ins outs:List (Xk×Int)) (head:Th) (rows:List (List Th)) (row:List Th) (Dr:List (List Key×V)) (f':List (ay×V)) (Al:List ay) (An:vs=[.ref b,.int (s:Nat),.ref md,.ref pt]) (Ao:Bk H ins outs head rows b) (Au:FrB ins outs rows) (AD:rows[s]?=some row) (AR:H md=some (.dT Dr)) (BX:MkAt H ins rows Dr) (D5:Pt P w H pt f' Al) (Eh:Al.length<=1000000) (Gq:(∀x∈(mkF ins rows (s:Nat)).pl [],nk (s:Nat) x.1∈Al)) (IF:∀(r:WS)(Bh:List (ay×V))(H':Hp),But pt H H'->AtK .i K H' (frF (mkF ins rows) (mkF ins rows (s:Nat)) row) r->Pt P w H' pt Bh Al->(∀k∈f'.map (·.1),k∈Bh.map (·.1))->(∀x∈(frF (mkF ins rows) (mkF ins rows (s:Nat)) row).pl [],x.2.isHole=true->nk (s:Nat) x.1∈Bh.map (·.1))->Q (.ref r) H'):gr P w K vs H Q _E
def gy(P:W6)(w:Xj)(K:WQ):Sp:=gr P w K
theorem mP:aO P w K mg base CX0 6 T.g_first_front.f T.g_first_front.d ["book","state","made","partings"] (gy P w K):=by
 refine T.g_first_front.F.okA bB λAi A outer s0 H vs Q E hr h=>?_;obtain⟨b,md,pt,s,ins,outs,head,rows,row,Dr,f',Al,rfl,hB,F,Aj,IH,Hw,E3,Mm,CF,q⟩:=h;refine hid λZZ kZ=>?_;obtain⟨ia,oa,ha,ra,Ag,AG,AM,hB⟩:=hB;refine kZ ?_
 refine⟨_,(ad (au 4 bB.nd (pcF T.g_ins_of (dQ T) hr (aa (pv 0) ab)))
  (ad (au 5 bB.nd (pZ (lA hr) (pv 2) (aD (aa (pv 1) (aa ai ab))) (λ_ _=>rfl)))
  (ad (bE Xz rfl (yJ rfl T.n_zip (aa (pv 4) (aa (aF aL (pcF T.g_rules_of (dw T) hr (aa (pv 0) ab)) (pv 1) (λ_ _=>rfl)) ab))) (bj rfl (ak (pgN 6 bB.nd) (ak (pgN 7 bB.nd) aT))) (ad (au 5 bB.nd (pcF T.g_common (wO T) hr (aa (pv 5) (aa (pcF T.g_filled (ij T) hr (aa (pv 7) (aa (pv 2) ab))) ab))))
  (af (bE Xz rfl (cj (pcF T.g_holes_in (gO T) hr (aa (pv 5) ab))) (pgN 8 bB.nd) (af (aU (yY (fl:=false) Zo PySem.F.type_dict_setdefault (gY (fl:=false) (fM hr)) (pv 3) (aa (aD (aa (pv 1) (aa (pv 8) ab))) (aa (aD (aa (pcF T.g_small_tree (fk T) hr (aa (pv 4) ab)) (aa (pcF T.g_knot_above (fb T) hr (aa (pv 4) (aa (pv 6) (aa zf ab)))) ab))) ab)))))))))
  (af (az (pv 5)))))),?_⟩
 try dsimp only[AA,Ae]
 have g:=F.gi;have Cr:ins.length=Ag.length:=W5 hB.inK;have Hr:rows.length=AM.length:=W5 hB.rw;have Mh:=g.le;have Ow:=(glE Aj);obtain⟨φ,FC⟩:=cq E3.dm;have Ke:md≠pt:=λz=>by rw[z,FC]at IH;cases IH
 refine⟨_,rfl,b,_,_,_,_,rfl,hB.bk,?_⟩;refine hid λZZ kZ=>?_;obtain⟨BO,p0,Sg,Fq,Hz,z1,z2,f0⟩:=F.mkd (l:=(s:Nat)) (by omega) (by omega);rw[XM,Aj]at Sg;cases Sg;obtain⟨fa,Vu,EA⟩:=Hw s 0 row p0 (by decide) Aj Fq;refine kZ ?_;refine⟨_,rfl,_,rfl,lnE rfl,λkp CU=>?_⟩;refine gU CU λH1 s1 e1=>?_;have e1:H1 kp=some (.tup (([Xn ((s:Nat):Int),Xn 0]:List Key).map kV)):=e1;refine⟨md,.ref fa,rfl,.inr ⟨Dr,_,kp,.inl (s1 _ _ IH),rfl,e1,Vu.symm⟩,?_⟩
 refine hid λZZ kZ=>?_;obtain⟨Bn,BU,Kc,Hv,ED⟩:=H! hB.rw Aj;refine kZ ?_;have AS:=ED.length;have OA:=(F.fit.row row (WU Aj)).1;refine⟨_,rfl,_,rfl,b,_,_,_,_,rfl,s1 _ _ hB.bk,_,rfl,ra,_,_,.ref Bn,rfl,rfl,n! (s1 _ _ hB.rl),cy (gmE BU),ia,Bn,rfl,⟨_,n! (s1 _ _ hB.inE)⟩,⟨_,n! (s1 _ _ Hv)⟩,?_⟩
 have Kf:∀(i:Nat)(p:Th),row[i]?=some p->∀l k,B! l k∈p.walk->∃v,aQ Dr [Xn l,Xn k]=some (.ref v)/\At H (mkF ins rows l) v/\(mkF ins rows l).size<=200:=λi p hp l k hc=>by
  have Am:=(glE hp);obtain⟨kd,Fm⟩:∃kd,ins[i]?=some kd:=⟨_,WR (by omega)⟩;have hf:=(F.fit.row row (WU Aj)).2 i p kd hp Fm;have BS:=g.num kd (WU Fm);obtain⟨a1,a2,a3,a4⟩:=kO hf hc;obtain⟨Vv,p1,b1,b2,b3,b4,_⟩:=F.mkd a1 a2;obtain⟨v,v1,v2⟩:=Hw l.toNat k.toNat Vv p1 (by omega) b1 b2;rw[Yu a1,Yu a3]at v1;exact⟨v,v1,by rw[b3];exact v2,by rw[b3];exact b4⟩
 refine uW (K:=K) (a:=ia) (b:=Bn) (xs:=Ag.map i!) (ys:=Kc.map i!) (by rw[WO,WO];omega) (λi Z H2=>Ex5 λ(fa:WS)(c6 c7 c8:Option V)(Bv:List (ay×V))=>An6 (Z=[some (.ref b),some (.int ((s:Nat):Int)),some (.ref md),some (.ref pt),some (.ref ia),some (.ref fa),c6,c7,c8]) (But pt H H2) (AtK .i K H2 (frF (mkF ins rows) (mkF ins rows (s:Nat)) (row.take i)) fa) (Pt P w H2 pt Bv Al) ((∀k∈f'.map (·.1),k∈Bv.map (·.1))) ((0<i->∀x∈(frF (mkF ins rows) (mkF ins rows (s:Nat)) (row.take i)).pl [],x.2.isHole=true->nk (s:Nat) x.1∈Bv.map (·.1))))
  ⟨fa,none,none,none,f',rfl,I! s1,by rw[List.take_zero,Hz];exact(EA.mono (j! s1)).k,E3.same s1,λ_ h=>h,λh=>g! h (Ym _)⟩ (λi Z H2 _⟨_,_,_,_,_,_,b2,_,_,_,_⟩=>?_) ?_ ?_
 .have kt:=b2.kt FC;exact⟨n! (kt _ _ hB.inE),n! (kt _ _ Hv)⟩
 .rintro i x y p2 Z H2 hx hy Bm ⟨fa,c6,c7,c8,Bv,rfl,b2,B5,B6,CJ,_⟩;refine hid λZZ kZ=>?_;obtain⟨ka,rfl,CQ⟩:=aR hx;obtain⟨pa,rfl,D7⟩:=aR hy;obtain⟨kd,hk,ek⟩:=C! hB.inK CQ;obtain⟨p,hp,Dq⟩:=ED.get D7;refine kZ ?_;have OB:=b2.kt FC;refine gU Bm λH3 s3 e3=>?_;have Sh:=OB.trans (j! s3);have b3:=b2.trans (I! s3);refine⟨p2,_,rfl,n! e3,rfl,_,_,rfl,_,_,rfl,rfl,?_⟩;dsimp only[aq]
  have Ex:=F.sz row (WU Aj) p (WU hp);refine⟨_,rfl,_,rfl,_,rfl,.i,pa,md,p,(λl _=>mkF ins rows l),rfl,(Dq.mono Sh).k,by omega,λl k hc=>?_,λfl H4 s4 Mn=>?_⟩
  .refine hid λZZ kZ=>?_;obtain⟨v,v1,v2,v3⟩:=Kf i p hp l k hc;refine kZ ?_;exact⟨v,(v2.mono Sh).k,by omega,λH2 ca sv s2 hs B8=>xG (b3 _ _ Ke IH) v1 s2 hs B8⟩
  have hsz:=jp (mkF ins rows) (mkF ins rows (s:Nat)) (row.take i);rw[Hz]at hsz;have Kg:=B5.mono (j! (s3.trans s4));rw[Hz]at Kg;refine⟨fa,fl,_,_,rfl,Kg,Mn,by omega,by omega,λcm H5 s5 OC=>?_⟩;have AU:row.take (i+1)=row.take i++[p]:=by rw[Yi,hp];rfl
  have Kh:AtK .i K H5 (frF (mkF ins rows) (mkF ins rows (s:Nat)) (row.take (i+1))) cm:=by
   rw[AU,tG,Hz];exact OC
  have b5:=b3.trans (I! (s4.trans s5));have OD:=B6.same (s3.trans (s4.trans s5));have kt5:=b5.kt FC;have OE:=jp (mkF ins rows) (mkF ins rows (s:Nat)) (row.take (i+1));rw[Hz]at OE;have Ki:=Kh;rw[Hz]at Ki
  refine⟨_,rfl,cm,_,rfl,Ki,by omega,by omega,λhl bs H6 s6 Gs Ar=>?_⟩;rw[<-Hz]at Ar;have b6:=b5.trans (I! s6);have Kj:=OD.same s6;have E4:=b6.kt FC;obtain⟨Vw,DT⟩:=cq Kj.dm;have OF:=Kh.mono (j! s6);have E5:hl≠pt:=λz=>by rw[z,DT]at Gs;cases Gs
  have CN:=W5 Ar;have Vx:=ZG (λp:List Int×Th=>p.2.isHole) ((frF (mkF ins rows) (mkF ins rows (s:Nat)) (row.take (i+1))).pl []);rw[D!]at Vx;have BS:=g.num kd (WU hk);refine⟨hl,rfl,⟨_,l! Gs⟩,?_⟩
  refine cD (K:=K) (a:=hl) (xs:=bs.map i!) (λj Z H7=>Ex2 λ(c8:Option V)(FD:List (ay×V))=>An5 (Z=[some (.ref b),some (.int ((s:Nat):Int)),some (.ref md),some (.ref pt),some (.ref ia),some (.ref cm),some (.ref ka),some (.ref pa),c8]) (But pt H6 H7) (Pt P w H7 pt FD Al) ((∀k∈Bv.map (·.1),k∈FD.map (·.1))) (∀(j':Nat)(pl:List Int),j'<j->((((frF (mkF ins rows) (mkF ins rows (s:Nat)) (row.take (i+1))).pl []).filter λp=>p.2.isHole).map (·.1))[j']?=some pl->nk (s:Nat) pl∈FD.map (·.1)))
   ⟨_,Bv,rfl,But.refl _ _,Kj,λ_ h=>h,λ_ _ h=>g! h (ZN _)⟩ (λj Z H7 _⟨_,_,_,b7,_,_,_⟩=>l! (b7 _ _ E5 Gs)) ?_ ?_
  .rintro j x Z H7 hx ⟨c8,FD,rfl,b7,EE,Ce,Aa⟩;obtain⟨pb,rfl,Vy⟩:=aR hx;obtain⟨pl,HE,OG⟩:=C! Ar Vy;have E2:=b7.kt DT;have OH:=E4.trans E2;have OI:=E2 _ _ OG
   have OJ:nk (s:Nat) pl∈Al:=by
    obtain⟨x,Mo,rfl⟩:=XD.mp (WU HE);obtain⟨u,hu⟩:=xJ (mkF ins rows) (mkF ins rows (s:Nat)) (row.take (i+1)) x (Zq.mp Mo).1;exact CF (x.1,u) hu
   have h3l:=EE.len;refine⟨_,rfl,⟨pt,FD,rfl,EE.dm⟩,_,rfl,_,rfl,lnE rfl,λND OK=>?_⟩;refine gU OK λH8 s8 e8=>?_;have DU:=OH.trans (j! s8);refine⟨_,rfl,ia,Ag,ins,rfl,DU _ _ hB.inE,hB.inK.mono DU,g,λst H9 s9 A7=>?_⟩;have OL:=DU.trans (j! s9);refine⟨_,rfl,_,rfl,λdd Mp=>?_⟩;refine gU Mp λBK A8 JY=>?_;have HF:=OL.trans (j! A8);refine⟨ia,ka,dd,Ag,ins,kd,[],List.replicate kd.2.toNat (iY ins),rfl,HF _ _ hB.inE,hB.inK.mono HF,g,HF _ _ ek,WU hk,JY,by rw[List.length_replicate],λi' u hu=>.inr ⟨rfl,List.eq_of_mem_replicate (WU hu)⟩,λr2 GO B9 Gi=>?_⟩;refine⟨lnE rfl,λpr Bz=>?_⟩;refine gU Bz λHG Cf EF=>?_;have HH:=A8.trans (B9.trans Cf);have FE:=s8.trans (s9.trans HH);have EG:=EE.same FE;refine⟨pt,ND,.ref pr,nk (s:Nat) pl,FD,rfl,rfl,EG.dm,pP ((s9.trans HH) _ _ e8) (FE _ _ OI),bQ (by omega),λu hu=>?_,λhn FF Si OM=>?_⟩
   .refine⟨_,FD,rfl,b7.trans (I! FE),EG,Ce,λj' C1 Ay BJ=>?_⟩;by_cases EH:j'=j
    .subst EH;rw[HE]at BJ;cases BJ;exact XD.mpr ⟨_,ft hu,rfl⟩
    .exact Aa j' C1 (by omega) BJ
   .obtain⟨II,Kk⟩:=EG.put hn Si OM ⟨pr,st,r2,_,_,rfl,EF,A7.mono (j! HH),Gi.mono (j! Cf)⟩ OJ;refine⟨_,_,rfl,(b7.trans (I! FE)).trans Si,II,λk AW=>by rw[Kk];exact XH _ (Ce k AW),λj' C1 Ay BJ=>?_⟩;rw[Kk];by_cases EH:j'=j
    .subst EH;rw[HE]at BJ;cases BJ;exact XC _ (Xh ..)
    .exact XH _ (Aa j' C1 (by omega) BJ)
  .rintro Z H7 ⟨c8,FD,rfl,b7,EE,Ce,Aa⟩;refine⟨cm,_,_,_,FD,rfl,b6.trans b7,OF.mono (b7.kt DT),EE,λk AW=>Ce k (CJ k AW),λ_ x hx hh=>?_⟩;have hm:x.1∈(((frF (mkF ins rows) (mkF ins rows (s:Nat)) (row.take (i+1))).pl []).filter λp=>p.2.isHole).map (·.1):=XD.mpr ⟨x,Zq.mpr ⟨hx,hh⟩,rfl⟩;obtain⟨j',Ay⟩:=Xp.mp hm;exact Aa j' x.1 (by have:=(YH.mp Ay).1;rw[WO];omega) Ay
 .rintro Z H2 ⟨fa,c6,c7,c8,Bv,rfl,b2,B5,B6,CJ,hh⟩;rw[WO]at B5 hh;rw[YI (by omega)]at B5 hh;exact⟨_,rfl,q fa Bv H2 b2 B5 B6 CJ (hh (by have:=g.ne;omega))⟩
def LDone(H:Hp)(G:LG)(s:Nat)(ps:List Th)(f0:Th):Prop:=∀p∈ps,∀c∈callsOf (p.pl []),∀u,(c.1,u)∈f0.pl []->∀x∈u.pl [],iq H G (nk c.2.1 x.1) (s:Nat) (c.1++x.1)
theorem LDone.sub{G':LG}{s:Nat}{ps:List Th}{f0:Th}(h:LDone H G s ps f0)(k:LSub H H' G G'):LDone H' G' s ps f0:=λp hp c hc u hu x hx=>k _ _ _ (h p hp c hc u hu x hx)
inductive iC(P:W6)(w:Xj)(K:WQ)(vs:List V)(H:Hp)(Q:VK)(_E:XK):Prop
 |mk (b fa la:WS) (s:Nat) (ins outs:List (Xk×Int)) (head:Th) (rows:List (List Th)) (row:List Th) (f0:Th) (H0:Hp) (G:LG) (N:Nat) (Al:List ay) (An:vs=[.ref b,.int (s:Nat),.ref fa,.ref la]) (Ao:Bk H ins outs head rows b) (Au:FrB ins outs rows) (AD:rows[s]?=some row) (AR:AtK .i K H f0 fa) (BX:f0.size<=200) (D5:f0.tall<=100) (Eh:LkI P w ins Al H0 H la G N) (Gq:N<=15000000) (IF:(∀x∈f0.pl [],nk (s:Nat) x.1∈Al)) (HI:∀(G':LG)(H':Hp),KT H H'->LkI P w ins Al H0 H' la G' (N+640000)->LSub H H' G G'->LDone H' G' s row f0->Q .non H'):iC P w K vs H Q _E
def qc(P:W6)(w:Xj)(K:WQ):Sp:=iC P w K
theorem p6:aO P w K mg base CX0 6 T.g_put_links.f T.g_put_links.d ["book","state","front","links"] (qc P w K):=by
 refine T.g_put_links.F.okA bI λAi A outer s0 H vs Q E hr h=>?_;obtain⟨b,fa,la,s,ins,outs,head,rows,row,f0,H0,G,N,Al,rfl,hB,F,Aj,B5,hfz,Mq,L,hN,CF,q⟩:=h;refine hid λZZ kZ=>?_;obtain⟨ia,oa,ha,ra,Ag,AG,AM,hB⟩:=hB;refine kZ ?_
 refine⟨_,(ad (au 4 bI.nd (bh (nY (zN hr) rfl) rfl T.n_dict PyProof.Rows.boot_dict (aa (pcF T.g_placed (io T) hr (aa (pv 2) ab)) ab)))
  (af (bE Xz rfl (yJ rfl T.n_zip (aa (pcF T.g_ins_of (dQ T) hr (aa (pv 0) ab)) (aa (aF aL (pcF T.g_rules_of (dw T) hr (aa (pv 0) ab)) (pv 1) (λ_ _=>rfl)) ab))) (bj rfl (ak (pgN 5 bI.nd) (ak (pgN 6 bI.nd) aT))) (af (bE Xz rfl (cj (pcF T.g_calls_in (tR T) hr (aa (pv 6) ab))) (bj rfl (ak (pgN 7 bI.nd) (ak (bj rfl (ak (pgN 8 bI.nd) (ak (pgN 9 bI.nd) aT))) aT))) (af (cB (ug (abU (lA hr) (pv 7) (pv 4))) (af (bE Xz rfl (cj (pcF T.g_places (wL T) hr (aa (pZ (lA hr) (pv 4) (pv 7) (λ_ _=>rfl)) ab))) (pgN 10 bI.nd) (af (aU (bS Xd Xx Xw aS (yY (fl:=false) Zo PySem.F.type_dict_setdefault (gY (fl:=false) (fM hr)) (pv 3) (aa (aD (aa (pv 8) (aa (pv 10) ab))) (aa (bx ab) ab))) (aa (aD (aa (pv 1) (aa (aB dN (pv 7) (pv 10)) (aa (pv 5) (aa (pv 9) ab))))) ab)))))) bN))))))),?_⟩
 try dsimp only[AA,Ae]
 have g:=F.gi;have Cr:ins.length=Ag.length:=W5 hB.inK;have Mh:=g.le;have Ow:=(glE Aj)
 refine⟨_,rfl,fa,f0,rfl,B5,by omega,by omega,λVz Mr H1 s1 npl Kl Bu=>?_⟩;have ON:(f0.pl []).length=Mr.length:=W5 Bu;rw[D!]at ON;refine hid λZZ kZ=>?_;obtain⟨prs,Km,OO,OP⟩:∃prs:List (List Key×V),Xs (PrA H1) prs Mr/\(∀p∈prs,∃x∈f0.pl [],p.1=x.1.map Xn/\∃a,p.2=.ref a/\AtK .i K H1 x.2 a)/\∀x∈f0.pl [],∃p∈prs,p.1=x.1.map Xn:=yu Bu;refine kZ ?_;have Sj:prs.length=Mr.length:=W5 Km;refine⟨Vz,Mr,prs,rfl,Kl,Km,by omega,λpd VA=>?_⟩;refine gU VA λH2 s2 e2=>?_;refine hid λZZ kZ=>?_;obtain⟨f1,f2⟩:=li (R:=λk v=>∃x∈f0.pl [],k=x.1.map Xn/\∃a,v=.ref a/\AtK .i K H1 x.2 a) prs [] (λk v hv=>by cases hv) OO;have Cv:=s1.trans s2;have HJ:=L.same Cv;obtain⟨Bn,BU,Kc,Hv,ED⟩:=H! hB.rw Aj;refine kZ ?_;have AS:=ED.length;have OA:=(F.fit.row row (WU Aj)).1
 have OQ:∀(q:List Int)(u:Th),(q,u)∈f0.pl []->∃a,aQ (dj [] prs) (q.map Xn)=some (.ref a)/\AtK .i K H1 u a:=λq u hu=>by
  obtain⟨p,hp,e⟩:=OP (q,u) hu;obtain⟨v,hv⟩:=f2 (q.map Xn) (.inr ⟨p,hp,e⟩);obtain⟨x,hx,ex,a,rfl,ha⟩:=f1 _ v hv;have hq:q=x.1:=(List.map_inj_right (λ_ _ e=>YV e)).mp ex;have:u=x.2:=uK _ (WY _) hu (by rw[hq];exact hx);rw[this];exact⟨a,hv,ha⟩
 have OR:∀(q:List Int)(v:V),aQ (dj [] prs) (q.map Xn)=some v->∃u a,(q,u)∈f0.pl []/\v=.ref a/\AtK .i K H1 u a:=λq v hv=>by
  obtain⟨x,hx,ex,a,rfl,ha⟩:=f1 _ v hv;have hq:q=x.1:=(List.map_inj_right (λ_ _ e=>YV e)).mp ex;exact⟨x.2,a,by rw[hq];exact hx,rfl,ha⟩
 have Gu:pd≠la:=λz=>by
  obtain⟨φ,e⟩:=cq HJ.dm;rw[z,e]at e2;cases e2
 have OS:∀g∈G,g.2.1≠pd:=λg hg z=>by
  have:=(HJ.ls g hg).2.1;rw[z,e2]at this;cases this
 refine⟨_,rfl,b,_,_,_,_,rfl,Cv _ _ hB.bk,_,rfl,b,_,_,_,_,rfl,Cv _ _ hB.bk,_,rfl,ra,_,_,.ref Bn,rfl,rfl,n! (Cv _ _ hB.rl),cy (gmE BU),ia,Bn,rfl,⟨_,n! (Cv _ _ hB.inE)⟩,⟨_,n! (Cv _ _ Hv)⟩,?_⟩
 refine uW (K:=K) (a:=ia) (b:=Bn) (xs:=Ag.map i!) (ys:=Kc.map i!) (by rw[WO,WO];omega) (λi Z H3=>Ex7 λ(c5 c6 c7 c8 c9 DH:Option V)(G3:LG)=>An3 (Z=[some (.ref b),some (.int ((s:Nat):Int)),some (.ref fa),some (.ref la),some (.ref pd),c5,c6,c7,c8,c9,DH]) (LQ P w ins Al H0 la H2 G H3 G3 (N+i * 80000)) (LDone H3 G3 s (row.take i) f0))
  ⟨none,none,none,none,none,none,G,rfl,(LQ.refl HJ).up (by omega),λp hp=>by rw[List.take_zero]at hp;cases hp⟩ (λi Z H3 _⟨_,_,_,_,_,_,_,_,q3,_⟩=>?_) ?_ ?_
 .have kt:=(j! Cv).trans (q3.kt HJ);exact⟨n! (kt _ _ hB.inE),n! (kt _ _ Hv)⟩
 .rintro i x y p2 Z H3 hx hy Bm ⟨c5,c6,c7,c8,c9,DH,G3,rfl,q3,d3⟩;refine hid λZZ kZ=>?_;obtain⟨ka,rfl,CQ⟩:=aR hx;obtain⟨pa,rfl,D7⟩:=aR hy;obtain⟨kd,hk,ek⟩:=C! hB.inK CQ;obtain⟨p,hp,Dq⟩:=ED.get D7;refine kZ ?_;have VB:i<8:=by have:=(glE hk);omega
  refine gU Bm λH4 s4 e4=>?_;have q4:=q3.same s4;have Mt:=(j! Cv).trans (q4.kt HJ);refine⟨p2,_,rfl,n! e4,rfl,_,_,rfl,_,_,rfl,rfl,?_⟩;dsimp only[aq];have Ex:=F.sz row (WU Aj) p (WU hp);refine⟨_,rfl,pa,p,rfl,(Dq.mono Mt).k,by omega,by omega,λcl cs H5 s5 VC E6 Cz=>?_⟩;have q5:=q4.same s5;have d5:=d3.sub (LSub.kt (j! (s4.trans s5)) G3);have L5:=q5.lk;have VD:(callsOf (p.pl [])).length=cs.length:=W5 Cz;have OT:=lp (p.pl []);rw[D!]at OT
  have OU:∀g∈G3,g.2.1≠cl:=λg hg z=>by
   have:=(q4.lk.ls g hg).2.1;rw[z,VC]at this;cases this
  have Kn:cl≠la:=λz=>by
   obtain⟨φ,e⟩:=cq L5.dm;rw[z,e]at E6;cases E6
  refine⟨cl,rfl,⟨_,l! E6⟩,?_⟩
  refine cD (K:=K) (a:=cl) (xs:=cs.map i!) (λj Z H6=>Ex5 λ(c7 c8 c9 DH:Option V)(G6:LG)=>An3 (Z=[some (.ref b),some (.int ((s:Nat):Int)),some (.ref fa),some (.ref la),some (.ref pd),some (.ref ka),some (.ref pa),c7,c8,c9,DH]) (LQ P w ins Al H0 la H5 G3 H6 G6 (N+i * 80000+j * 400)) (∀(j':Nat)(c:List Int×Int×Int),j'<j->(callsOf (p.pl []))[j']?=some c->∀u,(c.1,u)∈f0.pl []->∀x∈u.pl [],iq H6 G6 (nk c.2.1 x.1) (s:Nat) (c.1++x.1)))
   ⟨_,_,_,_,G3,rfl,(LQ.refl L5).up (by omega),λ_ _ h=>g! h (ZN _)⟩ (λj Z H6 _⟨_,_,_,_,_,_,q6,_⟩=>l! (q6.fr _ _ E6 Kn OU)) ?_ ?_
  .rintro j x Z H6 hx ⟨c7,c8,c9,DH,G6,rfl,q6,d6⟩;refine hid λZZ kZ=>?_;obtain⟨ca,rfl,DD⟩:=aR hx;obtain⟨c,hc,Ko,VE,VF,Sk,OV⟩:=C! Cz DD;refine kZ ?_;have E4:=q6.kt L5;have JE:j<200:=by have:=(glE hc);omega
   have Kp:H5 pd=some (.dT (dj [] prs)):=q5.fr _ _ e2 Gu OS
   have Kq:∀g∈G3,g.2.1≠pd:=λg hg z=>by
    have:=(L5.ls g hg).2.1;rw[z,Kp]at this;cases this
   have Kr:=q6.fr _ _ Kp Gu Kq
   have Sl:H6 Ko=some (.tup ((c.1.map Xn).map kV)):=by
    rw[E4 _ _ Sk,Y1];rfl
   have FG:=(j! s2).trans ((q5.kt HJ).trans E4);refine⟨ca,_,rfl,n! (E4 _ _ VF),rfl,_,_,rfl,_,_,rfl,VE,_,rfl,n! (E4 _ _ OV),rfl,_,_,rfl,_,_,rfl,rfl,rfl,?_⟩;refine ce (λbb H'=>An2 (H6=H') (bb=(aQ (dj [] prs) (c.1.map Xn)).isSome)) (λk2 Bj=>?_) (λH' AF=>?_) (λH' AF=>?_)
   .exact⟨_,rfl,_,rfl,pd,_,rfl,DGet.t Kr Sl,_,rfl,Bj _ _ ⟨rfl,rfl⟩⟩
   .refine hid λZZ kZ=>?_;obtain⟨rfl,AF⟩:=AF;obtain⟨v,hv⟩:=Z2.mp AF.symm;obtain⟨u,ua,hu,rfl,DF⟩:=OR c.1 v hv;obtain⟨Fb,VG⟩:=aaT _ f0 [] (WY _) _ hu;refine kZ ?_;dsimp only at Fb VG;refine⟨_,rfl,_,rfl,pd,.ref ua,rfl,by rw[<-hv];exact DGet.t Kr Sl,ua,u,rfl,DF.mono FG,by omega,by omega,λil Sm H7 s7 nil Mu Ks=>⟨il,rfl,⟨_,l! Mu⟩,?_⟩⟩;have q7:=q6.same s7;have L7:=q7.lk;have d7:∀(j':Nat)(c:List Int×Int×Int),j'<j->(callsOf (p.pl []))[j']?=some c->∀u,(c.1,u)∈f0.pl []->∀x∈u.pl [],iq H7 G6 (nk c.2.1 x.1) (s:Nat) (c.1++x.1):=λj' c h1 h2 u h3 x h4=>LSub.kt (j! s7) G6 _ _ _ (d6 j' c h1 h2 u h3 x h4);have OW:(u.pl []).length=Sm.length:=W5 Ks;rw[D!]at OW
    have OX:∀g∈G6,g.2.1≠il:=λg hg z=>by
     have:=(q6.lk.ls g hg).2.1;rw[z,nil]at this;cases this
    have Kt:il≠la:=λz=>by
     obtain⟨φ,e⟩:=cq L7.dm;rw[z,e]at Mu;cases Mu
    have E2:=E4.trans (j! s7);have OY:=(Mt.trans (j! s5)).trans E2
    refine cD (K:=K) (a:=il) (xs:=Sm.map i!) (λm Z H8=>Ex2 λ(DH:Option V)(G8:LG)=>An3 (Z=[some (.ref b),some (.int ((s:Nat):Int)),some (.ref fa),some (.ref la),some (.ref pd),some (.ref ka),some (.ref pa),some (.ref Ko),some (.int c.2.1),some (.int c.2.2),DH]) (LQ P w ins Al H0 la H7 G6 H8 G8 (N+i * 80000+j * 400+2 * m)) (∀(m':Nat)(x:List Int×Th),m'<m->(u.pl [])[m']?=some x->iq H8 G8 (nk c.2.1 x.1) (s:Nat) (c.1++x.1)))
     ⟨_,G6,rfl,LQ.refl L7,λ_ _ h=>g! h (ZN _)⟩ (λm Z H8 _⟨_,_,_,q8,_⟩=>l! (q8.fr _ _ Mu Kt OX)) ?_ ?_
    .rintro m x Z H8 hx ⟨DH,G8,rfl,q8,d8⟩;refine hid λZZ kZ=>?_;obtain⟨ib,rfl,VH⟩:=aR hx;obtain⟨y,hy,OZ⟩:=C! Ks VH;have Iy:m<200:=by have:=(glE hy);rw[D!]at this;omega
     have O0:=q8.kt L7;have L8:=q8.lk;have O1:=L8.le;have O2:=O0 _ _ OZ;have Sn:=O0 _ _ (E2 _ _ Sk);have So:KAt H8 kd ka:=O0 _ _ (OY _ _ ek);obtain⟨φ8,VI⟩:=cq L8.dm;refine kZ ?_;have R6:c.1.length<=100:=by have:=yD _ f0 [] (WY _) _ hu;rw[List.length_nil]at this;dsimp only at this;omega
     have E7:y.1.length<=100:=by have:=yD _ u [] (WY _) y (WU hy);rw[List.length_nil]at this;omega
     have Sq:nk (s:Nat) (c.1++y.1)∈Al:=CF (c.1++y.1,y.2) (va _ (WY _) hu (WU hy));refine⟨_,rfl,⟨la,_,rfl,L8.dm⟩,_,rfl,_,rfl,lnE rfl,λkp CU=>?_⟩;dsimp only;refine gU CU λH9 s9 e9=>?_;refine⟨lnE rfl,λl0 EU=>?_⟩;have A8:k! H9 (upd H9 l0 (.lst [])):=ae EU _;have q9:LQ P w ins Al H0 la H8 G8 H9 G8 (N+i * 80000+j * 400+2 * m):=(LQ.refl L8).same s9;have HK:=j! (s9.trans A8);refine⟨la,kp,.ref l0,nk c.2.1 y.1,lkv G8,rfl,rfl,L8.dm.mono (s9.trans A8),pP (A8 _ _ e9) ((s9.trans A8) _ _ O2),fG (by unfold lkv;rw[WO];omega),λu hu=>?_,λhn BK VJ O3=>?_⟩
     .obtain⟨g,hg,O4,rfl⟩:=vP hu;have qs:LQ P w ins Al H0 la H8 G8 (upd H9 l0 (.lst [])) G8 (N+i * 80000+j * 400+2 * m+1):=(q9.same A8).up (by omega);generalize(upd H9 l0 (.lst []))=Hs at qs HK |-;have Ls:=qs.lk;refine hid λZZ kZ=>?_;obtain⟨_,gl,gn,_⟩:=Ls.ls g hg;refine kZ ?_;refine⟨.inl ⟨rfl,_,l! gl⟩,_,rfl,_,rfl,_,rfl,?_⟩;refine pX (HK _ _ Sn) (HK _ _ O2) (by rw[WO,WO];omega) λpj GO B9 FH=>?_;rw[<-Xc]at FH;refine⟨_,rfl,_,rfl,lnE rfl,λen O5=>?_⟩;refine gU O5 λHG Cf EF=>?_;have Ds:=B9.trans Cf;refine⟨g.2.1,_,_,rfl,rfl,Ds _ _ gl,fG (by rw[WO];omega),?_⟩;obtain⟨Ku,has⟩:=(qs.same Ds).appG hg (en:=en) ⟨_,_,c.1++y.1,pj,ka,kd,EF,Cf _ _ FH,(j! Ds) _ _ (HK _ _ So),WU hk,Sq⟩;refine⟨_,_,rfl,(q8.trans Ku).up (by omega),λm' x2 Ga Ct=>?_⟩;by_cases Mv:m'=m
      .rw[Mv,hy]at Ct;cases Ct;have hh:=has _ _ _ _ _ EF (Cf _ _ FH);rw[O4]at hh;exact hh
      .exact Ku.sub _ _ _ (d8 m' x2 (by omega) Ct)
     .have qs:=q9.newG EU hn VJ O3;have Dt:=qs.kt L8;refine hid λZZ kZ=>?_;obtain⟨g,hg,O4,VL⟩:∃g∈G8++[(nk c.2.1 y.1,l0,[])],g.1=nk c.2.1 y.1/\g.2.1=l0:=⟨_,XC _ (Xh ..),rfl,rfl⟩;refine kZ ?_;rw[<-VL]at qs hg |-;have Ls:=qs.lk;refine hid λZZ kZ=>?_;obtain⟨_,gl,gn,_⟩:=Ls.ls g hg;refine kZ ?_;refine⟨.inl ⟨rfl,_,l! gl⟩,_,rfl,_,rfl,_,rfl,?_⟩;refine pX (Dt _ _ Sn) (Dt _ _ O2) (by rw[WO,WO];omega) λpj GO B9 FH=>?_;rw[<-Xc]at FH;refine⟨_,rfl,_,rfl,lnE rfl,λen O5=>?_⟩;refine gU O5 λHG Cf EF=>?_;have Ds:=B9.trans Cf;refine⟨g.2.1,_,_,rfl,rfl,Ds _ _ gl,fG (by rw[WO];omega),?_⟩;obtain⟨Ku,has⟩:=(qs.same Ds).appG hg (en:=en) ⟨_,_,c.1++y.1,pj,ka,kd,EF,Cf _ _ FH,(j! Ds) _ _ (Dt _ _ So),WU hk,Sq⟩;refine⟨_,_,rfl,(q8.trans Ku).up (by omega),λm' x2 Ga Ct=>?_⟩;by_cases Mv:m'=m
      .rw[Mv,hy]at Ct;cases Ct;have hh:=has _ _ _ _ _ EF (Cf _ _ FH);rw[O4]at hh;exact hh
      .exact Ku.sub _ _ _ (d8 m' x2 (by omega) Ct)
    .rintro Z H8 ⟨DH,G8,rfl,q8,d8⟩;refine⟨_,_,_,_,G8,rfl,(q7.trans q8).up (by rw[WO];omega),λj' c' Ay AX u' Ca x2 Ct=>?_⟩;by_cases EH:j'=j
     .subst EH;rw[hc]at AX;cases AX;have:u'=u:=uK _ (WY _) Ca hu;subst this;obtain⟨m',Ga⟩:=Xp.mp Ct;exact d8 m' x2 (by have:=(YH.mp Ga).1;rw[D!]at this;rw[WO];omega) Ga
     .exact q8.sub _ _ _ (d7 j' c' (by omega) AX u' Ca x2 Ct)
   .obtain⟨rfl,AF⟩:=AF;refine⟨_,_,_,_,G6,rfl,q6.up (by omega),λj' c' Ay AX u' Ca x2 Ct=>?_⟩;by_cases EH:j'=j
    .subst EH;rw[hc]at AX;cases AX;obtain⟨a,ha,_⟩:=OQ c.1 u' Ca;rw[ha]at AF;cases AF
    .exact d6 j' c' (by omega) AX u' Ca x2 Ct
  .rintro Z H6 ⟨c7,c8,c9,DH,G6,rfl,q6,d6⟩;refine⟨_,_,_,_,_,_,G6,rfl,(q5.trans q6).up ?_,?_⟩
   .rw[WO];have:cs.length * 400<=200 * 400:=Y4 _ (by omega);omega
   .intro p' BJ;rw[Yi,hp]at BJ;rcases Xq.mp BJ with BJ|BJ
    .exact(d5.sub q6.sub) p' BJ
    .cases W7.mp BJ;intro c OC;obtain⟨j',Ay⟩:=Xp.mp OC;exact d6 j' c (by have:=(YH.mp Ay).1;rw[WO];omega) Ay
 .rintro Z H3 ⟨c5,c6,c7,c8,c9,DH,G3,rfl,q3,d3⟩;rw[WO]at q3 d3;rw[YI (by omega)]at d3;have hmul:Ag.length * 80000<=8 * 80000:=Y4 _ (by omega);exact q G3 H3 ((j! Cv).trans (q3.kt HJ)) (q3.lk.up (by omega)) ((LSub.kt (j! Cv) G).trans q3.sub) d3
theorem pG(k:Key)(v:V):j5 [] [(k,v)]=[(k,v)]:=rfl
def j7(ins:List (Xk×Int))(n:Nat)(kid:Int)(t:Th):List Th:=(XG n).map λ(i:Nat)=>if(i:Int)=kid then t else iY ins
theorem nR(ins:List (Xk×Int))(n:Nat)(kid:Int)(t:Th):(j7 ins n kid t).length=n:=by unfold j7;rw[WO,Xo]
theorem rD{kid:Int}{t:Th}(h:At H t a):aaB H ins [(Xn kid,.ref a)] (j7 ins n kid t):=λi u hu=>by
 unfold j7 at hu;rw[W0,XJ]at hu;obtain⟨j,hj,rfl⟩:=hu;have hjn:j<n:=by have:=YY.mp (WU hj);exact this
 have Iv:i=j:=by
  have hi:i<n:=by have:=(glE hj);rwa [Xo]at this
  rw[X4 hi]at hj;exact Xm hj
 subst Iv;by_cases hk:(i:Int)=kid
 .rw[b! hk];exact .inl ⟨a,by rw[bD (by rw[hk])],h⟩
 .rw[a! hk];exact .inr ⟨by rw[bC (λz=>hk (YV z).symm)];rfl,rfl⟩
def SpI(P:W6)(w:Xj)(H:Hp)(ia la pt hl:WS)(G:LG)(f':List (ay×V))(Al:List ay)(m:Nat)(Z:St)(H2:Hp):Prop:=∃(i:Nat)(Bv:List (ay×V))(FI:List WS)(c5 c6 c7 c8 c9 DH:Option V),Z=[some (.ref ia),some (.ref la),some (.ref pt),some (.ref hl),some (.int (i:Nat)),c5,c6,c7,c8,c9,DH]/\But pt H H2/\H2 hl=some (.lst (FI.map i!))/\Pt P w H2 pt Bv Al/\Xs (λk b=>MKAt false H2 k b) (Bv.map (·.1)) FI/\(∀k∈f'.map (·.1),k∈Bv.map (·.1))/\i<=Bv.length/\(∀(j:Nat)(k:ay),j<i->(Bv.map (·.1))[j]?=some k->∀s pl,iq H2 G k s pl->nk s pl∈Bv.map (·.1))/\m=Al.length+1 - i
inductive mh(P:W6)(w:Xj)(vs:List V)(H:Hp)(Q:VK)(_E:XK):Prop
 |mk (ia la pt:WS) (Ag:List WS) (ins:List (Xk×Int)) (G:LG) (f':List (ay×V)) (Al:List ay) (An:vs=[.ref ia,.ref la,.ref pt]) (Ao:H ia=some (.tup (Ag.map i!))) (Au:KsAt H ins Ag) (AD:cS ins) (AR:LkR P w ins Al H la G) (BX:Pt P w H pt f' Al) (D5:Al.length<=1000000) (Eh:pt≠la) (Gq:∀(Bh:List (ay×V))(H':Hp),But pt H H'->Pt P w H' pt Bh Al->(∀k∈f'.map (·.1),k∈Bh.map (·.1))->(∀k∈Bh.map (·.1),∀s pl,iq H' G k s pl->nk s pl∈Bh.map (·.1))->Q .non H'):mh P w vs H Q _E
def wo(P:W6)(w:Xj):Sp:=mh P w
theorem wR:aO P w K mg base CX0 3 T.g_spread.f T.g_spread.d ["ins","links","partings"] (wo P w):=by
 refine T.g_spread.F.okA cf λAi A outer s0 H vs Q E hr h=>?_;obtain⟨ia,la,pt,Ag,ins,G,f',Al,rfl,ei,E1,g,R,E3,Mm,Av,q⟩:=h
 refine⟨_,(ad (au 3 cf.nd (bh (t5 (fl:=false) rfl) rfl T.n_list PyProof.Rows.boot_list (aa (pv 2) ab)))
  (ad (au 4 cf.nd ai)
  (af (eF Xz (bn mI (pv 4) (aH aA rfl T.n_len XT (aa (pv 3) ab)) (bc _)) (ad (fg (yy (fl:=false) (fM hr) (pv 2) (aF bu (pv 3) (pv 4) (λ_ _=>rfl)) (λ_ _=>rfl)) (bj rfl (ak (pgN 5 cf.nd) (ak (pgN 6 cf.nd) aT))))
  (ad (bE Xz rfl (cj (wK (fl:=false) (fM hr) (pv 1) (aF bu (pv 3) (pv 4) (λ_ _=>rfl)) (bx ab) ⟨rfl,rfl,rfl,rfl⟩)) (bj rfl (ak (pgN 7 cf.nd) (ak (pgN 8 cf.nd) (ak (pgN 9 cf.nd) (ak (pgN 10 cf.nd) aT))))) (af (cB (ug (uU (fl:=false) (fM hr) (aD (aa (pv 7) (aa (pv 8) ab))) (pv 2))) (ad (rK (fl:=false) (fM hr) (pv 2) (aD (aa (pv 7) (aa (pv 8) ab))) (aD (aa (pcF T.g_knot_above (fb T) hr (aa (pv 0) (aa (pv 9) (aa (vD (sM (pv 10) (pv 5) vE) rfl rfl (by decide) (by decide)) ab)))) (aa (pcF T.g_knot_above (fb T) hr (aa (pv 0) (aa (pv 9) (aa (vD (sM (pv 10) (pv 6) vE) rfl rfl (by decide) (by decide)) ab)))) ab))) rfl)
  (af (aU (bS Xd Xx Xw aS (pv 3) (aa (aD (aa (pv 7) (aa (pv 8) ab))) ab))))) bN)))
  (af (yZ (i:=4) cf.nd rfl (Or.inl rfl) ai xx)))))))),?_⟩
 try dsimp only[AA,Ae]
 obtain⟨φ,FC⟩:=cq E3.dm;have Cr:ins.length=Ag.length:=W5 E1;refine⟨_,rfl,pt,f',rfl,E3.dm,λhl bs E5 Ar=>?_⟩;refine gU E5 λH1 s1 e1=>?_;have Sr:hl≠pt:=λz=>by rw[z,FC]at E5;cases E5
 have O6:Xs (λk b=>MKAt false H1 k b) (f'.map (·.1)) bs:=P2.mapl _ (y! (λ_ _ e=>e.mono (j! s1)) Ar);refine⟨SpI P w H ia la pt hl G f' Al,⟨_,0,f',bs,none,none,none,none,none,none,rfl,I! s1,e1,E3.same s1,O6,λ_ h=>h,Xi _,λ_ _ h=>g! h (ZN _),rfl⟩,?_⟩;rintro m Z H2 ⟨i,Bv,FI,c5,c6,c7,c8,c9,DH,rfl,b2,Du,B6,HL,Gv,Mj,De,rfl⟩;have O7:(Bv.map (·.1)).length=FI.length:=W5 HL;rw[WO]at O7;have h2l:=B6.len;have OB:=b2.kt FC;obtain⟨Mw,DV⟩:=cq B6.dm;refine⟨_,rfl,_,rfl,hl,_,rfl,.inl (l! Du),_,_,rfl,rfl,?_⟩;refine⟨_,rfl,?_⟩;refine cT (λcc=>?_) (λcc=>?_)
 .have Am:i<FI.length:=by
   have:=e! cc;rw[WO]at this;omega
  refine hid λZZ kZ=>?_;obtain⟨bk,Ss⟩:∃bk,FI[i]?=some bk:=⟨_,WR Am⟩;obtain⟨k,hk,Hw⟩:=C! HL Ss
  obtain⟨v,hv⟩:∃v,aQ Bv k=some v:=by
   cases Kv:aQ Bv k with
   |none=>exact g! (WU hk) (fx Kv)
   |some v=>exact⟨v,rfl⟩
  obtain⟨pr,ta,tb,t1,t2,rfl,Iz,CS,L6⟩:=B6.vl _ (ft hv);refine kZ ?_;have Kw:atI (FI.map i!) ((i:Nat):Int)=some (.ref bk):=cy (gmE Ss);refine⟨λAb H'=>∃m',m'<Al.length+1 - i/\SpI P w H ia la pt hl G f' Al m' Ab H',λAb H' h=>h,?_⟩;refine⟨_,rfl,_,rfl,_,rfl,hl,_,_,.ref bk,rfl,rfl,l! Du,Kw,?_⟩;refine⟨pt,bk,k,Bv,.ref pr,rfl,rfl,B6.dm,Hw,hv,?_⟩;refine⟨pr,_,rfl,n! Iz,rfl,_,_,rfl,_,_,rfl,rfl,?_⟩;dsimp only[aq];have R2:=R.but b2 FC Av
  refine ci (λAb H'=>Ex6 λ(BV:List (ay×V))(CV:List WS)(d7 d8 d9 IJ:Option V)=>An8 (Ab=[some (.ref ia),some (.ref la),some (.ref pt),some (.ref hl),some (.int (i:Nat)),some (.ref ta),some (.ref tb),d7,d8,d9,IJ]) (But pt H H') (KT H2 H') (H' hl=some (.lst (CV.map i!))) (Pt P w H' pt BV Al) (Xs (λk b=>MKAt false H' k b) (BV.map (·.1)) CV) ((∃more,BV.map (·.1)=Bv.map (·.1)++more)) (∀s pl,iq H' G k s pl->nk s pl∈BV.map (·.1))) (λkk AW=>?_) ?_
  .refine⟨_,rfl,la,_,rfl,R2.dm,_,rfl,_,rfl,hl,_,_,.ref bk,rfl,rfl,l! Du,Kw,lnE rfl,λl0 EU=>?_⟩;refine gU EU λH3 s3 e3=>?_;have e3:H3 l0=some (.lst (([]:List WS).map i!)):=e3;have R3:=R2.but (I! s3 (p:=pt)) DV Av;have O8:l0≠hl:=λz=>by rw[z,Du]at EU;cases EU
   refine⟨la,bk,k,lkv G,rfl,rfl,R3.dm,Hw.mono (j! s3),?_⟩;refine hid λZZ kZ=>?_
   obtain⟨l,as,el,Su,VM,VN,hle,VO⟩:∃(l:WS)(as:List WS),(aQ (lkv G) k).getD (.ref l0)=.ref l/\H3 l=some (.lst (as.map i!))/\l≠hl/\l≠pt/\(∀a∈as,LE H3 ins Al a)/\∀s pl,iq H3 G k s pl->∃a∈as,∃(pa ka:WS)(kid:Int),H3 a=some (.tup [.int s,.ref pa,.ref ka,.int kid])/\H3 pa=some (.tup (pl.map q!)):=by
    have DW:H3 pt=some (.ext Mw):=s3 _ _ DV;cases Sv:aQ (lkv G) k with
    |none=>exact⟨l0,[],rfl,e3,O8,(λz=>by rw[z,DW]at e3;cases e3),(λa ha=>by cases ha),λs pl hh=>g! hh (xD Sv)⟩
    | some u =>
      obtain⟨g,hg,rfl,rfl⟩:=vP Sv;obtain⟨h1,h2⟩:=R3.ls g hg;refine⟨g.2.1,g.2.2,rfl,h1,(λz=>?_),(λz=>by rw[z,DW]at h1;cases h1),h2,λs pl hh=>R3.at hg hh⟩;have:=(R.ls g hg).1;rw[z,E5]at this;cases this
   refine kZ ?_;rw[el];refine⟨l,rfl,⟨_,l! Su⟩,?_⟩;have b3:=b2.trans (I! s3 (p:=pt))
   refine cD (K:=K) (a:=l) (xs:=as.map i!) (λj Z H4=>Ex6 λ(BV:List (ay×V))(CV:List WS)(d7 d8 d9 IJ:Option V)=>An8 (Z=[some (.ref ia),some (.ref la),some (.ref pt),some (.ref hl),some (.int (i:Nat)),some (.ref ta),some (.ref tb),d7,d8,d9,IJ]) (But pt H H4) ((∀c o,c≠pt->c≠hl->H3 c=some o->H4 c=some o)) (H4 hl=some (.lst (CV.map i!))) (Pt P w H4 pt BV Al) (Xs (λk b=>MKAt false H4 k b) (BV.map (·.1)) CV) ((∃more,BV.map (·.1)=Bv.map (·.1)++more)) (∀(j':Nat)(a:WS),j'<j->as[j']?=some a->∀(s:Int)(pl:List Int)(pa ka:WS)(kid:Int),H3 a=some (.tup [.int s,.ref pa,.ref ka,.int kid])->H3 pa=some (.tup (pl.map q!))->nk s pl∈BV.map (·.1)))
    ⟨Bv,FI,_,_,_,_,rfl,b3,λ_ _ _ _ e=>e,s3 _ _ Du,B6.same s3,y! (λ_ _ e=>e.mono (j! s3)) HL,⟨[],by rw[XA]⟩,λ_ _ h=>g! h (ZN _)⟩ (λj Z H4 _⟨_,_,_,_,_,_,_,_,f4,_,_,_,_,_⟩=>l! (f4 _ _ VN VM Su)) ?_ ?_
   .rintro j x Z H4 hx ⟨BV,CV,d7,d8,d9,IJ,rfl,b4,f4,DX,BA,Dw,AZ,Aa⟩;have DW:H3 pt=some (.ext Mw):=s3 _ _ DV;have Dx:KT H3 H4:=λc ys ec=>f4 c _ (λz=>by rw[z,DW]at ec;cases ec) (λz=>by rw[z,s3 _ _ Du]at ec;cases ec) ec;have FJ:=(j! s3).trans Dx;have O9:=OB.trans FJ;refine hid λZZ kZ=>?_;obtain⟨φ4,Pa⟩:=cq BA.dm;have VP:=BA.len;have Pb:(BV.map (·.1)).length=CV.length:=W5 Dw;rw[WO]at Pb;obtain⟨a,rfl,ha⟩:=aR hx;obtain⟨s',kid,pl,pa,ka,kd,g1,g2,g3,g4,g5⟩:=hle a (WU ha);refine kZ ?_;have ea:=Dx _ _ g1;have BY:=Dx _ _ g2;have Sw:KAt H4 kd ka:=Dx _ _ g3
    have Kx:∀(s:Int)(C1:List Int)(EY Er:WS)(Cn:Int),H3 a=some (.tup [.int s,.ref EY,.ref Er,.int Cn])->H3 EY=some (.tup (C1.map q!))->nk s C1=nk s' pl:=λs C1 EY Er Cn h1 h2=>by
     rw[g1]at h1;cases h1;rw[g2]at h2;have:pl=C1:=rb (by injection h2 with h3;injection h3);rw[this]
    refine⟨a,_,rfl,n! ea,rfl,_,_,rfl,_,_,rfl,_,_,rfl,_,_,rfl,rfl,?_⟩;dsimp only[aq];refine ce (λbb H'=>An2 (k! H4 H') (bb=!(aQ BV (nk s' pl)).isSome)) (λk2 Bj=>?_) (λH5 AF=>?_) (λH5 AF=>?_)
    .refine⟨_,rfl,_,rfl,lnE rfl,λkp CU=>?_⟩;have s5:=ae CU (.tup [.int s',.ref pa]);exact⟨_,rfl,pt,kp,nk s' pl,BV,rfl,rfl,BA.dm.mono s5,pP ac (s5 _ _ BY),_,rfl,Bj _ _ ⟨s5,rfl⟩⟩
    .obtain⟨s5,AF⟩:=AF
     have hn:aQ BV (nk s' pl)=none:=by
      cases Kv:aQ BV (nk s' pl)with
      |none=>rfl
      |some u=>rw[Kv]at AF;cases AF
     have Ky:=O9.trans (j! s5);have Fv:=FJ.trans (j! s5)
     refine⟨_,rfl,_,rfl,λdd Mp=>?_⟩;refine⟨_,rfl,_,rfl,ac,[(Xn kid,.ref ta)],rfl,(by show 1<=15;decide),?_⟩;rw[pG];have s6:k! H5 (upd (upd H5 dd (.dK [])) dd (.dK [(Xn kid,.ref ta)])):=am (ae Mp _) Mp;have e6:(upd (upd H5 dd (.dK [])) dd (.dK [(Xn kid,.ref ta)])) dd=some (.dK [(Xn kid,.ref ta)]):=ac;generalize(upd (upd H5 dd (.dK [])) dd (.dK [(Xn kid,.ref ta)]))=H6 at s6 e6 |-;have FG:=Ky.trans (j! s6);refine⟨ia,ka,dd,Ag,ins,kd,_,j7 ins kd.2.toNat kid t1,rfl,FG _ _ ei,E1.mono FG,g,(s5.trans s6) _ _ Sw,g4,e6,nR ..,rD (CS.mono (Fv.trans (j! s6))),λr1 H7 s7 Ka=>?_⟩
     refine⟨_,rfl,_,rfl,λd2 hd2=>?_⟩;refine⟨_,rfl,_,rfl,ac,[(Xn kid,.ref tb)],rfl,(by show 1<=15;decide),?_⟩;rw[pG];have s8:k! H7 (upd (upd H7 d2 (.dK [])) d2 (.dK [(Xn kid,.ref tb)])):=am (ae hd2 _) hd2;have e8:(upd (upd H7 d2 (.dK [])) d2 (.dK [(Xn kid,.ref tb)])) d2=some (.dK [(Xn kid,.ref tb)]):=ac;generalize(upd (upd H7 d2 (.dK [])) d2 (.dK [(Xn kid,.ref tb)]))=H8 at s8 e8 |-;have DG:=s6.trans (s7.trans s8);have DU:=Ky.trans (j! DG);refine⟨ia,ka,d2,Ag,ins,kd,_,j7 ins kd.2.toNat kid t2,rfl,DU _ _ ei,E1.mono DU,g,(s5.trans DG) _ _ Sw,g4,e8,nR ..,rD (L6.mono (Fv.trans (j! DG))),λr2 H9 s9 Gi=>?_⟩;refine⟨lnE rfl,λp2 Bm=>?_⟩;refine gU Bm λBK A8 JY=>?_;refine⟨_,rfl,_,rfl,_,rfl,lnE rfl,λkp CU=>?_⟩;refine gU CU λGO B9 FH=>?_;have DY:=s5.trans (DG.trans (s9.trans (A8.trans B9)));have Gw:=BA.same DY;refine⟨pt,kp,nk s' pl,BV,rfl,rfl,Gw.dm,pP FH (DY _ _ BY),fG (by omega),λHG Pd Pe=>?_⟩;have Mx:But pt GO HG:=Pd;obtain⟨VQ,HM⟩:=Gw.put hn Mx Pe ⟨p2,r1,r2,_,_,rfl,B9 _ _ JY,Ka.mono (j! (s8.trans (s9.trans (A8.trans B9)))),Gi.mono (j! (A8.trans B9))⟩ g5;have EI:HG hl=some (.lst (CV.map i!)):=Mx _ _ Sr (DY _ _ DX);have Gx:KT H4 HG:=(j! DY).trans (Mx.kt (DY _ _ Pa));dsimp only[aq];refine⟨_,rfl,.inl ⟨rfl,_,l! EI⟩,_,rfl,_,rfl,lnE rfl,λMy Pf=>?_⟩;refine gU Pf λFF C4 Pg=>?_;refine⟨hl,_,_,rfl,rfl,C4 _ _ EI,fG (by rw[WO];omega),?_⟩;have FK:KT FF (upd FF hl (.lst (CV.map i!++[.ref My]))):=aK (C4 _ _ EI);have Kz:=(Gx.trans (j! C4)).trans FK;have II:=VQ.same C4;have VR:Pt P w (upd FF hl (.lst (CV.map i!++[.ref My]))) pt _ Al:=⟨vR II.dm FK λo eo=>by rw[aj Sr.symm];exact eo,II.nd,II.al,λp hp=>(II.vl p hp).mono FK⟩;obtain⟨more,AZ⟩:=AZ
     have go:∀c o,c≠pt->c≠hl->H4 c=some o->(upd FF hl (.lst (CV.map i!++[.ref My]))) c=some o:=λc o h1 h2 e=>by
      rw[aj h2];exact C4 _ _ (Mx _ _ h1 (DY _ _ e))
     refine⟨_,CV++[My],_,_,_,_,rfl,λc o hc e=>go c o hc (λz=>by rw[z,E5]at e;cases e) (b4 _ _ hc e),λc o h1 h2 e=>go c o h1 h2 (f4 c o h1 h2 e),uAE,VR,?_,⟨more++[nk s' pl],by rw[HM,AZ,XS]⟩,λj' a' Ay DN s C1 EY Er Cn h1 h2=>?_⟩
     .rw[HM];exact t! (y! (λ_ _ e=>e.mono Kz) Dw) (.cons ((pP Pg (C4 _ _ (Gx _ _ BY))).mono FK) .nil)
     .rw[HM];by_cases EH:j'=j
      .rw[EH,ha]at DN;cases DN;rw[Kx s C1 EY Er Cn h1 h2];exact XC _ (Xh ..)
      .exact XH _ (Aa j' a' (by omega) DN s C1 EY Er Cn h1 h2)
    .obtain⟨s5,AF⟩:=AF
     obtain⟨u,hu⟩:∃u,aQ BV (nk s' pl)=some u:=by
      cases Kv:aQ BV (nk s' pl)with
      |none=>rw[Kv]at AF;cases AF
      |some u=>exact⟨u,rfl⟩
     refine⟨BV,CV,_,_,_,_,rfl,b4.trans (I! s5),λc o h1 h2 e=>s5 _ _ (f4 c o h1 h2 e),s5 _ _ DX,BA.same s5,y! (λ_ _ e=>e.mono (j! s5)) Dw,AZ,λj' a' Ay DN s C1 EY Er Cn h1 h2=>?_⟩;by_cases EH:j'=j
     .rw[EH,ha]at DN;cases DN;rw[Kx s C1 EY Er Cn h1 h2];exact XD.mpr ⟨_,ft hu,rfl⟩
     .exact Aa j' a' (by omega) DN s C1 EY Er Cn h1 h2
   .rintro Z H4 ⟨BV,CV,d7,d8,d9,IJ,rfl,b4,f4,DX,BA,Dw,AZ,Aa⟩;have DW:H3 pt=some (.ext Mw):=s3 _ _ DV;have Dx:KT H3 H4:=λc ys ec=>f4 c _ (λz=>by rw[z,DW]at ec;cases ec) (λz=>by rw[z,s3 _ _ Du]at ec;cases ec) ec;refine AW _ _ ⟨BV,CV,_,_,_,_,rfl,b4,(j! s3).trans Dx,DX,BA,Dw,AZ,λs pl hh=>?_⟩;refine hid λZZ kZ=>?_;obtain⟨a,ha,pa,ka,kid,h1,h2⟩:=VO s pl (R3.back Dx hh);obtain⟨j',Ay⟩:=Xp.mp ha;refine kZ ?_;exact Aa j' a (by have:=(YH.mp Ay).1;rw[WO];exact this) Ay s pl pa ka kid h1 h2
  .rintro Ab H4 ⟨BV,CV,d7,d8,d9,IJ,rfl,b4,FJ,DX,BA,Dw,⟨more,AZ⟩,Ph⟩;have VP:=BA.len;have hlen:=h! ZX AZ;rw[WO,Xg,WO]at hlen;refine⟨_,rfl,_,_,rfl,rfl,Al.length+1 - (i+1),by omega,i+1,BV,CV,_,_,_,_,_,_,rfl,b4,DX,BA,Dw,λk' AV=>by rw[AZ];exact XH _ (Gv k' AV),by omega,λj k' hj AV s pl hh=>?_,rfl⟩;have Ep:j<(Bv.map (·.1)).length:=by rw[WO];omega
   have Bj:(Bv.map (·.1))[j]?=some k':=by rw[AZ,Yw Ep]at AV;exact AV
   by_cases NZ:j=i
   .rw[NZ,hk]at Bj;cases Bj;exact Ph s pl hh
   .rw[AZ];exact XH _ (De j k' (by omega) Bj s pl (R2.back FJ hh))
 .have Hi:¬i<FI.length:=λz=>cc (d! (by rw[WO];omega));refine q Bv H2 b2 B6 Gv λk hk s pl hh=>?_;obtain⟨j,hj⟩:=Xp.mp hk;exact De j k (by have:=(glE hj);rw[WO]at this;omega) hj s pl hh
inductive iD(P:W6)(w:Xj)(K:WQ)(vs:List V)(H:Hp)(Q:VK)(_E:XK):Prop
 |mk (fa pt:WS) (s:Nat) (t:Th) (f':List (ay×V)) (Al:List ay) (An:vs=[.ref fa,.int (s:Nat),.ref pt]) (Ao:AtK .i K H t fa) (Au:t.size<=200) (AD:t.tall<=100) (AR:t.noCall) (BX:Pt P w H pt f' Al) (D5:∀(r:WS)(H':Hp),k! H H'->AtK .i K H' (t.cut (Dk f' (s:Nat)) []) r->Q (.ref r) H'):iD P w K vs H Q _E
def jB(P:W6)(w:Xj)(K:WQ):Sp:=iD P w K
def ab5(K:WQ)(D:List Int->Bool)(fa pt tl ah:WS)(s:Nat)(t:Th)(H:Hp)(m:Nat)(Z:St)(H3:Hp):Prop:=∃(ts as:List WS)(Ts:List Th)(As:List (List Int×Th))(c5 c6 c7:Option V),Z=[some (.ref fa),some (.int (s:Nat)),some (.ref pt),some (.ref tl),some (.ref ah),c5,c6,c7]/\k! H H3/\H3 tl=some (.lst (ts.map i!))/\H3 ah=some (.lst (as.map i!))/\Xs (TopAtK .i K H3) (Ts.map (eV B!)) ts/\PsAtK K H3 As as/\Ts++iQ D As.reverse=(t.cut D []).walk/\(∀p∈As,p.1.length+p.2.tall<=100/\p.2.noCall)/\Ts.length+szP As<=200/\m=szP As
theorem qr:aO P w K mg base CX0 3 T.g_cut_front.f T.g_cut_front.d ["front","state","partings"] (jB P w K):=by
 refine T.g_cut_front.F.okA cx λAi A outer s0 H vs Q E hr h=>?_;obtain⟨fa,pt,s,t,f',Al,rfl,hA,hsz,AB,Pj,E3,k⟩:=h
 refine⟨_,(ad (au 3 cx.nd (bx ab))
  (ad (au 4 cx.nd (bx (aa (aD (aa (aD ab) (aa (pv 0) ab))) ab)))
  (ad (eF Xz (bq (pv 4) (λ_=>rfl)) (ad (fg (kJ Xd ZF ZE jZ (pv 4)) (bj rfl (ak (pgN 5 cx.nd) (ak (pgN 6 cx.nd) aT))))
  (af (cB (PW.pt (sU (bq (pcF T.g_is_hole (fV T) hr (aa (pv 6) ab)) (λ_=>rfl)) (m8 (ug (aak (fl:=false) (fM hr) (aD (aa (pv 1) (aa (pv 5) ab))) (pv 2)))))) (af (aU (bS Xd Xx Xw aS (pv 3) (aa (aD (aa (cz (v:=.ref T.a_HOLE) rfl T.c_HOLE rfl) (aa ai ab))) ab)))) (ad (aU (bS Xd Xx Xw aS (pv 3) (aa (aD (aa (cR vC (pv 6) dM (dk ai)) (aa (aB qi (aH aA rfl T.n_len XT (aa (pv 6) ab)) ai) ab))) ab)))
  (ad (dq (i:=7) (N:=[WT "number",WT "kid",WT "place"]) (js:=[none,none,some 5]) (g:=(oJ K 2 (cW (aq 0) (cW (aq 1) oM)))) (tt:=bw) (te:=(lM (aG (tOp (rG K) (aX 2) (lM (aG (aX 0) cC))) (aG (aX 1) cC)))) cx.nd rfl (Or.inl rfl) rfl (bY rfl (by decide +kernel) (by decide +kernel) rfl rfl rfl) (pV rfl T.n_enumerate (cR iU (pv 6) (dk ai) dM)) (λ_ _ _ _ _ _=>(bj rfl (ak (pgN 0 zC) (ak (pgN 1 zC) aT)))) (gG (bP aY (aI rfl) (bP aY (aI rfl) gN))) (λ_ _ _ _ _ _=>bF) (λ_ _ _ _ _ _=>(aD (aa (aB dN (pv 2) (aD (aa (pv 0) ab))) (aa (pv 1) ab)))))
  (af (aU (bS Xd Z1 Z0 ig (pv 4) (aa (mG rfl rfl T.n_list rfl T.n_reversed (pv 7)) ab))))))))))
  (af (az (pcF T.g_built (jJ T) hr (aa (pv 3) ab))))))),?_⟩
 try dsimp only[AA,Ae]
 generalize VS:Dk f' (s:Nat)=D at k;refine⟨lnE rfl,λtl HN=>?_⟩;have s1:k! H (upd H tl (.lst [])):=ae HN _;have Hm:(upd H tl (.lst [])) tl=some (.lst []):=ac;generalize upd H tl (.lst [])=H1 at s1 Hm |-;refine⟨lnE rfl,λp0 Fq=>?_⟩;refine⟨_,rfl,lnE rfl,λp1 DB=>?_⟩;refine⟨lnE rfl,λah BG=>?_⟩;have s2:k! H1 (upd (upd H1 p0 (.tup [])) p1 (.tup [.ref p0,.ref fa])):=(ae Fq _).trans (ae DB _);have e1:(upd (upd H1 p0 (.tup [])) p1 (.tup [.ref p0,.ref fa])) p1=some (.tup [.ref p0,.ref fa]):=ac;have e0:(upd (upd H1 p0 (.tup [])) p1 (.tup [.ref p0,.ref fa])) p0=some (.tup []):=ae DB _ _ _ ac;generalize(upd (upd H1 p0 (.tup [])) p1 (.tup [.ref p0,.ref fa]))=H2 at s2 e1 e0 BG |-;have Dn:H1 ah=none:=s2.free BG;have Cb:H ah=none:=s1.free Dn;have Av:ah≠tl:=λz=>by rw[z,Hm]at Dn;cases Dn
 have VT:szP [(([]:List Int),t)]=t.size:=by rw[szP,szP];rfl
 refine⟨ab5 K D fa pt tl ah s t H,⟨_,[],[p1],[],[([],t)],none,none,none,rfl,am (s1.trans s2) Cb,by rw[aj Av.symm];exact s2 _ _ Hm,by rw[ac];rfl,.nil,.cons ⟨p0,fa,ae BG _ _ _ e1,ae BG _ _ _ e0,hA.mono (j! (am (s1.trans s2) Cb))⟩ .nil,by show[]++((t.cut D []).walk++[])=_;rw[Zp,XA],λp hp=>by rw[W7.mp hp];exact⟨by simpa using AB,Pj⟩,by rw[VT];simpa using hsz,rfl⟩,?_⟩;rintro m Z H3 ⟨ts,as,Ts,As,c5,c6,c7,rfl,sm,em,ea,a1,a2,hw,hb,hlen,rfl⟩;have hTl:Ts.length=ts.length:=by have:=W5 a1;rwa [WO]at this
 refine⟨_,rfl,_,.inl ⟨_,l! ea,rfl⟩,?_⟩;refine cT (λc=>?_) (λc=>?_)
 .refine⟨λAb H'=>∃m',m'<szP As/\ab5 K D fa pt tl ah s t H m' Ab H',λAb H' h=>h,?_⟩;have Bg:as≠[]:=by intro z;subst z;simp at c
  refine hid λZZ kZ=>?_;obtain⟨Ax,b,rfl⟩:∃Ax b,as=Ax++[b]:=⟨as.dropLast,as.getLast Bg,(Y2 Bg).symm⟩;obtain⟨Us,⟨pre,x⟩,rfl,a3,pa,ta,eb,BY,CS⟩:=P2.snoc_inv a2;have JU:szP (Us++[(pre,x)])=szP Us+x.size:=by rw[cK,szP,szP];rfl
  have Fp:=x.size_eq;rw[JU]at hlen;obtain⟨Mc,KA⟩:=hb (pre,x) (by simp);refine kZ ?_;simp only at Mc KA BY CS;have R8:Us.length=Ax.length:=W5 a3;have q4:=qu Us;refine⟨_,rfl,.inl ⟨rfl,_,l! ea⟩,ah,_,.ref b,rfl,rfl,ea,by simp,?_⟩;have d1:((Ax++[b]).map i!).dropLast=Ax.map i!:=by simp
  rw[d1];have k1:KT H3 (upd H3 ah (.lst (Ax.map i!))):=aK ea;have Gj:k! H (upd H3 ah (.lst (Ax.map i!))):=am sm Cb;have DC:(upd H3 ah (.lst (Ax.map i!))) tl=some (.lst (ts.map i!)):=by rw[aj Av.symm];exact em
  have Hn:(upd H3 ah (.lst (Ax.map i!))) ah=some (.lst (Ax.map i!)):=ac;generalize(upd H3 ah (.lst (Ax.map i!)))=H4 at k1 Gj DC Hn |-;refine⟨b,_,rfl,n! (k1 _ _ eb),rfl,_,_,rfl,_,_,rfl,rfl,?_⟩
  try dsimp only[aq]
  have BA:=E3.same Gj;refine ce (λbb H'=>An2 (k! H4 H') (bb=(x.isHole ||D pre))) (λk2 Bj=>?_) (λH5 AF=>?_) (λH5 AF=>?_)
  .refine⟨_,rfl,ta,x,rfl,CS.mono k1,by omega,_,rfl,?_⟩;refine cT (λch=>Bj _ _ ⟨.refl _,by rw[ch];rfl⟩) (λch=>?_);have VU:x.isHole=false:=Yj.mpr ch;refine⟨_,rfl,_,rfl,lnE rfl,λkp CU=>?_⟩;have s5:=ae CU (.tup [.int ((s:Nat):Int),.ref pa]);refine⟨_,rfl,pt,kp,nk (s:Nat) pre,f',rfl,rfl,BA.dm.mono s5,pP ac (s5 _ _ (k1 _ _ BY)),_,rfl,Bj _ _ ⟨s5,?_⟩⟩;rw[VU,Bool.false_or,<-VS];rfl
  .obtain⟨s5,AF⟩:=AF
   have HP:x.cut D pre=hole:=by
    cases x with
    |call u v=>rw[Th.cut]
    | knot n ks =>
      rw[Th.cut,b!];rcases Bool.or_eq_true_iff.mp AF.symm with h|h
      .exact .inl h
      .exact .inr h
   refine⟨_,rfl,.inl ⟨rfl,_,l! (s5 _ _ DC)⟩,lnE rfl,λp hp=>?_⟩;refine gU hp λH6 s6 e6=>?_;have Sx:=(s5.trans s6) _ _ DC;refine⟨tl,_,_,rfl,rfl,Sx,lbE (by omega),?_⟩;have k7:KT H6 (upd H6 tl (.lst (ts.map i!++[.ref p]))):=aK Sx;have Sy:=(k1.trans (j! (s5.trans s6))).trans k7;refine⟨szP Us,by omega,ts++[p],Ax,Ts++[hole],Us,_,_,_,rfl,am (Gj.trans (s5.trans s6)) HN,uAE,by rw[aj Av];exact(s5.trans s6) _ _ Hn,?_,J! Sy a3,?_,λp' BJ=>hb p' (XH _ BJ),?_,rfl⟩
   .rw[Xc];exact t! (cZ Sy a1) (.cons ⟨T.a_HOLE,k7 _ _ e6,abV,(TK.const T.q_HOLE)⟩ .nil)
   .rw[<-hw,YC,XS];show Ts++([hole]++iQ D Us.reverse)=Ts++iQ D ((pre,x)::Us.reverse);unfold iQ;rw[List.flatMap_cons,HP];rfl
   .rw[Xg];show Ts.length+1+szP Us<=200;omega
  .obtain⟨s5,AF⟩:=AF;obtain⟨hh,KC⟩:=Bool.or_eq_false_iff.mp AF.symm;cases x with
   |call u v=>rw[u!]at KA;exact KA.elim
   |knot n ks =>
   have HP:(o! n ks).cut D pre=.knot n (cp D pre 0 ks):=by
    rw[Th.cut,a!];rintro(h|h)
    .rw[hh]at h;cases h
    .rw[KC]at h;cases h
   have IC:=k1.trans (j! s5);have KD:=CS.mono IC;rw[AtK]at KD;refine hid λZZ kZ=>?_;obtain⟨VW,B3,Pk,KG⟩:=KD;refine kZ ?_;have CN:B3.length=ks.length:=KG.length;rw[p!]at hlen;have JV:=cw ks;rw[u!]at KA;rw[r!]at Mc;refine⟨_,rfl,.inl ⟨rfl,_,l! (s5 _ _ DC)⟩,_,rfl,_,rfl,ta,_,rfl,Pk,λp2 H6 s6 e6=>?_⟩
   have VX:TK K H6 p2 [.str n]:=by
    have e7:TK K H6 p2 (gB (K! n::B3.map i!) none (some 1)):=e6;rw[vN]at e7;exact e7
   refine⟨_,rfl,ta,_,rfl,.inr ((Pk.mono (j! s6)).sq),_,_,rfl,rfl,lnE rfl,λtp B4=>?_⟩
   have KH:((K! n::B3.map i!).length:Int) - 1=((ks.length:Nat):Int):=by
    rw[W3,WO];omega
   dsimp only[cC,wa];rw[KH];refine gU B4 λH7 s7 e7=>?_;have Pl:=s5.trans (s6.trans s7);have JW:=Pl _ _ DC;refine⟨tl,_,_,rfl,rfl,JW,lbE (by omega),?_⟩;have k8:KT H7 (upd H7 tl (.lst (ts.map i!++[.ref tp]))):=aK JW;have Pm:k! H (upd H7 tl (.lst (ts.map i!++[.ref tp]))):=am (Gj.trans Pl) HN;have Sz:(upd H7 tl (.lst (ts.map i!++[.ref tp]))) tl=some (.lst ((ts++[tp]).map i!)):=uAE;have JX:(upd H7 tl (.lst (ts.map i!++[.ref tp]))) ah=some (.lst (Ax.map i!)):=by rw[aj Av];exact Pl _ _ Hn
   generalize(upd H7 tl (.lst (ts.map i!++[.ref tp])))=H8 at k8 Pm Sz JX |-;have Pn:=(j! (s6.trans s7)).trans k8;have Gk:=IC.trans Pn
   have Po:Xs (TopAtK .i K H8) ((Ts++[o! n (cp D pre 0 ks)]).map (eV B!)) (ts++[tp]):=by
    rw[Xc];refine t! (cZ Gk a1) (.cons ⟨p2,?_,VW,VX.mono ((j! s7).trans k8)⟩ .nil);show H8 tp=some (.tup [.ref p2,.int ((cp D pre 0 ks).length:Nat)]);rw[eG];exact k8 _ _ e7
   try dsimp only[aq]
   refine⟨_,rfl,1,rfl,ta,_,rfl,(Pk.mono Pn).sq,?_,λp3 VY=>?_⟩
   .rintro⟨z,_⟩;rw[W3,show(1:Int)=((1:Nat):Int)by rfl,HT.sIx_nat]at z;omega
   dsimp only;rw[fF];refine gU VY λH9 s9 e9=>?_;have Pp:=s9 _ _ (Gk _ _ BY);have Pq:=KG.mono (Pn.trans (j! s9));refine⟨p3,rfl,⟨_,n! e9⟩,?_⟩;intro Dl Ea;refine⟨B3.length,λj BK=>An3 (j<=B3.length) (k! H9 BK) (Ex1 λ(bs:List WS)=>An2 (BK Dl=some (.lst (bs.map i!))) (PsAtK K BK ((cV pre 0 ks).take j) bs)),⟨Xi _,ae Ea _,[],ac,.nil⟩,?_⟩;rintro j BK ⟨hj,A8,bs,eD,Ar⟩;by_cases Cc:j=B3.length
   .left;refine⟨⟨_,n! (A8 _ _ e9),by rw[WO];exact Cc.symm⟩,?_⟩;have Aa:(cV pre 0 ks).take j=cV pre 0 ks:=by rw[Cc,CN,<-gA pre 0 ks,YR]
    rw[Aa]at Ar;have HQ:=A8 _ _ (s9 _ _ JX);have KI:=A8 _ _ (s9 _ _ Sz)
    have Bi:bs.length=ks.length:=by
     have:=W5 Ar;rw[gA]at this;exact this.symm
    try dsimp only[aq]
    refine⟨_,rfl,.inl ⟨rfl,_,l! HQ⟩,_,rfl,true,Dl,_,rfl,SqB.l (l! eD),λl hl=>?_⟩;have Ff:ah≠l:=ax HQ hl;have DS:tl≠l:=ax KI hl;have KJ:(upd BK l (.lst (bs.map i!).reverse)) ah=some (.lst (Ax.map i!)):=by rw[aj Ff];exact HQ
    refine⟨ah,l,_,_,rfl,rfl,KJ,ac,di ?_,?_⟩
    .rw[WO,Yt,WO];omega
    have KL:KT BK (upd (upd BK l (.lst (bs.map i!).reverse)) ah (.lst (Ax.map i!++(bs.map i!).reverse))):=(dD hl).trans (aK KJ);have KN:=(j! (s9.trans A8)).trans KL;have Pr:=Gk.trans KN;refine⟨szP (Us++(cV pre 0 ks).reverse),?_,ts++[tp],Ax++bs.reverse,Ts++[.knot n (cp D pre 0 ks)],Us++(cV pre 0 ks).reverse,_,_,_,rfl,?_,?_,?_,cZ KN Po,t! (J! Pr a3) (P2.reverse (J! KL Ar)),?_,?_,?_,rfl⟩
    .rw[cK,lZ,jg,JU,p!];omega
    .exact am (am ((Pm.trans s9).trans A8) ((Pm.trans s9).trans A8 |>.free hl)) Cb
    .rw[aj Av.symm,aj DS];exact KI
    .rw[ac,Xc,List.map_reverse]
    .rw[<-hw,XS,YC,YC,Y5,sf,oR];show Ts++([o! n (cp D pre 0 ks)]++(walks (cp D pre 0 ks)++iQ D Us.reverse))=Ts++iQ D ((pre,o! n ks)::Us.reverse);have:iQ D ((pre,o! n ks)::Us.reverse)=((o! n ks).cut D pre).walk++iQ D Us.reverse:=by unfold iQ;rw[List.flatMap_cons]
     rw[this,HP,Th.walk];rfl
    .intro p hp;rcases Xq.mp hp with hp|hp
     .exact hb p (XH _ hp)
     .obtain⟨g1,g2⟩:=ni pre 0 ks p (List.mem_reverse.mp hp);have:=bX g2;exact⟨by omega,cP KA g2⟩
    .rw[Xg,cK,lZ,jg];show Ts.length+1+(szP Us+aw ks)<=200;omega
   .right;have Ay:j<B3.length:=by omega
    refine⟨Ay,⟨_,.ref B3[j],n! (A8 _ _ e9),by rw[W0,WR Ay];rfl⟩,?_⟩;rintro y GO ⟨p,v,hp,rfl,rfl,hv⟩;have BE:=hv _ (n! (A8 _ _ e9));obtain⟨kd,rfl,Fm⟩:=aR BE;obtain⟨tk,AU,Og⟩:=Pq.get Fm;have B9:k! BK (upd BK p (.tup [.int (j:Nat),.ref kd])):=ae hp _;refine⟨p,_,rfl,n! ac,rfl,_,_,rfl,_,_,rfl,rfl,?_⟩;generalize(upd BK p (.tup [.int (j:Nat),.ref kd]))=GO at B9 |-;refine⟨_,rfl,_,rfl,lnE rfl,λn1 Gm=>?_⟩;refine gU Gm λHG Cf EF=>?_;refine pX (Cf _ _ (B9 _ _ (A8 _ _ Pp))) EF (by rw[WO];show pre.length+1<=1000000;omega) λn2 FF C4 Pg=>?_;refine⟨_,rfl,lnE rfl,λn3 Gn=>?_⟩;have HR:k! BK (upd FF n3 (.tup [.ref n2,.ref kd])):=(B9.trans (Cf.trans C4)).trans (ae Gn _);have KO:=HR _ _ eD;refine⟨_,KO,bQ ?_,Ay,?_,bs++[n3],?_,?_⟩
    .have:=W5 Ar;rw[XO]at this;rw[WO];omega
    .exact am (A8.trans HR) Ea
    .rw[ac,Xc];rfl
    .have Mz:KT (upd FF n3 (.tup [.ref n2,.ref kd])) (upd (upd FF n3 (.tup [.ref n2,.ref kd])) Dl (.lst (bs.map i!++[.ref n3]))):=aK KO;rw[Yi,nC pre 0 ks j tk AU];refine t! (J! ((j! HR).trans Mz) Ar) (.cons ⟨n2,kd,Mz _ _ ac,Mz _ _ (ae Gn _ _ _ ?_),?_⟩ .nil)
     .rw[Pg,Xc,YA];rfl
     .exact Og.mono ((j! (A8.trans HR)).trans Mz)
 .have hz:as=[]:=by
   cases as with
   |nil=>rfl
   |cons y ys=>simp at c
  subst hz;have EA:As=[]:=X6.mp (W5 a2);subst EA;have EX:Ts=(t.cut D []).walk:=by simpa[iQ]using hw
  subst EX;obtain⟨b1,b2⟩:=vq B! (t.cut D []);rw[vF]at b1;refine⟨_,rfl,tl,ts,_,t.cut D [],rfl,em,a1,by rw[WO];omega,b2,?_,b1,λr H4 s4 KP=>k r H4 (sm.trans s4) KP⟩;intro u hu;obtain⟨y,hy,e⟩:=XD.mp hu;cases y with
  |knot n us=>cases e
  | call sn kn =>
    cases e;rw[p!];decide
def frS(ins:List (Xk×Int))(rows:List (List Th))(s:Nat):Th:=frF (mkF ins rows) (mkF ins rows (s:Nat)) ((rows[s]?).getD [])
theorem abQ{s:Nat}{row:List Th}(h:rows[s]?=some row):frS ins rows s=frF (mkF ins rows) (mkF ins rows (s:Nat)) row:=by
 unfold frS;rw[h];rfl
def mN(ins:List (Xk×Int))(rows:List (List Th)):List ay:=(XG rows.length).flatMap λs=>((mkF ins rows (s:Nat)).pl []).map λx=>nk (s:Nat) x.1
theorem tF{f:α->List β}:∀{l:List α},(∀x∈l,(f x).length<=B)->(l.flatMap f).length<=l.length * B
 | [],_=>Xi _
 | x::l,h=>by
   rw[List.flatMap_cons,Xg,W3,Nat.succ_mul];have h1:=h x (Xh ..);have h2:=tF (l:=l) λy hy=>h y (Xf _ hy);omega
theorem yI(F:FrB ins outs rows):(mN ins rows).length<=1000000:=by
 have h:=tF (l:=XG rows.length) (f:=λs=>((mkF ins rows (s:Nat)).pl []).map λx=>nk (s:Nat) x.1) (B:=200) λs hs=>by
  rw[WO,D!];have Dz:=YY.mp hs;obtain⟨row,p,_,_,e,z,_⟩:=F.mkd (l:=(s:Nat)) (by omega) (by omega);rw[e];exact z
 rw[Xo]at h;have:=F.le;show((XG rows.length).flatMap _).length<=_;omega
theorem tH{s:Nat}(hs:s<rows.length){x:List Int×Th}(hx:x∈(mkF ins rows (s:Nat)).pl []):nk (s:Nat) x.1∈mN ins rows:=List.mem_flatMap.mpr ⟨s,YY.mpr hs,XD.mpr ⟨x,hx,rfl⟩⟩
theorem zz{s:Nat}(hs:s<rows.length){x:List Int×Th}(hx:x∈(frS ins rows s).pl []):nk (s:Nat) x.1∈mN ins rows:=by
 obtain⟨u,hu⟩:=xJ _ _ _ x hx;exact tH (x:=(x.1,u)) hs hu
theorem act{pt:WS}(h:Pt P w H pt f' Al)(k:KT H H')(e:∀o,H pt=some o->H' pt=some o):Pt P w H' pt f' Al:=⟨vR h.dm k e,h.nd,h.al,λp hp=>(h.vl p hp).mono k⟩
theorem tN{p:WS}{H0:Hp}(hb:But p H H')(s:k! H0 H)(h0:H0 p=none):k! H0 H':=λc o e=>hb c o (λz=>by rw[z,h0]at e;cases e) (s c o e)
structure FrD(ins:List (Xk×Int))(rows:List (List Th))(ks:List ay):Prop where
 hol:∀s<rows.length,∀x∈(frS ins rows s).pl [],x.2.isHole=true->nk (s:Nat) x.1∈ks
 cl:∀(s:Nat)(row:List Th),rows[s]?=some row->∀p∈row,∀c∈callsOf (p.pl []),∀u,(c.1,u)∈(frS ins rows s).pl []->∀x∈u.pl [],nk c.2.1 x.1∈ks->nk (s:Nat) (c.1++x.1)∈ks
theorem mF(F:FrB ins outs rows){s:Nat}(hs:s<rows.length):(frS ins rows s).size<=200/\(frS ins rows s).tall<=100/\(frS ins rows s).noCall:=by
 refine hid λZZ kZ=>?_;obtain⟨row,p,hr,hp,e,z1,z2,hf⟩:=F.mkd (l:=(s:Nat)) (by omega) (by omega);refine kZ ?_;have h:=jp (mkF ins rows) (mkF ins rows (s:Nat)) ((rows[s]?).getD []);have hn:(mkF ins rows (s:Nat)).noCall:=by rw[e];exact lF _ _ (WY _) hf
 unfold frS;rw[e]at h hn;rw[e];exact⟨by omega,by omega,uD hn _⟩
inductive fy(P:W6)(w:Xj)(K:WQ)(vs:List V)(H:Hp)(Q:VK)(_E:XK):Prop
 |mk (b:WS) (ins outs:List (Xk×Int)) (head:Th) (rows:List (List Th)) (An:vs=[.ref b]) (Ao:Bk H ins outs head rows b) (Au:FrB ins outs rows) (AD:∀(r fl pt:WS)(fs:List WS)(f':List (ay×V))(H':Hp),k! H H'->H' r=some (.tup [.ref fl,.ref pt])->H' fl=some (.lst (fs.map i!))->Xs (λs a=>AtK .i K H' ((frS ins rows s).cut (Dk f' (s:Nat)) []) a) (XG rows.length) fs->Pt P w H' pt f' (mN ins rows)->FrD ins rows (f'.map (·.1))->Q (.ref r) H'):fy P w K vs H Q _E
def lT(P:W6)(w:Xj)(K:WQ):Sp:=fy P w K
theorem lO:aO P w K mg base CX0 7 T.g_found_fronts.f T.g_found_fronts.d ["book"] (lT P w K):=by
 refine T.g_found_fronts.F.okA bv λAi A outer s0 H vs Q E hr h=>?_;obtain⟨b,ins,outs,head,rows,rfl,hB,F,k⟩:=h
 refine⟨_,(ad (au 1 bv.nd (pcF T.g_first_makings (kE T) hr (aa (pv 0) ab)))
  (ad (au 2 bv.nd (nu (fl:=false)))
  (ad (dq (i:=3) (N:=[WT "state",WT "book",WT "made",WT "partings"]) (js:=[none,some 0,some 1,some 2]) (g:=(aq 0)) (tt:=bw) (te:=(cO (gy P w K) [] E0 (aG (aX 1) (aG (aX 0) (aG (aX 2) (aG (aX 3) cC)))))) bv.nd rfl (Or.inl rfl) rfl (bY rfl (by decide +kernel) (by decide +kernel) rfl rfl rfl) (bA rfl T.n_range (aa (pcF T.g_states_of (qk T) hr (aa (pv 0) ab)) ab)) (λ_ _ _ _ _ _=>(pgN 0 adm)) (aI rfl) (λ_ _ _ _ _ _=>bF) (λ_ _ _ _ _ _=>(pcF T.g_first_front (mP T) hr (aa (pv 1) (aa (pv 0) (aa (pv 2) (aa (pv 3) ab)))))))
  (ad (au 4 bv.nd (nu (fl:=false)))
  (ad (bE Xz rfl (mS rfl T.n_enumerate (pv 3)) (bj rfl (ak (pgN 5 bv.nd) (ak (pgN 6 bv.nd) aT))) (af (aU (pcF T.g_put_links (p6 T) hr (aa (pv 0) (aa (pv 5) (aa (pv 6) (aa (pv 4) ab))))))))
  (ad (aU (pcF T.g_spread (wR T) hr (aa (pcF T.g_ins_of (dQ T) hr (aa (pv 0) ab)) (aa (pv 4) (aa (pv 2) ab)))))
  (af (az (aD (aa (bW (N:=[WT "state",WT "front",WT "partings"]) (js:=[none,none,some 2]) (g:=(oJ K 2 (cW (aq 0) (cW (aq 1) oM)))) (tt:=bw) (te:=(cO (jB P w K) [] E0 (aG (aX 1) (aG (aX 0) (aG (aX 2) cC))))) rfl (bY rfl (by decide +kernel) (by decide +kernel) rfl rfl rfl) (mS rfl T.n_enumerate (pv 3)) (λ_ _ _ _ _ _=>(bj rfl (ak (pgN 0 ace) (ak (pgN 1 ace) aT)))) (gG (bP aY (aI rfl) (bP aY (aI rfl) gN))) (λ_ _ _ _ _ _=>bF) (λ_ _ _ _ _ _=>(pcF T.g_cut_front (qr T) hr (aa (pv 1) (aa (pv 0) (aa (pv 2) ab)))))) (aa (pv 2) ab))))))))))),?_⟩
 try dsimp only[AA,Ae]
 have hle:=F.le;refine⟨_,rfl,b,ins,outs,head,rows,rfl,hB,F.gi,by omega,λrow Aj=>(F.fit.row row Aj).1,λmd Dr H1 s1 VZ IH Hw=>?_⟩;intro pt H2 KQ s2 SD;have Pu:=hB.mono (j! s1);refine hid λZZ kZ=>?_;obtain⟨ia,oa,ha,ra,Ag,AG,AM,Co⟩:=id Pu;have Hr:rows.length=AM.length:=W5 Co.rw;have Mm:=yI F;obtain⟨Mw,DV⟩:=cq SD;refine kZ ?_;refine⟨_,rfl,b,_,_,_,ra,_,rfl,s2 _ _ Co.bk,s2 _ _ Co.rl,_,rfl,by omega,by rw[WO];omega,λD hD=>?_⟩;have KC:D≠pt:=λz=>by rw[z,DV]at hD;cases hD
 have V0:H1 D=none:=s2.free hD;refine⟨rows.length,λj H'=>An3 (j<=rows.length) (k! H1 H') (Ex2 λ(as:List WS)(f':List (ay×V))=>An4 (H' D=some (.lst (as.map i!))) (Xs (λs a=>AtK .i K H' (frS ins rows s) a) (XG j) as) (Pt P w H' pt f' (mN ins rows)) (∀s<j,∀x∈(frS ins rows s).pl [],x.2.isHole=true->nk (s:Nat) x.1∈f'.map (·.1))),⟨Xi _,s2.trans (ae hD _),[],[],ac,.nil,⟨SD.mono (ae hD _),List.nodup_nil,λp hp=>(List.not_mem_nil hp).elim,λp hp=>(List.not_mem_nil hp).elim⟩,λs hs=>by omega⟩,?_⟩;rintro j H' ⟨hj,sj,as,f',eD,has,MA,KR⟩;obtain⟨G9,FL⟩:=cq MA.dm;by_cases Cc:j=rows.length
 .left;subst Cc;refine⟨by show _<=_;rw[WO];omega,?_⟩;intro la H5 Ff s5 V1;have L0:LkI P w ins (mN ins rows) H' H5 la [] 0:=⟨s5,Ff,V1,List.nodup_nil,List.nodup_nil,λg hg=>(List.not_mem_nil hg).elim,WY _⟩;have FA:(XG rows.length).length=as.length:=W5 has;rw[Xo]at FA;refine⟨_,rfl,D,rfl,⟨_,l! (s5 _ _ eD)⟩,?_⟩
  refine pR (K:=K) (a:=D) (xs:=as.map i!) (λi Z H6=>Ex3 λ(c5 c6:Option V)(G:LG)=>An3 (Z=[some (.ref b),some (.ref md),some (.ref pt),some (.ref D),some (.ref la),c5,c6]) (LkI P w ins (mN ins rows) H' H6 la G (i * 640000)) (∀s<i,∀row,rows[s]?=some row->LDone H6 G s row (frS ins rows s)))
   ⟨none,none,[],rfl,by rw[Nat.zero_mul];exact L0,λs hs=>by omega⟩ (λi Z H6 _⟨_,_,_,_,L,_⟩=>l! (L.sm _ _ eD)) ?_ ?_
  .rintro i x pr Z H6 hx Bz ⟨c5,c6,G,rfl,L,DI⟩;obtain⟨fa,rfl,B5⟩:=aR hx;have Cr:=(glE B5);have MB:i<rows.length:=by omega
   obtain⟨s',Dz,Cd⟩:=C! has B5;rw[X4 MB]at Dz;cases Dz;obtain⟨row,Aj⟩:∃row,rows[i]?=some row:=⟨_,WR MB⟩;refine gU Bz λH7 s7 e7=>?_;refine⟨pr,_,rfl,n! e7,rfl,_,_,rfl,_,_,rfl,rfl,?_⟩;dsimp only[aq];have L7:=L.same s7;obtain⟨z1,z2,z3⟩:=mF F MB;refine⟨_,rfl,_,rfl,_,rfl,_,rfl,b,fa,la,i,ins,outs,head,rows,row,frS ins rows i,H',G,i * 640000,mN ins rows,rfl,Pu.mono (j! (sj.trans L7.sm)),F,Aj,Cd.mono (j! L7.sm),z1,z2,L7,by omega,λx hx=>zz MB hx,λG' H8 k8 L8 Pw KS=>?_⟩;refine⟨_,_,G',rfl,by rw[Nat.succ_mul];exact L8,λs hs BO EJ=>?_⟩;by_cases V2:s=i
   .subst V2;rw[Aj]at EJ;cases EJ;exact KS
   .exact((DI s (by omega) BO EJ).sub (LSub.kt (j! s7) _)).sub Pw
  .rintro Z H6 ⟨c5,c6,G,rfl,L,DI⟩;rw[WO,<-FA]at DI;have KU:=MA.same L.sm;obtain⟨Vw,DT⟩:=cq KU.dm;have MC:=sj.trans L.sm
   have AS:pt≠la:=λz=>by
    rw[z]at FL;rw[L.la0]at FL;cases FL
   refine⟨_,rfl,b,_,_,_,_,rfl,MC _ _ Co.bk,_,rfl,_,rfl,ia,la,pt,Ag,ins,G,f',mN ins rows,rfl,MC _ _ Co.inE,Co.inK.mono (j! MC),F.gi,L.r,KU,Mm,AS,λBh H7 MD KW Ce Px=>?_⟩;have SE:k! H1 H7:=tN MD MC KQ;have E2:=(j! L.sm).trans (MD.kt DT);have ME:H7 D=some (.lst (as.map i!)):=MD _ _ KC (L.sm _ _ eD);refine⟨_,rfl,D,rfl,⟨_,l! ME⟩,λDl Ea=>?_⟩;have V3:H1 Dl=none:=SE.free Ea;refine⟨rows.length,λj H8=>An3 (j<=rows.length) (k! H7 H8) (Ex1 λ(bs:List WS)=>An2 (H8 Dl=some (.lst (bs.map i!))) (Xs (λs a=>AtK .i K H8 ((frS ins rows s).cut (Dk Bh (s:Nat)) []) a) (XG j) bs)),⟨Xi _,ae Ea _,[],ac,.nil⟩,?_⟩;rintro j H8 ⟨hj8,s8,bs,SF,Ar⟩;by_cases V4:j=rows.length
   .left;subst V4;refine⟨⟨_,l! (s8 _ _ ME),by rw[WO];exact FA.symm⟩,?_⟩;refine⟨_,rfl,lnE rfl,λr V5=>?_⟩;have s9:k! H8 (upd H8 r (.tup [.ref Dl,.ref pt])):=ae V5 _;refine k r Dl pt bs Bh _ (s1.trans (SE.trans (s8.trans s9))) ac (s9 _ _ SF) (y! (λ_ _ h=>h.mono (j! s9)) Ar) (KW.same (s8.trans s9)) ⟨λs hs x hx hh=>Ce _ (KR s hs x hx hh),λs row Aj p hp c hc u hu x hx hk=>?_⟩;have hs:=(glE Aj);exact Px _ hk _ _ (LSub.kt (MD.kt DT) G _ _ _ (DI s hs row Aj p hp c hc u hu x hx))
   .right;have Ay:j<rows.length:=by omega
    obtain⟨fa,B5⟩:∃fa,as[j]?=some fa:=⟨_,WR (by omega)⟩;refine⟨Ay,⟨_,.ref fa,l! (s8 _ _ ME),by rw[W0,B5];rfl⟩,?_⟩;rintro y H9 ⟨p,v,hp,rfl,rfl,hv⟩;have BE:=hv _ (l! (s8 _ _ ME));rw[W0,B5]at BE;cases BE;obtain⟨s',Dz,Cd⟩:=C! has B5;rw[X4 Ay]at Dz;cases Dz;have s9:k! H8 (upd H8 p (.tup [.int (j:Nat),.ref fa])):=ae hp _;refine⟨p,_,rfl,n! ac,rfl,_,_,rfl,_,_,rfl,rfl,?_⟩;generalize(upd H8 p (.tup [.int (j:Nat),.ref fa]))=H9 at s9 |-;obtain⟨z1,z2,z3⟩:=mF F Ay;refine⟨_,rfl,_,rfl,_,rfl,fa,pt,j,frS ins rows j,Bh,mN ins rows,rfl,Cd.mono (E2.trans (j! (s8.trans s9))),z1,z2,z3,KW.same (s8.trans s9),λq BK A8 hq=>?_⟩;have KY:=(s9.trans A8) _ _ SF;have Bi:(XG j).length=bs.length:=W5 Ar;rw[Xo]at Bi;have KL:KT BK (upd BK Dl (.lst (bs.map i!++[.ref q]))):=aK KY;refine⟨_,KY,lbE (by omega),Ay,am (s8.trans (s9.trans A8)) Ea,bs++[q],uAE,?_⟩;rw[List.range_succ];exact t! (y! (λ_ _ h=>h.mono ((j! (s9.trans A8)).trans KL)) Ar) (.cons (hq.mono KL) .nil)
 .right;have Ay:j<rows.length:=by omega
  obtain⟨row,Aj⟩:∃row,rows[j]?=some row:=⟨_,WR Ay⟩;refine⟨Ay,by show _<_;rw[WO];omega,?_⟩;rintro y H9 ⟨rfl,rfl⟩;rw[YA];refine⟨_,rfl,_,rfl,_,rfl,_,rfl,b,md,pt,j,ins,outs,head,rows,row,Dr,f',mN ins rows,rfl,Pu.mono (j! sj),F,Aj,sj _ _ IH,Hw.mono (j! sj),MA,Mm,λx hx=>tH Ay hx,λr Bh H4 Py Cd Pz CJ Gy=>?_⟩;have Mt:=Py.kt FL;have DE:=Py _ _ KC eD;have Bb:(XG j).length=as.length:=W5 has;rw[Xo]at Bb;have k5:KT H4 (upd H4 D (.lst (as.map i!++[.ref r]))):=aK DE;rw[<-abQ Aj]at Cd Gy;refine⟨_,DE,lbE (by omega),Ay,am (tN Py sj KQ) V0,as++[r],Bh,uAE,?_,act Pz k5 (λo e=>by rw[aj KC.symm];exact e),λs hs x hx hh=>?_⟩
  .rw[List.range_succ];exact t! (y! (λ_ _ h=>h.mono (Mt.trans k5)) has) (.cons (Cd.mono k5) .nil)
  .by_cases V6:s=j
   .subst V6;exact Gy x hx hh
   .exact CJ _ (KR s (by omega) x hx hh)
inductive iG(P:W6)(w:Xj)(K:WQ)(vs:List V)(H:Hp)(Q:VK)(_E:XK):Prop
 |mk (b:WS) (ins outs:List (Xk×Int)) (head:Th) (rows:List (List Th)) (An:vs=[.ref b]) (Ao:Bk H ins outs head rows b) (Au:FrB ins outs rows) (AD:∀(fl:WS)(fs:List WS)(f':List (ay×V))(H':Hp),k! H H'->H' fl=some (.lst (fs.map i!))->Xs (λs a=>AtK .i K H' ((frS ins rows s).cut (Dk f' (s:Nat)) []) a) (XG rows.length) fs->FrD ins rows (f'.map (·.1))->Q (.ref fl) H'):iG P w K vs H Q _E
def qx(P:W6)(w:Xj)(K:WQ):Sp:=iG P w K
theorem qP:aO P w K mg base CX0 8 T.g_fronts_of.f T.g_fronts_of.d ["book"] (qx P w K):=by
 refine T.g_fronts_of.F.okA f7 λAi A outer s0 H vs Q E hr h=>?_;obtain⟨b,ins,outs,head,rows,rfl,hB,F,k⟩:=h
 refine⟨_,(ad (fg (pcF T.g_found_fronts (lO T) hr (aa (pv 0) ab)) (bj rfl (ak (pgN 1 f7.nd) (ak (pgN 2 f7.nd) aT))))
  (af (az (pv 1)))),?_⟩
 try dsimp only[AA,Ae]
 refine⟨_,rfl,b,ins,outs,head,rows,rfl,hB,F,λr fl pt fs f' H1 s1 er FN Gz MA hD=>?_⟩;exact⟨r,_,rfl,n! er,rfl,_,_,rfl,_,_,rfl,rfl,_,rfl,k fl fs f' H1 s1 FN Gz hD⟩
inductive rn(K:WQ)(vs:List V)(H:Hp)(Q:VK)(_E:XK):Prop
 |mk (rs:Rep) (a pl:WS) (f t:Th) (as:List WS) (An:vs=[.ref a,.ref pl]) (Ao:AtK .i K H f a) (Au:f.size<=100000) (AD:f.tall<=150) (AR:f.noCall) (BX:f.lies t=true) (D5:(∀p∈f.hw [] t,p.2.size<=100000)) (Eh:H pl=some (.lst (as.map i!))) (Gq:AtsK rs K H ((f.hw [] t).map (·.2)) as) (IF:∀(r:WS)(H':Hp),k! H H'->AtK rs K H' t r->Q (.ref r) H'):rn K vs H Q _E
def zm(K:WQ):Sp:=rn K
theorem aal:aO P w K mg base CX0 3 T.g_hung.f T.g_hung.d ["front","parts"] (zm K):=by
 refine T.g_hung.F.okA jb λAi A outer s H vs Q E hr h=>?_;obtain⟨rs,a,pl,f,t,ps,rfl,hA,hsz,AB,Pj,hl,V7,Kl,Bu,k⟩:=h
 refine⟨_,(ad (au 2 jb.nd (bx ab))
  (ad (au 3 jb.nd ai)
  (ad (bE Xz rfl (cj (pcF T.g_walked (jS T) hr (aa (pv 0) ab))) (pgN 4 jb.nd) (af (cB (bq (pcF T.g_is_hole (fV T) hr (aa (pv 4) ab)) (λ_=>rfl)) (ad (aU (bS Xd Xx Xw aS (pv 2) (aa (aD (aa (aF bu (pv 1) (pv 3) (λ_ _=>rfl)) (aa ai ab))) ab)))
  (af (yZ (i:=3) jb.nd rfl (Or.inl rfl) ai xx))) (af (aU (bS Xd Xx Xw aS (pv 2) (aa (pcF T.g_top_of (jV T) hr (aa (pv 4) ab)) ab)))))))
  (af (az (pcF T.g_built (jJ T) hr (aa (pv 2) ab))))))),?_⟩
 try dsimp only[AA,Ae]
 obtain⟨Co,AF,Om⟩:=vb [] hl;have Ex:=zw [] hl;generalize hW:(f.hw [] t).map (·.2)=W at Bu Co AF;have V8:W.length=aW f.walk:=by rw[<-hW,WO,Om]
 have V9:∀u∈W,u.size<=100000:=λu hu=>by
  rw[<-hW]at hu;obtain⟨p,hp,rfl⟩:=XD.mp hu;exact V7 p hp
 have AS:ps.length=W.length:=Bu.length;refine⟨lnE rfl,λtl BQ=>?_⟩;refine⟨_,rfl,a,f,rfl,hA.mono (dD BQ),hsz,λwl ws H1 s1 J4 J5 hw=>?_⟩;have Ef:ws.length=f.walk.length:=hw.length;have Vf:=L! f;have J6:k! H H1:=(ae BQ _).trans s1;have Oq:wl≠tl:=λz=>by rw[z,ac]at J4;cases J4
 have E3:pl≠tl:=λz=>by rw[z,BQ]at Kl;cases Kl
 refine⟨wl,rfl,⟨_,l! J5⟩,?_⟩
 refine cD (K:=K) (a:=wl) (xs:=ws.map i!) (λi Z H2=>Ex2 λc bs=>An6 (Z=[some (.ref a),some (.ref pl),some (.ref tl),some (.int (aW (f.walk.take i):Nat)),c]) (k! H H2) (H2 wl=some (.lst (ws.map i!))) (AtsK .i K H2 f.walk ws) (H2 tl=some (.lst (bs.map i!))) (Xs (TopAtK rs K H2) (aZ (f.walk.take i) W) bs))
  ⟨none,[],rfl,J6,J5,hw,s1 _ _ ac,.nil⟩ (λi Z H2 _⟨_,_,_,_,e,_,_,_⟩=>l! e) ?_ ?_
 .rintro i x Z H2 hx ⟨c,bs,rfl,s2,EB,Hq,BP,Ar⟩;obtain⟨xa,rfl,J7⟩:=aR hx;obtain⟨tx,J8,IE⟩:=Hq.get J7;have Mg:tx∈f.walk:=WU J8;have J0:=wA f tx Mg;have AU:f.walk.take (i+1)=f.walk.take i++[tx]:=by rw[Yi,J8];rfl
  have Bi:bs.length<=100000:=by
   have:=W5 Ar;rw[ii,XO]at this;omega
  refine⟨_,rfl,xa,tx,rfl,IE,by omega,_,rfl,?_⟩
  have push:∀(H3:Hp)(p:WS)(tp:Top)(nx:Nat),k! H2 H3->TopAtK rs K H3 tp p->aZ (f.walk.take (i+1)) W=aZ (f.walk.take i) W++[tp]->aW (f.walk.take (i+1))=nx->Ex2 λc Fx=>An6 (([some (.ref a),some (.ref pl),some (.ref tl),some (.int (nx:Nat)),some (.ref xa)]:St)=[some (.ref a),some (.ref pl),some (.ref tl),some (.int (aW (f.walk.take (i+1)):Nat)),c]) (k! H (upd H3 tl (.lst (bs.map i!++[.ref p])))) ((upd H3 tl (.lst (bs.map i!++[.ref p]))) wl=some (.lst (ws.map i!))) (AtsK .i K (upd H3 tl (.lst (bs.map i!++[.ref p]))) f.walk ws) ((upd H3 tl (.lst (bs.map i!++[.ref p]))) tl=some (.lst (Fx.map i!))) (Xs (TopAtK rs K (upd H3 tl (.lst (bs.map i!++[.ref p])))) (aZ (f.walk.take (i+1)) W) Fx):=by
   intro H3 p tp nx s3 hp e1 e2;have k3:KT H3 (upd H3 tl (.lst (bs.map i!++[.ref p]))):=aK (s3 _ _ BP);refine⟨_,bs++[p],by rw[e2],am (s2.trans s3) BQ,by rw[aj Oq];exact s3 _ _ EB,Hq.mono ((j! s3).trans k3),uAE,?_⟩;rw[e1];exact t! (cZ ((j! s3).trans k3) Ar) (.cons (hp.mono k3) .nil)
  refine cT (λch=>?_) (λch=>?_)
  .have Gm:aW (f.walk.take (i+1))=aW (f.walk.take i)+1:=by
    rw[AU,dh];show _+(List.filter N! [tx]).length=_;rw[XX,b! ch];rfl
   have Am:aW (f.walk.take i)<W.length:=by
    rw[V8];have h1:aW f.walk=aW (f.walk.take (i+1))+aW (f.walk.drop (i+1)):=by rw[<-dh,List.take_append_drop]
    omega
   refine hid λZZ kZ=>?_;obtain⟨u,hu⟩:∃u,W[aW (f.walk.take i)]?=some u:=⟨_,WR Am⟩;obtain⟨ua,DF,FO⟩:=Bu.at hu;refine kZ ?_
   have Fg:aZ (f.walk.take (i+1)) W=aZ (f.walk.take i) W++[.th u]:=by
    rw[AU,cA];congr 1;rw[aZ,b! ch,aZ,List.headD_eq_head?_getD,List.head?_drop,hu];rfl
   have PD:H2 pl=some (.lst (ps.map i!)):=s2 _ _ Kl;refine⟨_,rfl,.inl ⟨rfl,_,l! BP⟩,_,rfl,_,rfl,pl,_,_,.ref ua,rfl,rfl,l! PD,at_nonneg (by omega) (by rw[XM,W0,DF];rfl),lnE rfl,λp hp=>?_⟩;have s3:k! H2 (upd H2 p (.tup [.ref ua,.int 0])):=ae hp _;refine⟨tl,_,_,rfl,rfl,s3 _ _ BP,lbE (by omega),?_⟩;refine⟨_,rfl,_,_,rfl,rfl,?_⟩;exact push _ p (.th u) (aW (f.walk.take i)+1) s3 ⟨ua,ac,FO.mono (j! (s2.trans s3))⟩ Fg Gm
  .have Av:tx.isHole=false:=Yj.mpr ch
   have Gm:aW (f.walk.take (i+1))=aW (f.walk.take i):=by
    rw[AU,dh];show _+(List.filter N! [tx]).length=_;rw[XX,a! (by rw[Av];exact W8)];rfl
   have Fg:aZ (f.walk.take (i+1)) W=aZ (f.walk.take i) W++[.nm tx.name tx.wid]:=by
    rw[AU,cA];congr 1;rw[aZ,a! (by rw[Av];exact W8),aZ]
   have KZ:=kX f Pj tx Mg;cases tx with
   |call sn kn=>rw[u!]at KZ;exact KZ.elim
   |knot nm us =>
   refine⟨_,rfl,.inl ⟨rfl,_,l! BP⟩,_,rfl,xa,nm,us,rfl,IE,λp H3 s3 hp=>?_⟩;refine⟨tl,_,_,rfl,rfl,s3 _ _ BP,lbE (by omega),?_⟩;exact push _ p (.nm nm us.length) (aW (f.walk.take i)) s3 hp Fg Gm
 .rintro Z H2 ⟨c,bs,rfl,s2,EB,Hq,BP,Ar⟩;rw[WO,Ef,YR]at Ar;refine⟨_,rfl,tl,bs,_,t,rfl,BP,Ar,by rw[ii];omega,AF,?_,Co,λr H3 s3 Fy=>k r H3 (s2.trans s3) Fy⟩;intro u hu;rcases jx _ _ _ hu with h|h
  .exact V9 u h
  .rw[h,dR];omega
inductive iI(vs:List V)(H:Hp)(Q:VK)(_E:XK):Prop
 |mk (i:Int) (An:vs=[.int i]) (Ao:Q (.bl true) H):iI  vs H Q _E
def qd:Sp:=iI
theorem qR:aO P w K mg base CX0 1 T.g_is_number.f T.g_is_number.d ["thing"] qd:=by
 refine T.g_is_number.F.okA qK λAi A outer s H vs Q E hr h=>?_;obtain⟨i,rfl,k⟩:=h;refine⟨_,(af (az (gD (aH (px (T:="int")) rfl T.n_isinstance PyProof.Rows.boot_isinstance (aa (pv 0) (aa (u8 (v:=.ty "int") rfl T.n_int PyProof.Rows.boot_int rfl) ab))) (kC (uN (aH (px (T:="bool")) rfl T.n_isinstance PyProof.Rows.boot_isinstance (aa (pv 0) (aa (u8 (v:=.ty "bool") rfl T.n_bool PyProof.Rows.boot_bool rfl) ab)))))))),?_⟩
 try dsimp only[AA,Ae]
 refine⟨_,rfl,_,_,_,rfl,.int i,abk,_,rfl,?_⟩;refine wC ?_;exact⟨_,rfl,_,_,_,rfl,.int i,abl,_,rfl,k⟩
inductive jA(vs:List V)(H:Hp)(Q:VK)(_E:XK):Prop
 |mk (i b:Int) (An:vs=[.int i,.int b]) (Ao:Q (.bl (decide (0<=i/\i<b))) H):jA  vs H Q _E
def sP:Sp:=jA
theorem re:aO P w K mg base CX0 2 T.g_is_below.f T.g_is_below.d ["number","bound"] sP:=by
 refine T.g_is_below.F.okA sr λAi A outer s H vs Q E hr h=>?_;obtain⟨i,b,rfl,k⟩:=h;refine⟨_,(af (az (gD (pcF T.g_is_number (qR T) hr (aa (pv 0) ab)) (kC (xv vL mI ai (pv 0) (pv 1)))))),?_⟩
 try dsimp only[AA,Ae]
 refine⟨_,rfl,i,rfl,_,rfl,?_⟩;refine wC ?_;refine⟨_,rfl,_,_,rfl,rfl,_,rfl,?_⟩;refine cT (λc=>?_) (λc=>?_)
 .have c':0<=i:=e! c;refine⟨_,rfl,_,_,rfl,rfl,?_⟩;have e:decide (0<=i/\i<b)=decide (i<b):=by simp[c']
  rw[e]at k;exact k
 .have c':¬0<=i:=λz=>c (d! z);have e:decide (0<=i/\i<b)=false:=by simp[c']
  rw[e]at k;exact k
inductive n9(K:WQ)(vs:List V)(H:Hp)(Q:VK)(_E:XK):Prop
 |mk {rq:Rep} (a:WS) (t u:Th) (i:Int) (An:vs=[.ref a,.int i]) (Ao:AtK rq K H t a) (Au:0<=i) (AD:t.kids[i.toNat]?=some u) (AR:∀(b:WS)(H':Hp),k! H H'->AtK rq K H' u b->Q (.ref b) H'):n9 K vs H Q _E
def w9(K:WQ):Sp:=n9 K
theorem wE:aO P w K mg base CX0 3 T.g_kid_at.f T.g_kid_at.d ["thing","number"] (w9 K):=by
 refine T.g_kid_at.F.okA pS λAi A outer s H vs Q E hr h=>?_;obtain⟨a,t,u,i,rfl,hA,h0,hu,k⟩:=h
 refine⟨_,(ad (au 2 pS.nd (pcF T.g_kids_of (d4 T) hr (aa (pv 0) ab)))
  (ad (cB (t6 (bq (pcF T.g_is_below (re T) hr (aa (pv 1) (aa (aH aA rfl T.n_len XT (aa (pv 2) ab)) ab))) (λ_=>rfl))) (af oo) bN)
  (af (az (aF aL (pv 2) (pv 1) (λ_ _=>rfl)))))),?_⟩
 try dsimp only[AA,Ae]
 refine⟨_,rfl,a,t,rfl,hA,λr as H1 s1 er C2=>?_⟩;have hl:as.length=t.kids.length:=C2.length;have hi:i.toNat<t.kids.length:=(glE hu);refine⟨_,rfl,_,rfl,r,_,rfl,.inr (n! er),i,_,rfl,_,rfl,?_⟩;refine cT (λc=>?_) (λc=>?_)
 .exfalso;rw[WO,hl]at c;have:decide (0<=i/\i<(t.kids.length:Int))=true:=d! ⟨h0,by omega⟩;rw[this]at c;cases c
 .obtain⟨b,hb,V'⟩:=C2.at hu;exact⟨_,rfl,_,rfl,r,_,i,.ref b,rfl,rfl,n! er,at_nonneg h0 (gmE hb),k b H1 s1 V'⟩
inductive lh(K:WQ)(vs:List V)(H:Hp)(Q:VK)(_E:XK):Prop
 |mk {rq:Rep} (a pa:WS) (t u:Th) (p:List Int) (An:vs=[.ref a,.ref pa]) (Ao:AtK rq K H t a) (Au:H pa=some (.tup (p.map q!))) (AD:t.sub p=some u) (AR:∀(b:WS)(H':Hp),k! H H'->AtK rq K H' u b->Q (.ref b) H'):lh K vs H Q _E
def mQ(K:WQ):Sp:=lh K
theorem uf:aO P w K mg base CX0 4 T.g_knot_at.f T.g_knot_at.d ["tree","place"] (mQ K):=by
 refine T.g_knot_at.F.okA fH λAi A outer s H vs Q E hr h=>?_;obtain@⟨rq,a,pa,t,u,p,rfl,hA,hp,hu,k⟩:=h
 refine⟨_,(ad (au 2 fH.nd (pv 0))
  (ad (bE Xz rfl (eZ (pv 1)) (pgN 3 fH.nd) (af (au 2 fH.nd (pcF T.g_kid_at (wE T) hr (aa (pv 2) (aa (pv 3) ab))))))
  (af (az (pv 2))))),?_⟩
 try dsimp only[AA,Ae]
 refine⟨_,rfl,?_⟩;refine⟨_,rfl,pa,rfl,⟨_,n! hp⟩,?_⟩
 refine aac (K:=K) (a:=pa) (xs:=p.map q!) (λi Z H2=>Ex3 λb c v=>An4 (Z=[some (.ref a),some (.ref pa),some (.ref b),c]) (k! H H2) (AtK rq K H2 v b) (v.sub (p.drop i)=some u))
  ⟨a,none,t,rfl,.refl _,hA,by rw[List.drop_zero];exact hu⟩ (λi Z H2 _⟨_,_,_,_,s2,_,_⟩=>n! (s2 _ _ hp)) ?_ ?_
 .rintro i x Z H2 hx ⟨b,c,v,rfl,s2,hb,hv⟩;rw[W0]at hx;obtain⟨n,hn,rfl⟩:=XJ.mp hx;have hi:i<p.length:=(glE hn)
  have hd:p.drop i=n::p.drop (i+1):=by
   rw[List.drop_eq_getElem_cons hi];congr 1;rw[WR hi]at hn;exact Xm hn
  rw[hd,Th.sub]at hv;split at hv
  .rename_i h0
   split at hv
   .rename_i v' BE
    refine⟨_,rfl,_,rfl,b,v,v',n,rfl,hb,h0,BE,λb' H3 s3 AJ=>?_⟩;exact⟨b',_,v',rfl,s2.trans s3,AJ,hv⟩
   .cases hv
  .cases hv
 .rintro Z H2 ⟨b,c,v,rfl,s2,hb,hv⟩;rw[WO,List.drop_length,fW]at hv;cases hv;exact⟨_,rfl,k b H2 s2 hb⟩
def mf(k c:Int):List (Xk×V):=[("met_knots",.int k),("met_calls",.int c)]
theorem mkc:¬(("met_knots":Xk)="met_calls"):=by decide +kernel
theorem adk:¬(("met_calls":Xk)="met_knots"):=by decide +kernel
theorem aaw:dr "met_knots" (.int 0) []=[(("met_knots":Xk),q! 0)]:=rfl
theorem zW:dr "met_calls" (.int 0) [(("met_knots":Xk),q! 0)]=mf 0 0:=by
 unfold mf;rw[dr,a! mkc,dr]
theorem aat(k c z:Int):dr "met_knots" (.int z) (mf k c)=mf z c:=by
 unfold mf;rw[dr,b! rfl]
theorem zy(k c z:Int):dr "met_calls" (.int z) (mf k c)=mf k z:=by
 unfold mf;rw[dr,a! mkc,dr,b! rfl]
theorem acb(k c:Int):(mf k c).lookup ("met_knots":Xk)=some (q! k):=by
 unfold mf;have hb:(("met_knots":Xk) == "met_knots")=true:=beq_iff_eq.mpr rfl;simp only[ZW,hb]
theorem acf(k c:Int):(mf k c).lookup ("met_calls":Xk)=some (q! c):=by
 unfold mf;have hb:(("met_calls":Xk) == "met_calls")=true:=beq_iff_eq.mpr rfl;have hc:(("met_calls":Xk) == "met_knots")=false:=beq_eq_false_iff_ne.mpr adk;simp only[ZW,hb,hc]
theorem acd{m:Xk}(k c:Int)(h1:(m == ("met_knots":Xk))=false)(h2:(m == ("met_calls":Xk))=false):(mf k c).lookup m=none:=by
 unfold mf;simp only[ZW,h1,h2]
theorem yG(k c:Int):(mf k c).length<1000:=by show 2<1000;decide
inductive fE(C:WS)(vs:List V)(H:Hp)(Q:VK)(_E:XK):Prop
 |mk (x dx:WS) (An:vs=[.ref x]) (Ao:H x=some (.ins C dx [])) (Au:∀H':Hp,(∀b o,b≠x->H b=some o->H' b=some o)->H' x=some (.ins C dx (mf 0 0))->Q .non H'):fE C vs H Q _E
def lR(C:WS):Sp:=fE C
theorem lU:aO P w K mg base CX0 1 T.f_Measure_init T.d_Measure_init ["self"] (lR T.e_Measure):=by
 refine T.F_Measure_init.okA lQ λAi A outer s H vs Q E hr h=>?_;obtain⟨x,dx,rfl,ex,q⟩:=h
 refine⟨_,(ad (yT (pv 0) ai rfl)
  (af (yT (pv 0) ai rfl))),?_⟩
 try dsimp only[AA,Ae]
 refine⟨_,rfl,x,T.e_Measure,dx,_,rfl,ex,T.cl_Measure,T.na_Measure_met_knots,(by show 0<1000;decide),?_⟩;refine⟨_,rfl,x,T.e_Measure,dx,_,rfl,ac,T.cl_Measure,T.na_Measure_met_calls,(by show 1<1000;decide),?_⟩;refine q _ (λb o hb e=>?_) ?_
 .rw[aj hb,aj hb];exact e
 .rw[ac,aaw,zW]
inductive eY(K:WQ)(C:WS)(vs:List V)(H:Hp)(Q:VK)(_E:XK):Prop
 |mk {rq:Rep} (x dx pa:WS) (k c row:Int) (t:Th) (An:vs=[.ref x,.ref pa,.int row]) (Ao:H x=some (.ins C dx (mf k c))) (Au:AtK rq K H t pa) (AD:∀(k' c':Int)(H':Hp),k'=(if t.isCall=true then k else k+1)->c'=(if t.isCall=true then c+1 else c)->(∀b o,b≠x->H b=some o->H' b=some o)->H' x=some (.ins C dx (mf k' c'))->Q (.bl (decide (row<=20/\k'<=400/\c'<=200))) H'):eY K C vs H Q _E
def jW(K:WQ)(C:WS):Sp:=eY K C
theorem ko:aO P w K mg base CX0 2 T.f_Measure_takes T.d_Measure_takes ["self","part","row"] (jW K T.e_Measure):=by
 refine T.F_Measure_takes.okA kh λAi A outer s H vs Q E hr h=>?_;obtain@⟨rq,x,dx,pa,k,c,row,t,rfl,ex,hA,q⟩:=h
 refine⟨_,(ad (cB (bq (pcF T.g_is_call (eM T) hr (aa (pv 1) ab)) (λ_=>rfl)) (af (oZ (pv 0) ai yq)) (af (oZ (pv 0) ai yq)))
  (af (az (gD (dH vL (pv 2) (cz (v:=.int (20)) rfl T.c_MOST_ROWS.choose_spec ⟨_,rfl⟩) (bc _)) (gD (dH vL (yw (pv 0) rfl) (cz (v:=.int (400)) rfl T.c_MOST_KNOTS.choose_spec ⟨_,rfl⟩) (bc _)) (kC (dH vL (yw (pv 0) rfl) (cz (v:=.int (200)) rfl T.c_MOST_CALLS.choose_spec ⟨_,rfl⟩) (bc _)))))))),?_⟩
 try dsimp only[AA,Ae]
 refine ci (λAb H'=>Ex2 λ(k' c':Int)=>An5 (k'=(if t.isCall=true then k else k+1)) (c'=(if t.isCall=true then c+1 else c)) ((∀b o,b≠x->H b=some o->H' b=some o)) (H' x=some (.ins T.e_Measure dx (mf k' c'))) (Ab=[some (.ref x),some (.ref pa),some (.int row)])) (λkk hk=>?_) ?_
 .refine ce (λb H'=>An2 (H=H') (b=t.isCall)) (λk2 Bj=>?_) (λH' hb=>?_) (λH' hb=>?_)
  .exact⟨_,rfl,pa,t,rfl,hA,_,rfl,Bj _ _ ⟨rfl,rfl⟩⟩
  .obtain⟨rfl,hb⟩:=hb;refine⟨_,rfl,x,T.e_Measure,dx,_,_,rfl,ex,T.cl_Measure,T.na_Measure_met_calls,acf k c,c,1,rfl,rfl,dx,_,ex,yG k c,?_⟩;exact hk _ _ ⟨k,c+1,by rw[b! hb.symm],by rw[b! hb.symm],λb o hb e=>by rw[aj hb];exact e,by rw[ac,zy],rfl⟩
  .obtain⟨rfl,hb⟩:=hb;have AJ:¬t.isCall=true:=λz=>by rw[<-hb]at z;cases z
   refine⟨_,rfl,x,T.e_Measure,dx,_,_,rfl,ex,T.cl_Measure,T.na_Measure_met_knots,acb k c,k,1,rfl,rfl,dx,_,ex,yG k c,?_⟩;exact hk _ _ ⟨k+1,c,by rw[a! AJ],by rw[a! AJ],λb o hb e=>by rw[aj hb];exact e,by rw[ac,aat],rfl⟩
 rintro Ab H' ⟨k',c',AV,AX,hs,LR,rfl⟩;have q':=q k' c' H' AV AX hs LR;clear q;refine⟨_,rfl,_,_,rfl,rfl,?_⟩;refine⟨_,rfl,?_⟩;by_cases c1:row<=20
 .rw[b! (d! c1)];refine⟨_,rfl,x,T.e_Measure,dx,_,_,rfl,LR,T.cl_Measure,T.na_Measure_met_knots,acb k' c',_,_,rfl,rfl,_,rfl,?_⟩;by_cases c2:k'<=400
  .rw[b! (d! c2)];refine⟨_,rfl,x,T.e_Measure,dx,_,_,rfl,LR,T.cl_Measure,T.na_Measure_met_calls,acf k' c',_,_,rfl,rfl,?_⟩;have e:decide (row<=20/\k'<=400/\c'<=200)=decide (c'<=200):=by simp[c1,c2]
   rw[e]at q';exact q'
  .rw[a! (λz=>c2 (e! z))];rw[c! (λz=>c2 z.2.1)]at q';exact q'
 .rw[a! (λz=>c1 (e! z))];rw[c! (λz=>c1 z.1)]at q';exact q'
instance (t:Th):Decidable (Small t):=decidable_of_iff (t.tall<=20/\t.kn<=400/\cnT t<=200) ⟨λh=>⟨h.1,h.2.1,h.2.2⟩,λh=>⟨h.1,h.2,h.3⟩⟩
theorem xB(h:ts≠[]):∃t∈ts,aC ts=t.tall:=by
 induction ts with
 |nil=>exact g! rfl h
 | cons x ts ih =>
   rw[aC];by_cases hz:ts=[]
   .subst hz;exact⟨x,Xh ..,by rw[aC];omega⟩
   .obtain⟨t,ht,e⟩:=ih hz;by_cases hc:aC ts<=x.tall
    .exact⟨x,Xh ..,by omega⟩
    .exact⟨t,Xf _ ht,by omega⟩
def RwAt(rq:Rep)(K:WQ)(H:Hp)(e:Th×Int)(p:WS):Prop:=∃ta,H p=some (.tup [.ref ta,.int e.2])/\AtK rq K H e.1 ta
theorem RwAt.mono(k:KT H H'){e:Th×Int}{p:WS}(h:RwAt rq K H e p):RwAt rq K H' e p:=by
 obtain⟨ta,h1,h2⟩:=h;exact⟨ta,k _ _ h1,h2.mono k⟩
inductive jz(K:WQ)(vs:List V)(H:Hp)(Q:VK)(_E:XK):Prop
 |mk {rq:Rep} (a:WS) (t:Th) (An:vs=[.ref a]) (Ao:AtK rq K H t a) (Au:t.size<=100000) (AD:∀H',k! H H'->Q (.bl (decide (Small t))) H'):jz K vs H Q _E
def rW(K:WQ):Sp:=jz K
theorem sk:aO P w K mg base CX0 4 T.g_is_small.f T.g_is_small.d ["pattern"] (rW K):=by
 refine T.g_is_small.F.okA du λAi A outer s H vs Q E hr h=>?_;obtain@⟨rq,a,t,rfl,hA,hsz,q⟩:=h
 refine⟨_,(ad (au 1 du.nd (yN T.mk_Measure (lU T) (hr.mono (by first|decide|omega)) rfl T.x_Measure T.b_Measure_init .nil gx))
  (ad (au 2 du.nd (bx (aa (aD (aa (pv 0) (aa ai ab))) ab)))
  (ad (eF Xz (bq (pv 2) (λ_=>rfl)) (ad (fg (kJ Xd ZF ZE jZ (pv 2)) (bj rfl (ak (pgN 3 du.nd) (ak (pgN 4 du.nd) aT))))
  (ad (cB (t6 (bq (zu (pv 1) T.cl_Measure T.me_Measure_takes (ko T) (hr.mono (by first|decide|omega)) T.b_Measure_takes .nil gx (aa (pv 3) (aa (pv 4) ab))) (λ_=>rfl))) (af (az vX)) bN)
  (af (aU (bS Xd Z1 Z0 ig (pv 2) (aa (bW (N:=[WT "kid",WT "row"]) (js:=[none,some 4]) (g:=(aq 0)) (tt:=bw) (te:=(lM (aG (aX 0) (aG (tOp (rI0 λi j=>.int (i+j)) (aX 1) (tC (.int 1))) cC)))) rfl (bY rfl (by decide +kernel) (by decide +kernel) rfl rfl rfl) (eZ (pcF T.g_kids_of (d4 T) hr (aa (pv 3) ab))) (λ_ _ _ _ _ _=>(pgN 0 ac5)) (aI rfl) (λ_ _ _ _ _ _=>bF) (λ_ _ _ _ _ _=>(aD (aa (pv 0) (aa (aB df (pv 1) ai) ab))))) ab)))))))
  (af (az vX))))),?_⟩
 try dsimp only[AA,Ae]
 intro mo dx MF Wa Av;refine⟨mo,dx,rfl,ac,λH1 k1 SG=>⟨rfl,?_⟩⟩
 have s0:k! H (upd (upd H dx (.own mo)) mo (.ins T.e_Measure dx [])):=λb o e=>by
  rw[aj (ax e MF),aj (ax e Wa)];exact e
 have s1:k! H H1:=λb o e=>k1 b o (ax e MF) (s0 b o e);refine⟨_,rfl,lnE rfl,λp0 Fq=>?_⟩;dsimp only[aq];refine gU Fq λH2 s2 e2=>?_;refine⟨lnE rfl,λah BG=>?_⟩;have s3:k! H2 (upd H2 ah (.lst [.ref p0])):=ae BG _;have e3:(upd H2 ah (.lst [.ref p0])) ah=some (.lst (([p0]:List WS).map i!)):=ac;have K0:H ah=none:=(s1.trans s2).free BG;have FP:mo≠ah:=λz=>by rw[<-z,s2 _ _ SG]at BG;cases BG
 generalize(upd H2 ah (.lst [.ref p0]))=H3 at s3 e3 |-;have C4:=s2.trans s3;refine⟨λm Z H4=>Ex6 λ(ps:List WS)(As:List (Th×Int))(k c:Int)(pv rv:Option V)=>abH (Z=[some (.ref a),some (.ref mo),some (.ref ah),pv,rv]) (k! H H4) (H4 ah=some (.lst (ps.map i!))) (Xs (RwAt rq K H4) As ps) (H4 mo=some (.ins T.e_Measure dx (mf k c))) (k+(kns (As.map (·.1)):Int)=(t.kn:Int)) (c+(cF (As.map (·.1)):Int)=(cnT t:Int)) (k<=400) (c<=200) ((∀e∈As,e.2+(e.1.tall:Int)<=(t.tall:Int)+1)) (((t.tall:Int)<=20\/∃e∈As,(t.tall:Int)+1<=e.2+(e.1.tall:Int))) (aw (As.map (·.1))<=100000) (m=aw (As.map (·.1))),⟨_,[p0],[(t,1)],0,0,none,none,rfl,s1.trans C4,e3,.cons ⟨a,s3 _ _ e2,hA.mono (j! (s1.trans C4))⟩ .nil,C4 _ _ SG,?_,?_,by decide,by decide,?_,?_,?_,rfl⟩,?_⟩
 .show(0:Int)+((kns [t]:Nat):Int)=_;rw[kns,kns];omega
 .show(0:Int)+((cF [t]:Nat):Int)=_;rw[cF,cF];omega
 .intro e he;rw[W7.mp he];show(1:Int)+(t.tall:Int)<=_;omega
 .exact .inr ⟨(t,1),Xh ..,by show _<=(1:Int)+(t.tall:Int);omega⟩
 .show aw [t]<=100000;rw[aw,aw];omega
 rintro m Z H4 ⟨ps,As,k,c,pv,rv,rfl,s4,e4,SH,em,hk,hc,hk4,B8,hle,Ml,SI,rfl⟩;refine⟨_,rfl,_,.inl ⟨_,l! e4,rfl⟩,?_⟩;refine cT (λcc=>?_) (λcc=>?_)
 .refine⟨λAb H'=>∃m',m'<aw (As.map (·.1))/\Ex6 λ(ps:List WS)(As:List (Th×Int))(k c:Int)(pv rv:Option V)=>abH (Ab=[some (.ref a),some (.ref mo),some (.ref ah),pv,rv]) (k! H H') (H' ah=some (.lst (ps.map i!))) (Xs (RwAt rq K H') As ps) (H' mo=some (.ins T.e_Measure dx (mf k c))) (k+(kns (As.map (·.1)):Int)=(t.kn:Int)) (c+(cF (As.map (·.1)):Int)=(cnT t:Int)) (k<=400) (c<=200) ((∀e∈As,e.2+(e.1.tall:Int)<=(t.tall:Int)+1)) (((t.tall:Int)<=20\/∃e∈As,(t.tall:Int)+1<=e.2+(e.1.tall:Int))) (aw (As.map (·.1))<=100000) (m'=aw (As.map (·.1))),λAb H' h=>h,?_⟩;have Bg:ps≠[]:=by intro z;subst z;simp at cc
  refine hid λZZ kZ=>?_;obtain⟨Dy,b,rfl⟩:∃Dy b,ps=Dy++[b]:=⟨ps.dropLast,ps.getLast Bg,(Y2 Bg).symm⟩;obtain⟨Us,⟨x,r⟩,rfl,SJ,ta,eb,hx⟩:=P2.snoc_inv SH;refine kZ ?_;have K1:(Us++[(x,r)]).map (·.1)=Us.map (·.1)++[x]:=by rw[Xc];rfl
  rw[K1]at hk hc SI;rw[mq,kns,kns,aaZ]at hk;rw[lE,cF,cF,aaF]at hc;rw[bJ,aw,aw,x.size_eq]at SI;have Wb:=hle (x,r) (XC _ (Xh ..));dsimp only at Wb;have J0:=x.tall_eq;refine⟨_,rfl,.inl ⟨rfl,_,l! e4⟩,ah,_,.ref b,rfl,rfl,e4,by simp,?_⟩;have d1:((Dy++[b]).map i!).dropLast=Dy.map i!:=by simp
  rw[d1];have k5:KT H4 (upd H4 ah (.lst (Dy.map i!))):=aK e4;have s5:k! H (upd H4 ah (.lst (Dy.map i!))):=am s4 K0;have e5:(upd H4 ah (.lst (Dy.map i!))) ah=some (.lst (Dy.map i!)):=ac;have MG:(upd H4 ah (.lst (Dy.map i!))) mo=some (.ins T.e_Measure dx (mf k c)):=by rw[aj FP];exact em
  generalize(upd H4 ah (.lst (Dy.map i!)))=H5 at k5 s5 e5 MG |-;refine⟨b,_,rfl,n! (k5 _ _ eb),rfl,_,_,rfl,_,_,rfl,rfl,?_⟩;dsimp only[aq];refine ci (λAb H6=>Ex2 λ(k' c':Int)=>An6 (k'=(if x.isCall=true then k else k+1)) (c'=(if x.isCall=true then c+1 else c)) ((∀b o,b≠mo->H5 b=some o->H6 b=some o)) (H6 mo=some (.ins T.e_Measure dx (mf k' c'))) ((r<=20/\k'<=400/\c'<=200)) (Ab=[some (.ref a),some (.ref mo),some (.ref ah),some (.ref ta),some (.int r)])) (λkk AW=>?_) ?_
  .refine ce (λbb H6=>Ex2 λ(k' c':Int)=>An5 (k'=(if x.isCall=true then k else k+1)) (c'=(if x.isCall=true then c+1 else c)) ((∀b o,b≠mo->H5 b=some o->H6 b=some o)) (H6 mo=some (.ins T.e_Measure dx (mf k' c'))) (bb=!decide (r<=20/\k'<=400/\c'<=200))) (λk2 Bj=>?_) (λH6 hb=>?_) (λH6 hb=>?_)
   .refine⟨_,rfl,mo,dx,_,rfl,MG,acd k c (by decide +kernel) (by decide +kernel),_,rfl,_,rfl,mo,dx,ta,k,c,r,x,rfl,MG,hx.mono k5,λk' c' H6 h1 h2 h3 h4=>?_⟩;exact⟨_,rfl,Bj _ _ ⟨k',c',h1,h2,h3,h4,rfl⟩⟩
   .refine hid λZZ kZ=>?_;obtain⟨k',c',h1,h2,h3,h4,h5⟩:=hb;refine kZ ?_;have Dc:¬(r<=20/\k'<=400/\c'<=200):=λz=>by rw[d! z]at h5;cases h5
    have CC:decide (Small t)=false:=c! λz=>Dc (by
     obtain⟨z1,z2,z3⟩:=z;refine⟨by omega,?_,?_⟩
     .rw[h1];split at hk <;> split <;> first|omega|contradiction
     .rw[h2];split at hc <;> split <;> first|omega|contradiction)
    have s6:k! H H6:=λb o e=>h3 b o (ax e MF) (s5 b o e);rw[CC]at q;exact q H6 s6
   .refine hid λZZ kZ=>?_;obtain⟨k',c',h1,h2,h3,h4,h5⟩:=hb;refine kZ ?_
    have GZ:r<=20/\k'<=400/\c'<=200:=e! (by
     cases hd:decide (r<=20/\k'<=400/\c'<=200)with
     |true=>rfl
     |false=>rw[hd]at h5;cases h5)
    exact AW _ _ ⟨k',c',h1,h2,h3,h4,GZ,rfl⟩
  rintro Ab H6 ⟨k',c',h1,h2,h3,h4,⟨Wc,PF,PH⟩,rfl⟩;have k6:KT H5 H6:=λb xs e=>h3 b _ (λz=>by rw[z,MG]at e;cases e) e;have s6:k! H H6:=λb o e=>h3 b o (ax e MF) (s5 b o e);have e6:H6 ah=some (.lst (Dy.map i!)):=h3 _ _ FP.symm e5;have SK:=k5.trans k6;refine⟨_,rfl,.inl ⟨rfl,_,l! e6⟩,_,rfl,ta,x,rfl,hx.mono SK,λka B3 H7 s7 ek C2=>?_⟩;have CN:B3.length=x.kids.length:=C2.length;have Wd:=cw x.kids;refine⟨ka,rfl,⟨_,n! ek⟩,fN (F:=RwAt rq K) (xs:=B3.map i!) (x.kids.map λu=>(u,r+1)) (λH1 H2 z p kt h=>h.mono kt) (by rw[WO,WO];omega) (by rw[WO];omega) (λi Hx sx hi=>⟨_,_,n! (sx _ _ ek),WR hi⟩) (λHx sx=>⟨_,n! (sx _ _ ek),WY _⟩) (λi Hx x Hy sx hi hy=>⟨hy.1,hy.2 _ (n! (sx _ _ ek))⟩) (λi y z Hx R W' hy BR sx hR=>?_) (λD H8 bs hD s8 eD C3=>?_)⟩
  .obtain⟨ua,rfl,DF⟩:=aR hy;obtain⟨u,hu,FO⟩:=C2.get DF;rw[W0,hu]at BR;cases BR;refine⟨_,rfl,_,rfl,_,_,rfl,rfl,lnE rfl,λp1 DB=>?_⟩;exact hR _ p1 (ae DB _) ⟨ua,ac,FO.mono (j! (sx.trans (ae DB _)))⟩
  have R8:Us.length=Dy.length:=W5 SJ;have Bi:(x.kids.map λu=>(u,r+1)).length=bs.length:=W5 C3;rw[WO]at Bi;have R9:=cw (Us.map (·.1));rw[WO]at R9;have MH:=s7.trans s8;have e8:=MH _ _ e6;refine⟨ah,D,_,_,rfl,rfl,e8,eD,ZV (bQ (by rw[WO,WO];omega)),?_⟩;have k9:KT H8 (upd H8 ah (.lst (Dy.map i!++bs.map i!))):=aK e8;have s9:k! H (upd H8 ah (.lst (Dy.map i!++bs.map i!))):=am (s6.trans MH) K0
  have Iy:(Us++x.kids.map λu=>(u,r+1)).map (·.1)=Us.map (·.1)++x.kids:=by
   rw[Xc,Y1];congr 1;exact List.map_id' _
  refine⟨aw ((Us++x.kids.map λu=>(u,r+1)).map (·.1)),?_,Dy++bs,Us++(x.kids.map λu=>(u,r+1)),k',c',_,_,rfl,s9,?_,?_,?_,?_,?_,PF,PH,?_,?_,?_,rfl⟩
  .rw[Iy,K1,bJ,bJ,aw,aw,x.size_eq];omega
  .rw[ac,Xc]
  .exact t! (y! (λ_ _ e=>e.mono ((SK.trans (j! MH)).trans k9)) SJ) (y! (λ_ _ e=>e.mono k9) C3)
  .rw[aj FP];exact MH _ _ h4
  .rw[Iy,mq,h1];split at hk <;> split <;> first|omega|contradiction
  .rw[Iy,lE,h2];split at hc <;> split <;> first|omega|contradiction
  .intro e he;rcases Xq.mp he with he|he
   .exact hle e (XH _ he)
   .obtain⟨u,hu,rfl⟩:=XD.mp he;have:=bX hu;dsimp only;omega
  .rcases Ml with h|⟨e,he,PJ⟩
   .exact .inl h
   .rcases Xq.mp he with he|he
    .exact .inr ⟨e,XH _ he,PJ⟩
    .rw[W7.mp he]at PJ;dsimp only at PJ;by_cases hz:x.kids=[]
     .rw[hz,aC]at J0;exact .inl (by omega)
     .obtain⟨u,hu,eu⟩:=xB hz;exact .inr ⟨(u,r+1),XC _ (XD.mpr ⟨u,hu,rfl⟩),by dsimp only;omega⟩
  .rw[Iy,bJ];omega
 .have hz:ps=[]:=by
   cases ps with
   |nil=>rfl
   |cons y ys=>simp at cc
  subst hz;have EA:As=[]:=X6.mp (W5 SH);subst EA;have AV:k+((kns []:Nat):Int)=(t.kn:Int):=hk;have AX:c+((cF []:Nat):Int)=(cnT t:Int):=hc;rw[kns]at AV;rw[cF]at AX
  have We:(t.tall:Int)<=20:=by
   rcases Ml with h|⟨e,he,_⟩
   .exact h
   .cases he
  have K2:decide (Small t)=true:=d! ⟨by omega,by omega,by omega⟩;rw[K2]at q;exact q H4 s4
inductive lD(K:WQ)(vs:List V)(H:Hp)(Q:VK)(_E:XK):Prop
 |mk {rq:Rep} (a:WS) (t:Th) (An:vs=[.ref a]) (Ao:AtK rq K H t a) (Au:t.size<=100000) (AD:Small t) (AR:∀H',k! H H'->Q (.ref a) H'):lD K vs H Q _E
def mL(K:WQ):Sp:=lD K
theorem oq:aO P w K mg base CX0 5 T.g_checked.f T.g_checked.d ["pattern"] (mL K):=by
 refine T.g_checked.F.okA uy λAi A outer s H vs Q E hr h=>?_;obtain⟨a,t,rfl,hA,hsz,K2,q⟩:=h
 refine⟨_,(ad (cB (t6 (bq (pcF T.g_is_small (sk T) hr (aa (pv 0) ab)) (λ_=>rfl))) (af oo) bN)
  (af (az (pv 0)))),?_⟩
 try dsimp only[AA,Ae]
 refine⟨_,rfl,a,t,rfl,hA,hsz,λH1 s1=>⟨_,rfl,?_⟩⟩;rw[d! K2];exact zS ⟨_,rfl,q H1 s1⟩
def CP(rq:Rep)(H:Hp)(c:Int×Int)(a:WS):Prop:=∃v,H a=some (.tup [v,.int c.2])/\StV rq H c.1 v
theorem CP.mono{rq:Rep}(k:KT H H'){c:Int×Int}(h:CP rq H c a):CP rq H' c a:=by
 obtain⟨v,h1,h2⟩:=h;exact⟨v,k _ _ h1,h2.mono k⟩
inductive iw(K:WQ)(vs:List V)(H:Hp)(Q:VK)(_E:XK):Prop
 |mk {rq:Rep} (a:WS) (t:Th) (An:vs=[.ref a]) (Ao:AtK rq K H t a) (Au:t.size<=100000) (AD:∀(r:WS)(as:List WS)(H':Hp),k! H H'->H r=none->H' r=some (.lst (as.map i!))->Xs (CP rq H') (dB t) as->Q (.ref r) H'):iw K vs H Q _E
def pW(K:WQ):Sp:=iw K
theorem jo:aO P w K mg base CX0 3 T.g_called_in.f T.g_called_in.d ["pattern"] (pW K):=by
 refine T.g_called_in.F.okA pY λAi A outer s H vs Q E hr h=>?_;obtain@⟨rq,a,t,rfl,hA,hsz,k⟩:=h;refine⟨_,(af (az (bW (N:=[WT "part"]) (js:=[none]) (g:=(aq 0)) (tt:=(λZ H Q=>(cO (iK K) [] E0 (aG (aX 0) cC)) Z H λx H1=>∃k,yL K x H1 k/\Q k H1)) (te:=(cO (fU K) [] E0 (aG (aX 0) cC))) rfl (bY rfl (by decide +kernel) (by decide +kernel) rfl rfl rfl) (cj (pcF T.g_walked (jS T) hr (aa (pv 0) ab))) (λ_ _ _ _ _ _=>(pgN 0 adh)) (aI rfl) (λ_ _ _ _ _ _=>fP (bq (pcF T.g_is_call (eM T) hr (aa (pv 0) ab)) (λ_=>rfl))) (λ_ _ _ _ _ _=>(pcF T.g_called_by (fK T) hr (aa (pv 0) ab)))))),?_⟩
 try dsimp only[AA,Ae]
 refine⟨_,rfl,a,t,rfl,hA,hsz,λr as H1 s1 nr er Bu=>⟨r,rfl,⟨_,l! er⟩,?_⟩⟩;have Bb:as.length=t.walk.length:=Bu.length;have AS:=L! t;intro D hD;refine⟨as.length,λj H2=>An3 (j<=as.length) (k! H1 H2) (Ex1 λ(bs:List WS)=>An2 (H2 D=some (.lst (bs.map i!))) (Xs (CP rq H2) ((t.walk.take j).filterMap pO) bs)),⟨Xi _,ae hD _,[],ac,.nil⟩,?_⟩;rintro j H2 ⟨hj,s2,bs,eD,Ar⟩;by_cases Cc:j=as.length
 .left;refine⟨⟨_,l! (s2 _ _ er),by rw[WO,Cc];exact WY _⟩,?_⟩;have Aa:t.walk.take j=t.walk:=by rw[Cc,Bb,YR]
  rw[Aa]at Ar;exact k D bs H2 (s1.trans s2) (s1.free hD) eD Ar
 .right;have Ay:j<as.length:=by omega
  refine⟨Ay,⟨_,.ref as[j],l! (s2 _ _ er),by rw[W0,WR Ay];rfl⟩,?_⟩;rintro y H3 ⟨rfl,hv⟩;have BE:=hv _ (l! (s2 _ _ er));obtain⟨ta,rfl,Bz⟩:=aR BE;obtain⟨u,Oo,e3⟩:=(Bu.mono (j! s2)).get Bz;have AU:t.walk.take (j+1)=t.walk.take j++[u]:=by rw[Yi,Oo];rfl
  have Bi:bs.length<=j:=by
   have g1:=W5 Ar;have g2:=List.length_filterMap_le pO (t.walk.take j);rw[XO]at g2;omega
  refine⟨_,rfl,ta,u,rfl,e3,_,rfl,?_⟩;cases u with
  | knot n ks =>
    refine zS ⟨Ay,s2,bs,eD,?_⟩;rw[AU,List.filterMap_append];show Xs (CP rq H3) ((t.walk.take j).filterMap pO++[]) bs;rw[XA];exact Ar
  | call sn kn =>
    refine wC ?_;refine⟨_,rfl,ta,sn,kn,rfl,e3,λca v A7 DD=>?_⟩;have s4:k! H3 (upd H3 ca (.tup [v,.int kn])):=ae DD _;have DE:=s4 _ _ eD;refine⟨_,DE,lbE (by omega),Ay,am (s2.trans s4) hD,bs++[ca],?_,?_⟩
    .rw[ac,Xc];rfl
    .have k5:KT (upd H3 ca (.tup [v,.int kn])) (upd (upd H3 ca (.tup [v,.int kn])) D (.lst (bs.map i!++[.ref ca]))):=aK DE;rw[AU,List.filterMap_append];refine t! (y! (λ_ _ e=>CP.mono ((j! s4).trans k5) e) Ar) (.cons ⟨v,k5 _ _ ac,A7.mono ((j! s4).trans k5)⟩ .nil)
def mH(x y k:Int):ay:=([Xn x,Xn y],Xn k)
theorem pB{t:Th}{s k:Int}(h:B! s k∈t.walk):(s,k)∈dB t:=List.mem_filterMap.mpr ⟨_,h,rfl⟩
theorem yO{t:Th}{c:Int×Int}(h:c∈dB t):c.1∈stT t:=XD.mpr ⟨c,h,rfl⟩
inductive jy(K:WQ)(vs:List V)(H:Hp)(Q:VK)(_E:XK):Prop
 |mk (a nd:WS) (t:Th) (g:Int->Int) (f':List (List Key×V)) (An:vs=[.ref a,.ref nd]) (Ao:AtK .p K H t a) (Au:t.size<=100000) (AD:H nd=some (.dT f')) (AR:(∀x y,enc x y∈stT t->0<=x->0<=y->y<1000->aQ f' [Xn x,Xn y]=some (.int (g (enc x y))))) (BX:∀(r:WS)(H':Hp),k! H H'->AtK .i K H' (ren g t) r->Q (.ref r) H'):jy K vs H Q _E
def sS(K:WQ):Sp:=jy K
theorem sJ:aO P w K mg base CX0 4 T.g_restated.f T.g_restated.d ["pattern","names"] (sS K):=by
 refine T.g_restated.F.okA eT λAi A outer s H vs Q E hr h=>?_;obtain⟨a,nd,t,g,f',rfl,hA,hsz,FQ,PK,k⟩:=h
 refine⟨_,(ad (au 2 eT.nd (nu (fl:=true)))
  (ad (bE Xz rfl (cj (pcF T.g_called_in (jo T) hr (aa (pv 0) ab))) (bj rfl (ak (pgN 3 eT.nd) (ak (pgN 4 eT.nd) aT))) (af (rK (fl:=true) (fM hr) (pv 2) (aD (aa (pv 3) (aa (pv 4) ab))) (aD (aa (cz (v:=.str (WT "?")) rfl T.c_CALL_SIGN.choose_spec ⟨_,rfl⟩) (aa (pZ (lA hr) (pv 1) (pv 3) (λ_ _=>rfl)) (aa (pv 4) ab)))) rfl)))
  (af (az (pcF T.g_filled (ij T) hr (aa (pv 0) (aa (pv 2) ab))))))),?_⟩
 try dsimp only[AA,Ae]
 intro td H1 Ht s1 e1;dsimp only[aq];refine⟨_,rfl,a,t,rfl,hA.mono (j! s1),hsz,λr as H2 s2 nr er Cz=>⟨r,rfl,⟨_,l! er⟩,?_⟩⟩;have Bx:(dB t).length=as.length:=W5 Cz
 have hcw:(dB t).length<=100000:=by
  have h1:=List.length_filterMap_le pO t.walk;have h2:=L! t;unfold dB;omega
 have PL:r≠td:=λz=>by
  obtain⟨_,_,_,φ,e,_⟩:=e1;rw[z,e]at nr;cases nr
 refine cD (K:=K) (a:=r) (xs:=as.map i!) (λi Z H3=>Ex3 λ(c3 c4:Option V)(tk:List (ay×V))=>An7 (Z=[some (.ref a),some (.ref nd),some (.ref td),c3,c4]) (k! H H3) (H3 r=some (.lst (as.map i!))) (Xs (CP .p H3) (dB t) as) (DM true P w H3 td tk) (tk.length<=i) (∀c∈(dB t).take i,∀x y,c.1=enc x y->0<=y->y<1000->∃v,aQ tk (mH x y c.2)=some (.ref v)/\AtK .i K H3 (.call (g c.1) c.2) v))
  ⟨none,none,[],rfl,s1.trans s2,er,Cz,e1.mono s2,WY _,λc hc=>by rw[List.take_zero]at hc;cases hc⟩ (λi Z H3 _⟨_,_,_,_,_,e,_,_,_,_⟩=>l! e) ?_ ?_
 .rintro i x Z H3 hx ⟨c3,c4,tk,rfl,s3,IK,Cp,PM,hlen,Aa⟩;refine hid λZZ kZ=>?_;obtain⟨ca,rfl,DD⟩:=aR hx;obtain⟨⟨sn,kn⟩,hc,sv,K3,A7⟩:=C! Cp DD;obtain⟨pa,x,y,rfl,BY,Fo,Gg,FR,E7⟩:=A7;refine kZ ?_;dsimp only at Fo K3;subst Fo;have Cr:i<100000:=by have:=(glE hc);omega
  have hgs:=PK x y (yO (WU hc)) Gg FR E7;refine⟨ca,_,rfl,n! K3,rfl,_,_,rfl,_,_,rfl,rfl,?_⟩;dsimp only[aq];have PN:=s3 _ _ FQ;refine⟨_,rfl,_,rfl,nd,.int (g (enc x y)),rfl,.inr ⟨f',[.inl x,.inl y],pa,.inl PN,rfl,BY,hgs.symm⟩,_,rfl,lnE rfl,λcv N3=>?_⟩;have s4:k! H3 (upd H3 cv (.tup [.str (WT "?"),.int (g (enc x y)),.int kn])):=ae N3 _;have e4:AtK .i K (upd H3 cv (.tup [.str (WT "?"),.int (g (enc x y)),.int kn])) (.call (g (enc x y)) kn) cv:=by rw[AtK];exact⟨_,.of ac,rfl⟩
  generalize(upd H3 cv (.tup [.str (WT "?"),.int (g (enc x y)),.int kn]))=H4 at s4 e4 |-;refine⟨_,rfl,_,rfl,_,rfl,lnE rfl,λkp CU=>?_⟩;have s5:k! H4 (upd H4 kp (.tup [.ref pa,.int kn])):=ae CU _;have e5:MKAt true (upd H4 kp (.tup [.ref pa,.int kn])) (mH x y kn) kp:=⟨pa,ac,s5 _ _ (s4 _ _ BY)⟩;generalize(upd H4 kp (.tup [.ref pa,.int kn]))=H5 at s5 e5 |-;have EZ:=s4.trans s5;have SM:=PM.mono EZ;refine⟨td,kp,_,tk,rfl,rfl,SM,e5,bQ (by omega),λH6 PQ Kd=>?_⟩
  have k6:KT H5 H6:=λb xs e=>PQ b _ (λz=>by
   obtain⟨_,_,_,φ,e',_⟩:=SM;rw[z,e']at e;cases e) e
  have MI:=(j! EZ).trans k6;refine⟨_,_,_,rfl,λb o e=>PQ b o (ax e Ht) ((s3.trans EZ) b o e),PQ _ _ PL (EZ _ _ IK),y! (λ_ _ e=>CP.mono MI e) Cp,Kd,?_,λc AX x' y' DZ FT FU=>?_⟩
  .have:=bt tk (mH x y kn) (.ref cv);omega
  .rw[fB];by_cases C6:mH x' y' c.2=mH x y kn
   .rw[b! C6];unfold mH at C6;injection C6 with h1 h2;injection h1 with h3 h4;injection h4 with h5 _;have e1:x'=x:=YV h3;have e2:y'=y:=YV h5;have e3:c.2=kn:=YV h2;exact⟨cv,rfl,by rw[DZ,e1,e2,e3];exact(e4.mono (j! s5)).mono k6⟩
   .rw[a! C6];rw[take_snoc hc]at AX;rcases Xq.mp AX with h|h
    .obtain⟨v,h1,h2⟩:=Aa c h x' y' DZ FT FU;exact⟨v,h1,h2.mono MI⟩
    .refine g! ?_ C6;rw[W7.mp h]at DZ |-;obtain⟨h1,h2⟩:=vh DZ FR E7 FT FU;rw[h1,h2]
 .rintro Z H3 ⟨c3,c4,tk,rfl,s3,IK,Cp,PM,hlen,Aa⟩;rw[YI (by rw[WO];omega)]at Aa;refine⟨_,rfl,_,rfl,.i,a,td,t,λs k=>.call (g s) k,rfl,hA.mono (j! s3),hsz,λs' k' AV=>?_,λr' H4 s4 h4=>k r' H4 (s3.trans s4) h4⟩;refine hid λZZ kZ=>?_;obtain⟨i',Be⟩:=Xp.mp (pB AV);obtain⟨_,_,_,_,_,x,y,_,_,Fo,_,FR,E7⟩:=H! Cp Be;refine kZ ?_;dsimp only at Fo;subst Fo;obtain⟨v,h1,h2⟩:=Aa (enc x y,k') (pB AV) x y rfl FR E7;refine⟨v,h2,by rw[p!];decide,λH2 ca sv s2 Ou DD=>?_⟩;refine hid λZZ kZ=>?_;obtain⟨pb,x',y',rfl,OI,DZ,_,FT,FU⟩:=Ou;obtain⟨rfl,rfl⟩:=vh DZ FR E7 FT FU;refine kZ ?_;exact .inr ⟨true,ca,mH x y k',tk,rfl,PM.mono s2,⟨pb,DD,OI⟩,h1⟩
def kP(s:Int):List Key:=[Xn (s / 1000),Xn (s%1000)]
theorem yg{x y:Int}(h0:0<=y)(h1:y<1000):kP (enc x y)=[Xn x,Xn y]:=by
 unfold kP enc;rw[show(1000 * x+y) / 1000=x by omega,show(1000 * x+y)%1000=y by omega]
theorem abr{a b:Int}(h:kP a=kP b):a=b:=by
 unfold kP at h;injection h with h1 h2;injection h2 with h2 _;have e1:=YV h1;have e2:=YV h2;omega
def dI(m:List Int):List (List Key×V):=m.zipIdx.map λp=>(kP p.1,q! (p.2:Nat))
theorem nw(m:List Int):(dI m).length=m.length:=by unfold dI;rw[WO,List.length_zipIdx]
theorem wU(m:List Int)(s:Int):dI (m++[s])=dI m++[(kP s,q! (m.length:Nat))]:=by
 unfold dI;rw[List.zipIdx_append,Xc];simp
theorem nA:∀(m:List Int)(s:Int)(n:Nat),aQ ((m.zipIdx n).map λp=>(kP p.1,q! (p.2:Nat))) (kP s)=if s∈m then some (.int ((n+m.idxOf s:Nat):Int))else none
 | [],s,n=>rfl
 | x::m,s,n=>by
   rw[List.zipIdx_cons,XB];by_cases h:x=s
   .subst h;rw[bD rfl,b! (Xh ..),List.idxOf_cons_self];rfl
   .rw[bC (λz=>h (abr z)),nA m s (n+1)];by_cases hm:s∈m
    .rw[b! hm,b! (Xf _ hm),List.idxOf_cons,(beq_eq_false_iff_ne.mpr h:(x == s)=false)];simp only[cond_false];have:n+1+m.idxOf s=n+(m.idxOf s+1):=by omega
     rw[this]
    .rw[a! hm,a! (λz=>(W9.mp z).elim (λy=>h y.symm) hm)]
theorem v7{m:List Int}{s:Int}(h:s∈m):aQ (dI m) (kP s)=some (.int (idx m s)):=by
 unfold dI;rw[nA,b! h,Nat.zero_add];rfl
theorem yh{m:List Int}{s:Int}(h:s∉m):aQ (dI m) (kP s)=none:=by
 unfold dI;rw[nA,a! h]
inductive lG(K:WQ)(vs:List V)(H:Hp)(Q:VK)(_E:XK):Prop
 |mk (a nd:WS) (t:Th) (m:List Int) (An:vs=[.ref a,.ref nd]) (Ao:AtK .p K H t a) (Au:t.size<=100000) (AD:H nd=some (.dT (dI m))) (AR:(bG m (stT t)).length<=20) (BX:∀(r:WS)(H':Hp),SameB nd H H'->H' nd=some (.dT (dI (bG m (stT t))))->AtK .i K H' (ren (idx (bG m (stT t))) t) r->Q (.ref r) H'):lG K vs H Q _E
def n5(K:WQ):Sp:=lG K
theorem nz:aO P w K mg base CX0 5 T.g_renamed.f T.g_renamed.d ["pattern","numbers"] (n5 K):=by
 refine T.g_renamed.F.okA i5 λAi A outer s H vs Q E hr h=>?_;obtain⟨a,nd,t,m,rfl,hA,hsz,FQ,h20,k⟩:=h
 refine⟨_,(ad (bE Xz rfl (cj (pcF T.g_called_in (jo T) hr (aa (pv 0) ab))) (bj rfl (ak (pgN 2 i5.nd) (ak (pgN 3 i5.nd) aT))) (af (aU (bS PySem.F.plainAttrs_dict Zo PySem.F.type_dict_setdefault (oA (lA hr)) (pv 1) (aa (pv 2) (aa (aH kR rfl T.n_len XT (aa (pv 1) ab)) ab))))))
  (ad (cB (bn pc (aH kR rfl T.n_len XT (aa (pv 1) ab)) (cz (v:=.int (20)) rfl T.c_MOST_STATES.choose_spec ⟨_,rfl⟩) (bc _)) (af oo) bN)
  (af (az (pcF T.g_restated (sJ T) hr (aa (pv 0) (aa (pv 1) ab))))))),?_⟩
 try dsimp only[AA,Ae]
 refine⟨_,rfl,a,t,rfl,hA,hsz,λr as H1 s1 nr er Cz=>⟨r,rfl,⟨_,l! er⟩,?_⟩⟩;have Bx:(dB t).length=as.length:=W5 Cz;have Wf:r≠nd:=λz=>by rw[z,FQ]at nr;cases nr
 refine cD (K:=K) (a:=r) (xs:=as.map i!) (λi Z H3=>Ex2 λc2 c3=>An6 (Z=[some (.ref a),some (.ref nd),c2,c3]) (SameB nd H H3) (KT H H3) (H3 r=some (.lst (as.map i!))) (Xs (CP .p H3) (dB t) as) (H3 nd=some (.dT (dI (bG m ((stT t).take i))))))
  ⟨none,none,rfl,SameB.of s1,j! s1,er,Cz,by rw[List.take_zero];exact s1 _ _ FQ⟩ (λi Z H3 _⟨_,_,_,_,_,e,_,_⟩=>l! e) ?_ ?_
 .rintro i x Z H3 hx ⟨c2,c3,rfl,s3,k3,IK,Cp,EK⟩;refine hid λZZ kZ=>?_;obtain⟨ca,rfl,DD⟩:=aR hx;obtain⟨⟨sn,kn⟩,hc,sv,K3,PR⟩:=C! Cp DD;obtain⟨pa,x,y,rfl,BY,Fo,Gg,FR,E7⟩:=PR;refine kZ ?_;dsimp only at Fo K3;have CU:[Xn x,Xn y]=kP sn:=by rw[Fo,yg FR E7]
  have A7:(stT t)[i]?=some sn:=by unfold stT;rw[W0,hc];rfl
  have AU:bG m ((stT t).take (i+1))=jO (bG m ((stT t).take i)) sn:=by
   rw[take_snoc A7,eX];rfl
  have CJ:(jO (bG m ((stT t).take i)) sn).length<=20:=by
   have h1:bG m (stT t)=bG (bG m ((stT t).take (i+1))) ((stT t).drop (i+1)):=by rw[<-eX,List.take_append_drop]
   have h2:=(gQ ((stT t).drop (i+1)) (bG m ((stT t).take (i+1)))).length_le;rw[<-h1,AU]at h2;omega
  generalize bG m ((stT t).take i)=mi at EK AU CJ |-;have hmi:=(sO mi sn).length_le;refine⟨ca,_,rfl,n! K3,rfl,_,_,rfl,_,_,rfl,rfl,?_⟩;dsimp only[aq];have hl:=nw mi;refine⟨_,rfl,.inr (.inr (.inl ⟨rfl,.inr ⟨_,EK⟩⟩)),_,rfl,_,rfl,nd,_,rfl,EK,nd,pa,.int ((dI mi).length:Nat),kP sn,dI mi,rfl,rfl,EK,by rw[<-CU];exact BY,bQ (by omega),λu hu=>?_,λhu=>?_⟩
  .have CF:sn∈mi:=by
    by_cases h:sn∈mi
    .exact h
    .rw[yh h]at hu;cases hu
   refine⟨_,_,rfl,s3,k3,IK,Cp,?_⟩;rw[AU];unfold jO;rw[b! CF];exact EK
  .have CF:sn∉mi:=λh=>by rw[v7 h]at hu;cases hu
   have PU:putK (dI mi) (kP sn) (.int ((dI mi).length:Nat))=dI (jO mi sn):=by
    rw[jC _ hu];unfold jO;rw[a! CF,wU,hl]
   rw[PU];have k4:KT H3 (upd H3 nd (.dT (dI (jO mi sn)))):=λb xs e=>by rw[aj (ej e EK (λz=>nomatch z))];exact e
   refine⟨_,_,rfl,λb o hb e=>by rw[aj hb];exact s3 b o hb e,k3.trans k4,by rw[aj Wf];exact IK,y! (λ_ _ e=>CP.mono k4 e) Cp,by rw[ac,AU]⟩
 .rintro Z H3 ⟨c2,c3,rfl,s3,k3,IK,Cp,EK⟩;have Ow:(stT t).length=as.length:=by unfold stT;rw[WO];omega
  rw[YI (by rw[WO];omega)]at EK;have hl:=nw (bG m (stT t));dsimp only[aaP];refine ci (λAb H'=>An2 (H3=H') (Ab=[some (.ref a),some (.ref nd),c2,c3])) (λkk hk=>?_) ?_
  .refine⟨_,rfl,nd,_,rfl,EK,_,_,rfl,rfl,_,rfl,?_⟩;refine cT (λc=>?_) (λc=>hk _ _ ⟨rfl,rfl⟩);have:=e! c;omega
  rintro Ab H' ⟨rfl,rfl⟩;exact⟨_,rfl,_,rfl,a,nd,t,idx (bG m (stT t)),_,rfl,hA.mono k3,hsz,EK,λx y hs _ FR E7=>by rw[<-yg FR E7];exact v7 (eE.mpr (.inr hs)),λr' H4 s4 h4=>k r' H4 (λb o hb e=>s4 _ _ (s3 b o hb e)) (s4 _ _ EK) h4⟩
def RowK(K:WQ)(H:Hp)(ts:List Th)(a:WS):Prop:=∃as:List WS,H a=some (.tup (as.map i!))/\AtsK .i K H ts as
theorem RowK.mono(k:KT H H')(h:RowK K H ts a):RowK K H' ts a:=by
 obtain⟨as,h1,h2⟩:=h;exact⟨as,k _ _ h1,h2.mono k⟩
inductive jq(P:W6)(w:Xj)(K:WQ)(mg:Xk->Option WV)(base:X7)(vs:List V)(H:Hp)(Q:VK)(_E:XK):Prop
 |mk (ia oa ha f:WS) (head:Th) (R:Int->List Th) (MJ:Sp) (An:vs=[.ref ia,.ref oa,.ref ha,.ref f]) (Ao:AtK .p K H head ha) (Au:head.size<=1000) (AD:(cu R head).length<=20) (AR:(∀s∈cu R head,(R s).length<=8/\∀t∈R s,t.size<=1000)) (BX:aap P w K mg base CX0 8 f MJ) (D5:(∀(H1:Hp)(s:Int)(pa:WS)(Z:VK),k! H H1->s∈cu R head->H1 pa=some (.tup [.int (s / 1000),.int (s%1000)])->(∀(r:WS)(as:List WS)(H2:Hp),k! H1 H2->H2 r=some (.lst (as.map i!))->AtsK .p K H2 (R s) as->Z (.ref r) H2)->MJ [.ref pa] H1 Z E0)) (Eh:∀(r fh rl:WS)(FV:List WS)(H':Hp),k! H H'->H' r=some (.tup [.ref ia,.ref oa,.ref fh,.ref rl])->AtK .i K H' (ren (idx (cu R head)) head) fh->H' rl=some (.tup (FV.map i!))->Xs (RowK K H') ((cu R head).map λs=>(R s).map (ren (idx (cu R head)))) FV->Q (.ref r) H'):jq P w K mg base vs H Q _E
def qV(P:W6)(w:Xj)(K:WQ)(mg:Xk->Option WV)(base:X7):Sp:=jq P w K mg base
theorem lq(a b:List Th):ck (a++b)=ck a++ck b:=List.flatMap_append
theorem xY{m:List Int}{s:Int}(h:m[i]?=some s):(dI m)[i]?=some (kP s,q! (i:Nat)):=by
 unfold dI;rw[W0,List.getElem?_zipIdx,h];simp
theorem tu:aO P w K mg base CX0 9 T.g_numbered.f T.g_numbered.d ["ins","outs","head","patterns_of"] (qV P w K mg base):=by
 refine T.g_numbered.F.okA dA λAi A outer s H vs Q E hr h=>?_;obtain⟨ia,oa,ha,f,head,R,MJ,rfl,hA,hsz,K4,Wg,Wh,PV,k⟩:=h
 refine⟨_,(ad (au 4 dA.nd nB)
  (ad (au 5 dA.nd (pcF T.g_renamed (nz T) hr (aa (pv 2) (aa (pv 4) ab))))
  (ad (au 6 dA.nd (bx ab))
  (ad (eF Xz (bn mI (aH aA rfl T.n_len XT (aa (pv 6) ab)) (aH kR rfl T.n_len XT (aa (pv 4) ab)) (bc _)) (ad (au 7 dA.nd (aF bu (bh (mE rfl) rfl T.n_list PyProof.Rows.boot_list (aa (pv 4) ab)) (aH aA rfl T.n_len XT (aa (pv 6) ab)) (λ_ _=>rfl)))
  (af (aU (bS Xd Xx Xw aS (pv 6) (aa (bh ba rfl T.n_tuple Yg (aa (bW (N:=[WT "pattern",WT "numbers"]) (js:=[none,some 4]) (g:=(aq 0)) (tt:=bw) (te:=(cO (n5 K) [] E0 (aG (aX 0) (aG (aX 1) cC)))) rfl (bY rfl (by decide +kernel) (by decide +kernel) rfl rfl rfl) (abv (xH (k:=8) (i:=3) rfl (Or.inl rfl) (hr.mono (by first|decide|omega)) gx (aa (pv 7) ab))) (λ_ _ _ _ _ _=>(pgN 0 ab1)) (aI rfl) (λ_ _ _ _ _ _=>bF) (λ_ _ _ _ _ _=>(pcF T.g_renamed (nz T) hr (aa (pv 0) (aa (pv 1) ab))))) ab)) ab))))))
  (af (az (aD (aa (pv 0) (aa (pv 1) (aa (pv 5) (aa (bh ba rfl T.n_tuple Yg (aa (pv 6) ab)) ab))))))))))),?_⟩
 try dsimp only[AA,Ae]
 have EL:bG [] (stT head) <+: cu R head:=jM _ _ _ _;intro nd PX;dsimp only[aq];refine gU PX λH1 s1 e1=>?_;have e1:H1 nd=some (.dT (dI [])):=e1;refine⟨_,rfl,_,rfl,ha,nd,head,[],rfl,hA.mono (j! s1),by omega,e1,Xv EL.length_le K4,λfh H2 DQ SN h2=>?_⟩;dsimp only[aq];have PY:ren (idx (bG [] (stT head))) head=ren (idx (cu R head)) head:=uI head λx hx=>(vd EL (eE.mpr (.inr hx))).symm;rw[PY]at h2;have s2:k! H H2:=λb o e=>DQ b o (ax e PX) (s1 b o e);refine⟨lnE rfl,λrl D8=>?_⟩;have s3:k! H2 (upd H2 rl (.lst [])):=ae D8 _;have e3:(upd H2 rl (.lst [])) rl=some (.lst []):=ac;have PZ:H rl=none:=s2.free D8;have GA:nd≠rl:=λz=>by rw[<-z,SN]at D8;cases D8
 generalize(upd H2 rl (.lst []))=H3 at s3 e3 |-
 refine⟨λmz Z H4=>Ex4 λ(i:Nat)(mm:List Int)(bs:List WS)(tv:Option V)=>xm (Z=[some (.ref ia),some (.ref oa),some (.ref ha),some (.ref f),some (.ref nd),some (.ref fh),some (.ref rl),tv]) (k! H H4) (H4 nd=some (.dT (dI mm))) (H4 rl=some (.lst (bs.map i!))) (Xs (RowK K H4) (((cu R head).take i).map λs=>(R s).map (ren (idx (cu R head)))) bs) (AtK .i K H4 (ren (idx (cu R head)) head) fh) (mm <+: cu R head) (bfs R (21 - i) mm i=cu R head) (i<=mm.length) (mz=21 - i),
  ⟨_,0,bG [] (stT head),[],none,rfl,s2.trans s3,s3 _ _ SN,e3,.nil,h2.mono (j! s3),EL,rfl,Xi _,rfl⟩,?_⟩
 rintro mz Z H4 ⟨i,mm,bs,tv,rfl,s4,P0,P1,Ar,MK,Dd,FW,hi,rfl⟩;have Mv:=Dd.length_le
 have Bi:bs.length=i:=by
  have:=W5 Ar;rw[WO,XO]at this;omega
 have O1:=nw mm;refine⟨_,rfl,rl,_,rfl,.inl (l! P1),_,rfl,nd,_,rfl,P0,_,_,rfl,rfl,_,rfl,?_⟩;refine cT (λcc=>?_) (λcc=>?_)
 .have Am:i<mm.length:=by
   have:=e! cc;rw[WO]at this;omega
  refine⟨λAb H'=>∃m',m'<21 - i/\Ex4 λ(i:Nat)(mm:List Int)(bs:List WS)(tv:Option V)=>xm (Ab=[some (.ref ia),some (.ref oa),some (.ref ha),some (.ref f),some (.ref nd),some (.ref fh),some (.ref rl),tv]) (k! H H') (H' nd=some (.dT (dI mm))) (H' rl=some (.lst (bs.map i!))) (Xs (RowK K H') (((cu R head).take i).map λs=>(R s).map (ren (idx (cu R head)))) bs) (AtK .i K H' (ren (idx (cu R head)) head) fh) (mm <+: cu R head) (bfs R (21 - i) mm i=cu R head) (i<=mm.length) (m'=21 - i),λAb H' h=>h,?_⟩;obtain⟨sn,Hk⟩:∃sn,mm[i]?=some sn:=⟨_,WR Am⟩
  have GB:(cu R head)[i]?=some sn:=by
   obtain⟨rr,Wi⟩:=Dd;rw[<-Wi,Yw Am];exact Hk
  have SO:sn∈cu R head:=WU GB;refine⟨_,rfl,nd,_,rfl,P0,λl Fx hl P4=>?_⟩;obtain⟨pa,D7,P5⟩:=H! P4 (xY Hk);refine gU hl λH5 s5 e5=>?_;have P6:=s5 _ _ P1;have Wj:=s5 _ _ P0;have Wk:(bs.map i!).length=i:=by rw[WO];exact Bi
  refine⟨_,rfl,rl,_,rfl,.inl (l! P6),l,_,_,.ref pa,rfl,rfl,l! e5,at_nonneg (by omega) (by rw[Wk,XM,W0,D7];rfl),?_⟩;dsimp only[aq];refine⟨_,rfl,.inl ⟨rfl,_,l! P6⟩,f,MJ,rfl,Wh,_,rfl,PV H5 sn pa _ (s4.trans s5) SO (s5 _ _ P5) λr as H6 s6 ML EC=>⟨r,rfl,.inl ⟨⟨_,l! ML⟩,?_⟩⟩⟩;obtain⟨K5,GC⟩:=Wg sn SO;generalize Aj:R sn=row at EC K5 GC;have Bb:=EC.length
  have K6:bfs R (21 - i) mm i=bfs R (21 - (i+1)) (bG mm (ck row)) (i+1):=by
   rw[show 21 - i=(21 - (i+1))+1 by omega,bfs,Hk];show bfs R (21 - (i+1)) (bG mm (ck (R sn))) (i+1)=_;rw[Aj]
  rw[K6]at FW;have GD:bG mm (ck row) <+: cu R head:=by rw[<-FW];exact jM _ _ _ _
  have MM:=s6 _ _ Wj;have K7:=s6 _ _ P6;have MN:=s4.trans (s5.trans s6);have P7:r≠nd:=λz=>by rw[z,MM]at ML;cases ML
  intro D hD;have HS:D≠nd:=λz=>by rw[z,MM]at hD;cases hD
  have Wl:D≠rl:=λz=>by rw[z,K7]at hD;cases hD
  have E4:∀(H7:Hp),SameB nd H6 H7->KT H6 H7:=λH7 sb b xs e=>sb b _ (ej e MM (λz=>nomatch z)) e
  refine⟨as.length,λj H7=>An4 (j<=as.length) (SameB nd H6 H7) (H7 nd=some (.dT (dI (bG mm (ck (row.take j)))))) (Ex1 λ(ds:List WS)=>An2 (H7 D=some (.lst (ds.map i!))) (AtsK .i K H7 ((row.take j).map (ren (idx (cu R head)))) ds)),
   ⟨Xi _,SameB.of (ae hD _),by rw[aj HS.symm];exact MM,[],ac,.nil⟩,?_⟩
  rintro j H7 ⟨hj,IL,MO,ds,eD,Bq⟩;have P8:H7 r=some (.lst (as.map i!)):=IL _ _ P7 ML
  have Fl:ds.length=j:=by
   have:=Bq.length;rw[WO,XO]at this;omega
  by_cases Cc:j=as.length
  .left;refine⟨⟨_,l! P8,by rw[WO,Cc];exact WY _⟩,?_⟩;have Aa:row.take j=row:=by rw[Cc,Bb,YR]
   rw[Aa]at Bq MO;have Wm:k! H H7:=λb o e=>IL b o (ax e PX) (MN b o e);have P9:H7 rl=some (.lst (bs.map i!)):=IL _ _ GA.symm K7;refine⟨D,_,rfl,.inl ⟨l! eD,λtp B4=>?_⟩⟩;refine gU B4 λH8 s8 e8=>?_;have SQ:=s8 _ _ P9;refine⟨rl,_,_,rfl,rfl,SQ,lbE (by omega),?_⟩;have k9:KT H8 (upd H8 rl (.lst (bs.map i!++[.ref tp]))):=aK SQ;have SR:KT H4 (upd H8 rl (.lst (bs.map i!++[.ref tp]))):=((j! (s5.trans s6)).trans (E4 H7 IL)).trans ((j! s8).trans k9);refine⟨21 - (i+1),by omega,i+1,bG mm (ck row),bs++[tp],_,rfl,am (Wm.trans s8) PZ,by rw[aj GA];exact s8 _ _ MO,uAE,?_,MK.mono SR,GD,FW,Xv Am (gQ _ _).length_le,rfl⟩;rw[take_snoc GB,Xc];refine t! (y! (λ_ _ e=>RowK.mono SR e) Ar) (.cons ⟨ds,k9 _ _ e8,?_⟩ .nil);dsimp only;rw[Aj];exact Bq.mono ((j! s8).trans k9)
  .right;have Ay:j<as.length:=by omega
   refine⟨Ay,⟨_,.ref as[j],l! P8,by rw[W0,WR Ay];rfl⟩,?_⟩;rintro y H8 ⟨rfl,hv⟩;have BE:=hv _ (l! P8);obtain⟨ta,rfl,CS⟩:=aR BE;obtain⟨t,ht,Cd⟩:=(EC.mono (E4 _ IL)).get CS;have AU:row.take (j+1)=row.take j++[t]:=by rw[Yi,ht];rfl
   have K8:bG mm (ck (row.take (j+1)))=bG (bG mm (ck (row.take j))) (stT t):=by
    rw[AU,lq,eX];show bG _ (stT t++[])=_;rw[XA]
   have P':bG mm (ck (row.take (j+1))) <+: cu R head:=by
    refine List.IsPrefix.trans ?_ GD;have:bG mm (ck row)=bG (bG mm (ck (row.take (j+1)))) (ck (row.drop (j+1))):=by rw[<-eX,<-lq,List.take_append_drop]
    rw[this];exact gQ _ _
   rw[K8]at P';have hzt:=GC t (WU ht);refine⟨_,rfl,_,rfl,ta,nd,t,_,rfl,Cd,by omega,MO,Xv P'.length_le K4,λr' H9 Qa Wn h9=>?_⟩;have Wo:ren (idx (bG (bG mm (ck (row.take j))) (stT t))) t=ren (idx (cu R head)) t:=uI t λx hx=>(vd P' (eE.mpr (.inr hx))).symm;rw[Wo]at h9;have SS:=Qa _ _ HS eD;have Wq:KT H8 H9:=λb xs e=>Qa b _ (ej e MO (λz=>nomatch z)) e;have kA:KT H9 (upd H9 D (.lst (ds.map i!++[.ref r']))):=aK SS;refine⟨_,SS,lbE (by omega),Ay,λb o hb e=>?_,?_,ds++[r'],?_,?_⟩
   .rw[aj (ax e hD)];exact Qa b o hb (IL b o hb e)
   .rw[aj HS.symm,K8];exact Wn
   .rw[ac,Xc];rfl
   .rw[AU,Xc];exact(Bq.mono (Wq.trans kA)).append (.cons (h9.mono kA) .nil)
 .have Hi:i=mm.length:=by
   by_cases h:i<mm.length
   .exact g! (d! (by rw[WO];omega)) cc
   .omega
  have Wr:cu R head=mm:=by rw[<-FW,aau _ _ _ _ (by omega)]
  have AU:(cu R head).take i=cu R head:=by rw[YI (by rw[Wr];omega)]
  rw[AU]at Ar;refine⟨_,rfl,_,rfl,_,rfl,_,rfl,rl,_,rfl,.inl ⟨l! P1,λrt PL=>⟨lnE rfl,λr BN=>?_⟩⟩⟩;have t1:=ae PL (.tup (bs.map i!));have t2:=ae BN (.tup [.ref ia,.ref oa,.ref fh,.ref rt]);have Qb:=t1.trans t2;exact k r fh rt bs _ (s4.trans Qb) ac (MK.mono (j! Qb)) (t2 _ _ ac) (y! (λ_ _ e=>RowK.mono (j! Qb) e) Ar)
theorem vH{f:Th}(h:f.noCall):f.nh<=f.size:=by
 have h1:=gd (λ_=>hole) f 0 h;rw[<-mM [] f _ h1];exact abJ [] h1
inductive gg(K:WQ)(vs:List V)(H:Hp)(Q:VK)(_E:XK):Prop
 |mk (fl:WS) (fs:List WS) (fr:Nat->Th) (N:Nat) (An:vs=[.ref fl]) (Ao:H fl=some (.lst (fs.map i!))) (Au:Xs (λs a=>AtK .i K H (fr s) a) (XG N) fs) (AD:N<=20) (AR:(∀s,s<N->(fr s).noCall/\(fr s).size<=200/\(fr s).tall<=100)) (BX:∀(r:WS)(f':List (List Key×V))(H':Hp),k! H H'->H' r=some (.dT f')->(∀(s k:Nat),s<N->k<3->∃a,aQ f' [Xn (s:Int),Xn (k:Int)]=some (.ref a)/\AtK .p K H' (hgF fr (s:Nat) (k:Nat)) a)->Q (.ref r) H'):gg K vs H Q _E
def nU(K:WQ):Sp:=gg K
theorem nD:aO P w K mg base CX0 8 T.g_early_table.f T.g_early_table.d ["fronts"] (nU K):=by
 refine T.g_early_table.F.okA bR λAi A outer s H vs Q E hr h=>?_;obtain⟨fl,fs,fr,N,rfl,FN,Gz,hN,Ma,q⟩:=h
 refine⟨_,(ad (au 1 bR.nd nB)
  (ad (bE Xz rfl (mS rfl T.n_enumerate (pv 0)) (bj rfl (ak (pgN 2 bR.nd) (ak (pgN 3 bR.nd) aT))) (af (bE Xz rfl (bA rfl T.n_range (aa (cz (v:=.int (3)) rfl T.c_MOST_KIDS.choose_spec ⟨_,rfl⟩) ab)) (pgN 4 bR.nd) (ad (dq (i:=5) (N:=[WT "hole",WT "kid",WT "state"]) (js:=[none,some 4,some 2]) (g:=(aq 0)) (tt:=bw) (te:=(lM (aG (tC (.str (WT "?"))) (aG (lM (aG (aX 2) (aG (aX 0) cC))) (aG (aX 1) cC))))) bR.nd rfl (Or.inl rfl) rfl (bY rfl (by decide +kernel) (by decide +kernel) rfl rfl rfl) (bA rfl T.n_range (aa (aH aA rfl T.n_len XT (aa (pcF T.g_holes_in (gO T) hr (aa (pv 3) ab)) ab)) ab)) (λ_ _ _ _ _ _=>(pgN 0 acE)) (aI rfl) (λ_ _ _ _ _ _=>bF) (λ_ _ _ _ _ _=>(aD (aa (cz (v:=.str (WT "?")) rfl T.c_CALL_SIGN.choose_spec ⟨_,rfl⟩) (aa (aD (aa (pv 2) (aa (pv 0) ab))) (aa (pv 1) ab))))))
  (af (vc (lA hr) (pv 1) (aD (aa (pv 2) (aa (pv 4) ab))) (pcF T.g_hung (aal T) hr (aa (pv 3) (aa (pv 5) ab))) rfl))))))
  (af (az (pv 1))))),?_⟩
 try dsimp only[AA,Ae]
 have Mn:(XG N).length=fs.length:=W5 Gz;rw[Xo]at Mn;intro td Ht;dsimp only[aq];refine gU Ht λH1 s1 e1=>?_;refine⟨_,rfl,fl,rfl,⟨_,l! (s1 _ _ FN)⟩,?_⟩
 refine pR (K:=K) (a:=fl) (xs:=fs.map i!) (λi Z H2=>Ex5 λ(c2 c3 c4 c5:Option V)(tk:List (List Key×V))=>An5 (Z=[some (.ref fl),some (.ref td),c2,c3,c4,c5]) (k! H H2) (H2 td=some (.dT tk)) (tk.length<=3 * i) (∀(s k:Nat),s<i->k<3->∃a,aQ tk [Xn (s:Int),Xn (k:Int)]=some (.ref a)/\AtK .p K H2 (hgF fr (s:Nat) (k:Nat)) a))
  ⟨none,none,none,none,[],rfl,s1,e1,Xi _,λs k h=>g! h (ZN _)⟩ (λi Z H2 _⟨_,_,_,_,_,_,s2,_,_,_⟩=>l! (s2 _ _ FN)) ?_ ?_
 .rintro i x pr Z H2 hx Bz ⟨c2,c3,c4,c5,tk,rfl,s2,et,hlen,Aa⟩;obtain⟨fa,rfl,B5⟩:=aR hx;have Cr:=(glE B5);have SU:i<N:=by omega
  obtain⟨s',Dz,Cd⟩:=C! Gz B5;rw[X4 SU]at Dz;cases Dz;obtain⟨z1,z2,z3⟩:=Ma i SU;have Ws:=vH z1;refine gU Bz λH3 s3 e3=>?_;refine⟨pr,_,rfl,n! e3,rfl,_,_,rfl,_,_,rfl,rfl,?_⟩;dsimp only[aq];refine⟨3,rfl,by decide,by decide,?_⟩
  refine dP (n:=3) (λj Z H4=>Ex3 λ(c4 c5:Option V)(tk:List (List Key×V))=>An5 (Z=[some (.ref fl),some (.ref td),some (.int ((i:Nat):Int)),some (.ref fa),c4,c5]) (k! H H4) (H4 td=some (.dT tk)) (tk.length<=3 * i+j) (∀(s k:Nat),(s<i/\k<3\/s=i/\k<j)->∃a,aQ tk [Xn (s:Int),Xn (k:Int)]=some (.ref a)/\AtK .p K H4 (hgF fr (s:Nat) (k:Nat)) a))
   ⟨_,_,tk,rfl,s2.trans s3,s3 _ _ et,hlen,λs k h=>by
    rcases h with h|h
    .obtain⟨a,a1,a2⟩:=Aa s k h.1 h.2;exact⟨a,a1,a2.mono (j! s3)⟩
    .omega⟩ ?_ ?_
  .rintro j Z H4 hj ⟨c4,c5,tk,rfl,s4,Hu,K9,EM⟩;have hj3:j<3:=hj;have K':=Cd.mono (j! s4);refine⟨_,rfl,fa,_,rfl,K',by omega,by omega,λhl bs H5 s5 Gs Ar=>?_⟩
   have Bi:bs.length=(fr i).nh:=by
    have h1:=W5 Ar;have h2:=h! ZX (j6 [] (fr i) _ (gd (λ_=>hole) (fr i) 0 z1));rw[WO,WO,mM [] _ _ (gd (λ_=>hole) (fr i) 0 z1)]at h2;rw[<-h1,WO];exact h2
   refine⟨hl,_,rfl,.inl (l! Gs),_,rfl,by omega,by rw[WO];omega,fN (F:=AtK .p K) (xs:=(XG bs.length).map λ(m:Nat)=>q! (m:Nat)) ((XG bs.length).map λ(m:Nat)=>B! (enc (i:Nat) (m:Nat)) (j:Nat)) (λH1 H2 z p kt h=>h.mono kt) (by rw[WO,WO]) (by rw[WO,Xo];omega) (λm Hx sx hi=>by rw[WO,Xo]at hi;show m<(((bs.map i!).length:Nat):Int).toNat;rw[WO];omega) (λHx sx=>by show(((bs.map i!).length:Nat):Int).toNat<=((XG bs.length).map λ(m:Nat)=>q! (m:Nat)).length;rw[WO,WO,Xo];omega) (λm Hx x Hy sx hi hy=>⟨hy.1,?_⟩) (λm y z Hx R W' hy BR sx hR=>?_) (λD H6 cs hD s6 e6 C3=>?_)⟩
   .rw[WO,Xo]at hi;rw[W0,X4 hi,hy.2];show some (q! ((m:Nat):Int))=some (q! (0+((m:Nat):Int)));rw[YA]
   .have hi:m<bs.length:=by
     have:=(glE BR);rw[WO,Xo]at this;exact this
    rw[W0,X4 hi]at hy BR;cases hy;cases BR;refine⟨_,rfl,_,rfl,lnE rfl,λpp J'=>?_⟩;refine gU J' λHy sp ep=>?_;refine⟨_,rfl,lnE rfl,λca DD=>hR _ ca (sp.trans (ae DD _)) ?_⟩;rw[AtK,YA];exact⟨_,.of ac,pp,_,_,rfl,ae DD _ _ _ ep,rfl,by omega,by omega,by omega⟩
   have La:=s5.trans s6
   have hws:AtsK .p K H6 (((fr i).hw [] (hgF fr (i:Nat) (j:Nat))).map (·.2)) cs:=by
    have e:=za (λm=>B! (enc (i:Nat) (m:Nat)) (j:Nat)) [] (fr i) 0 z1;rw[show hgF fr (i:Nat) (j:Nat)=(fr i).hg (λm=>B! (enc (i:Nat) (m:Nat)) (j:Nat)) 0 from by unfold hgF;rw[XM],e,<-List.range_eq_range',<-Bi];exact qJ C3
   have Qc:(fr i).lies (hgF fr (i:Nat) (j:Nat))=true:=by
    unfold hgF;rw[XM];exact gd _ _ _ z1
   refine⟨_,rfl,_,rfl,.p,fa,D,fr i,hgF fr (i:Nat) (j:Nat),cs,rfl,K'.mono (j! La),by omega,by omega,z1,Qc,(λp hp=>?_),e6,hws,λr H7 s7 Qd=>?_⟩
   .have Bm:p.2∈((fr i).hw [] (hgF fr (i:Nat) (j:Nat))).map (·.2):=XD.mpr ⟨p,hp,rfl⟩;have e:=za (λm=>B! (enc (i:Nat) (m:Nat)) (j:Nat)) [] (fr i) 0 z1;rw[show hgF fr (i:Nat) (j:Nat)=(fr i).hg (λm=>B! (enc (i:Nat) (m:Nat)) (j:Nat)) 0 from by unfold hgF;rw[XM],e]at Bm;obtain⟨m,_,hm⟩:=XD.mp Bm;rw[<-hm,p!];decide
   refine⟨_,rfl,_,rfl,_,rfl,lnE rfl,λkp CU=>?_⟩;refine gU CU λH8 s8 e8=>?_;have e8:H8 kp=some (.tup ([Xn ((i:Nat):Int),Xn (0+((j:Nat):Int))].map kV)):=e8;have Qe:=La.trans (s7.trans s8);have SV:=Qe _ _ Hu;refine⟨td,_,rfl,DPut.t SV e8 (bQ (by omega)),?_⟩
   have HK:KT H8 (upd H8 td (.dT (putK tk [Xn ((i:Nat):Int),Xn (0+((j:Nat):Int))] (.ref r)))):=λc ys ec=>by
    rw[aj (ej ec SV (λz=>nomatch z))];exact ec
   refine⟨_,_,_,rfl,am (s4.trans Qe) Ht,ac,?_,λs k h=>?_⟩
   .have:=bt tk [Xn ((i:Nat):Int),Xn (0+((j:Nat):Int))] (i! r);omega
   .rw[fB];by_cases AW:([Xn ((s:Nat):Int),Xn ((k:Nat):Int)]:List Key)=[Xn ((i:Nat):Int),Xn (0+((j:Nat):Int))]
    .rw[b! AW];injection AW with e1 e2;have Dh:((s:Nat):Int)=(i:Nat):=YV e1;injection e2 with e3 _;have e3':((k:Nat):Int)=0+(j:Nat):=YV e3;obtain rfl:s=i:=by omega
     obtain rfl:k=j:=by omega
     exact⟨r,rfl,(Qd.mono (j! s8)).mono HK⟩
    .rw[a! AW]
     have Am:s<i/\k<3\/s=i/\k<j:=by
      rcases h with h|h
      .exact .inl h
      .by_cases hk:k=j
       .exact g! (by rw[h.1,hk,YA]) AW
       .exact .inr ⟨h.1,by omega⟩
     obtain⟨a,a1,a2⟩:=EM s k Am;exact⟨a,a1,(a2.mono (j! Qe)).mono HK⟩
  .rintro Z H4 ⟨c4,c5,tk,rfl,s4,Hu,K9,EM⟩;exact⟨_,_,_,_,tk,rfl,s4,Hu,by omega,λs k hs hk=>EM s k (by omega)⟩
 .rintro Z H2 ⟨c2,c3,c4,c5,tk,rfl,s2,et,hlen,Aa⟩;rw[WO,<-Mn]at Aa;exact⟨_,rfl,q td tk H2 s2 et Aa⟩
inductive kY(vs:List V)(H:Hp)(Q:VK)(_E:XK):Prop
 |mk (b:WS) (v1 v2 v3 v4:V) (An:vs=[.ref b]) (Ao:H b=some (.tup [v1,v2,v3,v4])) (Au:Q v2 H):kY  vs H Q _E
def t9:Sp:=kY
theorem uT:aO P w K mg base CX0 1 T.g_outs_of.f T.g_outs_of.d ["book"] t9:=by
 refine T.g_outs_of.F.okA um λAi A outer s H vs Q E hr h=>?_;obtain⟨b,v1,v2,v3,v4,rfl,e,q⟩:=h;refine⟨_,(af (az (aF aL (pv 0) ai (λ_ _=>rfl)))),?_⟩
 try dsimp only[AA,Ae]
 exact⟨_,rfl,b,_,1,v2,rfl,rfl,n! e,cy (j:=1) rfl,q⟩
inductive lu(vs:List V)(H:Hp)(Q:VK)(_E:XK):Prop
 |mk (b:WS) (v1 v2 v3 v4:V) (An:vs=[.ref b]) (Ao:H b=some (.tup [v1,v2,v3,v4])) (Au:Q v3 H):lu  vs H Q _E
def uL:Sp:=lu
theorem uH:aO P w K mg base CX0 1 T.g_head_of.f T.g_head_of.d ["book"] uL:=by
 refine T.g_head_of.F.okA ut λAi A outer s H vs Q E hr h=>?_;obtain⟨b,v1,v2,v3,v4,rfl,e,q⟩:=h;refine⟨_,(af (az (aF aL (pv 0) ai (λ_ _=>rfl)))),?_⟩
 try dsimp only[AA,Ae]
 exact⟨_,rfl,b,_,2,v3,rfl,rfl,n! e,cy (j:=2) rfl,q⟩
def aV:Yz:=match be bU with
 | [_,_,st,_]=>st
 |_=>.Pass ⟨0,0,0,0⟩
def ndP:Yz->Arguments
 |.FunctionDef _ p _ _ _ _ _ _ _ _=>p
 |_=>bp bU
def ndB:Yz->List Yz
 |.FunctionDef _ _ b _ _ _ _ _ _ _=>b
 |_=>[]
def ndS:Yz->Z7
 |.FunctionDef _ _ _ _ _ _ s _ _ _=>s
 |_=>ag bU
def xn:Yz->Z9
 |.FunctionDef _ _ _ _ _ _ _ _ _ p=>p
 |_=>⟨0,0,0,0⟩
def ndQ:Xk:="earliest.<locals>."++"patterns_of"
def oO(ins:List (Xk×Int))(rows:List (List Th))(f':List (ay×V))(s:Nat):Th:=(frS ins rows s).cut (Dk f' (s:Nat)) []
abbrev clE(c1 c2 c3:WS):List (Xk×WS):=[("table",c3),("fronts",c2),("book",c1)]
inductive qU(P:W6)(w:Xj)(K:WQ)(f c' c1 c2 c3:WS)(vs:List V)(H:Hp)(Q:VK)(_E:XK):Prop
 |mk (pa b fl td:WS) (x:Int) (fs:List WS) (f':List (List Key×V)) (ins outs:List (Xk×Int)) (F:Nat->Th) (head:Th) (rows:List (List Th)) (An:vs=[.ref pa]) (Ao:NestAt H f c' "patterns_of" ndQ (ndP aV) (ndB aV) (ndS aV) (clE c1 c2 c3)) (Au:CodeAt H c' ndQ) (AD:CellAt H c1 (.ref b)) (AR:CellAt H c2 (.ref fl)) (BX:CellAt H c3 (.ref td)) (D5:H pa=some (.tup [.int (x / 1000),.int (x%1000)])) (Eh:Bk H ins outs head rows b) (Gq:EaOk ins outs F head rows) (IF:i6 F rows.length x) (HI:H fl=some (.lst (fs.map i!))) (Lb:Xs (λs a=>AtK .i K H (F s) a) (XG rows.length) fs) (Qf:H td=some (.dT f')) (Wt:(∀(s k:Nat),s<rows.length->k<3->∃a,aQ f' [Xn (s:Int),Xn (k:Int)]=some (.ref a)/\AtK .p K H (hgF F (s:Nat) (k:Nat)) a)) (Wu:∀(r:WS)(as:List WS)(H':Hp),k! H H'->H' r=some (.lst (as.map i!))->AtsK .p K H' (eaR F rows x) as->Q (.ref r) H'):qU P w K f c' c1 c2 c3 vs H Q _E
def vo(P:W6)(w:Xj)(K:WQ)(f c' c1 c2 c3:WS):Sp:=qU P w K f c' c1 c2 c3
theorem l8:(["pair","book","fronts","table","state","hole","place"]:List Xk).Nodup:=by decide +kernel
theorem aan(c1 c2 c3:WS)(Av:[c3,c2,c1].Nodup):oQ ["pair","book","fronts","table","state","hole","place"] ["pair"] ["book","fronts","table"] "place" (clE c1 c2 c3) (ndS aV):=by
 refine⟨rfl,rfl,rfl,l8,rfl,by decide +kernel,by decide +kernel,λn=>rfl,λh=>rfl,λx h=>?_,λx h=>?_,λx y c h1 h2=>abo (cl:=clE c1 c2 c3) Av h1 h2,by decide +kernel,λx h=>?_⟩
 .have hm:=Yk h;have Aa:∀z∈(ndS aV).names,z.2=.cell->z.1="place":=by decide +kernel
  exact Aa _ hm rfl
 .have hm:=Yk h;have Aa:∀z∈(ndS aV).names,z.2=.free->z.1="book"\/z.1="fronts"\/z.1="table":=by decide +kernel
  rcases Aa _ hm rfl with e|e|e
  .exact⟨c1,by rw[show x="book" from e];rfl⟩
  .exact⟨c2,by rw[show x="fronts" from e];rfl⟩
  .exact⟨c3,by rw[show x="table" from e];rfl⟩
 .have hm:=Yk h;have Aa:∀z∈(ndS aV).names,z.2=.free->(z.1 == ("place":Xk))=false:=by decide +kernel
  exact Aa _ hm rfl
theorem vA{c1 c2 c3:WS}{v1 v2 v3:V}(h1:CellAt H c1 v1)(h2:CellAt H c2 v2)(h3:CellAt H c3 v3):Exts ((clE c1 c2 c3).map (·.2)) H:=λb hb=>by
 have AJ:b∈[c3,c2,c1]:=hb;rcases W9.mp AJ with e|AJ
 .obtain⟨φ,z,_⟩:=h3;exact⟨φ,by rw[e];exact z⟩
 rcases W9.mp AJ with e|AJ
 .obtain⟨φ,z,_⟩:=h2;exact⟨φ,by rw[e];exact z⟩
 .obtain⟨φ,z,_⟩:=h1;exact⟨φ,by rw[W7.mp AJ];exact z⟩
include T in
theorem zo(f c' c1 c2 c3:WS)(Av:[c3,c2,c1].Nodup):aap P w K mg base CX0 8 f (vo P w K f c' c1 c2 c3):=by
 refine zF (k:=7) (c':=c') (name:="patterns_of") (qual:=ndQ) (params:=ndP aV) (body:=ndB aV) (aan c1 c2 c3 Av) (λdoc pm DR us hl=>?_) (λvs H Q E h=>?_) λA outer s H vs Q E hr h=>?_
 .obtain⟨u,rfl⟩:=us1 hl;rfl
 .obtain⟨pa,b,fl,td,x,fs,f',ins,outs,F,head,rows,rfl,hn,hc,h1,h2,h3,_⟩:=h;refine⟨rfl,hn,hc,vA h1 h2 h3,λx c hx=>?_⟩;have e1:=Yk hx;rcases W9.mp e1 with e|e1
  .cases e;exact⟨_,h3⟩
  rcases W9.mp e1 with e|e1
  .cases e;exact⟨_,h2⟩
  .cases W7.mp e1;exact⟨_,h1⟩
 .obtain⟨pa,b,fl,td,x,fs,f',ins,outs,F,head,rows,rfl,hn,hc,h1,h2,h3,BY,bk,J,hx,FN,Gz,Qg,Aa,kq⟩:=h;have Fp:=vA h1 h2 h3;have kf:=abE Fp;have Lc:=qZ Fp FN (λφ z=>nomatch z);have Ld:=qZ Fp Qg (λφ z=>nomatch z)
  refine⟨_,[.ref b,.ref fl,.ref td],.cons ⟨c1,rfl,h1⟩ (.cons ⟨c2,rfl,h2⟩ (.cons ⟨c3,rfl,h3⟩ .nil)),(ad (fg (pv 0) (bj rfl (ak (pgN 4 l8) (ak (pgN 5 l8) aT))))
   (ad (au 6 l8 (aF bu (pcF T.g_holes_in (gO T) hr (aa (aF bu (pv 2) (pv 4) (λ_ _=>rfl)) ab)) (pv 5) (λ_ _=>rfl)))
   (af (az (bW (N:=[WT "pattern",WT "place",WT "table"]) (js:=[none,some 6,some 3]) (g:=(aq 0)) (tt:=bw) (te:=(cO (mL K) [] E0 (aG (cO (mQ K) [] E0 (aG (cO (oY P w K) [] E0 (aG (aX 0) (aG (aX 2) cC))) (aG (aX 1) cC))) cC))) rfl (bY rfl (by decide +kernel) (by decide +kernel) rfl rfl rfl) (eZ (aF aL (pcF T.g_rules_of (dw T) hr (aa (pv 1) ab)) (pv 4) (λ_ _=>rfl))) (λ_ _ _ _ _ _=>(pgN 0 ack)) (aI rfl) (λ_ _ _ _ _ _=>bF) (λ_ _ _ _ _ _=>(pcF T.g_checked (oq T) hr (aa (pcF T.g_knot_at (uf T) hr (aa (pcF T.g_filled (ij T) hr (aa (pv 0) (aa (pv 2) ab))) (aa (pv 1) ab))) ab)))))))),?_⟩
  generalize Wv:fgt ((clE c1 c2 c3).map (·.2)) H=H0 at kf Lc Ld |-;refine hid λZZ kZ=>?_;obtain⟨ia,oa,ha,ra,Ag,AG,AM,bk⟩:=bk.mono kf;obtain⟨row,Aj,HU,hlen,AY⟩:=J.row hx;obtain⟨Bn,BU,Qh,Qi,FY⟩:=H! bk.rw Aj;have AB:Qh.length=row.length:=FY.length;have hle:=J.gi.le;obtain⟨Gg,Mo,Ct⟩:=id hx;obtain⟨z1,z2,z3⟩:=J.fr _ Mo;have Ws:=vH z1;obtain⟨fa,B5,Cd⟩:=H! Gz (X4 Mo);refine kZ ?_;refine⟨_,rfl,pa,_,rfl,n! (kf _ _ BY),rfl,_,_,rfl,_,_,rfl,rfl,?_⟩;dsimp only[aq];refine⟨_,rfl,_,rfl,fl,_,_,.ref fa,rfl,rfl,l! Lc,at_nonneg Gg (gmE B5),fa,F (x / 1000).toNat,rfl,Cd.mono kf,by omega,by omega,λhl bs H1 s1 Gs Ar=>?_⟩;have E5:∀t,(F (x / 1000).toNat).lies t=true->(((F (x / 1000).toNat).pl []).filter λp=>p.2.isHole).map (·.1)=((F (x / 1000).toNat).hw [] t).map (·.1):=λt ht=>j6 [] _ t ht;have SW:=gd (λ_=>hole) (F (x / 1000).toNat) 0 z1;refine hid λZZ kZ=>?_;obtain⟨pl,AS⟩:∃pl,((((F (x / 1000).toNat).pl []).filter λp=>p.2.isHole).map (·.1))[(x%1000).toNat]?=some pl:=⟨_,WR (by rw[E5 _ SW,WO,mM [] _ _ SW];exact Ct)⟩;obtain⟨Ko,Qj,Qk⟩:=H! (show Xs (λ(p:List Int)b=>H1 b=some (.tup (p.map q!))) _ bs from Ar) AS;refine kZ ?_;refine⟨_,rfl,hl,_,_,.ref Ko,rfl,rfl,l! Gs,at_nonneg (by omega) (gmE Qj),?_⟩;dsimp only[aq];have k1:=j! s1;refine⟨_,rfl,b,_,_,_,_,rfl,k1 _ _ bk.bk,_,rfl,ra,_,_,.ref Bn,rfl,rfl,n! (k1 _ _ bk.rl),at_nonneg Gg (gmE BU),?_⟩;have MP:=k1 _ _ Qi;have Le:=FY.mono k1;refine⟨Bn,rfl,⟨_,n! MP⟩,fN (F:=AtK .p K) (xs:=Qh.map i!) (row.map (eaU F x)) (λH1 H2 z p kt h=>h.mono kt) (by rw[WO,WO];omega) (by rw[WO];omega) (λi Hx sx hi=>⟨_,_,n! (sx _ _ MP),WR hi⟩) (λHx sx=>⟨_,n! (sx _ _ MP),WY _⟩) (λi Hx x Hy sx hi hy=>⟨hy.1,hy.2 _ (n! (sx _ _ MP))⟩) (λi y z Hx R W' hy BR sx hR=>?_) (λD Hx as hD sx eD C3=>?_)⟩
  .refine hid λZZ kZ=>?_;obtain⟨ua,rfl,DF⟩:=aR hy;obtain⟨u,hu,FO⟩:=Le.get DF;rw[W0,hu]at BR;cases BR;have GF:=WU hu;obtain⟨C,hC,hC3⟩:=AY u GF;obtain⟨SX,_,g1,g2,g3⟩:=J.at hx Aj GF;refine kZ ?_
   have e2:SX=pl:=by
    have h5:=AS;rw[E5 _ (J.lies Aj GF hC),W0,g1]at h5;exact Xm h5
   subst e2;have kx:=j! sx;have K2:=J.smR row (WU Aj) u GF;have GG:=K2.size;have hz7:=g3.size;have Fb:u.size<=600:=Xv (qt _ _) GG;refine⟨_,rfl,_,rfl,.p,ua,td,u,hgF F,rfl,(FO.mono kx).k,by omega,λl k' hc=>?_,λr1 H3 s3 h3=>?_⟩
   .refine hid λZZ kZ=>?_;obtain⟨a1,a2,a3,a4⟩:=kO hC hc;have Ge:k'.toNat<3:=by omega
    obtain⟨v,v1,v2⟩:=Aa l.toNat k'.toNat (by omega) Ge;refine kZ ?_;rw[Yu a1,Yu a3]at v1 v2;have h8:=nH F l k';have h9:=J.fr l.toNat (by omega);exact⟨v,((v2.mono kf).mono k1).mono kx,by omega,λH5 ca sv s5 hs B8=>xG (sx _ _ (s1 _ _ Ld)) v1 s5 hs B8⟩
   refine⟨_,rfl,r1,Ko,eaP F u,eaU F x u,SX,rfl,h3,(j! (sx.trans s3)) _ _ Qk,g2,λr2 H4 s4 h4=>?_⟩;refine⟨r2,_,rfl,h4,by omega,g3,λH5 s5=>hR H5 r2 (s3.trans (s4.trans s5)) (h4.mono (j! s5))⟩
  .intro L3;subst Wv;have sR:=yb (H:=H) L3;refine kq D as _ (xR (s1.trans sx)) (sR _ _ eD) ?_;unfold eaR;rw[HU];exact(show AtsK .p K Hx _ as from qJ C3).mono (j! sR)
inductive jG(P:W6)(w:Xj)(K:WQ)(tp:WS)(vs:List V)(H:Hp)(Q:VK)(_E:XK):Prop
 |mk (b ia oa ha ra:WS) (Ag AG AM:List WS) (ins outs:List (Xk×Int)) (head:Th) (rows:List (List Th)) (An:vs=[.ref b]) (Ao:BookAt H ins outs head rows b ia oa ha ra Ag AG AM) (Au:FrB ins outs rows) (AD:(∀f':List (ay×V),FrD ins rows (f'.map (·.1))->EaOk ins outs (oO ins rows f') head rows)) (AR:TabSt H tp (xn aV) ndQ) (BX:∀(r fh rl:WS)(FV:List WS)(f':List (ay×V))(F:Nat->Th)(M:List Int)(H':Hp),FrD ins rows (f'.map (·.1))->F=oO ins rows f'->M=cu (eaR F rows) (eaP F head)->SameT tp H H'->TabSt H' tp (xn aV) ndQ->H' r=some (.tup [.ref ia,.ref oa,.ref fh,.ref rl])->AtK .i K H' (ren (idx M) (eaP F head)) fh->H' rl=some (.tup (FV.map i!))->Xs (RowK K H') (M.map λx=>(eaR F rows x).map (ren (idx M))) FV->Q (.ref r) H'):jG P w K tp vs H Q _E
def rB(P:W6)(w:Xj)(K:WQ)(tp:WS):Sp:=jG P w K tp
theorem tD(L:Lam mg base T.tc_earliest T.tp_earliest):aO P w K mg base CX0 10 T.g_earliest.f T.g_earliest.d ["book"] (rB P w K T.tp_earliest):=by
 refine T.g_earliest.F.okT T.th_earliest eR (λvs H Q E h=>?_) (λA outer s H vs Q E hr h=>?_)
 .obtain⟨b,ia,oa,ha,ra,Ag,AG,AM,ins,outs,head,rows,rfl,_⟩:=h;rfl
 obtain⟨b,ia,oa,ha,ra,Ag,AG,AM,ins,outs,head,rows,rfl,bk,F,hJ,Fw,q⟩:=h
 refine⟨_,(ad (au 1 eR.nd (pcF T.g_fronts_of (qP T) hr (aa (pv 0) ab)))
  (ad (au 2 eR.nd (pcF T.g_early_table (nD T) hr (aa (pv 1) ab)))
  (ad (zG (i:=3) (name:="patterns_of") (pos:=xn aV) (params:=ndP aV) (body:=ndB aV) (scope:=ndS aV) (cl:=[("table",s.heap.objs.size+3),("fronts",s.heap.objs.size+2),("book",s.heap.objs.size+1)]) L eR.nd rfl (Or.inl rfl) rfl rfl)
  (af (az (yc (cl:=[("table",s.heap.objs.size+3),("fronts",s.heap.objs.size+2),("book",s.heap.objs.size+1)]) (tu T) (hr.mono (by decide)) rfl T.g_numbered.m T.g_numbered.F.kp T.g_numbered.b (acS rfl rfl rfl rfl rfl rfl rfl rfl rfl) (aa (eO (dQ T) (hr.mono (by decide)) rfl T.g_ins_of.m T.g_ins_of.F.kp T.g_ins_of.b .nil gx (aa (pv 0) ab)) (aa (eO (uT T) (hr.mono (by decide)) rfl T.g_outs_of.m T.g_outs_of.F.kp T.g_outs_of.b .nil gx (aa (pv 0) ab)) (aa (eO (oq T) (hr.mono (by decide)) rfl T.g_checked.m T.g_checked.F.kp T.g_checked.b .nil gx (aa (eO (ij T) (hr.mono (by decide)) rfl T.g_filled.m T.g_filled.F.kp T.g_filled.b .nil gx (aa (eO (uH T) (hr.mono (by decide)) rfl T.g_head_of.m T.g_head_of.F.kp T.g_head_of.b .nil gx (aa (pv 0) ab)) (aa (pv 2) ab))) ab)) (aa (pv 3) ab)))))))))),?_⟩
 try dsimp only[AA,Ae]
 have hle:=F.le;refine⟨_,rfl,b,ins,outs,head,rows,rfl,⟨_,_,_,_,_,_,_,bk⟩,F,λfl fs f' H1 s1 FN Gz hD=>?_⟩;dsimp only[aq];have J:=hJ f' hD;have HV:Xs (λs a=>AtK .i K H1 (oO ins rows f' s) a) (XG rows.length) fs:=Gz;generalize hF:oO ins rows f'=G at J HV;refine⟨_,rfl,fl,fs,G,rows.length,rfl,FN,HV,hle,J.fr,λtd Ql H2 s2 Qg Aa=>?_⟩;dsimp only[aq];have Cf:=s1.trans s2;have EN:=Fw.mono Cf;refine⟨EN,λf c' H3 s3 et Cg Lf hf=>?_⟩;have k23:KT H2 H3:=EN.kt s3;have Lg:KT H H3:=(j! Cf).trans k23
 have SY:∀{a:WS}{o:HO},H2 a=some o->(∀z,o≠.tbl z)->H3 a=some o:=λe h2=>s3 _ _ (λz=>by
  rw[z]at e;rcases EN with h|⟨_,h,_⟩ <;> · rw[h]at e;cases e;exact h2 _ rfl) e
 have Lh:=SY Qg (λz h=>nomatch h);have Qm:=SY (s2 _ _ FN) (λz h=>nomatch h);dsimp only[aq];refine⟨_,rfl,b,_,_,_,_,rfl,Lg _ _ bk.bk,_,rfl,b,_,_,_,_,rfl,Lg _ _ bk.bk,_,rfl,b,_,_,_,_,rfl,Lg _ _ bk.bk,_,rfl,?_⟩;have GG:=J.smH.size;have hhz:head.size<=600:=Xv (qt _ _) GG;refine⟨.p,ha,td,head,hgF G,rfl,(bk.hd.mono Lg).k,by omega,λl k hc=>?_,λr1 H4 s4 h4=>?_⟩
 .refine hid λZZ kZ=>?_;obtain⟨a1,a2,a3,a4⟩:=kO J.hd hc;obtain⟨v,v1,v2⟩:=Aa l.toNat k.toNat (by omega) (by omega);refine kZ ?_;rw[Yu a1,Yu a3]at v1 v2;have h8:=nH G l k;have h9:=J.fr l.toNat (by omega);exact⟨v,v2.mono k23,by omega,λH5 ca sv s5 hs B8=>xG Lh v1 s5 hs B8⟩
 refine⟨r1,eaP G head,rfl,h4,Xv GG (by decide),J.smH,λH5 s5=>?_⟩;refine⟨_,rfl,λH6 trk=>?_⟩;have S3:=s4.trans (s5.trans trk.same);have MI:=j! S3;have Ww:=Lg.trans MI;have HW:CellAt H6 (s.heap.objs.size+1) (.ref b):=trk.2.2.2 0 "book" (.ref b) _ rfl rfl rfl;have HX:CellAt H6 (s.heap.objs.size+2) (.ref fl):=trk.2.2.2 1 "fronts" (.ref fl) _ rfl rfl rfl;have HY:CellAt H6 (s.heap.objs.size+3) (.ref td):=trk.2.2.2 2 "table" (.ref td) _ rfl rfl rfl;refine⟨ia,oa,r1,f,eaP G head,eaR G rows,vo P w K f c' (s.heap.objs.size+1) (s.heap.objs.size+2) (s.heap.objs.size+3),rfl,h4.mono (j! (s5.trans trk.same)),Xv GG (by decide),J.len,λx hx=>?_,zo T f c' _ _ _ (by simp),λH7 x pa Z s7 hx BY hZ=>?_,λr fh rl FV H7 s7 e7 h7 Wx Qn=>?_⟩
 .obtain⟨h1,h2⟩:=J.small (J.met x hx);exact⟨h1,λt ht=>Xv (h2 t ht).size (by decide)⟩
 .have Li:=S3.trans s7;have S4:=k23.trans (j! Li)
  exact⟨pa,b,fl,td,x,fs,Ql,ins,outs,G,head,rows,rfl,Lf.mono Li,Cg.mono Li,HW.mono s7,HX.mono s7,HY.mono s7,BY,⟨_,_,_,_,_,_,_,bk.mono (Ww.trans (j! s7))⟩,J,J.met x hx,Li _ _ Qm,y! (λ_ _ h=>h.mono ((j! s2).trans S4)) HV,Li _ _ Lh,λs' k' h1 h2=>by
   obtain⟨a,a1,a2⟩:=Aa s' k' h1 h2;exact⟨a,a1,a2.mono S4⟩,hZ⟩
 .have sB:k! H3 _:=(s4.trans s5).trans (trk.back s7);refine⟨λb' hb=>?_,q r fh rl FV f' G _ _ hD hF.symm rfl ((Cf.t _).trans (s3.trans (sB.t _))) ((show TabSt H3 _ _ _ from .inr ⟨c',et,Cg⟩).mono sB) (trk.kt s7 _ _ e7) (h7.mono (trk.kt s7)) (trk.kt s7 _ _ Wx) (y! (λ_ _ e=>RowK.mono (trk.kt s7) e) Qn)⟩;obtain⟨φ,e⟩:=trk.2.2.1 b' hb;rw[e,s7 _ _ e]
inductive fq(vs:List V)(H:Hp)(Q:VK)(_E:XK):Prop
 |mk (c k:Int) (An:vs=[.int c,.int k]) (Ao:∀z:Int,0<=z->Q (.int z) H):fq  vs H Q _E
def dC:Sp:=fq
def qF(c:Int):Xk:=if c=0 then WT "" else if c=1 then WT "a" else if c=2 then WT "zz" else WT "name"
def abc(b n:Int):Nat:=97+((b+5 * n)%26).toNat
def lV(b n:Int):Xk:=⟨#[abc b n]⟩++qF (b / 26%4)
inductive gq(vs:List V)(H:Hp)(Q:VK)(_E:XK):Prop
 |mk (b n:Int) (An:vs=[.int b,.int n]) (Ao:∀H',k! H H'->Q (.str (lV b n)) H'):gq  vs H Q _E
def gZ:Sp:=gq
theorem cE:aO P w K mg base CX0 1 T.g__law_mixed.f T.g__law_mixed.d ["cell","k"] dC:=by
 refine T.g__law_mixed.F.okA iE λAi A outer s H vs Q E hr h=>?_;obtain⟨c,k,rfl,q⟩:=h
 refine⟨_,(ad (au 2 iE.nd (aB bK (aB eI (aB df (aB df (aB bK (pv 0) ai) (aB eI ai (pv 1))) ai) ai) ai))
  (af (az (aB bK (aB eI (aB bK (aB eI (pv 2) (pv 2)) ai) ai) ai)))),?_⟩
 try dsimp only[AA,Ae]
 refine⟨_,rfl,_,_,rfl,rfl,(by show(0:Int)<1000000007;decide),_,rfl,_,_,rfl,rfl,.inl ⟨by decide,by decide⟩,_,_,rfl,rfl,_,_,rfl,rfl,_,_,rfl,rfl,.inr ⟨by decide,by decide⟩,_,_,rfl,rfl,(by show(0:Int)<2147483647;decide),?_⟩
 try dsimp only[aq]
 generalize(c%1000000007+7919 * k+1) * 48271=z;have z0:=Yo z (show(2147483647:Int)≠0 by decide);have z1:=Yr z (show(0:Int)<2147483647 by decide);generalize z%2147483647=y at z0 z1;refine⟨_,rfl,_,rfl,_,_,rfl,rfl,.inl ⟨by omega,by omega⟩,_,_,rfl,rfl,(by show(0:Int)<2147483629;decide),_,_,rfl,rfl,.inr ⟨by decide,by decide⟩,_,_,rfl,rfl,(by show(0:Int)<2147483647;decide),q _ (Yo _ (by decide))⟩
theorem qg:aO P w K mg base CX0 1 T.g__law_name.f T.g__law_name.d ["base","n"] gZ:=by
 refine T.g__law_name.F.okA jP λAi A outer s H vs Q E hr h=>?_;obtain⟨b,n,rfl,q⟩:=h
 refine⟨_,(ad (au 2 jP.nd (aF bu (bx (aa iN (aa iN (aa iN (aa iN ab))))) (aB bK (aB cG (pv 0) ai) ai) (λ_ _=>rfl)))
  (af (az (aB uc (aF abb iN (aB bK (aB df (pv 0) (aB eI ai (pv 1))) ai) (λ_ _=>rfl)) (pv 2))))),?_⟩
 try dsimp only[AA,Ae]
 refine⟨lnE rfl,λl hl=>?_⟩;refine gU hl λH1 s1 e1=>?_;have z0:=Yo (b / 26) (show(4:Int)≠0 by decide);have z1:=Yr (b / 26) (show(0:Int)<4 by decide)
 have Cd:atI [K! (WT ""),.str (WT "a"),.str (WT "zz"),.str (WT "name")] (b / 26%4)=some (.str (qF (b / 26%4))):=by
  generalize b / 26%4=c at z0 z1;rcases(by omega:c=0\/c=1\/c=2\/c=3)with rfl|rfl|rfl|rfl <;> rfl
 refine⟨_,rfl,_,_,rfl,rfl,⟨by decide,by decide⟩,_,_,rfl,rfl,(by show(0:Int)<4;decide),l,_,_,_,rfl,rfl,l! e1,Cd,?_⟩
 try dsimp only[aq]
 have y0:=Yo (b+5 * n) (show(26:Int)≠0 by decide);have y1:=Yr (b+5 * n) (show(0:Int)<26 by decide);refine⟨_,rfl,_,rfl,_,_,rfl,rfl,.inl ⟨by decide,by decide⟩,_,_,rfl,rfl,_,_,rfl,rfl,(by show(0:Int)<26;decide),lX,_,_,rfl,rfl,di (by rw[r8];decide),wZ y0 y1,_,rfl,_,_,rfl,rfl,di (by show 1+(qF (b / 26%4)).length<=1000000;unfold qF;(repeat' split) <;> decide),q H1 s1⟩
theorem xA(c:Int):Low (qF c)/\(qF c).length<=4:=by
 unfold qF;split
 .exact⟨(λx hx=>by have:x∈([]:List Nat):=hx;cases this),by decide⟩
 .split
  .exact⟨(λx hx=>by have:x∈([97]:List Nat):=hx;simp at this;omega),by decide⟩
  .split
   .exact⟨(λx hx=>by have:x∈([122,122]:List Nat):=hx;simp at this;omega),by decide⟩
   .exact⟨(λx hx=>by have:x∈([110,97,109,101]:List Nat):=hx;simp at this;omega),by decide⟩
theorem xL(b n:Int):Low (lV b n)/\(lV b n).length<=8:=by
 have h1:=Yo (b+5 * n) (by decide:(26:Int)≠0);have h2:=Yr (b+5 * n) (by decide:(0:Int)<26);obtain⟨l1,l2⟩:=xA (b / 26%4);unfold lV abc;refine⟨aav (zX (by omega) (by omega)) l1,?_⟩;rw[strLen_append];show 1+_<=8;omega
theorem xS{b:Int}(hi:i<5)(hj:j<5)(h:lV b (i:Int)=lV b (j:Int)):i=j:=by
 unfold lV abc at h
 have h0:∀(m:Nat)(t:Xk),((⟨#[m]⟩:Xk)++t).cps.toList.head?=some m:=λm t=>by
  show((#[m]:Array Nat)++t.cps).toList.head?=some m;rw[Array.toList_append];rfl
 have e:=h! (λz:Xk=>z.cps.toList.head?) h;rw[show(((⟨#[97+((b+5 * (i:Int))%26).toNat]⟩:Xk)++qF (b / 26%4)).cps.toList.head?)=_ from h0 _ _,show(((⟨#[97+((b+5 * (j:Int))%26).toNat]⟩:Xk)++qF (b / 26%4)).cps.toList.head?)=_ from h0 _ _]at e;have e':=Xm e;have e1:=Yo (b+5 * (i:Int)) (by decide:(26:Int)≠0);have e2:=Yo (b+5 * (j:Int)) (by decide:(26:Int)≠0);omega
inductive dZ(K:WQ)(vs:List V)(H:Hp)(Q:VK)(_E:XK):Prop
 |mk (a:WS) (ns:List Int) (k:Int) (An:vs=[.ref a,.int k]) (Ao:SqL K H a (ns.map q!)) (Au:0<=k) (AD:∀z:Int,Q (.int z) H):dZ K vs H Q _E
def jd(K:WQ):Sp:=dZ K
def mR(b:Int)(ms:List Int):List (Xk×Int):=(XG ms.length).map λ(i:Nat)=>(lV b (i:Int),ms.getD i 0)
theorem fz{b:Int}{ms:List Int}{k:Xk×Int}(h:(mR b ms)[i]?=some k):i<ms.length/\k=(lV b (i:Int),ms.getD i 0):=by
 unfold mR at h;rw[W0,XJ]at h;obtain⟨j,hj,rfl⟩:=h;have hi:i<ms.length:=by have:=(glE hj);rwa [Xo]at this
 rw[X4 hi]at hj;cases hj;exact⟨hi,rfl⟩
theorem gR(b:Int)(ms:List Int):(mR b ms).length=ms.length:=by unfold mR;rw[WO,Xo]
theorem pQ{b:Int}{ms:List Int}(h1:1<=ms.length)(h5:ms.length<=5)(hm:∀m∈ms,0<=m/\m<=3)(hz:(0:Int)∈ms):cS (mR b ms):=by
 have mem:∀(i:Nat),i<ms.length->ms.getD i 0∈ms:=λi hi=>by
  rw[ZP,WR hi];exact List.getElem_mem hi
 refine⟨by rw[gR];exact h1,by rw[gR];omega,λk hk=>?_,λk hk=>?_,?_,λi j k l hi hj e=>?_⟩
 .obtain⟨i,hi⟩:=Xp.mp hk;obtain⟨_,rfl⟩:=fz hi;exact xL _ _
 .obtain⟨i,hi⟩:=Xp.mp hk;obtain⟨h,rfl⟩:=fz hi;exact hm _ (mem i h)
 .obtain⟨i,hi⟩:=Xp.mp hz;have hl:=(glE hi);refine⟨(lV b (i:Int),ms.getD i 0),XD.mpr ⟨i,YY.mpr hl,rfl⟩,?_⟩;show ms.getD i 0=0;rw[ZP,hi];rfl
 .obtain⟨a1,rfl⟩:=fz hi;obtain⟨a2,rfl⟩:=fz hj;exact xS (by omega) (by omega) e
inductive fw(vs:List V)(H:Hp)(Q:VK)(_E:XK):Prop
 |mk (b:Int) (ml:WS) (ms:List Int) (An:vs=[.int b,.ref ml]) (Ao:H ml=some (.lst (ms.map q!))) (Au:ms.length<=5) (AD:∀(r:WS)(as:List WS)(H':Hp),k! H H'->H' r=some (.tup (as.map i!))->KsAt H' (mR b ms) as->Q (.ref r) H'):fw  vs H Q _E
def lW:Sp:=fw
theorem dF:aO P w K mg base CX0 1 T.g__law_cell_at.f T.g__law_cell_at.d ["script","k"] (jd K):=by
 refine T.g__law_cell_at.F.okA lP λAi A outer s H vs Q E hr h=>?_;obtain⟨a,ns,k,rfl,hS,h0,q⟩:=h
 refine⟨_,(ad (cB (bn mI (pv 1) (aH aA rfl T.n_len XT (aa (pv 0) ab)) (bc _)) (af (az (aF bu (pv 0) (pv 1) (λ_ _=>rfl)))) bN)
  (af (az ai))),?_⟩
 try dsimp only[AA,Ae]
 refine⟨_,rfl,_,rfl,a,_,rfl,.inl hS,_,_,rfl,rfl,_,rfl,?_⟩;refine cT (λc=>?_) (λc=>?_)
 .have c':k<(((ns.map q!).length:Nat):Int):=e! c;rw[WO]at c';exact⟨_,rfl,_,rfl,a,_,k,_,rfl,rfl,hS,int_at h0 c',q _⟩
 .exact q _
theorem iH:aO P w K mg base CX0 2 T.g__law_kinds.f T.g__law_kinds.d ["base","menu"] lW:=by
 refine T.g__law_kinds.F.okA oE λAi A outer s H vs Q E hr h=>?_;obtain⟨b,ml,ms,rfl,em,Vi,q⟩:=h;refine⟨_,(af (az (bh ba rfl T.n_tuple Yg (aa (bW (N:=[WT "n",WT "base",WT "menu"]) (js:=[none,some 0,some 1]) (g:=(aq 0)) (tt:=bw) (te:=(lM (aG (cO gZ [] E0 (aG (aX 1) (aG (aX 0) cC))) (aG (tOp (xo K) (aX 2) (aX 0)) cC)))) rfl (bY rfl (by decide +kernel) (by decide +kernel) rfl rfl rfl) (bA rfl T.n_range (aa (aH aA rfl T.n_len XT (aa (pv 1) ab)) ab)) (λ_ _ _ _ _ _=>(pgN 0 acy)) (aI rfl) (λ_ _ _ _ _ _=>bF) (λ_ _ _ _ _ _=>(aD (aa (pcF T.g__law_name (qg T) hr (aa (pv 1) (aa (pv 0) ab))) (aa (aF bu (pv 2) (pv 0) (λ_ _=>rfl)) ab))))) ab)))),?_⟩
 try dsimp only[AA,Ae]
 refine⟨_,rfl,ml,_,rfl,.inl (l! em),_,rfl,by omega,by rw[WO];omega,fN (F:=KAt) (xs:=(XG ms.length).map λ(i:Nat)=>q! (0+(i:Int))) (mR b ms) (λH1 H2 z p kt h=>kt _ _ h) (by rw[gR,WO,Xo]) (by rw[WO,Xo];omega) (λi Hx sx hi=>by rw[WO,Xo]at hi;show i<(((ms.map q!).length:Nat):Int).toNat;rw[WO];omega) (λHx sx=>by show(((ms.map q!).length:Nat):Int).toNat<=((XG ms.length).map λ(i:Nat)=>q! (0+(i:Int))).length;rw[WO,WO,Xo];omega) (λi Hx x Hy sx hi hy=>⟨hy.1,?_⟩) (λi x z Hx R W' hx BR sx hR=>?_) (λD2 H2 as hD2 s2 ID E1=>?_)⟩
 .rw[WO,Xo]at hi;rw[hy.2,W0,X4 hi];rfl
 .have hi:i<ms.length:=by
   have:=(glE hx);rw[WO,Xo]at this;exact this
  rw[W0,X4 hi]at hx;cases hx;obtain⟨_,rfl⟩:=fz BR;refine⟨_,rfl,_,rfl,b,_,rfl,λH3 s3=>?_⟩;refine⟨_,rfl,_,rfl,ml,_,_,.int (ms.getD i 0),rfl,rfl,l! ((sx.trans s3) _ _ em),at_nonneg (by omega) (by rw[show(0+(i:Int)).toNat=i by omega,W0,ZP,WR hi];rfl),lnE rfl,λp hp=>?_⟩;refine hR _ p (s3.trans (ae hp _)) ?_;show(upd H3 p (.tup [.str (lV b (0+(i:Int))),.int (ms.getD i 0)])) p=some (.tup [.str (lV b (i:Int)),.int (ms.getD i 0)]);rw[ac,YA]
 refine⟨D2,_,rfl,.inl ⟨l! ID,λia MQ=>?_⟩⟩;have s3:=ae MQ (.tup (as.map i!));exact q ia as _ (s2.trans s3) ac (y! (λ_ _ e=>(j! s3) _ _ e) E1)
def gj:Nat->Sp
 |0=>λ_ _ _ _=>False
 |n+1=>λvs H Q _=>∃(c d:Int)(oa:WS)(AG:List WS)(outs:List (Xk×Int))(S k:Int)(W:Nat),vs=[.int c,.int d,.ref oa,.int S,.int k]/\H oa=some (.tup (AG.map i!))/\KsAt H outs AG/\cS outs/\1<=W/\(∀z∈outs,z.2<=(W:Int))/\0<=S/\S<=20/\0<=k/\k<=3/\0<=d/\d<=n/\d<=5/\∀(r:WS)(t:Th)(H':Hp),k! H H'->At H' t r->PB outs S k W d.toNat t->Q (.ref r) H'
theorem b9:∀n:Nat,aO P w K mg base CX0 (n+1) T.g__law_pattern.f T.g__law_pattern.d ["cell","deep","outs","states","kids"] (gj n)
 |0=>⟨λ_ _ _ _ h=>h.elim,λ_ _ _ _ _ _ _ _ _ _ _ _ _ h=>h.elim⟩
 | n+1=>by
   have ih:=b9 n;refine T.g__law_pattern.F.ok (k:=n+1) cH (λvs H Q E h=>?_) (λAi A outer s H vs Q E hr h=>?_)
   .obtain⟨c,d,oa,AG,outs,S,kd,W,rfl,_⟩:=h;rfl
   obtain⟨c,d,oa,AG,outs,S,kd,W,rfl,D0,Bo,g,hW,E8,S0,MR,Lj,MS,d0,dn,d5,q⟩:=h
   refine⟨_,(ad (cB (PW.pt (aa8 (bn pc (aB eI (pv 3) (pv 4)) ai (bc _)) (zt (bn mI (aB bK (pv 0) ai) ai (bc _))))) (af (az (aD (aa iN (aa (aB bK (aB cG (pv 0) ai) (pv 3)) (aa (aB bK (aB cG (aB cG (pv 0) ai) (pv 3)) (pv 4)) ab)))))) bN)
    (ad (dq (i:=5) (N:=[WT "kind",WT "deep"]) (js:=[none,some 1]) (g:=(aq 0)) (tt:=(tOr (kW (tOp (rEq) (tOp (yl K) (aX 0) (tC (.int 1))) (tC (.int 0)))) (kW (tOp (rI0 λi j=>.bl (decide (j<i))) (aX 1) (tC (.int 0)))))) (te:=(aX 0)) cH.nd rfl (Or.inl rfl) rfl (bY rfl (by decide +kernel) (by decide +kernel) rfl rfl rfl) (eZ (pv 2)) (λ_ _ _ _ _ _=>(pgN 0 aaR)) (aI rfl) (λ_ _ _ _ _ _=>fP (PW.pt (sU (bn fA (aF aL (pv 0) ai (λ_ _=>rfl)) ai (bc _)) (m8 (bn pc (pv 1) ai (bc _)))))) (λ_ _ _ _ _ _=>(pv 0)))
    (ad (au 6 cH.nd (aF bu (pv 5) (aB bK (aB cG (pv 0) ai) (aH aA rfl T.n_len XT (aa (pv 5) ab))) (λ_ _=>rfl)))
    (ad (dq (i:=7) (N:=[WT "j",WT "outs",WT "states",WT "kids",WT "cell",WT "deep"]) (js:=[none,some 2,some 3,some 4,some 0,some 1]) (g:=(aq 0)) (tt:=bw) (te:=(cO (gj _) [] E0 (aG (cO dC [] E0 (aG (aX 4) (aG (aX 0) cC))) (aG (tOp (rI0 λi j=>.int (i - j)) (aX 5) (tC (.int 1))) (aG (aX 1) (aG (aX 2) (aG (aX 3) cC))))))) cH.nd rfl (Or.inl rfl) rfl (bY rfl (by decide +kernel) (by decide +kernel) rfl rfl rfl) (bA rfl T.n_range (aa (aF aL (pv 6) ai (λ_ _=>rfl)) ab)) (λ_ _ _ _ _ _=>(pgN 0 abZ)) (aI rfl) (λ_ _ _ _ _ _=>bF) (λ_ _ _ _ _ _=>(eO (ih) (hr.mono (WY _)) rfl T.g__law_pattern.m T.g__law_pattern.F.kp T.g__law_pattern.b .nil gx (aa (pcF T.g__law_mixed (cE T) hr (aa (pv 4) (aa (pv 0) ab))) (aa (aB qi (pv 5) ai) (aa (pv 1) (aa (pv 2) (aa (pv 3) ab))))))))
    (af (az (aB dN (aD (aa (aF aL (pv 6) ai (λ_ _=>rfl)) ab)) (bh ba rfl T.n_tuple Yg (aa (pv 7) ab))))))))),?_⟩
   try dsimp only[AA,Ae]
   refine ci (λAb H'=>Ab=[some (.int c),some (.int d),some (.ref oa),some (.int S),some (.int kd),none,none,none]/\H=H') (λkk AW=>?_) ?_
   .refine ce (λb H'=>An2 (H=H') ((b=true->0<S/\0<kd))) (λk2 Bj=>?_) (λH' hb=>?_) (λH' hb=>?_)
    .refine⟨_,rfl,_,rfl,_,_,rfl,rfl,.inl ⟨by omega,by omega⟩,_,_,rfl,rfl,_,rfl,?_⟩;refine cT (λcc=>?_) (λcc=>Bj _ _ ⟨rfl,λz=>by cases z⟩);refine⟨_,rfl,_,_,rfl,rfl,(by show(0:Int)<5;decide),_,_,rfl,rfl,_,rfl,Bj _ _ ⟨rfl,λ_=>?_⟩⟩;have h1:0<S * kd:=e! cc;have h2:S≠0:=λz=>by rw[z,Int.zero_mul]at h1;omega
     have h3:kd≠0:=λz=>by rw[z,Int.mul_zero]at h1;omega
     omega
    .obtain⟨rfl,hb⟩:=hb;obtain⟨Lk,MT⟩:=hb rfl;have u0:=Yo (c / 5) (show S≠0 by omega);have u1:=Yr (c / 5) Lk;have v0:=Yo (c / 5 / S) (show kd≠0 by omega);have v1:=Yr (c / 5 / S) MT;refine⟨_,rfl,_,_,rfl,rfl,⟨by decide,by decide⟩,_,rfl,_,_,rfl,rfl,Lk,_,rfl,_,_,rfl,rfl,⟨by decide,by decide⟩,_,rfl,_,_,rfl,rfl,⟨Lk,by omega⟩,_,rfl,_,_,rfl,rfl,MT,lnE rfl,λr BN=>?_⟩;refine q r (.call (c / 5%S) (c / 5 / S%kd)) _ (ae BN _) (by rw[At];exact ac) (PB.call hW (by rw[A!];exact⟨u0,u1,v0,v1⟩))
    .obtain⟨rfl,_⟩:=hb;exact AW _ _ ⟨rfl,rfl⟩
   rintro Ab H' ⟨rfl,rfl⟩
   try dsimp only[aq]
   have CN:outs.length=AG.length:=W5 Bo;have S5:=g.le;obtain⟨kz,JV,HZ⟩:=g.zero;refine⟨_,rfl,oa,rfl,⟨_,n! D0⟩,gw (K:=K) (λk=>decide (q! k.2=q! 0) ||decide (0<d)) D0 Bo (by omega) (λz ka H2 R sm hz r=>?_) (λka H2 R r=>⟨_,rfl,r⟩) (λD bs H2 hD e' Co S6 Ar=>?_)⟩
   .refine⟨_,rfl,ka,_,1,_,rfl,rfl,n! hz,at1,rfl,_,rfl,?_⟩;refine cT (λc=>?_) (λc=>?_)
    .rw[c]at r;exact r
    .rw[Yj.mpr c]at r;exact⟨_,rfl,_,_,rfl,rfl,_,rfl,r⟩
   have Co:=Co ⟨kz,JV,by rw[HZ];rfl⟩;have s2:k! H H2:=by rw[e'];exact ae hD _
   have eD:H2 D=some (.lst (bs.map λz=>i! z.2)):=by rw[e'];exact ac
   clear e';have DS:0<((bs.map λz=>i! z.2).length:Int):=by rw[WO];omega
   have y0:=Yo (c / 7) (show((bs.map λz=>i! z.2).length:Int)≠0 by omega);have y1:=Yr (c / 7) DS;refine hid λZZ kZ=>?_;obtain⟨z,hz⟩:∃z,bs[(c / 7%((bs.map λz=>i! z.2).length:Int)).toNat]?=some z:=⟨_,WR (by rw[WO]at y1 |-;omega)⟩;obtain⟨AE,gp,CZ⟩:=Ar z (WU hz);obtain⟨k0,ka⟩:=z;refine kZ ?_;dsimp only at AE gp CZ hz;have BS:=g.num k0 AE
   have MU:k0.2=0\/0<d:=by
    rcases Bool.or_eq_true .. |>.mp gp with h|h
    .exact .inl (V.int.inj (e! h))
    .exact .inr (e! h)
   try dsimp only[aq]
   refine⟨_,rfl,_,rfl,_,_,rfl,rfl,⟨by decide,by decide⟩,_,rfl,D,_,rfl,.inl (l! eD),_,_,rfl,rfl,DS,D,_,_,.ref ka,rfl,rfl,l! eD,at_nonneg y0 (gmE hz),?_⟩
   try dsimp only[aq]
   have EO:=s2 _ _ CZ;refine⟨_,rfl,ka,_,1,_,rfl,rfl,n! EO,at1,k0.2,rfl,by omega,by omega,?_⟩;intro Dl Ea;refine⟨k0.2.toNat,λj H4=>An3 (j<=k0.2.toNat) (k! H2 H4) (Ex2 λ(as:List WS)(ts:List Th)=>An4 (H4 Dl=some (.lst (as.map i!))) (Ats H4 ts as) (ts.length=j) (∀t∈ts,PB outs S kd W (d.toNat - 1) t)),⟨Xi _,ae Ea _,[],[],ac,.nil,rfl,λt h=>by cases h⟩,?_⟩;rintro j H4 ⟨hj,s4,as,ts,DE,BZ,AB,Aa⟩;have Bb:=BZ.length;by_cases Cc:j=k0.2.toNat
   .left;refine⟨(by show k0.2.toNat<=j;omega),?_⟩
    try dsimp only[aq]
    refine⟨_,rfl,ka,_,0,.str k0.1,rfl,rfl,n! (s4 _ _ EO),at0,lnE rfl,λma FP=>?_⟩;refine gU FP λH3 s3 e3=>?_;refine⟨_,rfl,Dl,_,rfl,.inl ⟨l! (s3 _ _ DE),λtp B4=>?_⟩⟩;refine gU B4 λH5 s5 e5=>?_;refine pX (s5 _ _ e3) e5 (by rw[WO];show 1+as.length<=1000000;omega) λp H6 s6 e6=>?_;have La:=s3.trans (s5.trans s6);have hk:(k0.1,(ts.length:Int))=k0:=by rw[AB,Cc,Yu BS.1]
    refine q p (.knot k0.1 ts) H6 (s2.trans (s4.trans La)) ?_ ?_
    .rw[At];exact⟨pe (g.low k0 AE).1,as,e6,BZ.mono (j! La)⟩
    .rcases MU with h0|hd
     .have hn:ts=[]:=X6.mp (by omega);subst hn;exact PB.leaf _ hW (by rw[<-h0];exact AE)
     .obtain⟨m,hm⟩:∃m,d.toNat=m+1:=⟨d.toNat - 1,by omega⟩;rw[hm,Nat.add_sub_cancel]at Aa;rw[hm];have:=E8 k0 AE;exact PB.over hW (by rw[hk];exact AE) (by omega) Aa
   .right;have Ay:j<k0.2.toNat:=by omega
    have hd:0<d:=by rcases MU with h|h <;> omega
    refine⟨Ay,(by show j<k0.2.toNat;exact Ay),?_⟩;rintro x' H5 ⟨q1,q2⟩;have Qo:H5=H4:=q1;subst Qo;have Qp:x'=q! (0+(j:Int)):=q2;subst Qp;obtain⟨m,rfl⟩:∃m,n=m+1:=⟨n - 1,by omega⟩;refine⟨_,rfl,_,rfl,c,_,rfl,λz _=>?_⟩;refine⟨_,rfl,_,_,rfl,rfl,_,rfl,_,rfl,_,rfl,z,d - 1,oa,AG,outs,S,kd,W,rfl,(s2.trans s4) _ _ D0,Bo.mono (j! (s2.trans s4)),g,hW,E8,S0,MR,Lj,MS,by omega,by omega,by omega,λr t H6 s6 Ll MV=>?_⟩;have Lm:=s6 _ _ DE;refine⟨_,Lm,lbE (by omega),Ay,am (s4.trans s6) Ea,as++[r],ts++[t],uAE,?_,by rw[Xg,AB];rfl,λu hu=>?_⟩
    .have k7:KT H6 (upd H6 Dl (.lst (as.map i!++[.ref r]))):=aK Lm;exact Ats.append (BZ.mono ((j! s6).trans k7)) (.cons (Ll.mono k7) .nil)
    .rcases Xq.mp hu with hu|hu
     .exact Aa u hu
     .rw[W7.mp hu];rw[show(d - 1).toNat=d.toNat - 1 by omega]at MV;exact MV
theorem xO{k:Int}{t:Th}(hW:1<=W)(h:PB outs S k W 0 t):∀{d:Nat},PB outs S k W d t
 |0=>h
 |_+1=>(xO hW h).up hW (Zw _) (Zw _)
theorem vJ:∀{bs:List ((Xk×Int)×WS)},(∀z∈bs,KAt H z.1 z.2)->KsAt H (bs.map (·.1)) (bs.map (·.2))
 | [],_=>.nil
 |z::bs,h=>.cons (h z (Xh ..)) (vJ λy hy=>h y (Xf _ hy))
inductive gu(vs:List V)(H:Hp)(Q:VK)(_E:XK):Prop
 |mk (e c d:Int) (oa:WS) (AG:List WS) (outs:List (Xk×Int)) (S kd:Int) (W:Nat) (An:vs=[.int e,.int c,.int d,.ref oa,.int S,.int kd]) (Ao:H oa=some (.tup (AG.map i!))) (Au:KsAt H outs AG) (AD:cS outs) (AR:1<=W) (BX:(∀z∈outs,z.2<=(W:Int))) (D5:0<=S) (Eh:S<=20) (Gq:0<=kd) (IF:kd<=3) (HI:0<=d) (Lb:d<=2) (Qf:∀(r:WS)(t:Th)(H':Hp),k! H H'->At H' t r->PB outs S kd W (d.toNat+1) t->Q (.ref r) H'):gu  vs H Q _E
def oj:Sp:=gu
theorem oi:aO P w K mg base CX0 5 T.g__law_capped.f T.g__law_capped.d ["seed","cell","deep","outs","states","kids"] oj:=by
 refine T.g__law_capped.F.okA cr λAi A outer s H vs Q E hr h=>?_;obtain⟨e,c,d,oa,AG,outs,S,kd,W,rfl,D0,Bo,g,hW,E8,S0,MR,Lj,MS,d0,d2,q⟩:=h
 refine⟨_,(ad (dq (i:=6) (N:=[WT "kind",WT "seed"]) (js:=[none,some 0]) (g:=(aq 0)) (tt:=(tOr (kW (tOp (rI0 λi j=>.bl (decide (j<i))) (tOp (yl K) (aX 0) (tC (.int 1))) (tC (.int 0)))) (kW (tOp (rEq) (tOp (rI (λ_ j=>0<j) λi j=>.int (i%j)) (aX 1) (tC (.int 5))) (tC (.int 1)))))) (te:=(aX 0)) cr.nd rfl (Or.inl rfl) rfl (bY rfl (by decide +kernel) (by decide +kernel) rfl rfl rfl) (eZ (pv 3)) (λ_ _ _ _ _ _=>(pgN 0 ab8)) (aI rfl) (λ_ _ _ _ _ _=>fP (PW.pt (sU (bn pc (aF aL (pv 0) ai (λ_ _=>rfl)) ai (bc _)) (m8 (bn fA (aB bK (pv 1) ai) ai (bc _)))))) (λ_ _ _ _ _ _=>(pv 0)))
  (ad (cB (PW.pt (sU (bn fA (aB bK (pv 0) ai) ai (bc _)) (m8 (bn (aai (B:=150) (jE hr)) (pv 6) (bx ab) (bc _))))) (af (az (pcF T.g__law_pattern (b9 T 3) hr (aa (pv 1) (aa (pv 2) (aa (pv 3) (aa (pv 4) (aa (pv 5) ab)))))))) bN)
  (ad (au 7 cr.nd (aF bu (pv 6) (aB bK (aB cG (pv 0) ai) (aH aA rfl T.n_len XT (aa (pv 6) ab))) (λ_ _=>rfl)))
  (ad (au 8 cr.nd (bx ab))
  (ad (bE Xz rfl (bA rfl T.n_range (aa (aF aL (pv 7) ai (λ_ _=>rfl)) ab)) (pgN 9 cr.nd) (ad (aU (bS Xd Xx Xw aS (pv 8) (aa (pcF T.g__law_pattern (b9 T 3) hr (aa (pcF T.g__law_mixed (cE T) hr (aa (pv 1) (aa (pv 9) ab))) (aa (pv 2) (aa (pv 3) (aa (pv 4) (aa (pv 5) ab)))))) ab)))
  (af (cB (bn fA (aB bK (aB cG (pv 0) ai) ai) (pv 9) (bc _)) (af (fg (pcF T.g__law_pattern (b9 T 3) hr (aa (pcF T.g__law_mixed (cE T) hr (aa (pv 0) (aa (pv 9) ab))) (aa ai (aa (pv 3) (aa ai (aa ai ab)))))) (ye (pv 8) (pv 9) set_list))) bN))))
  (af (az (aB dN (aD (aa (aF aL (pv 7) ai (λ_ _=>rfl)) ab)) (bh ba rfl T.n_tuple Yg (aa (pv 8) ab)))))))))),?_⟩
 try dsimp only[AA,Ae]
 have CN:outs.length=AG.length:=W5 Bo;have S5:=g.le;refine⟨_,rfl,oa,rfl,⟨_,n! D0⟩,gw (K:=K) (λk=>decide (0<k.2) ||decide (q! (e%5)=q! 1)) D0 Bo (by omega) (λz ka H2 R sm hz r=>?_) (λka H2 R r=>⟨_,rfl,r⟩) (λD bs H2 hD e' _ S6 Ar=>?_)⟩
 .refine⟨_,rfl,ka,_,1,_,rfl,rfl,n! hz,at1,_,_,rfl,rfl,_,rfl,?_⟩;refine cT (λc=>?_) (λc=>?_)
  .rw[c]at r;exact r
  .rw[Yj.mpr c]at r;exact⟨_,rfl,_,_,rfl,rfl,(by show(0:Int)<5;decide),rfl,_,rfl,r⟩
 have s2:k! H H2:=by rw[e'];exact ae hD _
 have eD:H2 D=some (.lst (bs.map λz=>i! z.2)):=by rw[e'];exact ac
 clear e'
 try dsimp only[aq]
 refine ci (λAb H3=>Ab=[some (.int e),some (.int c),some (.int d),some (.ref oa),some (.int S),some (.int kd),some (.ref D),none,none,none]/\k! H2 H3/\bs≠[]) (λkk AW=>?_) ?_
 .refine ce (λb H3=>An2 (k! H2 H3) ((b=false->bs≠[]))) (λk2 Bj=>?_) (λH3 hb=>?_) (λH3 hb=>?_)
  .refine⟨_,rfl,_,_,rfl,rfl,(by show(0:Int)<3;decide),rfl,_,rfl,?_⟩;refine cT (λcc=>Bj _ _ ⟨.refl _,λz=>by cases z⟩) (λcc=>?_);refine⟨_,rfl,lnE rfl,λnl O1=>?_⟩;refine gU O1 λH3 s3 e3=>?_;have C2:=vJ (H:=H3) (bs:=bs) λz hz=>(j! (s2.trans s3)) _ _ (Ar z hz).2.2;have S7:=aaE C2;rw[show(bs.map (·.2)).map i!=bs.map λz=>i! z.2 by rw[Y1];rfl]at S7;refine⟨D,nl,_,_,_,[],rfl,rfl,l! (s3 _ _ eD),l! e3,S7,.nil,Xv (sF _) (by decide),λb hb=>⟨_,rfl,Bj _ _ ⟨s3,λhf hn=>?_⟩⟩⟩;rw[hf]at hb;exact W8 (hb.mpr (by rw[hn];rfl))
  .obtain⟨s3,_⟩:=hb;have D':=s2.trans s3;refine⟨_,rfl,_,rfl,_,rfl,_,rfl,_,rfl,c,d,oa,AG,outs,S,kd,W,rfl,D' _ _ D0,Bo.mono (j! D'),g,hW,E8,S0,MR,Lj,MS,d0,d2,by omega,λr t H4 s4 KP Wy=>?_⟩;exact q r t H4 (D'.trans s4) KP (Wy.up hW (Zw _) (Zw _))
  .obtain⟨s3,hb⟩:=hb;exact AW _ _ ⟨rfl,s3,hb rfl⟩
 rintro Ab H3 ⟨rfl,s3,Av⟩;have Co:=List.length_pos_iff.mpr Av
 have DS:0<((bs.map λz=>i! z.2).length:Int):=by
  rw[WO];omega
 have y0:=Yo (e / 3) (show((bs.map λz=>i! z.2).length:Int)≠0 by omega);have y1:=Yr (e / 3) DS;refine hid λZZ kZ=>?_;obtain⟨z,hz⟩:∃z,bs[(e / 3%((bs.map λz=>i! z.2).length:Int)).toNat]?=some z:=⟨_,WR (by rw[WO]at y1 |-;omega)⟩;obtain⟨AE,_,CZ⟩:=Ar z (WU hz);obtain⟨k0,ka⟩:=z;refine kZ ?_;dsimp only at AE CZ hz;have BS:=g.num k0 AE;have D':=s2.trans s3;have S8:=s3 _ _ eD;have Ln:=D' _ _ CZ;refine⟨_,rfl,_,rfl,_,_,rfl,rfl,⟨by decide,by decide⟩,_,rfl,D,_,rfl,.inl (l! S8),_,_,rfl,rfl,DS,D,_,_,.ref ka,rfl,rfl,l! S8,at_nonneg y0 (gmE hz),?_⟩
 try dsimp only[aq]
 refine⟨lnE rfl,λpl AS=>?_⟩;refine gU AS λH4 s4 e4=>?_;have e4:H4 pl=some (.lst (([]:List WS).map i!)):=e4
 try dsimp only[aq]
 refine⟨_,rfl,ka,_,1,_,rfl,rfl,n! (s4 _ _ Ln),at1,k0.2,rfl,by omega,by omega,?_⟩
 refine dP (n:=k0.2.toNat) (λj Z H5=>Ex3 λ(jv:Option V)(as:List WS)(ts:List Th)=>An6 (Z=[some (.int e),some (.int c),some (.int d),some (.ref oa),some (.int S),some (.int kd),some (.ref D),some (.ref ka),some (.ref pl),jv]) (k! H3 H5) (H5 pl=some (.lst (as.map i!))) (Ats H5 ts as) (ts.length=j) (∀t∈ts,PB outs S kd W d.toNat t))
  ⟨none,[],[],rfl,s4,e4,.nil,rfl,λt h=>by cases h⟩ ?_ ?_
 .rintro j Z H5 hj ⟨jv,as,ts,rfl,s5,e5,BZ,AB,Aa⟩;have Ay:j<k0.2.toNat:=hj;have Bb:=BZ.length;have IG:=D'.trans s5
  try dsimp only[aq]
  refine ci (λAb H6=>Ex2 λ(as:List WS)(ts:List Th)=>An6 (Ab=[some (.int e),some (.int c),some (.int d),some (.ref oa),some (.int S),some (.int kd),some (.ref D),some (.ref ka),some (.ref pl),some (.int (0+(j:Int)))]) (k! H3 H6) (H6 pl=some (.lst (as.map i!))) (Ats H6 ts as) (ts.length=j+1) (∀t∈ts,PB outs S kd W d.toNat t)) (λkk AW=>?_) ?_
  .refine⟨_,rfl,.inl ⟨rfl,_,l! e5⟩,_,rfl,_,rfl,c,_,rfl,λz _=>?_⟩;refine⟨_,rfl,_,rfl,_,rfl,_,rfl,z,d,oa,AG,outs,S,kd,W,rfl,IG _ _ D0,Bo.mono (j! IG),g,hW,E8,S0,MR,Lj,MS,d0,d2,by omega,λr t H6 s6 Ll MV=>?_⟩;have e6:=s6 _ _ e5;refine⟨pl,_,_,rfl,rfl,e6,lbE (by omega),?_⟩;have k7:KT H6 (upd H6 pl (.lst (as.map i!++[.ref r]))):=aK e6;refine AW _ _ ⟨as++[r],ts++[t],rfl,am (s5.trans s6) AS,uAE,Ats.append (BZ.mono ((j! s6).trans k7)) (.cons (Ll.mono k7) .nil),by rw[Xg,AB];rfl,λu hu=>?_⟩;rcases Xq.mp hu with hu|hu
   .exact Aa u hu
   .rw[W7.mp hu];exact MV
  rintro Ab H6 ⟨as,ts,rfl,s6,e6,BZ,AB,Aa⟩;have Bb:=BZ.length;have MN:=D'.trans s6;refine ce (λb H7=>H6=H7) (λk2 Bj=>?_) (λH7 hb=>?_) (λH7 hb=>?_)
  .exact⟨_,rfl,_,_,rfl,rfl,⟨by decide,by decide⟩,_,_,rfl,rfl,(by show(0:Int)<3;decide),_,rfl,rfl,_,rfl,Bj _ _ rfl⟩
  .subst hb;refine⟨_,rfl,_,rfl,e,_,rfl,λz _=>?_⟩;refine⟨_,rfl,z,0,oa,AG,outs,0,0,W,rfl,MN _ _ D0,Bo.mono (j! MN),g,hW,E8,by decide,by decide,by decide,by decide,by decide,by decide,by decide,λr t H7 s7 Qd Qn=>?_⟩;have e7:=s7 _ _ e6;refine⟨_,rfl,_,rfl,pl,_,_,j,rfl,rfl,e7,?_,?_⟩
   .unfold ixN;rw[b! (by omega),b! (by rw[WO];omega)];simp
   .have k8:KT H7 (upd H7 pl (.lst ((as.map i!).set j (.ref r)))):=aK e7;refine⟨_,as.set j r,ts.set j t,rfl,am (s6.trans s7) AS,by rw[ac,List.map_set],?_,by rw[List.length_set];exact AB,λu hu=>?_⟩
    .exact Ats.set j (BZ.mono ((j! s7).trans k8)) (Qd.mono k8)
    .rcases List.mem_or_eq_of_mem_set hu with hu|rfl
     .exact Aa u hu
     .refine xO hW ?_;exact Qn.wide S0 Lj
  .subst hb;exact⟨_,as,ts,rfl,s6,e6,BZ,AB,Aa⟩
 .rintro Z H5 ⟨jv,as,ts,rfl,s5,e5,BZ,AB,Aa⟩;have Bb:=BZ.length
  try dsimp only[aq]
  refine⟨_,rfl,ka,_,0,.str k0.1,rfl,rfl,n! (s5 _ _ Ln),at0,lnE rfl,λma FP=>?_⟩;refine gU FP λH6 s6 e6=>?_;refine⟨_,rfl,pl,_,rfl,.inl ⟨l! (s6 _ _ e5),λtp B4=>?_⟩⟩;refine gU B4 λH7 s7 e7=>?_;refine pX (s7 _ _ e6) e7 (by rw[WO];show 1+as.length<=1000000;omega) λp H8 s8 e8=>?_;have DG:=s6.trans (s7.trans s8);have hk:(k0.1,(ts.length:Int))=k0:=by rw[AB,Yu BS.1]
  have:=E8 k0 AE;refine q p (.knot k0.1 ts) H8 (D'.trans (s5.trans DG)) ?_ (PB.over hW (by rw[hk];exact AE) (by omega) Aa);rw[At];exact⟨pe (g.low k0 AE).1,as,e8,BZ.mono (j! DG)⟩
inductive gJ(K:WQ)(vs:List V)(H:Hp)(Q:VK)(_E:XK):Prop
 |mk (a:WS) (ns:List Int) (M:Nat) (An:vs=[.ref a,.int (M:Nat)]) (Ao:SqL K H a (ns.map q!)) (Au:ns.length<=63) (AD:1<=M) (AR:M<=100) (BX:∀(r:WS)(ds:List Int)(H':Hp),k! H H'->H' r=some (.lst (ds.map q!))->ds.length=M->Q (.ref r) H'):gJ K vs H Q _E
def oF(K:WQ):Sp:=gJ K
theorem oB:aO P w K mg base CX0 1 T.g__law_cells.f T.g__law_cells.d ["script","many"] (oF K):=by
 refine T.g__law_cells.F.okA dl λAi A outer s H vs Q E hr h=>?_;obtain⟨a,ns,M,rfl,hS,CC,Lo,S9,q⟩:=h
 refine⟨_,(ad (dq (i:=2) (N:=[WT "k"]) (js:=[none]) (g:=(aq 0)) (tt:=bw) (te:=(tOp (rI0 λi j=>.int (i+j)) (tC (.int 11)) (tOp (rI CMul λi j=>.int (i * j)) (tC (.int 5)) (aX 0)))) dl.nd rfl (Or.inl rfl) rfl (bY rfl (by decide +kernel) (by decide +kernel) rfl rfl rfl) (bA rfl T.n_range (aa (pv 1) ab)) (λ_ _ _ _ _ _=>(pgN 0 acB)) (aI rfl) (λ_ _ _ _ _ _=>bF) (λ_ _ _ _ _ _=>(aB df ai (aB eI ai (pv 0)))))
  (ad (bE Xz rfl (w6 rfl T.n_range (aa ai (aa (aH aA rfl T.n_len XT (aa (pv 0) ab)) ab))) (pgN 3 dl.nd) (ad (au 4 dl.nd (aB eI (aF bu (pv 0) (pv 3) (λ_ _=>rfl)) (aB df ai (aB cG (pv 3) (pv 1)))))
  (af (fg (aB df (aF bu (pv 2) (aB bK (pv 3) (pv 1)) (λ_ _=>rfl)) (pv 4)) (ye (pv 2) (aB bK (pv 3) (pv 1)) set_list)))))
  (af (az (pv 2))))),?_⟩
 try dsimp only[AA,Ae]
 refine⟨_,rfl,(M:Int),rfl,by omega,by omega,vp (xs:=(XG M).map λ(i:Nat)=>q! (0+(i:Int))) ((XG M).map λ(i:Nat)=>11+5 * (i:Int)) q! (by rw[WO,WO]) (by rw[WO,Xo];omega) (λi Hx sx hi=>by rw[WO,Xo]at hi;show i<((M:Nat):Int).toNat;omega) (λHx sx=>by rw[WO,Xo];show((M:Nat):Int).toNat<=M;omega) (λi Hx x Hy sx hi hy=>⟨hy.1,?_⟩) (λi x z Hx R W' hx hz sx hR=>?_) (λcl H1 Bx s1 E6=>?_)⟩
 .rw[WO,Xo]at hi;rw[hy.2,W0,X4 hi];rfl
 .have hi:i<M:=by
   have:=(glE hz);rw[WO,Xo]at this;exact this
  rw[W0,X4 hi]at hx hz;cases hx;cases hz;refine⟨_,rfl,_,_,rfl,rfl,.inl ⟨by decide,by decide⟩,_,_,rfl,rfl,?_⟩;rw[YA];exact hR _ (.refl _)
 try dsimp only[aq]
 have Lk:=s1.seq hS;refine⟨_,rfl,a,_,rfl,.inl Lk,2,_,rfl,⟨by decide,by decide,by omega,by rw[WO];omega⟩,?_⟩
 refine dP (lo:=2) (n:=((((ns.map q!).length:Nat):Int) - 2).toNat) (λi Z H2=>Ex3 λ(kv mv:Option V)(ds:List Int)=>An4 (Z=[some (.ref a),some (.int (M:Nat)),some (.ref cl),kv,mv]) (k! H H2) (H2 cl=some (.lst (ds.map q!))) (ds.length=M))
  ⟨none,none,_,rfl,s1,E6,by rw[WO,Xo]⟩ ?_ ?_
 .rintro i Z H2 hi ⟨kv,mv,ds,rfl,s2,e2,Fl⟩
  have Be:2+i<ns.length:=by
   have h1:i<((((ns.map q!).length:Nat):Int) - 2).toNat:=hi;rw[WO]at h1;omega
  have GB:(0:Int)<(M:Nat):=by omega
  have y0:=Yo (2+(i:Int)) (show((M:Nat):Int)≠0 by omega);have y1:=Yr (2+(i:Int)) GB;have w0:=Int.ediv_nonneg (show 0<=2+(i:Int)by omega) (Int.le_of_lt GB);have w1:(2+(i:Int)) / (M:Nat)<=2+(i:Int):=Int.ediv_le_self _ (by omega);refine hid λZZ kZ=>?_;obtain⟨ix,Kw⟩:∃ix:Nat,(2+(i:Int))%(M:Nat)=(ix:Int):=⟨_,(Yu y0).symm⟩;obtain⟨c,hc⟩:∃c,ds[ix]?=some c:=⟨_,WR (by omega)⟩;obtain⟨x,hx⟩:∃x,ns[2+i]?=some x:=⟨_,WR Be⟩;refine kZ ?_;have DO:=s2.seq hS;refine⟨_,rfl,_,rfl,a,_,_,.int x,rfl,rfl,DO,at_nonneg (by omega) (by rw[show(2+(i:Int)).toNat=2+i by omega,W0,hx];rfl),?_⟩;refine⟨_,rfl,_,rfl,_,_,rfl,rfl,⟨GB,by omega⟩,_,_,rfl,rfl,_,_,rfl,rfl,.inr ⟨by omega,by omega⟩,?_⟩
  try dsimp only[aq]
  refine⟨_,rfl,_,rfl,_,rfl,_,_,rfl,rfl,GB,cl,_,_,.int c,rfl,rfl,l! e2,at_nonneg y0 (by rw[Kw,XM,W0,hc];rfl),?_⟩;refine⟨_,rfl,_,_,rfl,rfl,?_⟩;refine⟨_,rfl,_,rfl,_,rfl,_,_,rfl,rfl,GB,cl,_,_,ix,rfl,rfl,e2,?_,?_⟩
  .rw[Kw];unfold ixN;rw[b! (by omega),b! (by rw[WO];omega)];simp
  .refine⟨_,_,ds.set ix (c+x * (1+(2+(i:Int)) / (M:Nat))),rfl,am s2 Bx,?_,by rw[List.length_set];exact Fl⟩;rw[ac,List.map_set]
 .rintro Z H2 ⟨kv,mv,ds,rfl,s2,e2,Fl⟩;exact⟨_,rfl,q cl ds H2 s2 e2 Fl⟩
def vT:List (List Int):=[[0,1],[0,2],[0,0,2],[0,1,2],[1,0],[2,0,0],[0,1,1],[0,3]]
def vz:List (List Int):=[[0,2],[0,1,2],[0,0,2],[2,0,1,0],[0,0,1],[0,0,0],[0,1],[0,3,1]]
def vj(z:List Int):Prop:=1<=z.length/\z.length<=5/\(∀m∈z,0<=m/\m<=3)/\(0:Int)∈z
theorem rf:∀z∈vT,vj z:=by unfold vj vT;decide
theorem rV:∀z∈vz,vj z:=by unfold vj vz;decide
inductive iu(K:WQ)(vs:List V)(H:Hp)(Q:VK)(_E:XK):Prop
 |mk (a:WS) (ns:List Int) (An:vs=[.ref a]) (Ao:SqL K H a (ns.map q!)) (Au:ns.length<=63) (AD:∀(b ia oa ha ra:WS)(Ag AG AM:List WS)(ins outs:List (Xk×Int))(W D:Nat)(head:Th)(rows:List (List Th))(H':Hp),k! H H'->BookAt H' ins outs head rows b ia oa ha ra Ag AG AM->Drw ins outs W D head rows->Q (.ref b) H'):iu K vs H Q _E
def qf(K:WQ):Sp:=iu K
theorem qI:aO P w K mg base CX0 6 T.g__law_book.f T.g__law_book.d ["script"] (qf K):=by
 refine T.g__law_book.F.okA aJ λAi A outer s H vs Q E hr h=>?_;obtain⟨a,ns,rfl,hS,CC,q⟩:=h
 refine⟨_,(@ad _ _ _ _ _ (au 1 aJ.nd (pcF T.g__law_cell_at (dF T) hr (aa (pv 0) (aa ai ab))))
  (@ad _ _ _ _ _ (@oP _ 2 _ _ _ _ _ _ _ [([(0,_,_),(1,_,_)],_),([(0,_,_),(2,_,_)],_),([(0,_,_),(0,_,_),(2,_,_)],_),([(0,_,_),(1,_,_),(2,_,_)],_),([(1,_,_),(0,_,_)],_),([(2,_,_),(0,_,_),(0,_,_)],_),([(0,_,_),(1,_,_),(1,_,_)],_),([(0,_,_),(3,_,_)],_)] aJ.nd rfl (Or.inl rfl) (Or.inl rfl) (aB bK (pv 1) ai) (λ_ _=>rfl))
  (@ad _ _ _ _ _ (au 3 aJ.nd (pcF T.g__law_kinds (iH T) hr (aa (aB cG (pv 1) ai) (aa (pv 2) ab))))
  (@ad _ _ _ _ _ (@oP _ 2 _ _ _ _ _ _ _ [([(0,_,_),(2,_,_)],_),([(0,_,_),(1,_,_),(2,_,_)],_),([(0,_,_),(0,_,_),(2,_,_)],_),([(2,_,_),(0,_,_),(1,_,_),(0,_,_)],_),([(0,_,_),(0,_,_),(1,_,_)],_),([(0,_,_),(0,_,_),(0,_,_)],_),([(0,_,_),(1,_,_)],_),([(0,_,_),(3,_,_),(1,_,_)],_)] aJ.nd rfl (Or.inl rfl) (Or.inl rfl) (aB bK (aB cG (pv 1) ai) ai) (λ_ _=>rfl))
  (@ad _ _ _ _ _ (au 4 aJ.nd (pcF T.g__law_kinds (iH T) hr (aa (aB cG (pv 1) ai) (aa (pv 2) ab))))
  (@ad _ _ _ _ _ (au 5 aJ.nd (aB df ai (aB bK (pcF T.g__law_cell_at (dF T) hr (aa (pv 0) (aa ai ab))) ai)))
  (@ad _ _ _ _ _ (cB (bn fA (aB bK (pcF T.g__law_cell_at (dF T) hr (aa (pv 0) (aa ai ab))) ai) ai (bc _)) (af (au 5 aJ.nd ai)) bN)
  (@ad _ _ _ _ _ (cB (bn fA (aH (oV rfl) rfl T.n_max PyProof.Rows.boot_max (aa (pv 2) ab)) ai (bc _)) (af (au 5 aJ.nd (aH (wS rfl) rfl T.n_min PyProof.Rows.boot_min (aa (pv 5) (aa ai ab))))) bN)
  (@ad _ _ _ _ _ (au 6 aJ.nd (aB df ai (bh wI rfl T.n_int PyProof.Rows.boot_int (aa (gD (dH mI (pv 5) ai (bc _)) (kC (dH mI (aH (oV rfl) rfl T.n_max PyProof.Rows.boot_max (aa (pv 2) ab)) ai (bc _)))) ab))))
  (@ad _ _ _ _ _ (au 7 aJ.nd (pcF T.g__law_cells (oB T) hr (aa (pv 0) (aa (aB df ai (aB eI (pv 5) (aH aA rfl T.n_len XT (aa (pv 3) ab)))) ab))))
  (@ad _ _ _ _ _ (au 8 aJ.nd (bx ab))
  (@ad _ _ _ _ _ (bE Xz rfl (bA rfl T.n_range (aa (pv 5) ab)) (pgN 9 aJ.nd) (ad (au 10 aJ.nd (pcF T.g__law_mixed (cE T) hr (aa (aF bu (pv 7) (aB df ai (aB eI (pv 9) (aH aA rfl T.n_len XT (aa (pv 3) ab)))) (λ_ _=>rfl)) (aa ai ab))))
  (ad (au 11 aJ.nd (bx ab))
  (ad (bE Xz rfl (bA rfl T.n_range (aa (aH aA rfl T.n_len XT (aa (pv 3) ab)) ab)) (pgN 12 aJ.nd) (af (aU (bS Xd Xx Xw aS (pv 11) (aa (pcF T.g__law_capped (oi T) hr (aa (pv 10) (aa (aF bu (pv 7) (aB df (aB df ai (aB eI (pv 9) (aH aA rfl T.n_len XT (aa (pv 3) ab)))) (pv 12)) (λ_ _=>rfl)) (aa (pv 6) (aa (pv 4) (aa (pv 5) (aa (aF aL (aF aL (pv 3) (pv 12) (λ_ _=>rfl)) ai (λ_ _=>rfl)) ab))))))) ab)))))
  (af (aU (bS Xd Xx Xw aS (pv 8) (aa (bh ba rfl T.n_tuple Yg (aa (pv 11) ab)) ab))))))))
  (@af _ _ _ (az (aD (aa (pv 3) (aa (pv 4) (aa (pcF T.g__law_pattern (b9 T 3) hr (aa (aF bu (pv 7) ai (λ_ _=>rfl)) (aa (pv 6) (aa (pv 4) (aa (pv 5) (aa ai ab)))))) (aa (bh ba rfl T.n_tuple Yg (aa (pv 8) ab)) ab))))))))))))))))))),?_⟩
 try dsimp only[AA,Ae]
 refine⟨_,rfl,a,ns,0,rfl,hS,by decide,λc=>?_⟩;dsimp only[aq];refine lr (zs:=vT) (λz hz=>by have:=(rf z hz).2.1;omega) (by decide) λD as H1 s1 eD hp=>?_;have y0:=Yo c (show(8:Int)≠0 by decide);have y1:=Yr c (show(0:Int)<8 by decide);refine hid λZZ kZ=>?_;obtain⟨zA,Ta⟩:∃z,vT[(c%8).toNat]?=some z:=⟨_,WR (by show(c%8).toNat<8;omega)⟩;obtain⟨mA,Wz,WA⟩:=H! hp Ta;obtain⟨a1,a2,a3,a4⟩:=rf zA (WU Ta);refine kZ ?_;refine⟨_,rfl,_,_,rfl,rfl,(by show(0:Int)<8;decide),D,_,_,.ref mA,rfl,rfl,l! eD,at_nonneg y0 (gmE Wz),?_⟩;dsimp only[aq];refine⟨_,rfl,_,_,rfl,rfl,⟨by decide,by decide⟩,_,rfl,_,mA,zA,rfl,WA,a2,λia Ag H2 s2 WB MQ=>?_⟩;dsimp only[aq];refine lr (zs:=vz) (λz hz=>by have:=(rV z hz).2.1;omega) (by decide) λD2 as2 H3 s3 ID Bm=>?_;have x0:=Yo (c / 8) (show(8:Int)≠0 by decide);have x1:=Yr (c / 8) (show(0:Int)<8 by decide);refine hid λZZ kZ=>?_;obtain⟨zB,Tb⟩:∃z,vz[(c / 8%8).toNat]?=some z:=⟨_,WR (by show(c / 8%8).toNat<8;omega)⟩;obtain⟨mB,WC,Tc⟩:=H! Bm Tb;obtain⟨b1,b2,b3,b4⟩:=rV zB (WU Tb);refine kZ ?_;refine⟨_,rfl,_,_,rfl,rfl,⟨by decide,by decide⟩,_,_,rfl,rfl,(by show(0:Int)<8;decide),D2,_,_,.ref mB,rfl,rfl,l! ID,at_nonneg x0 (gmE WC),?_⟩;dsimp only[aq];refine⟨_,rfl,_,_,rfl,rfl,⟨by decide,by decide⟩,_,rfl,_,mB,zB,rfl,Tc,b2,λoa AG H4 s4 Fd Td=>?_⟩;dsimp only[aq];have MW:=s1.trans (s2.trans (s3.trans s4));have gi:cS (mR (c / 64) zA):=pQ a1 a2 a3 a4;have go:cS (mR (c / 6656) zB):=pQ b1 b2 b3 b4;have Te:=s3.trans s4;have Lp:=Te _ _ WB;have Lq:=MQ.mono (j! Te);have Lr:=s4 _ _ Tc;have hiL:Ag.length=zA.length:=by have:=W5 MQ;rw[gR]at this;exact this.symm
 refine⟨_,rfl,a,ns,1,rfl,MW.seq hS,by decide,λc1=>?_⟩;have n0:=Yo c1 (show(5:Int)≠0 by decide);have n1:=Yr c1 (show(0:Int)<5 by decide);refine⟨_,_,rfl,rfl,(by show(0:Int)<5;decide),_,_,rfl,rfl,?_⟩;dsimp only[aq];refine ci (λAb H'=>An2 (H4=H') (Ex1 λ(N:Nat)=>An2 (N<=5) (Ab=[some (.ref a),some (.int c),some (.ref mB),some (.ref ia),some (.ref oa),some (.int (N:Nat)),none,none,none,none,none,none,none]))) (λkk AW=>?_) ?_
 .refine ce (λb H'=>H4=H') (λk2 Bj=>?_) (λH' hb=>?_) (λH' hb=>?_)
  .exact⟨_,rfl,a,ns,1,rfl,MW.seq hS,by decide,λc2=>⟨_,_,rfl,rfl,(by show(0:Int)<11;decide),rfl,_,rfl,Bj _ _ rfl⟩⟩
  .subst hb;exact AW _ _ ⟨rfl,0,by decide,rfl⟩
  .subst hb;exact AW _ _ ⟨rfl,(1+c1%5).toNat,by omega,by rw[Yu (by omega)];rfl⟩
 rintro Ab H' ⟨rfl,N,Lu,rfl⟩;have Tf:∀M:Int,M∈zB->(∀x∈zB,x<=M)->(M=3↔(3:Int)∈zB):=λM h1 h2=>⟨λh=>by rw[<-h];exact h1,λh=>by have:=h2 3 h;have:=(b3 M h1).2;omega⟩;have Lw:zB≠[]:=λz=>by rw[z]at b1;simp at b1
 refine ci (λAb H'=>An2 (H4=H') (Ex1 λ(N:Nat)=>An3 (N<=5) (((3:Int)∈zB->N<=2)) (Ab=[some (.ref a),some (.int c),some (.ref mB),some (.ref ia),some (.ref oa),some (.int (N:Nat)),none,none,none,none,none,none,none]))) (λkk AW=>?_) ?_
 .refine ce (λb H'=>An2 (H4=H') ((b=true↔(3:Int)∈zB))) (λk2 Bj=>?_) (λH' hb=>?_) (λH' hb=>?_)
  .refine⟨_,rfl,mB,zB,rfl,l! Lr,Lw,λM Lo Qq=>⟨rfl,_,rfl,Bj _ _ ⟨rfl,?_⟩⟩⟩;rw[<-Tf M Lo Qq];exact⟨λh=>V.int.inj (e! h),λh=>d! (by rw[h])⟩
  .obtain⟨rfl,hb⟩:=hb;refine⟨_,rfl,_,_,rfl,?_⟩;dsimp only[aq];by_cases h2:(2:Int)<(N:Nat)
   .rw[b! h2];exact AW _ _ ⟨rfl,2,by decide,λ_=>by decide,rfl⟩
   .rw[a! h2];exact AW _ _ ⟨rfl,N,Lu,λ_=>by omega,rfl⟩
  .obtain⟨rfl,hb⟩:=hb;exact AW _ _ ⟨rfl,N,Lu,λh=>g! (hb.mpr h) W8,rfl⟩
 clear Lu;rintro Ab H' ⟨rfl,N,Lu,WD,rfl⟩;refine ci (λAb H'=>An2 (H4=H') (Ex1 λ(dp:Nat)=>An2 ((dp=2/\N<3/\(3:Int)∉zB\/dp=1)) (Ab=[some (.ref a),some (.int c),some (.ref mB),some (.ref ia),some (.ref oa),some (.int (N:Nat)),some (.int (dp:Nat)),none,none,none,none,none,none]))) (λkk AW=>?_) ?_
 .refine⟨_,rfl,_,_,rfl,rfl,_,rfl,?_⟩;refine cT (λcc=>?_) (λcc=>?_)
  .have cc':((N:Nat):Int)<3:=e! cc;refine⟨_,rfl,mB,zB,rfl,l! Lr,Lw,λM Lo Qq=>⟨_,_,rfl,rfl,.inr ⟨_,rfl,_,_,rfl,rfl,?_⟩⟩⟩;dsimp only[aq];have hM:=Tf M Lo Qq;have hM3:=(b3 M Lo).2;by_cases h3:M<3
   .exact AW _ _ ⟨rfl,2,.inl ⟨rfl,by omega,λz=>by have:=hM.mpr z;omega⟩,by rw[b! (d! h3)];rfl⟩
   .exact AW _ _ ⟨rfl,1,.inr rfl,by rw[a! (λz=>h3 (e! z))];rfl⟩
  .refine .inr ⟨_,rfl,_,_,rfl,rfl,?_⟩;dsimp only[aq];exact AW _ _ ⟨rfl,1,.inr rfl,rfl⟩
 rintro Ab H' ⟨rfl,dp,Tg,rfl⟩;generalize Qr:mR (c / 64) zA=ins at gi Lq;generalize Lx:mR (c / 6656) zB=outs at go Td;have Cr:ins.length=zA.length:=by rw[<-Qr,gR]
 refine hid λZZ kZ=>?_
 obtain⟨W,MX,E8,G7⟩:∃W:Nat,1<=W/\(∀z∈outs,z.2<=(W:Int))/\(dp+1<=3/\W ^ (dp+1)<=9/\szB W (dp+1)<=15/\N * W ^ (dp+1)<=20):=by
  have hz:∀z∈outs,z.2∈zB:=λz hz=>by
   rw[<-Lx]at hz;obtain⟨i,hi⟩:=Xp.mp hz;obtain⟨h1,rfl⟩:=fz hi;show zB.getD i 0∈zB;rw[ZP,WR h1];exact List.getElem_mem h1
  by_cases h3:(3:Int)∈zB
  .have hn:=WD h3;rcases Tg with⟨_,_,h⟩|rfl
   .exact g! h3 h
   .exact⟨3,by decide,λz h=>(b3 _ (hz z h)).2,by decide,by decide,by decide,by show N * 9<=20;omega⟩
  .have h2:∀z∈outs,z.2<=((2:Nat):Int):=λz h=>by
    have h5:=hz z h;have h6:=(b3 _ h5).2;have h7:z.2≠3:=λe=>h3 (by rw[<-e];exact h5);omega
   rcases Tg with⟨rfl,hn,_⟩|rfl
   .exact⟨2,by decide,h2,by decide,by decide,by decide,by show N * 8<=20;omega⟩
   .exact⟨2,by decide,h2,by decide,by decide,by decide,by show N * 4<=20;omega⟩
 refine kZ ?_;have WE:1<=dp/\dp<=2:=by omega
 have hNL:N * Ag.length<=5 * 5:=Nat.mul_le_mul Lu (show Ag.length<=5 by omega);refine⟨_,rfl,_,rfl,_,rfl,ia,_,rfl,.inr (n! Lp),_,_,rfl,rfl,.inl ⟨by omega,by omega⟩,_,_,rfl,rfl,a,ns,1+N * Ag.length,?_,MW.seq hS,CC,by omega,by omega,λcl cs H5 s5 E6 Bx=>?_⟩
 .rw[WO,Int.natCast_add,Int.natCast_mul];rfl
 dsimp only[aq];refine⟨lnE rfl,λrl D8=>?_⟩;refine gU D8 λH6 s6 e6=>?_;have e6:H6 rl=some (.lst (([]:List WS).map i!)):=e6;dsimp only[aq];have IG:=MW.trans s5;have ER:=s5 _ _ Lp;have Ly:=Lq.mono (j! s5);have Ia:=s5 _ _ Fd;have Ib:=Td.mono (j! s5)
 have WG:∀i:Nat,i<N->1+i * Ag.length+Ag.length<=cs.length:=λi hi=>by
  have h1:(i+1) * Ag.length<=N * Ag.length:=Y4 _ hi;rw[Nat.succ_mul]at h1;omega
 refine⟨_,rfl,(N:Int),rfl,by omega,by omega,?_⟩
 refine dP (n:=((N:Nat):Int).toNat) (λi Z H7=>Ex6 λ(sv ev rv jv:Option V)(bs:List WS)(rows:List (List Th))=>An6 (Z=[some (.ref a),some (.int c),some (.ref mB),some (.ref ia),some (.ref oa),some (.int (N:Nat)),some (.int (dp:Nat)),some (.ref cl),some (.ref rl),sv,ev,rv,jv]) (k! H5 H7) (H7 rl=some (.lst (bs.map i!))) (Xs (RowAt H7) rows bs) (rows.length=i) (∀row∈rows,row.length=ins.length/\∀(j:Nat)(p:Th)(k:Xk×Int),row[j]?=some p->ins[j]?=some k->PB outs (N:Nat) k.2 W (dp+1) p))
  ⟨none,none,none,none,[],[],rfl,s6,e6,.nil,rfl,λrow h=>by cases h⟩ ?_ ?_
 .rintro i Z H7 hi ⟨sv,ev,rv,jv,bs,rows,rfl,s7,e7,Ar,D1,CT⟩
  have Be:i<N:=by
   have h1:i<((N:Nat):Int).toNat:=hi;omega
  have Bi:rows.length=bs.length:=W5 Ar;have hci:=WG i Be;obtain⟨x,hx⟩:∃x,cs[1+i * Ag.length]?=some x:=⟨_,WR (by omega)⟩;have s57:=s7
  have hsz:(1:Int)+(0+(i:Int)) * (((Ag.map i!).length:Nat):Int)=((1+i * Ag.length:Nat):Int):=by
   rw[YA,WO,Int.natCast_add,Int.natCast_mul];rfl
  refine⟨_,rfl,_,rfl,_,rfl,ia,_,rfl,.inr (n! (s7 _ _ ER)),_,_,rfl,rfl,.inl ⟨by omega,by omega⟩,_,_,rfl,rfl,cl,_,_,.int x,rfl,rfl,l! (s7 _ _ E6),by rw[hsz];exact at_nonneg (by omega) (by rw[XM,W0,hx];rfl),x,77,rfl,λsd _=>?_⟩;dsimp only[aq];refine⟨lnE rfl,λwl Ef=>?_⟩;refine gU Ef λH8 s8 e8=>?_;have e8:H8 wl=some (.lst (([]:List WS).map i!)):=e8;dsimp only[aq];have DG:=s7.trans s8;refine⟨_,rfl,ia,_,rfl,.inr (n! (DG _ _ ER)),_,rfl,by omega,by rw[WO];omega,?_⟩
  refine dP (n:=(((Ag.map i!).length:Nat):Int).toNat) (λj Z H9=>Ex3 λ(jv:Option V)(as:List WS)(ts:List Th)=>An6 (Z=[some (.ref a),some (.int c),some (.ref mB),some (.ref ia),some (.ref oa),some (.int (N:Nat)),some (.int (dp:Nat)),some (.ref cl),some (.ref rl),some (.int (0+(i:Int))),some (.int sd),some (.ref wl),jv]) (k! H7 H9) (H9 wl=some (.lst (as.map i!))) (Ats H9 ts as) (ts.length=j) (∀(j':Nat)(p:Th)(k:Xk×Int),ts[j']?=some p->ins[j']?=some k->PB outs (N:Nat) k.2 W (dp+1) p))
   ⟨jv,[],[],rfl,s8,e8,.nil,rfl,λj p k h=>by simp at h⟩ ?_ ?_
  .rintro j Z H9 hj ⟨jv,as,ts,rfl,s9,e9,BZ,AB,Aa⟩
   have Ay:j<Ag.length:=by
    have h1:j<(((Ag.map i!).length:Nat):Int).toNat:=hj;rw[WO]at h1;omega
   have Bb:=BZ.length;refine hid λZZ kZ=>?_;obtain⟨y,hy⟩:∃y,cs[1+i * Ag.length+j]?=some y:=⟨_,WR (by omega)⟩;obtain⟨k0,C0⟩:∃k0,ins[j]?=some k0:=⟨_,WR (by omega)⟩;have D9:=s7.trans s9;obtain⟨ka,CQ,CZ⟩:=H! (Ly.mono (j! D9)) C0;refine kZ ?_;have BS:=gi.num k0 (WU C0)
   have CM:(1:Int)+(0+(i:Int)) * (((Ag.map i!).length:Nat):Int)+(0+(j:Int))=((1+i * Ag.length+j:Nat):Int):=by
    rw[hsz,YA,Int.natCast_add (1+i * Ag.length)]
   refine⟨_,rfl,.inl ⟨rfl,_,l! e9⟩,_,rfl,_,rfl,_,rfl,_,rfl,ia,_,rfl,.inr (n! (D9 _ _ ER)),_,_,rfl,rfl,.inl ⟨by omega,by omega⟩,_,_,rfl,rfl,_,rfl,_,_,rfl,rfl,cl,_,_,.int y,rfl,rfl,l! (D9 _ _ E6),by rw[CM];exact at_nonneg (by omega) (by rw[XM,W0,hy];rfl),?_⟩;refine⟨_,rfl,_,rfl,_,rfl,_,rfl,_,rfl,ia,_,_,.ref ka,rfl,rfl,n! (D9 _ _ ER),at_nonneg (by omega) (by rw[show(0+(j:Int)).toNat=j by omega,W0,CQ];rfl),ka,_,1,.int k0.2,rfl,rfl,n! CZ,at1,?_⟩;refine⟨sd,y,(dp:Nat),oa,AG,outs,(N:Nat),k0.2,W,rfl,D9 _ _ Ia,Ib.mono (j! D9),go,MX,E8,by omega,by omega,BS.1,BS.2,by omega,by omega,λr t HA sA WH WI=>?_⟩;have eA:=sA _ _ e9;refine⟨wl,_,_,rfl,rfl,eA,lbE (by omega),?_⟩;have k7:KT HA (upd HA wl (.lst (as.map i!++[.ref r]))):=aK eA;refine⟨_,as++[r],ts++[t],rfl,am (s9.trans sA) Ef,uAE,Ats.append (BZ.mono ((j! sA).trans k7)) (.cons (WH.mono k7) .nil),by rw[Xg,AB];rfl,λj' p k hp hk=>?_⟩;rcases Nat.lt_or_ge j' ts.length with Am|Hi
   .rw[Yw Am]at hp;exact Aa j' p k hp hk
   .rw[Zc Hi]at hp
    have h0:j' - ts.length=0:=by
     have:=(glE hp);rw[List.length_singleton]at this;omega
    rw[h0]at hp;cases hp;rw[show j'=j by omega,C0]at hk;cases hk;exact WI
  .rintro Z H9 ⟨jv,as,ts,rfl,s9,e9,BZ,AB,Aa⟩
   have BQ:ts.length=ins.length:=by
    have h1:ts.length=(((Ag.map i!).length:Nat):Int).toNat:=AB;rw[WO]at h1;omega
   have Ti:=s9 _ _ e7;refine⟨_,rfl,.inl ⟨rfl,_,l! Ti⟩,_,rfl,wl,_,rfl,.inl ⟨l! e9,λtp B4=>?_⟩⟩;refine gU B4 λHA sA eA=>?_;have Tj:=sA _ _ Ti;refine⟨rl,_,_,rfl,rfl,Tj,lbE (by omega),?_⟩;have kB:KT HA (upd HA rl (.lst (bs.map i!++[.ref tp]))):=aK Tj;refine⟨_,_,_,_,bs++[tp],rows++[ts],rfl,am (s7.trans (s9.trans sA)) D8,uAE,?_,by rw[Xg,D1];rfl,λrow hr=>?_⟩
   .exact t! (y! (λ_ _ e=>RowAt.mono ((j! (s9.trans sA)).trans kB) e) Ar) (.cons ⟨as,kB _ _ eA,BZ.mono ((j! sA).trans kB)⟩ .nil)
   .rcases Xq.mp hr with hr|hr
    .exact CT row hr
    .rw[W7.mp hr];exact⟨BQ,Aa⟩
 rintro Z H7 ⟨sv,ev,rv,jv,bs,rows,rfl,s7,e7,Ar,D1,CT⟩;rw[XM]at D1;have Bi:rows.length=bs.length:=W5 Ar;obtain⟨x,hx⟩:∃x,cs[0]?=some x:=⟨_,WR (by omega)⟩;refine⟨_,rfl,_,rfl,_,rfl,cl,_,0,.int x,rfl,rfl,l! (s7 _ _ E6),at_nonneg (by decide) (by show(cs.map q!)[0]?=_;rw[W0,hx];rfl),?_⟩;refine⟨_,rfl,_,rfl,_,rfl,x,(dp:Nat),oa,AG,outs,(N:Nat),1,W,rfl,s7 _ _ Ia,Ib.mono (j! s7),go,MX,E8,by omega,by omega,by decide,by decide,by omega,(by show((dp:Nat):Int)<=2;omega),by omega,λha t H8 s8 WJ Tn=>?_⟩;refine⟨_,rfl,rl,_,rfl,.inl ⟨l! (s8 _ _ e7),λtp B4=>?_⟩⟩;refine gU B4 λH9 s9 e9=>?_;refine⟨lnE rfl,λb hb=>?_⟩;have sA:=ae hb (.tup [.ref ia,.ref oa,.ref ha,.ref tp]);have Lz:=s7.trans (s8.trans (s9.trans sA));have WK:=j! (s8.trans (s9.trans sA));refine q b ia oa ha tp Ag AG bs ins outs W (dp+1) t rows _ (IG.trans Lz) ⟨ac,Lz _ _ ER,Ly.mono (j! Lz),Lz _ _ Ia,Ib.mono (j! Lz),WJ.mono (j! (s9.trans sA)),sA _ _ e9,y! (λ_ _ e=>RowAt.mono WK e) Ar⟩ ?_;rw[XM]at Tn;refine⟨gi,go,MX,?_,?_,by omega,by rw[D1];exact G7⟩
 .rw[D1];exact Tn.up MX (Zw _) (Zw _)
 .rw[D1];exact CT
theorem fits_of{ks:List (Xk×Int)}:∀{ts:List Th},(∀t∈ts,t.Fit ks)->Fits ks ts
 | [],_=>by rw[Fits];trivial
 |t::ts,h=>by rw[Fits];exact⟨h t (Xh ..),fits_of λu hu=>h u (Xf _ hu)⟩
def jH:Nat->Sp
 |0=>λ_ _ _ _=>False
 |n+1=>λvs H Q _=>∃(c d:Int)(oa:WS)(AG:List WS)(outs:List (Xk×Int)),vs=[.int c,.int d,.ref oa]/\H oa=some (.tup (AG.map i!))/\KsAt H outs AG/\cS outs/\0<=d/\d<=n/\d<=5/\∀(r:WS)(t:Th)(H':Hp),k! H H'->At H' t r->t.Fit outs->t.tall<=d.toNat+1->Q (.ref r) H'
theorem jN:∀n:Nat,aO P w K mg base CX0 (n+1) T.g__law_tree.f T.g__law_tree.d ["cell","deep","ins"] (jH n)
 |0=>⟨λ_ _ _ _ h=>h.elim,λ_ _ _ _ _ _ _ _ _ _ _ _ _ h=>h.elim⟩
 | n+1=>by
   have ih:=jN n;refine T.g__law_tree.F.ok (k:=n+1) fO (λvs H Q E h=>?_) (λAi A outer s H vs Q E hr h=>?_)
   .obtain⟨c,d,oa,AG,outs,rfl,_⟩:=h;rfl
   obtain⟨c,d,oa,AG,outs,rfl,D0,Bo,g,d0,dn,d5,q⟩:=h
   refine⟨_,(ad (dq (i:=3) (N:=[WT "kind",WT "deep"]) (js:=[none,some 1]) (g:=(aq 0)) (tt:=(tOr (kW (tOp (rEq) (tOp (yl K) (aX 0) (tC (.int 1))) (tC (.int 0)))) (kW (tOp (rI0 λi j=>.bl (decide (j<i))) (aX 1) (tC (.int 0)))))) (te:=(aX 0)) fO.nd rfl (Or.inl rfl) rfl (bY rfl (by decide +kernel) (by decide +kernel) rfl rfl rfl) (eZ (pv 2)) (λ_ _ _ _ _ _=>(pgN 0 aaR)) (aI rfl) (λ_ _ _ _ _ _=>fP (PW.pt (sU (bn fA (aF aL (pv 0) ai (λ_ _=>rfl)) ai (bc _)) (m8 (bn pc (pv 1) ai (bc _)))))) (λ_ _ _ _ _ _=>(pv 0)))
    (ad (au 4 fO.nd (aF bu (pv 3) (aB bK (aB cG (pv 0) ai) (aH aA rfl T.n_len XT (aa (pv 3) ab))) (λ_ _=>rfl)))
    (af (az (aB dN (aD (aa (aF aL (pv 4) ai (λ_ _=>rfl)) ab)) (bh ba rfl T.n_tuple Yg (aa (bW (N:=[WT "j",WT "ins",WT "cell",WT "deep"]) (js:=[none,some 2,some 0,some 1]) (g:=(aq 0)) (tt:=bw) (te:=(cO (jH _) [] E0 (aG (cO dC [] E0 (aG (aX 2) (aG (aX 0) cC))) (aG (tOp (rI0 λi j=>.int (i - j)) (aX 3) (tC (.int 1))) (aG (aX 1) cC))))) rfl (bY rfl (by decide +kernel) (by decide +kernel) rfl rfl rfl) (bA rfl T.n_range (aa (aF aL (pv 4) ai (λ_ _=>rfl)) ab)) (λ_ _ _ _ _ _=>(pgN 0 acF)) (aI rfl) (λ_ _ _ _ _ _=>bF) (λ_ _ _ _ _ _=>(eO (ih) (hr.mono (WY _)) rfl T.g__law_tree.m T.g__law_tree.F.kp T.g__law_tree.b .nil gx (aa (pcF T.g__law_mixed (cE T) hr (aa (pv 2) (aa (pv 0) ab))) (aa (aB qi (pv 3) ai) (aa (pv 1) ab)))))) ab))))))),?_⟩
   try dsimp only[AA,Ae]
   have CN:outs.length=AG.length:=W5 Bo;have S5:=g.le;obtain⟨kz,JV,HZ⟩:=g.zero;refine⟨_,rfl,oa,rfl,⟨_,n! D0⟩,gw (K:=K) (λk=>decide (q! k.2=q! 0) ||decide (0<d)) D0 Bo (by omega) (λz ka H2 R sm hz r=>?_) (λka H2 R r=>⟨_,rfl,r⟩) (λD bs H2 hD e' Co S6 Ar=>?_)⟩
   .refine⟨_,rfl,ka,_,1,_,rfl,rfl,n! hz,at1,rfl,_,rfl,?_⟩;refine cT (λc=>?_) (λc=>?_)
    .rw[c]at r;exact r
    .rw[Yj.mpr c]at r;exact⟨_,rfl,_,_,rfl,rfl,_,rfl,r⟩
   have Co:=Co ⟨kz,JV,by rw[HZ];rfl⟩;have s2:k! H H2:=by rw[e'];exact ae hD _
   have eD:H2 D=some (.lst (bs.map λz=>i! z.2)):=by rw[e'];exact ac
   clear e';have DS:0<((bs.map λz=>i! z.2).length:Int):=by rw[WO];omega
   have y0:=Yo (c / 3) (show((bs.map λz=>i! z.2).length:Int)≠0 by omega);have y1:=Yr (c / 3) DS;refine hid λZZ kZ=>?_;obtain⟨z,hz⟩:∃z,bs[(c / 3%((bs.map λz=>i! z.2).length:Int)).toNat]?=some z:=⟨_,WR (by rw[WO]at y1 |-;omega)⟩;obtain⟨AE,gp,CZ⟩:=Ar z (WU hz);obtain⟨k0,ka⟩:=z;refine kZ ?_;dsimp only at AE gp CZ hz;have BS:=g.num k0 AE
   have MU:k0.2=0\/0<d:=by
    rcases Bool.or_eq_true .. |>.mp gp with h|h
    .exact .inl (V.int.inj (e! h))
    .exact .inr (e! h)
   try dsimp only[aq]
   refine⟨_,rfl,_,rfl,_,_,rfl,rfl,⟨by decide,by decide⟩,_,rfl,D,_,rfl,.inl (l! eD),_,_,rfl,rfl,DS,D,_,_,.ref ka,rfl,rfl,l! eD,at_nonneg y0 (gmE hz),?_⟩
   try dsimp only[aq]
   have EO:=s2 _ _ CZ;refine⟨_,rfl,ka,_,0,.str k0.1,rfl,rfl,n! EO,at0,lnE rfl,λma FP=>?_⟩;refine gU FP λH3 s3 e3=>?_;have C4:=s2.trans s3;refine⟨_,rfl,ka,_,1,_,rfl,rfl,n! (s3 _ _ EO),at1,k0.2,rfl,by omega,by omega,?_⟩;intro Dl Ea;refine⟨k0.2.toNat,λj H4=>An3 (j<=k0.2.toNat) (k! H3 H4) (Ex2 λ(as:List WS)(ts:List Th)=>An5 (H4 Dl=some (.lst (as.map i!))) (Ats H4 ts as) (ts.length=j) ((∀t∈ts,t.Fit outs)) (∀t∈ts,t.tall<=d.toNat)),⟨Xi _,ae Ea _,[],[],ac,.nil,rfl,(λt h=>by cases h),λt h=>by cases h⟩,?_⟩;rintro j H4 ⟨hj,s4,as,ts,DE,BZ,AB,Aa,EV⟩;have Bb:=BZ.length;by_cases Cc:j=k0.2.toNat
   .left;refine⟨(by show k0.2.toNat<=j;omega),?_⟩;refine⟨Dl,_,rfl,.inl ⟨l! DE,λtp B4=>?_⟩⟩;refine gU B4 λH5 s5 e5=>?_;refine pX ((s4.trans s5) _ _ e3) e5 (by rw[WO];show 1+as.length<=1000000;omega) λp H6 s6 e6=>?_;refine q p (.knot k0.1 ts) H6 (C4.trans (s4.trans (s5.trans s6))) ?_ ?_ ?_
    .rw[At];exact⟨pe (g.low k0 AE).1,as,e6,BZ.mono (j! (s5.trans s6))⟩
    .rw[Th.Fit];have:(k0.1,(ts.length:Int))=k0:=by rw[AB,Cc,Yu BS.1]
     rw[this];exact⟨AE,fits_of Aa⟩
    .rw[r!];have:=kI EV;omega
   .right;have Ay:j<k0.2.toNat:=by omega
    have hd:0<d:=by rcases MU with h|h <;> omega
    refine⟨Ay,(by show j<k0.2.toNat;exact Ay),?_⟩;rintro x' H5 ⟨q1,q2⟩;have Qo:H5=H4:=q1;subst Qo;have Qp:x'=q! (0+(j:Int)):=q2;subst Qp;obtain⟨m,rfl⟩:∃m,n=m+1:=⟨n - 1,by omega⟩;refine⟨_,rfl,_,rfl,c,_,rfl,λz _=>?_⟩;refine⟨_,rfl,_,_,rfl,rfl,_,rfl,z,d - 1,oa,AG,outs,rfl,(C4.trans s4) _ _ D0,Bo.mono (j! (C4.trans s4)),g,by omega,by omega,by omega,λr t H6 s6 Ll WL ht6=>?_⟩;have Lm:=s6 _ _ DE;refine⟨_,Lm,lbE (by omega),Ay,am (s4.trans s6) Ea,as++[r],ts++[t],uAE,?_,by rw[Xg,AB];rfl,λu hu=>?_,λu hu=>?_⟩
    .have k7:KT H6 (upd H6 Dl (.lst (as.map i!++[.ref r]))):=aK Lm;exact Ats.append (BZ.mono ((j! s6).trans k7)) (.cons (Ll.mono k7) .nil)
    .rcases Xq.mp hu with hu|hu
     .exact Aa u hu
     .rw[W7.mp hu];exact WL
    .rcases Xq.mp hu with hu|hu
     .exact EV u hu
     .rw[W7.mp hu];omega
structure BkAtK(K:WQ)(H:Hp)(ins:List (Xk×Int))(head:Th)(rows:List (List Th))(b ia oa ha ra:WS)(Ag AM:List WS):Prop where
 bk:H b=some (.tup [.ref ia,.ref oa,.ref ha,.ref ra])
 inE:H ia=some (.tup (Ag.map i!))
 inK:KsAt H ins Ag
 hd:AtK .i K H head ha
 rl:H ra=some (.tup (AM.map i!))
 rw:Xs (RowK K H) rows AM
def BkK(K:WQ)(H:Hp)(ins:List (Xk×Int))(head:Th)(rows:List (List Th))(b:WS):Prop:=∃ia oa ha ra Ag AM,BkAtK K H ins head rows b ia oa ha ra Ag AM
theorem BkAtK.mono(k:KT H H')(h:BkAtK K H ins head rows b ia oa ha ra Ag AM):BkAtK K H' ins head rows b ia oa ha ra Ag AM :=
 ⟨k _ _ h.bk,k _ _ h.inE,h.inK.mono k,h.hd.mono k,k _ _ h.rl,y! (λ_ _ e=>e.mono k) h.rw⟩
theorem BkK.mono(k:KT H H')(h:BkK K H ins head rows b):BkK K H' ins head rows b:=by
 obtain⟨ia,oa,ha,ra,Ag,AM,h⟩:=h;exact⟨ia,oa,ha,ra,Ag,AM,h.mono k⟩
theorem xV{AG:List WS}(h:BookAt H ins outs head rows b ia oa ha ra Ag AG AM):BkAtK K H ins head rows b ia oa ha ra Ag AM :=
 ⟨h.bk,h.inE,h.inK,h.hd.k,h.rl,y! (λ_ _ e=>let⟨as,h1,h2⟩:=e;⟨as,h1,h2.k⟩) h.rw⟩
inductive lj(K:WQ)(n:Nat)(vs:List V)(H:Hp)(Q:VK)(_E:XK):Prop
 |mk (b ta:WS) (st:Int) (ins:List (Xk×Int)) (head:Th) (rows:List (List Th)) (t:Th) (An:vs=[.ref b,.int st,.ref ta]) (Ao:BkK K H ins head rows b) (Au:RunOk ins rows) (AD:At H t ta) (AR:t.Fit ins) (BX:0<=st) (D5:st<(rows.length:Nat)) (Eh:21 * t.tall<=n) (Gq:∀(r:WS)(H':Hp),k! H H'->At H' (eB (bM ins rows) t st) r->Q (.ref r) H'):lj K n vs H Q _E
def eL(K:WQ)(n:Nat):Sp:=lj K n
inductive ju(K:WQ)(n:Nat)(vs:List V)(H:Hp)(Q:VK)(_E:XK):Prop
 |mk (b pa ka:WS) (as:List WS) (ins:List (Xk×Int)) (head:Th) (rows:List (List Th)) (p:Th) (kn:Xk) (Dt:List Th) (C:Int) (An:vs=[.ref b,.ref pa,.ref ka]) (Ao:BkK K H ins head rows b) (Au:RunOk ins rows) (AD:AtK .i K H p pa) (AR:H ka=some (.tup (as.map i!))) (BX:Ats H Dt as) (D5:(∀u∈Dt,u.Fit ins)) (Eh:(p.AllC λs c=>0<=s/\s<(rows.length:Nat)/\0<=c/\c<C)) (Gq:C<=(Dt.length:Int)) (IF:p.size<=600) (HI:21 * aC Dt+p.tall<=n) (Lb:∀(r:WS)(H':Hp),k! H H'->At H' (made (bM ins rows) p (.knot kn Dt)) r->Q (.ref r) H'):ju K n vs H Q _E
def cQ(K:WQ)(n:Nat):Sp:=ju K n
theorem abg(ih:aO P w K mg base CX0 n T.g__law_by.f T.g__law_by.d ["book","state","tree"] (eL K n)/\aO P w K mg base CX0 n T.g__law_put.f T.g__law_put.d ["book","pattern","kids"] (cQ K n)):aO P w K mg base CX0 (n+1) T.g__law_by.f T.g__law_by.d ["book","state","tree"] (eL K (n+1)):=by
 refine T.g__law_by.F.okA ou λAi A outer s H vs Q E hr h=>?_;obtain⟨b,ta,st,ins,head,rows,t,rfl,hb,R,ht,AY,Qs,LX,AB,k⟩:=h
 refine⟨_,(ad (au 3 ou.nd (bS Xd PySem.F.slot_list_index PySem.F.type_list_index ww (bW (N:=[WT "kind"]) (js:=[none]) (g:=(aq 0)) (tt:=bw) (te:=(tOp (yl K) (aX 0) (tC (.int 0)))) rfl (bY rfl (by decide +kernel) (by decide +kernel) rfl rfl rfl) (eZ (aF aL (pv 0) ai (λ_ _=>rfl))) (λ_ _ _ _ _ _=>(pgN 0 ab4)) (aI rfl) (λ_ _ _ _ _ _=>bF) (λ_ _ _ _ _ _=>(aF aL (pv 0) ai (λ_ _=>rfl)))) (aa (aF aL (pv 2) ai (λ_ _=>rfl)) ab)))
  (af (az (pcF T.g__law_put (ih.2) hr (aa (pv 0) (aa (aF aL (aF aL (aF aL (pv 0) ai (λ_ _=>rfl)) (pv 1) (λ_ _=>rfl)) (pv 3) (λ_ _=>rfl)) (aa (cR iU (pv 2) (dk ai) dM) ab))))))),?_⟩
 try dsimp only[AA,Ae]
 cases t with
 |call l h=>rw[Th.Fit]at AY;exact AY.elim
 | knot nm ts =>
   rw[Th.Fit]at AY;refine hid λZZ kZ=>?_;obtain⟨j,row,p,Aj,hj,hp,Dq,Aa,E3,Ex⟩:=R.pat Qs LX AY.1;have g:=R.gi;have To:=ht;rw[At]at To;obtain⟨Qt,ka,ea,CQ⟩:=To;obtain⟨ia,oa,hda,ra,Ag,AM,bk⟩:=id hb;obtain⟨Bn,BU,Qh,HU,FY⟩:=H! bk.rw Aj;obtain⟨pa,D7,Cd⟩:=FY.at hp;refine kZ ?_;have Cr:ins.length=Ag.length:=W5 bk.inK;have Mh:=g.le;refine⟨_,rfl,b,_,0,.ref ia,rfl,rfl,n! bk.bk,at0,ia,rfl,⟨_,n! bk.inE⟩,tW ins (λk=>K! k.1) (n! bk.inE) (by rw[WO];exact Cr) (by rw[WO];omega) (λi x z H2 R W' hx hz s2 hR=>?_) (λD H1 hD s1 e1=>?_)⟩
   .obtain⟨WM,rfl,Qu⟩:=aR hx;obtain⟨z',B1,ez⟩:=C! bk.inK Qu;rw[hz]at B1;cases B1;exact⟨_,rfl,WM,_,0,.str z.1,rfl,rfl,n! (s2 _ _ ez),at0,hR H2 (.refl _)⟩
   have en:ins.map (λk=>K! k.1)=(ins.map (·.1)).map K!:=by rw[Y1];rfl
   rw[en]at e1;have Tp:=bk.mono (j! s1);refine⟨.inl ⟨rfl,_,l! e1⟩,_,rfl,ta,_,0,.str nm,rfl,rfl,n! (s1 _ _ ea),at0,?_⟩;refine⟨D,ins.map (·.1),nm,j,rfl,rfl,l! e1,by rw[W0,hj];rfl,λi hi hz=>?_,by rw[WO];omega,?_⟩
   .rw[W0]at hz;obtain⟨k',AV,e⟩:=XJ.mp hz;have:=g.nd i j k' _ AV hj e;omega
   try dsimp only[aq]
   refine⟨_,rfl,_,rfl,b,_,3,.ref ra,rfl,rfl,n! Tp.bk,cy (j:=3) rfl,_,rfl,ra,_,st,.ref Bn,rfl,rfl,n! Tp.rl,at_nonneg Qs (gmE BU),_,rfl,Bn,_,(j:Int),.ref pa,rfl,rfl,n! (s1 _ _ HU),cy (gmE D7),?_⟩;refine⟨_,rfl,1,rfl,ta,_,rfl,n! (s1 _ _ ea),?_,λp2 Bm=>?_⟩
   .rintro⟨z,_⟩;rw[W3,show(1:Int)=((1:Nat):Int)by rfl,HT.sIx_nat]at z;omega
   rw[fF];refine gU Bm λH2 s2 e2=>?_;have Cv:=s1.trans s2;rw[r!]at AB;refine⟨b,pa,p2,ka,ins,head,rows,p,nm,ts,(ts.length:Nat),rfl,hb.mono (j! Cv),R,Cd.mono (j! Cv),e2,CQ.mono (j! Cv),λu hu=>ip AY.2 hu,Aa,Zw _,Ex,by omega,λr H3 s3 Fy=>k r H3 (Cv.trans s3) ?_⟩;rw[wt,Dq];exact Fy
theorem zR(ih:aO P w K mg base CX0 n T.g__law_by.f T.g__law_by.d ["book","state","tree"] (eL K n)/\aO P w K mg base CX0 n T.g__law_put.f T.g__law_put.d ["book","pattern","kids"] (cQ K n)):aO P w K mg base CX0 (n+1) T.g__law_put.f T.g__law_put.d ["book","pattern","kids"] (cQ K (n+1)):=by
 refine T.g__law_put.F.okA sI λAi A outer s H vs Q E hr h=>?_;obtain⟨b,pa,ka,as,ins,head,rows,p,kn,Dt,C,rfl,hb,R,hp,CZ,has,AY,Aa,hC,Ex,AB,k⟩:=h
 refine⟨_,(ad (cB (bn fA (aF aL (pv 1) ai (λ_ _=>rfl)) iN (bc _)) (af (az (pcF T.g__law_by (ih.1) hr (aa (pv 0) (aa (aF aL (pv 1) ai (λ_ _=>rfl)) (aa (aF aL (pv 2) (aF aL (pv 1) ai (λ_ _=>rfl)) (λ_ _=>rfl)) ab)))))) bN)
  (af (az (aB dN (aD (aa (aF aL (pv 1) ai (λ_ _=>rfl)) ab)) (bh ba rfl T.n_tuple Yg (aa (bW (N:=[WT "part",WT "book",WT "kids"]) (js:=[none,some 0,some 2]) (g:=(aq 0)) (tt:=bw) (te:=(cO (cQ K _) [] E0 (aG (aX 1) (aG (aX 0) (aG (aX 2) cC))))) rfl (bY rfl (by decide +kernel) (by decide +kernel) rfl rfl rfl) (eZ (cR iU (pv 1) (dk ai) dM)) (λ_ _ _ _ _ _=>(pgN 0 acH)) (aI rfl) (λ_ _ _ _ _ _=>bF) (λ_ _ _ _ _ _=>(pcF T.g__law_put (ih.2) hr (aa (pv 1) (aa (pv 0) (aa (pv 2) ab)))))) ab)))))),?_⟩
 try dsimp only[AA,Ae]
 cases p with
 | call st c =>
   rw[AtK]at hp;obtain⟨v,ea,hv⟩:=hp;obtain rfl:v=q! st:=hv;refine hid λZZ kZ=>?_;obtain⟨h0,h1,h2,h3⟩:0<=st/\st<(rows.length:Nat)/\0<=c/\c<C:=Aa;obtain⟨k',AV⟩:∃k',Dt[c.toNat]?=some k':=⟨_,WR (by omega)⟩;have Tq:=WU AV;obtain⟨ua,DF,FO⟩:=has.at AV;refine kZ ?_;have AU:=bX Tq;rw[r!]at AB;refine⟨_,rfl,pa,_,0,.str q,rfl,rfl,ea.sq,at0,rfl,_,rfl,?_⟩;refine cT (λ_=>?_) (λc=>g! (d! rfl) c);refine⟨_,rfl,_,rfl,pa,_,1,.int st,rfl,rfl,ea.sq,at1,_,rfl,_,rfl,pa,_,2,.int c,rfl,rfl,ea.sq,at2,ka,_,c,.ref ua,rfl,rfl,n! CZ,at_nonneg h2 (gmE DF),?_⟩;refine⟨b,ua,st,ins,head,rows,k',rfl,hb,R,FO,AY k' Tq,h0,h1,by omega,λr H1 s1 Ka=>k r H1 s1 ?_⟩;rw[wB (k:=.knot kn Dt) _ AV];exact Ka
 | knot nm us =>
   rw[AtK]at hp;refine hid λZZ kZ=>?_;obtain⟨Qt,ua,ea,DF⟩:=hp;refine kZ ?_;have Oy:ua.length=us.length:=DF.length;have Wd:=cw us;rw[p!]at Ex;rw[r!]at AB;refine⟨_,rfl,pa,_,0,.str nm,rfl,rfl,ea.sq,at0,rfl,_,rfl,?_⟩;refine cT (λc=>g! (e! c) (λz=>Qt (V.str.inj z))) (λ_=>?_);refine⟨_,rfl,pa,_,0,.str nm,rfl,rfl,ea.sq,at0,lnE rfl,λp1 DB=>?_⟩;dsimp only;refine gU DB λH1 s1 e1=>?_;refine⟨_,rfl,1,rfl,pa,_,rfl,(ea.mono (j! s1)).sq,?_,λp2 Bm=>?_⟩
   .rintro⟨z,_⟩;rw[W3,show(1:Int)=((1:Nat):Int)by rfl,HT.sIx_nat]at z;omega
   rw[fF];refine gU Bm λH2 s2 e2=>?_;have Cf:=s1.trans s2;refine⟨p2,rfl,⟨_,n! e2⟩,fN (F:=At) (xs:=ua.map i!) (us.map λu=>made (bM ins rows) u (.knot kn Dt)) (λH1 H2 z p kt h=>h.mono kt) (by rw[WO,WO];omega) (by rw[WO];omega) (λi Hx sx hi=>⟨_,_,n! (sx _ _ e2),WR hi⟩) (λHx sx=>⟨_,n! (sx _ _ e2),WY _⟩) (λi Hx x Hy sx hi hy=>⟨hy.1,hy.2 _ (n! (sx _ _ e2))⟩) (λi y z Hx R' W' hy BR sx hR=>?_) (λD Hx bs hD sx eD C3=>?_)⟩
   .obtain⟨xa,rfl,J7⟩:=aR hy;obtain⟨u,hu,FO⟩:=DF.get J7;rw[W0,hu]at BR;cases BR;have GF:=WU hu;have Ov:=bX GF;have hsu:=bg GF;have k3:=j! (Cf.trans sx);exact⟨_,rfl,_,rfl,_,rfl,b,xa,ka,as,ins,head,rows,u,kn,Dt,C,rfl,hb.mono k3,R,FO.mono k3,(Cf.trans sx) _ _ CZ,has.mono k3,AY,kN Aa GF,hC,by omega,by omega,λr H4 s4 KP=>hR H4 r s4 KP⟩
   .have hlD:=W5 C3;rw[WO]at hlD;refine⟨D,_,rfl,.inl ⟨l! eD,λtp B4=>?_⟩⟩;refine gU B4 λH4 s4 e4=>?_;have HR:=(s2.trans sx).trans s4;refine pX (HR _ _ e1) e4 (by rw[WO];show 1+bs.length<=1000000;omega) λp H5 s5 e5=>?_;refine k p H5 ((s1.trans HR).trans s5) ?_;rw[wu,At];exact⟨Qt,bs,e5,(iR C3).mono (j! (s4.trans s5))⟩
theorem sp0(K:WQ){Q:VK}{E:XK}:(eL K 0 vs H Q E->False)/\(cQ K 0 vs H Q E->False):=by
 refine⟨λh=>?_,λh=>?_⟩
 .obtain⟨b,ta,st,ins,head,rows,t,rfl,hb,R,ht,AY,Qs,LX,AB,k⟩:=h;have:=t.tall_eq;omega
 .obtain⟨b,pa,ka,as,ins,head,rows,p,kn,Dt,C,rfl,hb,R,hp,CZ,has,AY,Aa,hC,Ex,AB,k⟩:=h;have:=p.tall_eq;omega
theorem u7:∀n:Nat,aO P w K mg base CX0 n T.g__law_by.f T.g__law_by.d ["book","state","tree"] (eL K n)/\aO P w K mg base CX0 n T.g__law_put.f T.g__law_put.d ["book","pattern","kids"] (cQ K n)
 |0=>⟨⟨λ_ _ _ _ h=>((sp0 K).1 h).elim,λ_ _ _ _ _ _ _ _ _ _ _ _ _ h=>((sp0 K).1 h).elim⟩,⟨λ_ _ _ _ h=>((sp0 K).2 h).elim,λ_ _ _ _ _ _ _ _ _ _ _ _ _ h=>((sp0 K).2 h).elim⟩⟩
 |n+1=>⟨abg T (u7 n),zR T (u7 n)⟩
theorem qz(F:FrB ins outs rows)(hD:FrD ins rows (f'.map (·.1))){s:Nat}{row:List Th}(Aj:rows[s]?=some row)(hp:p∈row) :
 ((frS ins rows s).cut (Dk f' (s:Nat)) []).lies (p.fill λl _=>(frS ins rows l.toNat).cut (Dk f' ((l.toNat:Nat):Int)) [])=true:=by
 have hs:=(glE Aj);obtain⟨j,hj⟩:=Xp.mp hp;obtain⟨D8,AY⟩:=F.fit.row row (WU Aj);obtain⟨k0,C0⟩:∃k0,ins[j]?=some k0:=⟨_,WR (by have:=(glE hj);omega)⟩;have hpf:=AY j p k0 hj C0;obtain⟨z1,z2,z3⟩:=mF F hs;have Tr:=kG _ _ (WY _) z3
 have GH:∀(m:Nat),m<rows.length->(frS ins rows m).lies (mkF ins rows (m:Nat))=true/\∀BO,rows[m]?=some BO->∀p'∈BO,(frS ins rows m).lies (p'.fill λl _=>mkF ins rows l)=true:=λm hm=>by
  obtain⟨y1,y2,y3⟩:=mF F hm;have h0:=kG _ _ (WY _) y3;obtain⟨g1,g2⟩:=tM (frS ins rows m) ((rows[m]?).getD []) (mkF ins rows (m:Nat)) h0;refine⟨g1,λBO BN p' BJ=>g2 p' (by rw[BN];exact BJ)⟩
 have:=m9 (f0:=λl=>frS ins rows l.toNat) (D:=λl=>Dk f' ((l.toNat:Nat):Int)) (mk:=mkF ins rows) (s:=(s:Nat)) (pat:=p) (λc hc=>?_) _ (frS ins rows s) p [] (WY _) (λx hx=>hx) (λc hc=>hc) z3 ((GH s hs).2 row Aj p hp)
 .exact this
 .obtain⟨c0,c1,_⟩:=kL p [] hpf c hc;have Qv:c.2.1.toNat<rows.length:=by omega
  have C6:((c.2.1.toNat:Nat):Int)=c.2.1:=Yu c0;have hl:=(GH _ Qv).1;rw[C6]at hl;refine⟨hl,(mF F Qv).2.2,λr u hu hh=>t7.mpr (hD.hol _ Qv (r,u) hu hh),λr u hd hu=>?_⟩;have Ca:(c.1++r,u)∈(frS ins rows s).pl []:=hu;obtain⟨v,hv1,hv2⟩:=si _ (u:=u) (WY _) Ca;have hk:=t7.mp hd;rw[C6]at hk;exact t7.mpr (hD.cl s row Aj p hp c hc v hv1 (r,u) hv2 hk)
theorem qa{D:Nat}(h:Drw ins outs W D head rows):FrB ins outs rows:=⟨h.gi,h.fit,Xv h.le (by decide),λrow hr p hp=>by
 obtain⟨C,_,hb⟩:=h.pat hr hp;have l:=h.lim;have h1:=hb.sz;have h2:=hb.tall;omega⟩
theorem jw{D:Nat}(h:Drw ins outs W D head rows)(f':List (ay×V)){s:Nat}(hs:s<rows.length):(oO ins rows f' s).noCall/\(oO ins rows f' s).lf<=W ^ D/\(oO ins rows f' s).size<=15/\(oO ins rows f' s).tall<=4:=by
 refine hid λZZ kZ=>?_;obtain⟨row,p,hr,hp,e,_⟩:=(qa h).mkd (l:=(s:Nat)) (by omega) (by omega);obtain⟨C,_,hb⟩:=h.pat (WU hr) (WU hp);refine kZ ?_;have l:=h.lim;have h1:=hb.sz;have h2:=hb.tall;have h3:=hb.lf;rw[<-e]at h1 h2 h3;have h4:=jp (mkF ins rows) (mkF ins rows (s:Nat)) ((rows[s]?).getD []);have h5:=xE (mkF ins rows) ((rows[s]?).getD []) (mkF ins rows (s:Nat));have h6:=zd (Dk f' (s:Nat)) (frS ins rows s) [];have h7:=tX (Dk f' (s:Nat)) _ (frS ins rows s) [] (WY _);unfold oO;unfold frS at h6 h7 |-;exact⟨h6.2.2,by omega,by omega,by omega⟩
theorem aaO{D:Nat}(h:Drw ins outs W D head rows)(hD:FrD ins rows (f'.map (·.1))):EaOk ins outs (oO ins rows f') head rows :=
 ⟨h.gi,h.fit,h.hd.fit,λs hs=>by
  refine hid λZZ kZ=>?_;obtain⟨h1,_,h3,h4⟩:=jw h f' hs;refine kZ ?_;exact⟨h1,by omega,by omega⟩,λs row p hr hp=>qz (qa h) hD hr hp,h.small (λs hs=>jw h f' hs) h.hd,λrow hr p hp=>by
  obtain⟨C,_,hb⟩:=h.pat hr hp;exact h.small (λs hs=>jw h f' hs) hb,h.many λs hs=>(jw h f' hs).2.1⟩
inductive vf(K:WQ)(tp:WS)(vs:List V)(H:Hp)(Q:VK)(_E:XK):Prop
 |mk (a:WS) (ns:List Int) (An:vs=[.ref a]) (Ao:SqL K H a (ns.map q!)) (Au:ns.length<=63) (AD:H tp=some (.tbl #[])) (AR:∀H',Q (.bl true) H'):vf K tp vs H Q _E
def qQ(K:WQ)(tp:WS):Sp:=vf K tp
theorem ach{z:Array WV}(h:SqL K H a xs)(e:H tp=some (.tbl z))(s:SameT tp H H'):SqL K H' a xs:=by
 rcases h with(h|⟨o,h⟩)|h
 .exact .inl (.inl (s _ _ (λw=>by rw[w,e]at h;cases h) h))
 .exact .inl (.inr ⟨o,s _ _ (λw=>by rw[w,e]at h;cases h) h⟩)
 .exact .inr h
theorem aba(L:Lam mg base T.tc_earliest T.tp_earliest):aO P w K mg base CX0 90 T.g_law.f T.g_law.d ["script"] (qQ K T.tp_earliest):=by
 refine T.g_law.F.okA m3 λAi A outer s H vs Q E hr h=>?_;obtain⟨a,ns,rfl,hS,CC,B4,q⟩:=h
 refine⟨_,(ad (au 1 m3.nd (pcF T.g__law_book (qI T) hr (aa (pv 0) ab)))
  (ad (au 2 m3.nd (pcF T.g_earliest (tD T L) hr (aa (pv 1) ab)))
  (ad (bE Xz rfl (cj (aB abM (bh p5 rfl T.n_list PyProof.Rows.boot_list (aa (cR zp (pv 0) dM (dk ai)) ab)) (bx (aa ai ab)))) (pgN 3 m3.nd) (ad (au 4 m3.nd (pcF T.g__law_tree (jN T 3) hr (aa (pv 3) (aa ai (aa (aF aL (pv 1) ai (λ_ _=>rfl)) ab)))))
  (af (cB (bn (abh (B:=150) (jE hr)) (pcF T.g__law_put ((u7 T 83).2) hr (aa (pv 2) (aa (aF aL (pv 2) ai (λ_ _=>rfl)) (aa (aD (aa (pv 4) ab)) ab)))) (pcF T.g__law_put ((u7 T 83).2) hr (aa (pv 1) (aa (aF aL (pv 1) ai (λ_ _=>rfl)) (aa (aD (aa (pv 4) ab)) ab)))) (bc _)) (af (az vX)) bN))))
  (af (az vX))))),?_⟩
 try dsimp only[AA,Ae]
 refine⟨_,rfl,a,ns,rfl,hS,CC,λb ia oa ha ra Ag AG AM ins outs W D head rows H1 s1 bk hd=>?_⟩;dsimp only[aq];have Ic:=s1 _ _ B4;refine⟨_,rfl,b,ia,oa,ha,ra,Ag,AG,AM,ins,outs,head,rows,rfl,bk,qa hd,λf' hD=>aaO hd hD,.inl Ic,λr fh rl FV f' F M H2 hD hF hM s2 _ er MK erl Qw=>?_⟩;dsimp only[aq];have J:EaOk ins outs F head rows:=by rw[hF];exact aaO hd hD
 have k2:=s2.kt Ic;have DO:=ach (s1.seq hS) Ic s2;have LA:=bk.mono k2;have bf:BkAtK K H2 ins (ren (idx M) (eaP F head)) (eaB F rows M) r ia oa fh rl Ag FV:=⟨er,LA.inE,LA.inK,MK,erl,Qw⟩;have RB:=hd.run;have RF:=abn J hM;have Cr:ins.length=Ag.length:=W5 LA.inK;have GG:=J.smH;obtain⟨rz1,rz2⟩:=ow (idx M) (eaP F head)
 have hh:(ren (idx M) (eaP F head)).AllC λs c=>0<=s/\s<((eaB F rows M).length:Nat)/\0<=c/\c<1:=by
  rw[vQ J hM];refine sh (kl (λy k h=>?_) _ (jf _ (J.allC J.hd) (rT J hM)));obtain⟨i1,i2⟩:=ue h.1;exact⟨i1,i2,h.2.2.1,h.2.2.2⟩
 have MY:=hd.hd;have DS:=hd.lim;refine⟨_,rfl,_,rfl,a,_,rfl,DO,λl1 B0=>?_⟩
 obtain⟨zs,G0,N'⟩:∃zs:List Int,gB (ns.map q!) none (some 16)=zs.map q!/\zs.length<=63:=by
  unfold gB;rw[<-List.map_drop,<-List.map_take];exact⟨_,rfl,by rw[XO,List.length_drop];omega⟩
 rw[G0];refine gU B0 λH3 t1 f1=>?_;refine⟨l1,_,rfl,.inl (l! f1),λl2 Bl=>?_⟩;refine gU Bl λH4 t2 f2=>?_;refine⟨lnE rfl,λl3 hl3=>?_⟩;refine gU hl3 λH5 t3 f3=>?_;refine⟨l2,l3,_,_,rfl,rfl,t3 _ _ f2,f3,di (by rw[WO];show zs.length+1<=1000000;omega),λl4 hl4=>?_⟩;have t4:k! H5 (upd H5 l4 (.lst (zs.map q!++[.int 5]))):=ae hl4 _;have f4:(upd H5 l4 (.lst (zs.map q!++[.int 5]))) l4=some (.lst ((zs++[5]).map q!)):=by rw[ac,Xc];rfl
 generalize(upd H5 l4 (.lst (zs.map q!++[.int 5])))=H6 at t4 f4 |-;have s26:=t1.trans (t2.trans (t3.trans t4));refine⟨l4,rfl,⟨_,l! f4⟩,?_⟩
 refine cD (K:=K) (a:=l4) (xs:=(zs++[5]).map q!) (λi Z H7=>Ex2 λc3 c4=>An3 (Z=[some (.ref a),some (.ref b),some (.ref r),c3,c4]) (k! H2 H7) (H7 l4=some (.lst ((zs++[5]).map q!))))
  ⟨none,none,rfl,s26,f4⟩ (λi Z H7 _⟨_,_,_,_,e⟩=>l! e) ?_ ?_
 .rintro i x Z H7 hx ⟨c3,c4,rfl,s7,e7⟩;rw[W0]at hx;obtain⟨c,_,rfl⟩:=XJ.mp hx;have Qx:=LA.mono (j! s7);have hk7:KsAt H7 ins Ag:=Qx.inK;dsimp only[aq];refine⟨_,rfl,_,rfl,b,_,0,.ref ia,rfl,rfl,n! Qx.bk,at0,c,2,ia,Ag,ins,rfl,Qx.inE,hk7,hd.gi,by decide,by decide,by decide,λta t H8 s8 CS Mq EV=>?_⟩;have ad0:t.tall<=3:=EV;have AB:aC [t]<=3:=by rw[aC,aC];omega
  dsimp only[aq];have Qy:=s7.trans s8;have Qz:=LA.mono (j! Qy);have QA:=bf.mono (j! Qy);refine ce (λbb H9=>An2 (bb=false) (k! H8 H9)) (λk2 Bj=>?_) (λH9 hb=>by cases hb.1) (λH9 hb=>⟨_,_,rfl,Qy.trans hb.2,(s8.trans hb.2) _ _ e7⟩);refine⟨_,rfl,_,rfl,r,_,2,.ref fh,rfl,rfl,n! QA.bk,at2,_,rfl,lnE rfl,λk1 MT=>?_⟩;refine gU MT λH9 u1 v1=>?_;have v1:H9 k1=some (.tup (([ta]:List WS).map i!)):=v1;have m1:=j! u1;refine⟨r,fh,k1,[ta],ins,_,_,ren (idx M) (eaP F head),WT "",[t],1,rfl,⟨_,_,_,_,_,_,QA.mono m1⟩,RF,(QA.mono m1).hd,v1,.cons (CS.mono m1) .nil,λu hu=>by rw[W7.mp hu];exact Mq,hh,Zw _,by rw[rz1];exact GG.size,by have:=GG.tall;rw[rz2];show _<=83;omega,λo1 HA sA QB=>?_⟩;refine⟨_,rfl,_,rfl,b,_,2,.ref ha,rfl,rfl,n! ((u1.trans sA) _ _ Qz.bk),at2,_,rfl,lnE rfl,λk3 Ge=>?_⟩;refine gU Ge λHB u2 v2=>?_;have v2:HB k3=some (.tup (([ta]:List WS).map i!)):=v2;have sB:=u1.trans (sA.trans u2);have mB:=j! sB;refine⟨b,ha,k3,[ta],ins,head,rows,head,WT "",[t],1,rfl,⟨_,_,_,_,_,_,xV (Qz.mono mB)⟩,RB,(Qz.mono mB).hd.k,v2,.cons (CS.mono mB) .nil,λu hu=>by rw[W7.mp hu];exact Mq,hV head MY.fit,Zw _,Xv MY.sz (by omega),by have:=MY.tall;show _<=83;omega,λo2 HC sC Tt=>?_⟩;have EF:made (bM ins (eaB F rows M)) (ren (idx M) (eaP F head)) (.knot (WT "") [t])=made (bM ins rows) head (.knot (WT "") [t]):=aaf J hM Mq;rw[EF]at QB
  have QC:(made (bM ins rows) head (.knot (WT "") [t])).tall<=150:=by
   have h4:=uw (ins:=ins) (rows:=rows) (B:=4) (by decide) λrow hr p hp=>by
    obtain⟨C,_,hb⟩:=hd.pat hr hp;have:=hb.tall;omega
   have h5:=iP (fD (cX (bM ins rows) [t])) (m:=4 * aC [t]) (λs c=>by
    unfold fD;rw[ZP];cases hf:(cX (bM ins rows) [t])[c.toNat]? with
    |none=>rw[Option.getD_none,r!,aC];omega
    | some f =>
      have:=i9 h4 [t] f (WU hf) s;rw[Option.getD_some];omega) head
   have h6:=MY.tall;show(head.fill (fD (cX (bM ins rows) [t]))).tall<=150;omega
  generalize made (bM ins rows) head (.knot (WT "") [t])=u at QB Tt QC;refine hid λZZ kZ=>?_
  obtain⟨ds,Bq⟩:∃ds,u.dv=.tup ds:=by
   cases u with
   |knot n ks=>exact⟨_,by rw[Th.dv]⟩
   |call s k=>exact⟨_,by rw[Th.dv]⟩
  have d1:=(QB.mono (j! (u2.trans sC))).dv;have d2:=Tt.dv;have d3:=u.dv_deep;rw[Bq,DAt]at d1 d2;obtain⟨_,vs,e1,f5,f6⟩:=d1;obtain⟨_,ws,e2,g5,g6⟩:=d2;refine kZ ?_;cases e1;cases e2;rw[Bq,Dv.deep]at d3;exact⟨o1,o2,vs,ws,ds,ds,rfl,rfl,n! f5,n! g5,f6,g6,by omega,λbb hb=>⟨_,rfl,Bj _ _ ⟨by cases bb with|false=>rfl|true=>exact g! rfl (hb.mp rfl),sB.trans sC⟩⟩⟩
 .rintro Z H7 ⟨c3,c4,rfl,s7,e7⟩;exact q H7
end
theorem all_mk{l:PySem.W.OpenLaw}{fa:WS}(X:K.In h)(G:h.Ns Xr mg)(B5:mg "law"=some (.ref fa))
 {Ad:WS} {LB:WS} {QD QE:Option WS} {QF:Array (Option WV)} {QG QH QI QJ LC QK:WV} {LD:WS} {QL QM:Option WS} {QN:Array (Option WV)} {QO QP QQ QR LF QS:WV} {MZ:WS} {QT QU:Option WS} {QV:Array (Option WV)} {QW QX QY QZ Ie Q0:WV} {M0:WS} {Q1 Q2:Option WS} {Q3:Array (Option WV)} {Q4 Q5 Q6 Q7 LH Q8:WV} {LI:WS} {Q9 LJ:Option WS} {Ra:Array (Option WV)} {Rb LK LL LM Ig LN:WV} {tc_earliest tp_earliest:WS} {Bw:Ze} {Tu:Tok} {Iq:Tok} {Rc:WS} {Rf:Option WS} {nc2:Nat} {Rg:Array (Option WV)} {LO:Tok} {Tv:Tok} {Tw:Tok} {Tx:Tok} {Tz:Tok}
 (g_is_number:FX K mg "is_number" gS ["thing"])
 (g_is_below:FX K mg "is_below" iT ["number","bound"])
 (g_kids_of:FX K mg "kids_of" kg ["thing"])
 (g_walked:FX K mg "walked" mr ["thing"])
 (g_placed:FX K mg "placed" mx ["thing"])
 (g_built:FX K mg "built" p7 ["tops"])
 (g_places:FX K mg "places" nX ["tree"])
 (g_kid_at:FX K mg "kid_at" nG ["thing","number"])
 (g_knot_at:FX K mg "knot_at" kF ["tree","place"])
 (g_is_call:FX K mg "is_call" j9 ["thing"])
 (g_is_hole:FX K mg "is_hole" kj ["thing"])
 (g_is_knot:FX K mg "is_knot" jR ["thing"])
 (g_called_by:FX K mg "called_by" gC ["call"])
 (g_calls_in:FX K mg "calls_in" iL ["pattern"])
 (g_called_in:FX K mg "called_in" g9 ["pattern"])
 (g_holes_in:FX K mg "holes_in" ja ["front"])
 (g_top_of:FX K mg "top_of" nI ["part"])
 (g_filled:FX K mg "filled" nM ["pattern","table"])
 (g_restated:FX K mg "restated" iS ["pattern","names"])
 (g_hung:FX K mg "hung" tZ ["front","parts"])
 (g_same_top:FX K mg "same_top" iO ["one","two"])
 (g_side_by_side:FX K mg "side_by_side" eK ["one","two"])
 (g_common:FX K mg "common" og ["one","two"])
 (g_is_small:FX K mg "is_small" iW ["pattern"])
 (g_ins_of:FX K mg "ins_of" nq ["book"])
 (g_outs_of:FX K mg "outs_of" j1 ["book"])
 (g_head_of:FX K mg "head_of" kb ["book"])
 (g_rules_of:FX K mg "rules_of" i0 ["book"])
 (g_states_of:FX K mg "states_of" gE ["book"])
 (g_small_tree:FX K mg "small_tree" gb ["ins"])
 (g_knot_above:FX K mg "knot_above" fS ["ins","kind","kids"])
 (g_first_makings:FX K mg "first_makings" dE ["book"])
 (g_first_front:FX K mg "first_front" fj ["book","state","made","partings"])
 (g_put_links:FX K mg "put_links" gF ["book","state","front","links"])
 (g_spread:FX K mg "spread" ol ["ins","links","partings"])
 (g_cut_front:FX K mg "cut_front" g7 ["front","state","partings"])
 (g_found_fronts:FX K mg "found_fronts" dW ["book"])
 (g_fronts_of:FX K mg "fronts_of" gH ["book"])
 (g_renamed:FX K mg "renamed" kM ["pattern","numbers"])
 (g_numbered:FX K mg "numbered" iV ["ins","outs","head","patterns_of"])
 (g_early_table:FX K mg "early_table" ff ["fronts"])
 (g_checked:FX K mg "checked" jY ["pattern"])
 (g__law_cell_at:FX K mg "_law_cell_at" eJ ["script","k"])
 (g__law_mixed:FX K mg "_law_mixed" ga ["cell","k"])
 (g__law_name:FX K mg "_law_name" gK ["base","n"])
 (g__law_kinds:FX K mg "_law_kinds" fR ["base","menu"])
 (g__law_pattern:FX K mg "_law_pattern" eC ["cell","deep","outs","states","kids"])
 (g__law_cells:FX K mg "_law_cells" fQ ["script","many"])
 (g__law_book:FX K mg "_law_book" gv ["script"])
 (g__law_tree:FX K mg "_law_tree" gM ["cell","deep","ins"])
 (g__law_by:FX K mg "_law_by" j0 ["book","state","tree"])
 (g__law_put:FX K mg "_law_put" i8 ["book","pattern","kids"])
 (on_Measure:XZ K Xr "Measure"=some (some (.ref Ad)))
 (pg_Measure:PySem.W.plainGet K Ad Str.empty=true)
 (hd_Measure:PySem.W.hasDictIn K Ad=true)
 (po_Measure:PySem.W.plainOver K Ad=true)
 (sa_Measure:YD K (.ref Ad) "__setattr__"=some (some (.builtin "object.__setattr__")))
 (mk_Measure:PySem.W.makesIn K Ad=true)
 (kc_Measure:YX K (.ref Ad)=true)
 (na_Measure_met_knots:YD K (.ref Ad) "met_knots"=some none)
 (na_Measure_met_calls:YD K (.ref Ad) "met_calls"=some none)
 (a23:YD K (.ref Ad) "__init__"=some (some (.ref LB))) (i23:PySem.W.isFn K (.ref LB)=true) (l23:K.lookup LB=some ⟨QG,QD,.func (Y0 "__init__" "Measure.__init__" (bp bT) (be bT) (ag bT) .none QH QI QJ QE LC QK),QF⟩) (c23:Z8 K LC "Measure.__init__"=true) (k23:YX K (.ref LB)=true)
 (a24:YD K (.ref Ad) "takes"=some (some (.ref LD))) (i24:PySem.W.isFn K (.ref LD)=true) (l24:K.lookup LD=some ⟨QO,QL,.func (Y0 "takes" "Measure.takes" (bp bH) (be bH) (ag bH) .none QP QQ QR QM LF QS),QN⟩) (c24:Z8 K LF "Measure.takes"=true) (k24:YX K (.ref LD)=true)
 (a44:XZ K Xr "earliest"=some (some (.ref MZ))) (l44:K.lookup MZ=some ⟨QW,QT,.func (Y0 "earliest" "earliest" (bp bU) (be bU) (ag bU) .none QX QY QZ QU Ie Q0),QV⟩) (c44:Z8 K Ie "earliest"=true) (k44:YX K (.ref MZ)=true)
 (a50:XZ K Xr "_law_capped"=some (some (.ref M0))) (l50:K.lookup M0=some ⟨Q4,Q1,.func (Y0 "_law_capped" "_law_capped" (bp cg) (be cg) (ag cg) .none Q5 Q6 Q7 Q2 LH Q8),Q3⟩) (c50:Z8 K LH "_law_capped"=true) (k50:YX K (.ref M0)=true)
 (a56:XZ K Xr "law"=some (some (.ref LI))) (l56:K.lookup LI=some ⟨Rb,Q9,.func (Y0 "law" "law" (bp jn) (be jn) (ag jn) .none LK LL LM LJ Ig LN),Ra⟩) (c56:Z8 K Ig "law"=true) (k56:YX K (.ref LI)=true)
 (e_earliest:Ie=.ref tc_earliest) (v_earliest:K.lookup tc_earliest=some Bw) (x_earliest:tabAt Bw=some tp_earliest) (u_earliest:K.lookup tp_earliest=none)
 (z0:XZ K Xr "bool"=some none)
 (z1:XZ K Xr "dict"=some none)
 (z2:XZ K Xr "enumerate"=some none)
 (z3:XZ K Xr "int"=some none)
 (z4:XZ K Xr "isinstance"=some none)
 (z5:XZ K Xr "len"=some none)
 (z6:XZ K Xr "list"=some none)
 (z7:XZ K Xr "max"=some none)
 (z8:XZ K Xr "min"=some none)
 (z9:XZ K Xr "range"=some none)
 (z10:XZ K Xr "reversed"=some none)
 (z11:XZ K Xr "tuple"=some none)
 (z12:XZ K Xr "zip"=some none)
 (y0:XZ K Xr "CALL_SIGN"=some (some (.str (WT "?") Tu)))
 (y1:XZ K Xr "MOST_KIDS"=some (some (.int (3) Iq)))
 (y2:XZ K Xr "HOLE"=some (some (.ref Rc)))
 (w2:K.lookup Rc=some ⟨.type "tuple",Rf,.seq #[.str (WT "*") LO] nc2,Rg⟩)
 (y3:XZ K Xr "MOST_STATES"=some (some (.int (20) Tv)))
 (y4:XZ K Xr "MOST_ROWS"=some (some (.int (20) Tw)))
 (y5:XZ K Xr "MOST_KNOTS"=some (some (.int (400) Tx)))
 (y6:XZ K Xr "MOST_CALLS"=some (some (.int (200) Tz))) :
 ∃(fd:Zl)(c T:WS),(∀(s:WZ)(v:WV),BindsTo s fd ⟨[v],[]⟩ [("script",v)])/\PySem.W.tabIn K "earliest"=some (c,T)/\K.lookup T=none/\∀base:X7,K.In base->base.Ns Xr mg->Lam mg base c T->aO l.prog w K mg base CX0 90 fa fd ["script"] (qQ K T):=by
 have e0:=B5.symm.trans (Y9 X G a56);have e:LI=fa:=(Value.ref.inj (Xm e0)).symm;subst e;have TB:=cJ (st:=bT) l23 c23 k23;have b23:=TB.binds (ps:=["self"]) λ_ _ _ _ _ _ us hl=>by obtain⟨y0,rfl⟩:=us1 hl;rfl
 have TC:=cJ (st:=bH) l24 c24 k24;have b24:=TC.binds (ps:=["self","part","row"]) λ_ _ _ _ _ _ us hl=>by obtain⟨y0,y1,y2,rfl⟩:=us3 hl;rfl
 have Rh:=cJ (st:=bU) l44 c44 k44;have b44:=Rh.binds (ps:=["book"]) λ_ _ _ _ _ _ us hl=>by obtain⟨y0,rfl⟩:=us1 hl;rfl
 have TF:=cJ (st:=cg) l50 c50 k50;have b50:=TF.binds (ps:=["seed","cell","deep","outs","states","kids"]) λ_ _ _ _ _ _ us hl=>match us,hl with| [_,_,_,_,_,_],_=>rfl
 have TH:=cJ (st:=jn) l56 c56 k56;have b56:=TH.binds (ps:=["script"]) λ_ _ _ _ _ _ us hl=>by obtain⟨y0,rfl⟩:=us1 hl;rfl
 have BW:=abL a44 l44 e_earliest v_earliest x_earliest
 let T:TX K mg:=⟨⟨Tu,Y9 X G y0⟩,⟨Iq,Y9 X G y1⟩,Rc,Y9 X G y2,λH=>.inr ⟨_,_,_,w2,rfl,rfl,(by show 1<=Xe;decide),.cons ⟨_,rfl⟩ (.nil)⟩,⟨Tv,Y9 X G y3⟩,⟨Tw,Y9 X G y4⟩,⟨Tx,Y9 X G y5⟩,⟨Tz,Y9 X G y6⟩,g_is_number,g_is_below,g_kids_of,g_walked,g_placed,g_built,g_places,g_kid_at,g_knot_at,g_is_call,g_is_hole,g_is_knot,g_called_by,g_calls_in,g_called_in,g_holes_in,g_top_of,g_filled,g_restated,g_hung,g_same_top,g_side_by_side,g_common,LB,_,TB,b23,LD,_,TC,b24,g_is_small,g_ins_of,g_outs_of,g_head_of,g_rules_of,g_states_of,g_small_tree,g_knot_above,g_first_makings,g_first_front,g_put_links,g_spread,g_cut_front,g_found_fronts,g_fronts_of,g_renamed,g_numbered,g_early_table,g_checked,⟨MZ,_,Rh,b44,Y9 X G a44⟩,tc_earliest,tp_earliest,zx Rh a44 BW,g__law_cell_at,g__law_mixed,g__law_name,g__law_kinds,g__law_pattern,⟨M0,_,TF,b50,Y9 X G a50⟩,g__law_cells,g__law_book,g__law_tree,g__law_by,g__law_put,⟨LI,_,TH,b56,Y9 X G a56⟩,Ad,Y9 X G on_Measure,⟨pg_Measure,hd_Measure,po_Measure,sa_Measure⟩,⟨mk_Measure,a23,i23,kc_Measure⟩,na_Measure_met_knots,na_Measure_met_calls,⟨a24,i24,k24⟩,Yq X G z0,Yq X G z1,Yq X G z2,Yq X G z3,Yq X G z4,Yq X G z5,Yq X G z6,Yq X G z7,Yq X G z8,Yq X G z9,Yq X G z10,Yq X G z11,Yq X G z12⟩
 exact⟨Y0 "law" "law" (bp jn) (be jn) (ag jn) .none LK LL LM LJ Ig LN,tc_earliest,tp_earliest,λs v=>.of_eq rfl,BW,u_earliest,λbase _ _ L=>aba T L⟩
theorem walk{l:PySem.W.OpenLaw}{q:W6}{d dt:DefRec}{K:Params->WQ}(hn:l.most=some 63)(Je:d.params.defaults=[])(hq:(PyProof.Rows.recsOf q).find? (λe=>e.name == ("earliest":Xk))=some dt)
 (hY:∀(w:Xj)(h:X7),YP w h->(K w.params).In h)
 (F:∀(w:Xj)(mg:Xk->Option WV)(fa:WS)(h:X7),(K w.params).In h->h.Ns Xr mg->mg d.name=some (.ref fa) ->
  ∃(fd:Zl)(c T:WS),(∀(s:WZ)(u:WV),BindsTo s fd ⟨[u],[]⟩ [("script",u)])/\PySem.W.tabIn (K w.params) "earliest"=some (c,T)/\(K w.params).lookup T=none/\∀base:X7,(K w.params).In base->base.Ns Xr mg->Lam mg base c T->aO l.prog w (K w.params) mg base CX0 90 fa fd ["script"] (qQ (K w.params) T)) :
 PySem.W.WalkO q loose XP YP l.row.toRowW d [] (λf vs=>PySem.call f vs) :=
 L2.ya (n:=63) (k:=90) (x:="script") (tn:="earliest") (CX:=λ_=>CX0) (sp:=λw T=>qQ (K w.params) T) hn (by decide) Je ⟨rfl,by decide,by decide⟩ hq hY F (λ_ _ _ a ns hl hS hT=>⟨a,ns,rfl,hS,hl,hT,λ_=>rfl⟩) λ_ _ _ _ _ z=>z
end LAW
open LAW renaming fx1->x!,fx2->F!
open PySem PySem.W PyProof.Rows
set_option maxRecDepth 100000 in
theorem PySem.Challenge.cw_boughbook_k65_early_books_turn_alike_holds : PySem.Challenge.rw_boughbook_k65_early_books_turn_alike.Holds := by
 w_on;o_law;(refine holds_open (q:=LAW.vw) (N:=90000) (loose:=[]) (XP:=XL LAW.vw []) (Yf:=Hook.obs (kHook LAW.d0.heap_1 LAW.ks LAW.ke)) (Ya:=Hook.val (kHook LAW.d0.heap_1 LAW.ks LAW.ke)) (YP:=Hook.says (kHook LAW.d0.heap_1 LAW.ks LAW.ke)) (Xt:=LAW.xt) (HD.wy (by kernel_rfl) (by kernel_rfl) (λ_=>by kernel_rfl) LAW.lk0 LAW.lk1 LAW.lk2 LAW.lk3 LAW.lk4 LAW.lk5 (HD.Pc.k LAW.kp)) (Hook.of (kHook LAW.d0.heap_1 LAW.ks LAW.ke)) (Hook.keeps (kHook LAW.d0.heap_1 LAW.ks LAW.ke)) (λs e=>xl_of s (Bool.and_eq_true_iff.mp e).1) XL.keeps (by rfl) (by rfl) (by rfl) (λs e=>recFacts_of (Bool.and_eq_true_iff.mp e).2) (by rfl) (by assumption) (by decide +kernel) ⟨rfl,rfl,rfl,rfl,rfl,by decide +kernel⟩ ?_ ?_);w_witness2
 k_fill
 refine LAW.walk (l:=PySem.Challenge.rw_boughbook_k65_early_books_turn_alike) rfl rfl (by rfl) (λw h Y=>PySem.W.kIn_of Y) ?F
 case F =>
  intro w mg fa h KX G Jf;refine' LAW.all_mk KX G Jf (x! KX G) (F! KX G) (x! KX G) (x! KX G) (x! KX G) (x! KX G) (x! KX G) (F! KX G) (F! KX G) (x! KX G) (x! KX G) (x! KX G) (x! KX G) (x! KX G) (x! KX G) (x! KX G) (x! KX G) (F! KX G) (F! KX G) (F! KX G) (F! KX G) (F! KX G) (F! KX G) (x! KX G) (x! KX G) (x! KX G) (x! KX G) (x! KX G) (x! KX G) (x! KX G) (LAW.fx3 KX G) (x! KX G) (LAW.fx4 KX G) (LAW.fx4 KX G) (LAW.fx3 KX G) (LAW.fx3 KX G) (x! KX G) (x! KX G) (F! KX G) (LAW.fx4 KX G) (x! KX G) (x! KX G) (F! KX G) (F! KX G) (F! KX G) (F! KX G) (LAW.fx5 KX G) (F! KX G) (x! KX G) (LAW.fx3 KX G) (LAW.fx3 KX G) (LAW.fx3 KX G) ?on_Measure ?pg_Measure ?hd_Measure ?po_Measure ?sa_Measure ?mk_Measure ?kc_Measure ?na_Measure_met_knots ?na_Measure_met_calls ?a23 ?i23 ?l23 ?c23 ?k23 ?a24 ?i24 ?l24 ?c24 ?k24 ?a44 ?l44 ?c44 ?k44 ?a50 ?l50 ?c50 ?k50 ?a56 ?l56 ?c56 ?k56 ?e_earliest ?v_earliest ?x_earliest ?u_earliest ?z0 ?z1 ?z2 ?z3 ?z4 ?z5 ?z6 ?z7 ?z8 ?z9 ?z10 ?z11 ?z12 ?y0 ?y1 ?y2 ?w2 ?y3 ?y4 ?y5 ?y6
  (case on_Measure=>k_is)
  (case pg_Measure=>k_is)
  (case hd_Measure=>k_is)
  (case po_Measure=>k_is)
  (case sa_Measure=>k_is)
  (case mk_Measure=>k_is)
  (case kc_Measure=>k_is)
  (case na_Measure_met_knots=>k_is)
  (case na_Measure_met_calls=>k_is)
  (case a23=>k_is)
  (case i23=>k_is)
  (case l23=>k_is)
  (case c23=>k_is)
  (case k23=>k_is)
  (case a24=>k_is)
  (case i24=>k_is)
  (case l24=>k_is)
  (case c24=>k_is)
  (case k24=>k_is)
  (case a44=>k_is)
  (case l44=>k_is)
  (case c44=>k_is)
  (case k44=>k_is)
  (case a50=>k_is)
  (case l50=>k_is)
  (case c50=>k_is)
  (case k50=>k_is)
  (case a56=>k_is)
  (case l56=>k_is)
  (case c56=>k_is)
  (case k56=>k_is)
  (case e_earliest=>rfl)
  (case v_earliest=>k_is)
  (case x_earliest=>rfl)
  (case u_earliest=>kernel_rfl)
  (case z0=>k_is)
  (case z1=>k_is)
  (case z2=>k_is)
  (case z3=>k_is)
  (case z4=>k_is)
  (case z5=>k_is)
  (case z6=>k_is)
  (case z7=>k_is)
  (case z8=>k_is)
  (case z9=>k_is)
  (case z10=>k_is)
  (case z11=>k_is)
  (case z12=>k_is)
  (case y0=>k_is)
  (case y1=>k_is)
  (case y2=>k_is)
  (case w2=>k_is)
  (case y3=>k_is)
  (case y4=>k_is)
  (case y5=>k_is)
  (case y6=>k_is)
